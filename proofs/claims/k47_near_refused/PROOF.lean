import PyProof.Rows.All
import Wide.All
import OpenK.AllK
import Wide.FinOn
import Lean
import PyProof.EqAt
import PyProof.EqKinds
import PyProof.TupleCall
import OpenK.KOwn
import PySem.Str
import KE.LcSums
import PySem.Builtin.Int.W1All
import PyProof.WalksEnum
import PyProof.InstEq
import PyProof.Rows.EnumRows
import PyProof.Rows.SetFrom
import PyProof.SetRoads
import PySem.Challenge.RW_rowmill_k47_near_refused
set_option genSizeOf false in
set_option genInjectivity false in
structure PySem.W.Fast where
(tw13687154684251620921 tw16569591969710804992 tw9737507526648245408 tw4110677201143979392 tw5086544687417548608 tw10294868908561240960 tw130104908721390593 tw11416904644887875713 tw1339136182778641537 tw14475527609761587329 tw6754414513256681793 tw10874783452198497761 tw17355515890420422273 tw10170951251005327009 tw10784237961699240641 tw8033747253753901761 tw15522817220852318945 tw16966179363972660993 tw3556924554331452257 tw9179215116506587041 tw16483777165581448194 tw4683998312891701282 tw4994026259958431842 tw11627641053868825762 tw3108964964207978658 tw6805282288069691618 tw108845141989785890 tw1777775245077542242 tw17294797732121272706 tw116291070267639266 tw9505991162893391458 tw14307716583316998786 tw1430655188748304034 tw4882970116183725794 tw5914352763543971554 tw14400584850977516290 tw10799187615213481762 tw15266317367086573410 tw2554410922409975714 tw7244643855478569922 tw10432017512483915843 tw8343620424503529603 tw10623647869268225155 tw10380528887719150083 tw17595793914234875427 tw9277816403291020867 tw1958309800602378819 tw17696118901696299651 tw18300930889906029219 tw15964826604544016227 tw2153861346748822403 tw11186145080622099588 tw12689362416830082180 tw14709768287740141764 tw16951980794364877028 tw7486089146695739684 tw3295141738407227684 tw6311628955271435588 tw16733002032484003172 tw2352470694139286884 tw9469129499019422244 tw3561453025803024004 tw2228758825836704420 tw9874967599143972548 tw2754734376350374660 tw14511718651242920868 tw9179939640584197253 tw10650328966259026085 tw11437726492690482405 tw7464140456255550725 tw6405468947264858405 tw744928431299114373 tw1852712758158513541 tw594650763581217157 tw15499370603952219557 tw6297972268712647077 tw17120610745067171269 tw16944866119835094533 tw8039314498907838213 tw5867177710059848549 tw17376709540320883589 tw3993332443327806341 tw8591628287174190053 tw12221056851602367654 tw4677157679027423622 tw14739035834933157254 tw11041788053823399398 tw10195400840309567270 tw8395203354180900710 tw2911883197713090502 tw7409674646336138311 tw4619481758673010855 tw5648748024206882983 tw1274161477217668295 tw5175013843638746375 tw5614314022661421351 tw3270061488383482215 tw988159572902920583 tw8679043994837639655 tw9476345780978334215 tw14211076710767136295 tw15497022965200476743 tw15547433450031459943 tw13641927258441544295 tw17730678641949287079 tw10067459743755260615 tw8611244972759473959 tw12956965194483248103 tw13277094799650413608 tw900118803736978472 tw10505201715297339496 tw1745292615277085896 tw14527676350368524488 tw10677486875965725928 tw14565345843640115432 tw15408101010588380392 tw17494163899551599976 tw9592899674119425416 tw15385574775509681768 tw14886643781022594696 tw12572458809765702312 tw3415841717649252040 tw4666146967304820488 tw8554041071150728040 tw1735766091841932136 tw9129439893716057960 tw8044686162831780744 tw3336653661201724553 tw2391549412264147113 tw18148558384067526857 tw11664997517802167561 tw5826191040534233417 tw17368415621981570409 tw1907553059709731369 tw9988829129380490793 tw6060298105437354665 tw14513340073849312009 tw13446776179382121225 tw8806223992168666218 tw15277178260166000842 tw8097370403015959786 tw10479837127396617706 tw10320049035202975242 tw7236387106793626250 tw10752921875142515562 tw3158341514501888938 tw17601127688964132907 tw6763327110106341451 tw4832162342846829803 tw13285857555069156587 tw17575234985960088971 tw9695362290091462123 tw6587587422603157003 tw5957847821184279211 tw2613523194890834603 tw17182088133922101963 tw16641171031500119819 tw7044802711232033675 tw17374830075631892524 tw8464075800804497484 tw14609241330958090348 tw17638100213380629612 tw18053586751636007084 tw4695362846163155244 tw15237982535314611660 tw952833686070263404 tw11976856072296264396 tw13773448059769041772 tw9646398408395995020 tw7879272015536371757 tw2157495798505337933 tw12309780792357285005 tw8696477048353458381 tw1052827648263770349 tw14362016262905291021 tw16683984969644234093 tw15347038647486911885 tw10680226284672917901 tw15073733169278139949 tw17421311079945876109 tw7840603505523578541 tw5854037634820673357 tw13878265145116508174 tw11345563767092597838 tw7507593984599838862 tw17135477041021940942 tw1060667320172445998 tw10031002768737890670 tw13989929386638669166 tw16764178517313042862 tw9287008934788855566 tw7966160303157416750 tw12028456887596969870 tw13800720340036288398 tw9626432610202687406 tw16530348267419939758 tw4155409545092009966 tw1559536696678878255 tw10437374236432823439 tw13681373204401168591 tw1365193453402080495 tw10076865694758063599 tw6601900224409518799 tw15178991344261992207 tw3616904205106075503 tw10053940257879405584 tw1786923661928959216 tw14710151162096093520 tw16364946219597059472 tw10037790164286021264 tw14697707351293413008 tw3524681363723749104 tw7367567218312071024 tw4696350869756290000 tw12499660437882008528 tw16705544724995970161 tw17369098300622353553 tw15108685398068616369 tw7702630737484521745 tw16209809317588851089 tw15854315088794018225 tw12455484378142748113 tw6062086461407089233 tw9894370499044450961 tw11882820762711056081 tw9019480274716754673 tw16828705613184845553 tw9947202839215411985 tw1479878280625271601 tw9203930477153668945 tw3100042997384082482 tw9873876624457305202 tw4124118115165709458 tw13070485536163586354 tw13750374530515907154 tw12753421893474554482 tw15483808832205268626 tw1190445229044941522 tw5915624185926321906 tw15705625863882830674 tw4080250569893662674 tw9478056210141793266 tw5917301166439297010 tw13038931039479345523 tw15730564459789021555 tw11640662235265710547 tw1909041821246001779 tw4852443195766757235 tw4986383848699062195 tw15608510233769053139 tw2176492655780804595 tw9241024117723376692 tw7102870990832142452 tw7366603345462565044 tw15364900095785094388 tw15623778762615925012 tw14563712655276048692 tw2850251487754643764 tw13238246742926167476 tw13157658703124598196 tw11945111926505499092 tw13439431197915978388 tw3115444207302486676 tw9525630035812444948 tw7499442292157192020 tw339828700773985108 tw17788990639137540149 tw12957016026232144021 tw9685926376161517749 tw11073520138593025237 tw11588249887124547893 tw1640260554340863349 tw7176824674362472917 tw14571009232522058261 tw11401076558045916693 tw15264578121444601429 tw8183388583562819189 tw2874389828805674709 tw6237334133854174997 tw18344016722241376053 tw15219827032489888661 tw9595196001943647189 tw14381510388288876790 tw1625961072546867510 tw1616324200654387638 tw2497548407024404918 tw9115153105822798294 tw3025658513682298390 tw16003883731451211318 tw16880611339652940374 tw15964898162342189718 tw10466768250108441366 tw6838465751447083862 tw2163276734189541302 tw1346734665566757975 tw5346675459532357783 tw10347381983158280439 tw9924679736484418935 tw17784836535420507543 tw12472728332816682423 tw17983686124052492791 tw3295557993651243767 tw5129222573149305016 tw11586410297306651928 tw15664519012754523608 tw3078544246426281464 tw12528711118347993720 tw8821730970107988600 tw5451316499668735864 tw17083462523761104089 tw18337306312178719961 tw1020424758178374969 tw16358822847653586297 tw7391321113418809817 tw16868363519838599737 tw4640043723888734969 tw10661385182034984825 tw246039371890592665 tw5206432344444633114 tw13306908171065339962 tw10199803023040164922 tw13244963129643886714 tw2330217755010635994 tw1655236596544748794 tw14317996821166446874 tw3595236389267595834 tw17681018625434024570 tw14847877641018370714 tw13241328446278510330 tw5638031604597470970 tw6767282454395434778 tw12597311304460178330 tw14556836811481565307 tw10137328279832512891 tw16772843645025089019 tw17982970844503102043 tw4410534934515739323 tw14216387295964163835 tw16451490097267424091 tw3196332766472482715 tw18268700803267856476 tw17499369584547746940 tw8142770272516920636 tw13848664365211486524 tw4657900958546946396 tw4506252287498979740 tw16224640881087561148 tw6320411297933706780 tw5426243793651885596 tw9872594834324630140 tw7704254217817281148 tw18080884238131403484 tw5999731960096360188 tw13096094015032881916 tw1671818479345464092 tw5586433366032623452 tw12012590244283625308 tw17088897856713278300 tw1605478933249374076 tw10339666208994716540 tw17675884758536739740 tw9036849589216702364 tw15857520683944619037 tw14403099558434834621 tw12459936983241362653 tw6222104701866452253 tw375669955586700605 tw15388234633588110717 tw3558003061039790621 tw11280352405240520253 tw18084694920219028029 tw17626575533585286813 tw2014957487521307325 tw16625980488616359645 tw16146003991099678493 tw4091397148532264733 tw14437084633265332125 tw14688658800327991261 tw9455738257498556638 tw11711100708257683710 tw12574514883843742974 tw3059514103654541566 tw17878237385983808926 tw9699961632509319806 tw5468459507731295966 tw35406933115834206 tw356407426847269726 tw12588930119656953854 tw9102401560131054655 tw15027729281264311487 tw12251712756743559423 tw12646958368289834367 tw4203685777017173375 tw841251811623759263 tw16417420514263389727 tw13215966858460833343 tw15933306671614063231 tw86855186480237407 tw10928841597882990431:True)
set_option Elab.async false
set_option linter.all false
set_option maxRecDepth 100000
namespace L2
open PySem PySem.Spec PyProof.Rows
abbrev sy := Sum Int Str
def AU : sy → Value → Bool
  | .inl k, v => Value.isInt k v
  | .inr x, v => Value.isStrOf x v
def Fo (w : World) : sy → Int
  | .inl k => hashInt k
  | .inr x => hashStr w x
theorem cC : ∀ {k : sy} {v : Value}, AU k v = true → (∃ i t, k = Sum.inl i ∧ v = Value.int i t) ∨ (∃ x t, k = Sum.inr x ∧ v = Value.str x t)
  | .inl i, v, h => by
    obtain ⟨t, e⟩ := Value.isInt_shape (k := i) (v := v) h
    exact .inl ⟨i, t, rfl, e⟩
  | .inr x, v, h => by
    obtain ⟨t, e⟩ := Value.isStrOf_shape (x := x) (v := v) h
    exact .inr ⟨x, t, rfl, e⟩
theorem Cs (a b : Int) : decide ((Sum.inl a : sy) = Sum.inl b) = (a == b) := by
  by_cases e : a = b
  · subst e; simp
  · have h : ¬ (Sum.inl a : sy) = Sum.inl b := fun q => e (Sum.inl.inj q)
    rw [decide_eq_false h]
    exact (beq_eq_false_iff_ne.mpr e).symm
theorem Cp (a b : Str) : decide ((Sum.inr a : sy) = Sum.inr b) = decide (a = b) := by
  by_cases e : a = b
  · subst e; simp
  · have h : ¬ (Sum.inr a : sy) = Sum.inr b := fun q => e (Sum.inr.inj q)
    rw [decide_eq_false h, decide_eq_false e]
theorem Cr (a : Int) (b : Str) : decide ((Sum.inl a : sy) = Sum.inr b) = false := decide_eq_false (fun q => nomatch q)
theorem Cq (a : Str) (b : Int) : decide ((Sum.inr a : sy) = Sum.inl b) = false := decide_eq_false (fun q => nomatch q)
def r6 (prog : Program) (w : World) : PySem.KeyKind prog w sy where
  is := AU
  hash := Fo w
  inj := fun v a b ha hb => by
    rcases cC ha with ⟨i, t, rfl, rfl⟩ | ⟨x, t, rfl, rfl⟩
    · rcases cC hb with ⟨j, u, rfl, e⟩ | ⟨y, u, rfl, e⟩
      · injection e with e1 _; rw [e1]
      · exact nomatch e
    · rcases cC hb with ⟨j, u, rfl, e⟩ | ⟨y, u, rfl, e⟩
      · exact nomatch e
      · injection e with e1 _; rw [e1]
  byValue := fun k v h => by
    rcases cC h with ⟨i, t, rfl, rfl⟩ | ⟨x, t, rfl, rfl⟩ <;> rfl
  pyHash := fun hv h => by
    rcases cC hv with ⟨i, t, rfl, rfl⟩ | ⟨x, t, rfl, rfl⟩
    · exact wpAny_pyHash_int h
    · exact wpAny_pyHash_str h
  eqBool := fun hu hv h => by
    rcases cC hu with ⟨i, t, rfl, rfl⟩ | ⟨x, t, rfl, rfl⟩
    · rcases cC hv with ⟨j, u, rfl, rfl⟩ | ⟨y, u, rfl, rfl⟩
      · rw [Cs] at h; exact wpAny_eqBool_int h
      · rw [Cr] at h; exact SeqAt.EqAt.int_str i t y u _ _ _ _ h
    · rcases cC hv with ⟨j, u, rfl, rfl⟩ | ⟨y, u, rfl, rfl⟩
      · rw [Cq] at h; exact SeqAt.EqAt.str_int x t j u _ _ _ _ h
      · rw [Cp] at h; exact wpAny_eqBool_str h
  «strs» := fun k x t v h => by
    rcases cC h with ⟨i, u, rfl, e⟩ | ⟨y, u, rfl, e⟩
    · exact nomatch e
    · injection e with e1 _
      subst e1
      cases v <;> rfl
end L2
namespace L2
open PySem PySem.Spec PyProof.Rows
inductive V where
  | non | bl (b : Bool) | int (i : Int) | str (x : Str) | byt (b : Array UInt8) | flt (b : UInt64) | ref (a : Addr) | ty (n : String)
  deriving DecidableEq
def bJ : V → Value → Prop
  | .non, u => u = Value.none
  | .bl b, u => u = Value.bool b
  | .int i, u => ∃ t, u = Value.int i t
  | .str x, u => ∃ t, u = Value.str x t
  | .byt b, u => ∃ t, u = Value.bytes b t
  | .flt b, u => ∃ t, u = Value.float b t
  | .ref a, u => u = Value.ref a
  | .ty n, u => u = Value.type n
abbrev aM : List V → List Value → Prop := Paired bJ
theorem aM.length {xs : List V} {us : List Value} (r : aM xs us) : xs.length = us.length := Paired.length r
theorem aM.get : ∀ {xs : List V} {us : List Value} {i : Nat} {x : V}, aM xs us → xs[i]? = some x → ∃ u, us[i]? = some u ∧ bJ x u
  | _, _, _, _, .nil, e => by simp at e
  | _, _, 0, _, .cons r _, e => by simp at e; subst e; exact ⟨_, rfl, r⟩
  | _, _, i + 1, x, .cons _ t, e => by
    obtain ⟨u, h1, h2⟩ := aM.get (i := i) (x := x) t (by simpa using e)
    exact ⟨u, by simpa using h1, h2⟩
theorem aM.set {x : V} {u : Value} (r : bJ x u) : ∀ {xs : List V} {us : List Value} (i : Nat), aM xs us → aM (xs.set i x) (us.set i u)
  | _, _, _, .nil => .nil
  | _, _, 0, .cons _ t => .cons r t
  | _, _, i + 1, .cons q t => .cons q (aM.set r i t)
theorem aM.append : ∀ {xs ys : List V} {us ws : List Value}, aM xs us → aM ys ws → aM (xs ++ ys) (us ++ ws)
  | _, _, _, _, .nil, s => s
  | _, _, _, _, .cons r t, s => .cons r (aM.append t s)
theorem aM.take : ∀ {xs : List V} {us : List Value} (n : Nat), aM xs us → aM (xs.take n) (us.take n)
  | _, _, 0, _ => .nil
  | _, _, _ + 1, .nil => .nil
  | _, _, n + 1, .cons r t => .cons r (aM.take n t)
theorem aM.drop : ∀ {xs : List V} {us : List Value} (n : Nat), aM xs us → aM (xs.drop n) (us.drop n)
  | _, _, 0, r => r
  | _, _, _ + 1, .nil => .nil
  | _, _, n + 1, .cons _ t => aM.drop n t
def nN : Option V → Option Value → Prop
  | some v, some u => bJ v u
  | none, none => True
  | _, _ => False
def KV {κ : Type} : List (κ × V) → List (κ × Value) → Prop := Paired fun (p : κ × V) (q : κ × Value) => p.1 = q.1 ∧ bJ p.2 q.2
def kV : sy → V
  | .inl i => .int i
  | .inr x => .str x
inductive HO where
  | lst (xs : List V)
  | tup (xs : List V)
  | dK (kvs : List (sy × V)) | dT (kvs : List (List sy × V))
  | set (S : Int → Bool) (n : Nat)
  | ins (C dx : Addr) (fs : List (Str × V))
  | own (x : Addr)
  | xd (fs : List (Str × V))
  | met (f x : Addr)
  | rng (lo hi : Int)
  | frz (o : Obj) (u : HO)
  | tbl (ps : Array Value)
  | exc (C : Addr) (dx : Option Addr) (fs : List (Str × V))
  | ext (φ : Heap → Prop)
abbrev Hp := Addr → Option HO
def upd (H : Hp) (a : Addr) (o : HO) : Hp := fun b => if b = a then some o else H b
theorem bK {H : Hp} {a : Addr} {o : HO} : upd H a o a = some o := by unfold upd; rw [if_pos rfl]
theorem aV {H : Hp} {a b : Addr} {o : HO} (h : b ≠ a) : upd H a o b = H b := by unfold upd; rw [if_neg h]
theorem ye {H : Hp} {a b : Addr} {o u : HO} (h : H a = some o) (h' : H b = some u) (d : o ≠ u) : a ≠ b := by
  intro e; subst e; rw [h] at h'; exact d (Option.some.inj h')
theorem cK {H : Hp} {a b : Addr} {o : HO} (h : H a = some o) (h' : H b = none) : a ≠ b := by
  intro e; subst e; rw [h] at h'; cases h'
def F1 (h : Heap) (dx : Option Addr) (mA : Str → Option Value) : Prop := match dx with
  | some d => h.Ns1 d mA
  | none => ∀ n, mA n = none
section
variable (P : Program) (w : World)
def dJ (H : Hp) (h : Heap) (a : Addr) : HO → Prop
  | .lst xs => xs.length ≤ sizeLine ∧ ∃ (its : List Value) (n : Nat), aM xs its ∧ h.get? a = some { cls := .type "list", data := .seq its.toArray n }
  | .tup xs => xs.length ≤ sizeLine ∧ ∃ its : List Value, aM xs its ∧ IsTup h a its.toArray
  | .dK kvs => kvs.length ≤ sizeLine ∧ (a == sysModules) = false ∧ ∃ vs, KV kvs vs ∧ h.DictOf (r6 P w) a vs
  | .dT kvs => kvs.length ≤ sizeLine ∧ (a == sysModules) = false ∧ ∃ xs : List (List sy × Addr × Value),
      Paired (fun (p : List sy × V) (q : List sy × Addr × Value) => p.1 = q.1 ∧ H q.2.1 = some (.tup (p.1.map kV)) ∧ bJ p.2 q.2.2) kvs xs ∧
      ∃ o es ep, h.get? a = some o ∧ o.ExactDict ∧ o.data = .dict es ep ∧ es.toList = xs.map (entryOfKey (tupleKind (r6 P w))) ∧ (xs.map (·.1)).Nodup
  | .set S n => h.SetOf (intKind P w) a S n
  | .ins C dx fs => H dx = some (.own a) ∧ fs.length ≤ 1000 ∧ dx ≠ a ∧ h.get? a = some (PySem.W.instObj C dx) ∧
      ∃ mA, h.Ns1 dx mA ∧ (∀ f, nN (fs.lookup f) (mA f)) ∧ PySem.Within mA (fs.map (·.1))
  | .own _ => ∃ o, h.get? a = some o
  | .xd fs => ∃ mA, h.Ns1 a mA ∧ ∀ f, nN (fs.lookup f) (mA f)
  | .rng lo hi => ∃ t u v, h.get? a = some { cls := .type "range", data := .fields #[.int lo t, .int hi u, .int 1 v] }
  | .frz o u => h.get? a = some o ∧ dJ H h a u
  | .tbl ps => h.get? a = some { cls := .none, data := .fields ps }
  | .met f x => h.get? a = some (PySem.W.methodObj (.ref f) (.ref x))
  | .exc C dx fs => ∃ o vs, h.get? a = some o ∧ o.cls = .ref C ∧ o.dict = dx ∧ o.data = .fields vs ∧ fs.length ≤ 1000 ∧ (∀ d, dx = some d → H d = some (.own a) ∧ d ≠ a) ∧
      ∃ mA, F1 h dx mA ∧ (∀ f, nN (fs.lookup f) (mA f)) ∧ PySem.Within mA (fs.map (·.1))
  | .ext φ => φ h ∧ (∃ o, h.get? a = some o) ∧ ∀ h1 h2 : Heap, φ h1 → (∀ o, h1.get? a = some o → h2.get? a = some o) → φ h2
def mG (H : Hp) (h : Heap) : Prop := ∀ a o, H a = some o → dJ P w H h a o
end
section
variable {P : Program} {w : World} {H H' : Hp} {h h' : Heap} {a : Addr} {o : HO}
theorem dJ.lt (x : dJ P w H h a o) : a < h.objs.size := by
  cases o with
  | lst xs => obtain ⟨_, _, _, _, e⟩ := x; exact Heap.lt_size e
  | tup xs => obtain ⟨_, _, _, p⟩ := x; exact p.lt
  | dK kvs => obtain ⟨_, _, _, _, o, _, _, e, _⟩ := x; exact Heap.lt_size e
  | dT kvs => obtain ⟨_, _, _, _, o, _, _, e, _⟩ := x; exact Heap.lt_size e
  | set S n => obtain ⟨o, _, _, _, e, _⟩ := x; exact Heap.lt_size e
  | ins C dx fs => obtain ⟨_, _, _, e, _⟩ := x; exact Heap.lt_size e
  | own y => obtain ⟨_, e⟩ := x; exact Heap.lt_size e
  | xd fs => obtain ⟨_, ⟨_, _, _, e, _⟩, _⟩ := x; exact Heap.lt_size e
  | rng lo hi => obtain ⟨_, _, _, e⟩ := x; exact Heap.lt_size e
  | frz ob u => obtain ⟨e, _⟩ := x; exact Heap.lt_size e
  | tbl ps => exact Heap.lt_size (show h.get? a = some _ from x)
  | met f y => exact Heap.lt_size (show h.get? a = some _ from x)
  | exc C dx fs => obtain ⟨_, _, e, _⟩ := x; exact Heap.lt_size e
  | ext φ => obtain ⟨_, ⟨_, e⟩, _⟩ := x; exact Heap.lt_size e
theorem Paired.mapP {α β : Type} {F G : α → β → Prop} : ∀ {l₁ : List α} {l₂ : List β}, Paired F l₁ l₂ → (∀ a b, F a b → G a b) → Paired G l₁ l₂
  | _, _, .nil, _ => .nil
  | _, _, .cons r t, f => .cons (f _ _ r) (Paired.mapP t f)
theorem dJ.stay (x : dJ P w H h a o) (k : ∀ b u, (b = a ∨ H b = some (.own a)) → h.get? b = some u → h'.get? b = some u)
    (ho : ∀ b, H b = some (.own a) → H' b = some (.own a)) (ht : ∀ b xs, H b = some (.tup xs) → H' b = some (.tup xs)) : dJ P w H' h' a o := by
  induction o with
  | lst xs => obtain ⟨z, its, n, r, e⟩ := x; exact ⟨z, its, n, r, k _ _ (.inl rfl) e⟩
  | tup xs => obtain ⟨z, its, r, ob, e, c⟩ := x; exact ⟨z, its, r, ob, k _ _ (.inl rfl) e, c⟩
  | dK kvs => obtain ⟨z, y, vs, r, ob, es, ep, e, c⟩ := x; exact ⟨z, y, vs, r, ob, es, ep, k _ _ (.inl rfl) e, c⟩
  | dT kvs =>
    obtain ⟨z, y, xs, r, ob, es, ep, e, c⟩ := x
    exact ⟨z, y, xs, Paired.mapP r fun p q z => ⟨z.1, ht _ _ z.2.1, z.2.2⟩, ob, es, ep, k _ _ (.inl rfl) e, c⟩
  | set S n => obtain ⟨ob, es, ep, t, e, c⟩ := x; exact ⟨ob, es, ep, t, k _ _ (.inl rfl) e, c⟩
  | ins C dx fs =>
    obtain ⟨d, z, ne, e, mA, ⟨od, es, ep, e2, c⟩, r⟩ := x
    exact ⟨ho _ d, z, ne, k _ _ (.inl rfl) e, mA, ⟨od, es, ep, k _ _ (.inr d) e2, c⟩, r⟩
  | own y => obtain ⟨ob, e⟩ := x; exact ⟨ob, k _ _ (.inl rfl) e⟩
  | xd fs => obtain ⟨mA, ⟨od, es, ep, e, c⟩, r⟩ := x; exact ⟨mA, ⟨od, es, ep, k _ _ (.inl rfl) e, c⟩, r⟩
  | rng lo hi => obtain ⟨t, u, v, e⟩ := x; exact ⟨t, u, v, k _ _ (.inl rfl) e⟩
  | frz ob u ih => obtain ⟨e, q⟩ := x; exact ⟨k _ _ (.inl rfl) e, ih q⟩
  | tbl ps =>
    have e : h.get? a = some { cls := .none, data := .fields ps } := x
    show h'.get? a = some { cls := .none, data := .fields ps }
    exact k a _ (.inl rfl) e
  | met f y =>
    have e : h.get? a = some (PySem.W.methodObj (.ref f) (.ref y)) := x
    show h'.get? a = some (PySem.W.methodObj (.ref f) (.ref y))
    exact k a _ (.inl rfl) e
  | exc C dx fs =>
    obtain ⟨ob, vs, e, hc, hd, hv, hl, hw, mA, hm, r⟩ := x
    refine ⟨ob, vs, k _ _ (.inl rfl) e, hc, hd, hv, hl, fun d q => ⟨ho _ (hw d q).1, (hw d q).2⟩, mA, ?_, r⟩
    cases dx with
    | none => exact hm
    | some d =>
      obtain ⟨od, es, ep, e2, c⟩ := hm
      exact ⟨od, es, ep, k _ _ (.inr (hw d rfl).1) e2, c⟩
  | ext φ => obtain ⟨p, ⟨o, e⟩, st⟩ := x; exact ⟨st _ _ p fun o q => k _ _ (.inl rfl) q, ⟨o, k _ _ (.inl rfl) e⟩, st⟩
theorem mG.lt (x : mG P w H h) (e : H a = some o) : a < h.objs.size := (x a o e).lt
theorem mG.fresh (x : mG P w H h) (e : h.objs.size ≤ a) : H a = none := by
  cases q : H a with
  | none => rfl
  | some u => exact absurd (Nat.lt_of_lt_of_le (x.lt q) e) (Nat.lt_irrefl _)
theorem mG.kept (x : mG P w H h) (k : ∀ b u, h.get? b = some u → h'.get? b = some u) : mG P w H h' := fun a o e =>
  (x a o e).stay (fun b u _ q => k b u q) (fun _ q => q) fun _ _ q => q
theorem mG.laid (x : mG P w H h) (k : ∀ b u, h.get? b = some u → h'.get? b = some u) (hp : h.objs.size ≤ a) (new : dJ P w (upd H a o) h' a o) : mG P w (upd H a o) h' := fun b u e => by
  have hn := x.fresh hp
  by_cases hb : b = a
  · subst hb; rw [bK] at e; cases e; exact new
  · rw [aV hb] at e
    exact (x b u e).stay (fun c v _ q => k c v q) (fun c q => by rw [aV (cK q hn)]; exact q) fun c xs q => by rw [aV (cK q hn)]; exact q
end
def Rd (H : Hp) (a : Addr) (u : HO) : Prop := H a = some u ∨ ∃ o, H a = some (.frz o u)
theorem Rd.ok {P : Program} {w : World} {H : Hp} {h : Heap} {a : Addr} {u : HO} (r : Rd H a u) (x : mG P w H h) : dJ P w H h a u := by
  rcases r with r | ⟨o, r⟩
  · exact x a u r
  · obtain ⟨_, q⟩ := x a _ r
    exact q
def ES : Option HO → Prop
  | some (.lst _) => True
  | some (.dK _) => True
  | some (.dT _) => True
  | some (.set _ _) => True
  | some (.ins _ _ _) => True
  | some (.exc _ _ _) => True
  | some (.ext _) => True
  | _ => False
section
variable {P : Program} {w : World} {H : Hp} {h h' : Heap} {x e : Addr} {o' : HO}
theorem mG.write (ok : mG P w H h) (mu : ES (H x)) (he : e = x ∨ H e = some (.own x)) (k : ∀ b u, b ≠ e → h.get? b = some u → h'.get? b = some u) (heo : ∃ u, h'.get? e = some u)
    (new : dJ P w (upd H x o') h' x o') : mG P w (upd H x o') h' := fun b u q => by
  have nown : ∀ c y, H c = some (.own y) → c ≠ x := fun c y r z => by subst z; rw [r] at mu; exact mu
  have ntup : ∀ c xs, H c = some (.tup xs) → c ≠ x := fun c xs r z => by subst z; rw [r] at mu; exact mu
  by_cases hb : b = x
  · subst hb; rw [bK] at q; cases q; exact new
  · rw [aV hb] at q
    by_cases hbe : b = e
    · have q' : H b = some (.own x) := by
        rcases he with z | z
        · exact absurd (hbe.trans z) hb
        · rw [hbe]; exact z
      rw [q] at q'; cases q'
      obtain ⟨v, hv⟩ := heo
      exact ⟨v, by rw [hbe]; exact hv⟩
    · refine (ok b u q).stay (fun c v hc r => k c v ?_ r) (fun c r => by rw [aV (nown c b r)]; exact r) fun c xs r => by rw [aV (ntup c xs r)]; exact r
      rcases hc with rfl | hc
      · exact hbe
      · rintro rfl
        rcases he with z | z
        · exact nown c b hc z
        · rw [hc] at z; cases z; exact hb rfl
end
structure Un (fs ex : List Addr) (H H' : Hp) (h h' : Heap) : Prop where
  keep : ∀ b o, h.get? b = some o → H b = none → b ∉ fs → b ∉ ex → h'.get? b = some o
  slot : ∀ b o, h.get? b = some o → H b = none → b ∈ fs → b ∉ ex → ∃ sl, h'.get? b = some { o with slots := sl }
  free : ∀ b o, h.get? b = some o → H b = none → b ∉ ex → H' b = none
  there : ∀ b o, h.get? b = some o → b ∉ ex → ∃ o', h'.get? b = some o'
  tups : ∀ b xs, H b = some (.tup xs) → H' b = some (.tup xs)
  frzs : ∀ b o u, H b = some (.frz o u) → H' b = some (.frz o u)
  tbls : ∀ b ps, H b = some (.tbl ps) → ∃ more, H' b = some (.tbl (ps ++ more))
section
variable {fs fs' ex ex' : List Addr} {H H1 H2 : Hp} {h h1 h2 h' : Heap} {a x e : Addr} {o : HO}
theorem Un.any (u : Un fs ex H H1 h h1) {b : Addr} {ob : Obj} (q : h.get? b = some ob) (n : H b = none) (hx : b ∉ ex) : ∃ sl, h1.get? b = some { ob with slots := sl } := by
  by_cases hb : b ∈ fs
  · exact u.slot b ob q n hb hx
  · exact ⟨ob.slots, u.keep b ob q n hb hx⟩
theorem Un.kept (k : ∀ b u, h.get? b = some u → h'.get? b = some u) : Un fs ex H H h h' :=
  ⟨fun b ob q _ _ _ => k b ob q, fun b ob q _ _ _ => ⟨ob.slots, k b ob q⟩, fun _ _ _ n _ => n, fun b ob q _ => ⟨ob, k b ob q⟩, fun _ _ q => q, fun _ _ _ q => q, fun _ ps q => ⟨#[], by rw [q]; simp⟩⟩
theorem Un.refl : Un fs ex H H h h := Un.kept fun _ _ q => q
theorem Un.laid (k : ∀ b u, h.get? b = some u → h'.get? b = some u) (hp : h.objs.size ≤ a) (hn : H a = none) : Un fs ex H (upd H a o) h h' where
  keep := fun b u q _ _ _ => k b u q
  slot := fun b u q _ _ _ => ⟨u.slots, k b u q⟩
  free := fun b u q n _ => by rw [aV (Nat.ne_of_lt (Nat.lt_of_lt_of_le (Heap.lt_size q) hp))]; exact n
  there := fun b u q _ => ⟨u, k b u q⟩
  tups := fun b xs q => by rw [aV (cK q hn)]; exact q
  frzs := fun b u xs q => by rw [aV (cK q hn)]; exact q
  tbls := fun b ps q => ⟨#[], by rw [aV (cK q hn), q]; simp⟩
theorem Un.write (mu : ES (H x)) (he : e = x ∨ H e = some (.own x)) (k : ∀ b u, b ≠ e → h.get? b = some u → h'.get? b = some u) (heo : ∃ u, h'.get? e = some u) : Un fs ex H (upd H x o) h h' := by
  have hx : ∀ b, H b = none → b ≠ x := fun b n z => by subst z; rw [n] at mu; exact mu
  have hb : ∀ b, H b = none → b ≠ e := fun b n z => by
    subst z
    rcases he with r | r
    · exact hx b n r
    · rw [n] at r; cases r
  have hm : ∀ b u, H b = some u → ¬ ES (some u) → b ≠ x := fun b u q nm z => by subst z; rw [q] at mu; exact nm mu
  refine ⟨fun b u q n _ _ => k b u (hb b n) q, fun b u q n _ _ => ⟨u.slots, k b u (hb b n) q⟩, fun b u q n _ => by rw [aV (hx b n)]; exact n, fun b u q _ => ?_,
    fun b xs q => by rw [aV (hm b _ q fun z => z)]; exact q, fun b u xs q => by rw [aV (hm b _ q fun z => z)]; exact q, fun b ps q => ⟨#[], by rw [aV (hm b _ q fun z => z), q]; simp⟩⟩
  by_cases hbe : b = e
  · subst hbe; exact heo
  · exact ⟨u, k b u hbe q⟩
end
def EE (h : Heap) (H : Hp) : List Addr := (List.range h.objs.size).filter fun a => (H a).isSome
def r9 (h : Heap) (H : Hp) : Heap := PySem.W.hideAll h (EE h H)
theorem wD (h : Heap) (H : Hp) : (r9 h H).objs.size = h.objs.size := PySem.W.hideAll_size _ _
theorem yo {h : Heap} {H : Hp} {b : Addr} {o : Obj} (e : h.get? b = some o) (n : H b = none) : (r9 h H).get? b = some o :=
  PySem.W.hideAll_get _ e fun hm => by
    have q : (H b).isSome = true := (List.mem_filter.mp hm).2
    rw [n] at q; simp at q
theorem zR {h : Heap} {H : Hp} {b : Addr} {o : Obj} (e : (r9 h H).get? b = some o) : h.get? b = some o ∧ H b = none := by
  have e' : h.get? b = some o := PySem.W.of_hideAll (EE h H) e
  refine ⟨e', ?_⟩
  cases q : H b with
  | none => rfl
  | some x =>
    have hm : b ∈ EE h H := List.mem_filter.mpr ⟨List.mem_range.mpr (Heap.lt_size e'), by simp [q]⟩
    have z : (r9 h H).get? b = none := PySem.W.hideAll_none (EE h H) hm
    rw [z] at e; cases e
def Av (g h : Heap) (L : Addr) : List (Addr × Obj) := (List.range h.objs.size).filterMap fun a => if a = L ∨ (g.get? a).isSome = true then none else (h.get? a).map fun o => (a, o)
def dE (g h : Heap) (L d : Addr) : List (Addr × Obj) := (Av g h L).filter fun p => decide (p.1 ≠ d)
end L2
namespace L2
open PySem PySem.Spec PyProof.Rows
structure Mod (K : PySem.W.Frag) (mg : Str → Option Value) (base : Heap) : Prop where
  kin : K.In base
  glob : base.Ns mainGlobals mg
  blt : ∃ mb, base.Ns builtinsNs mb ∧ ∀ x : Str, x ≠ "__name__" → mb x = bootBuiltins x
  nolimit : base.NoLimit
structure Cx where
  prog : Program
  w : World
  K : PySem.W.Frag
  mg : Str → Option Value
  base : Heap
  A : Around
  N : List Str
  s₀ : Shared
  H₀ : Hp
  env : Env
  outer : List Env
  stack : List Env
  ex : List Addr
  fn : Str → Bool
  calm : Bool
  pn : List (Addr × Obj)
  xe : Value → Shared → Prop
def tE (l : List Env) : List Addr := l.filterMap (·.frame)
abbrev Cx.fs (X : Cx) : List Addr := tE X.outer
def EM (sc : Scope) (x : Str) : Prop := sc.names.lookup x = some .local ∨ sc.names.lookup x = some .cell ∨ sc.names.lookup x = some .free
def wU (sc : Scope) (x : Str) : Prop := sc.names.lookup x = some .local ∨ sc.names.lookup x = some .cell
def FF (env : Env) (h : Heap) (m : Str → Option Value) (x : Str) (u : Value) : Prop :=
  (env.kindOf x = some .local ∧ m x = some u) ∨ ((env.kindOf x = some .cell ∨ env.kindOf x = some .free) ∧ ∃ c, env.cells.lookup x = some c ∧ h.IsCell c (some u))
structure Cx.Ok (X : Cx) : Prop where
  mod : Mod X.K X.mg X.base
  kind : X.env.scope.kind = .function
  glob : X.env.globals = mainGlobals
  blt : X.env.builtins = builtinsNs
  above : X.s₀.heap.objs.size ≤ X.env.locals
  inj : ∀ x y c, X.env.cells.lookup x = some c → X.env.cells.lookup y = some c → x = y
  has : ∀ x, (X.env.kindOf x = some .cell ∨ X.env.kindOf x = some .free) → ∃ c, X.env.cells.lookup x = some c
  cab : ∀ x c, X.fn x = true → X.env.cells.lookup x = some c → X.s₀.heap.objs.size ≤ c
  hd : X.calm = true → X.A.handled = none
  frames : X.A.frames = some X.stack
  stk : X.stack = X.outer ∨ (X.stack = X.env :: X.outer ∧ X.env.frame = some X.env.locals)
  exf : ∀ b ∈ X.ex, b ≠ X.env.locals ∧ ∀ x c, X.env.cells.lookup x = some c → c ≠ b
  bs : ∀ b o, X.base.get? b = some o → X.s₀.heap.get? b = some o ∧ X.H₀ b = none
  bsz : X.base.objs.size ≤ X.s₀.heap.objs.size
  noex : ∀ b o, X.base.get? b = some o → b ∉ X.ex
  exfs : ∀ b ∈ X.ex, b ∉ X.fs
  funs : X.s₀.heap.FunFrames X.base X.outer
  frf : ∀ b ∈ X.fs, X.H₀ b = none
structure aB (X : Cx) (pins : List (Addr × Obj)) (σ : List (Option V)) (H : Hp) (s : Shared) : Prop where
  ok : X.Ok
  os : s.os = X.s₀.os
  bare : AllBare s.gens
  base : Un X.fs X.ex X.H₀ H X.s₀.heap s.heap
  loc : ∃ m, s.heap.Ns X.env.locals m ∧ ∀ (i : Nat) (x : Str) (v : V), X.N[i]? = some x → σ[i]? = some (some v) → EM X.env.scope x → ∃ u, bJ v u ∧ FF X.env s.heap m x u
  cell : ∀ x c, X.env.cells.lookup x = some c → ∃ v, s.heap.IsCell c v
  free : H X.env.locals = none
  freeC : ∀ x c, X.env.cells.lookup x = some c → H c = none
  pin : ∀ p ∈ X.pn ++ pins, s.heap.get? p.1 = some p.2 ∧ H p.1 = none ∧ p.1 ≠ X.env.locals ∧ p.1 ∉ X.fs ∧ ∀ v, p.2.data ≠ .cell v
  hok : mG X.prog X.w H s.heap
  len : σ.length = X.N.length
section
variable {X : Cx} {pins : List (Addr × Obj)} {σ : List (Option V)} {H H' : Hp} {s : Shared} {h' : Heap}
theorem Cx.Ok.nofr (ok : X.Ok) {b : Addr} {o : Obj} (e : X.base.get? b = some o) : b ∉ X.fs := fun hb => by
  have := (ok.funs.mem hb).1
  rw [e] at this; cases this
theorem aB.bs (I : aB X pins σ H s) : ∀ b o, X.base.get? b = some o → s.heap.get? b = some o ∧ H b = none := fun b o e =>
  ⟨I.base.keep b o (I.ok.bs b o e).1 (I.ok.bs b o e).2 (I.ok.nofr e) (I.ok.noex b o e), I.base.free b o (I.ok.bs b o e).1 (I.ok.bs b o e).2 (I.ok.noex b o e)⟩
theorem aB.bk (I : aB X pins σ H s) : ∀ b o, X.base.get? b = some o → s.heap.get? b = some o := fun b o e => (I.bs b o e).1
theorem aB.mod (I : aB X pins σ H s) : Mod X.K X.mg X.base := I.ok.mod
theorem aB.kIn (I : aB X pins σ H s) : X.K.In s.heap := I.ok.mod.kin.keeps I.bk
theorem aB.nolimit (I : aB X pins σ H s) : s.heap.NoLimit := I.ok.mod.nolimit.keeps I.bk
theorem aB.fr (I : aB X pins σ H s) : ∃ m, Fr X.base X.env.locals s.heap m :=
  let ⟨m, hn, _⟩ := I.loc
  ⟨m, hn, I.bk, Nat.le_trans I.ok.bsz I.ok.above⟩
theorem aB.lt (I : aB X pins σ H s) : X.env.locals < s.heap.objs.size := let ⟨_, hn, _⟩ := I.loc; hn.lt
theorem aB.sz (I : aB X pins σ H s) : X.s₀.heap.objs.size ≤ s.heap.objs.size := Nat.le_trans I.ok.above (Nat.le_of_lt I.lt)
theorem aB.nofs (I : aB X pins σ H s) {a : Addr} (h : s.heap.objs.size ≤ a) : a ∉ X.fs := fun hb => by
  obtain ⟨_, o, ho, _⟩ := I.ok.funs.mem hb
  exact absurd (Nat.lt_of_lt_of_le (Heap.lt_size ho) (Nat.le_trans I.sz h)) (Nat.lt_irrefl _)
theorem aB.cne (I : aB X pins σ H s) : ∀ x c, X.env.cells.lookup x = some c → c ≠ X.env.locals := fun x c e z => by
  obtain ⟨v, o, ho, hd⟩ := I.cell x c e
  obtain ⟨m, ⟨o', es, ep, ho', hd', _⟩, _⟩ := I.loc
  rw [z, ho'] at ho; cases ho; rw [hd'] at hd; cases hd
theorem aB.funs (I : aB X pins σ H s) : s.heap.FunFrames X.base X.outer := by
  have all : ∀ (l : List Env), (∀ b ∈ tE l, b ∈ X.fs) → X.s₀.heap.FunFrames X.base l → s.heap.FunFrames X.base l := by
    intro l
    induction l with
    | nil => intro _ _; trivial
    | cons env r ih =>
      intro hs hl
      obtain ⟨hk, ⟨L, o, hf, hn, ho, hd⟩, hr⟩ := hl
      have hL : L ∈ X.fs := hs L (by unfold tE; rw [List.filterMap_cons, hf]; exact List.mem_cons_self)
      obtain ⟨sl, e⟩ := I.base.slot L o ho (I.ok.frf L hL) hL fun z => I.ok.exfs L z hL
      exact ⟨hk, ⟨L, _, hf, hn, e, hd⟩, ih (fun b hb => hs b (by unfold tE; rw [List.filterMap_cons, hf]; exact List.mem_cons_of_mem _ hb)) hr⟩
  exact all X.outer (fun _ hb => hb) I.ok.funs
theorem aB.stack (I : aB X pins σ H s) : s.heap.FunFrames X.base X.stack := by
  rcases I.ok.stk with e | ⟨e, hf⟩
  · rw [e]; exact I.funs
  · rw [e]
    obtain ⟨m, hn, _⟩ := I.loc
    refine .cons (by rw [I.ok.kind]; decide) hf hn ?_ I.funs
    exact Heap.get?_none_of_le (Nat.le_trans I.ok.bsz I.ok.above)
theorem aB.stkSub (I : aB X pins σ H s) : ∀ b ∈ tE X.stack, b ∈ X.env.locals :: X.fs := fun b hb => by
  rcases I.ok.stk with e | ⟨e, hf⟩
  · rw [e] at hb; exact List.mem_cons_of_mem _ hb
  · rw [e] at hb
    unfold tE at hb
    rw [List.filterMap_cons, hf] at hb
    exact hb
theorem aB.stkFree (I : aB X pins σ H s) : ∀ b ∈ tE X.stack, H b = none := fun b hb => by
  rcases List.mem_cons.mp (I.stkSub b hb) with e | hb
  · rw [e]; exact I.free
  · obtain ⟨_, o, ho, _⟩ := I.ok.funs.mem hb
    exact I.base.free b o ho (I.ok.frf b hb) fun z => I.ok.exfs b z hb
theorem aB.step {g' : Array GenState} {t' : Nat} {d' : Drawn} {ch : List Addr} (I : aB X pins σ H s)
    (hch : ∀ b ∈ ch, (b ∈ X.ex ∨ X.s₀.heap.objs.size ≤ b) ∧ b ≠ X.env.locals ∧ (∀ x c, X.env.cells.lookup x = some c → c ≠ b) ∧ ∀ p ∈ X.pn ++ pins, p.1 ≠ b)
    (keep : ∀ b o, b ≠ X.env.locals → b ∉ X.fs → b ∉ ch → s.heap.get? b = some o → H b = none → h'.get? b = some o)
    (slot : ∀ b o, b ≠ X.env.locals → b ∈ X.fs → b ∉ ch → s.heap.get? b = some o → H b = none → ∃ sl, h'.get? b = some { o with slots := sl }) (free : ∀ b o, b ∉ ch → s.heap.get? b = some o → H b = none → H' b = none)
    (there : ∀ b o, b ∉ ch → s.heap.get? b = some o → ∃ o', h'.get? b = some o')
    (tups : ∀ b xs, H b = some (.tup xs) → H' b = some (.tup xs)) (frzs : ∀ b o u, H b = some (.frz o u) → H' b = some (.frz o u)) (tbls : ∀ b ps, H b = some (.tbl ps) → ∃ more, H' b = some (.tbl (ps ++ more)))
    (ns : ∀ m, s.heap.Ns X.env.locals m → h'.Ns X.env.locals m) (hok : mG X.prog X.w H' h') (hg : AllBare g') :
    aB X pins σ H' { s with heap := h', gens := g', drawn := d', toks := t' } := by
  have neL : ∀ b o, X.s₀.heap.get? b = some o → b ≠ X.env.locals := fun b o e => Nat.ne_of_lt (Nat.lt_of_lt_of_le (Heap.lt_size e) I.ok.above)
  have neC : ∀ b o, X.s₀.heap.get? b = some o → b ∉ X.ex → b ∉ ch := fun b o e hx hb => by
    rcases (hch b hb).1 with z | z
    · exact hx z
    · exact absurd (Nat.lt_of_lt_of_le (Heap.lt_size e) z) (Nat.lt_irrefl _)
  have cellK : ∀ x c, X.env.cells.lookup x = some c → ∀ v, s.heap.IsCell c v → h'.IsCell c v := fun x c e v ⟨o, ho, hd⟩ => by
    have nch : c ∉ ch := fun z => (hch c z).2.2.1 x c e rfl
    by_cases hc : c ∈ X.fs
    · obtain ⟨sl, q⟩ := slot c o (I.cne x c e) hc nch ho (I.freeC x c e)
      exact ⟨_, q, hd⟩
    · exact ⟨o, keep c o (I.cne x c e) hc nch ho (I.freeC x c e), hd⟩
  refine ⟨I.ok, I.os, hg, ⟨fun b o e n hb hx => ?_, fun b o e n hb hx => ?_, fun b o e n hx => ?_, fun b o e hx => ?_, fun b xs e => tups b xs (I.base.tups b xs e), fun b o xs e => frzs b o xs (I.base.frzs b o xs e), fun b ps e => ?_⟩, ?_, fun x c e => ?_, ?_, fun x c e => ?_, fun p hp => ?_, hok, I.len⟩
  · exact keep b o (neL b o e) hb (neC b o e hx) (I.base.keep b o e n hb hx) (I.base.free b o e n hx)
  · obtain ⟨sl, e1⟩ := I.base.slot b o e n hb hx
    obtain ⟨sl', e2⟩ := slot b _ (neL b o e) hb (neC b o e hx) e1 (I.base.free b o e n hx)
    exact ⟨sl', e2⟩
  · obtain ⟨o', e1⟩ := I.base.there b o e hx
    exact free b o' (neC b o e hx) e1 (I.base.free b o e n hx)
  · obtain ⟨o', e1⟩ := I.base.there b o e hx
    exact there b o' (neC b o e hx) e1
  · obtain ⟨m1, e1⟩ := I.base.tbls b ps e
    obtain ⟨m2, e2⟩ := tbls b _ e1
    exact ⟨m1 ++ m2, by rw [e2, Array.append_assoc]⟩
  · obtain ⟨m, hn, hl⟩ := I.loc
    refine ⟨m, ns m hn, fun i x v e1 e2 e3 => ?_⟩
    obtain ⟨u, r, l⟩ := hl i x v e1 e2 e3
    refine ⟨u, r, ?_⟩
    rcases l with l | ⟨k, c, e, z⟩
    · exact .inl l
    · exact .inr ⟨k, c, e, cellK x c e _ z⟩
  · obtain ⟨v, z⟩ := I.cell x c e
    exact ⟨v, cellK x c e v z⟩
  · obtain ⟨m, ⟨o, _, _, ho, _⟩, _⟩ := I.loc
    exact free _ o (fun z => (hch _ z).2.1 rfl) ho I.free
  · obtain ⟨v, o, ho, hd⟩ := I.cell x c e
    exact free c o (fun z => (hch c z).2.2.1 x c e rfl) ho (I.freeC x c e)
  · obtain ⟨e, n, ne, nf, d⟩ := I.pin p hp
    have nch : p.1 ∉ ch := fun z => (hch p.1 z).2.2.2 p hp rfl
    exact ⟨keep p.1 p.2 ne nf nch e n, free p.1 p.2 nch e n, ne, nf, d⟩
theorem aB.un {t' : Nat} (I : aB X pins σ H s) (u : Un X.fs [] H H' s.heap h') (hok : mG X.prog X.w H' h') : aB X pins σ H' { s with heap := h', toks := t' } := by
  obtain ⟨m, ⟨o, es, ep, ho, r⟩, _⟩ := id I.loc
  obtain ⟨sl, hL⟩ := u.any ho I.free (by simp)
  exact I.step (g' := s.gens) (d' := s.drawn) (ch := []) (fun _ z => nomatch z) (fun b o _ hb _ e n => u.keep b o e n hb (by simp)) (fun b o _ hb _ e n => u.slot b o e n hb (by simp)) (fun b o _ e n => u.free b o e n (by simp)) (fun b o _ e => u.there b o e (by simp)) u.tups u.frzs u.tbls (fun m' hm => by
    obtain ⟨o', es', ep', ho', r'⟩ := hm
    rw [ho] at ho'; cases ho'
    exact ⟨_, es', ep', hL, r'⟩) hok I.bare
theorem aB.call {g' : Array GenState} {t' : Nat} {d' : Drawn} {ch : List Addr} (I : aB X pins σ H s) (u : Un (tE X.stack) ch H H' s.heap h') (hok : mG X.prog X.w H' h') (hg : AllBare g')
    (hch : ∀ b ∈ ch, (b ∈ X.ex ∨ X.s₀.heap.objs.size ≤ b) ∧ b ≠ X.env.locals ∧ (∀ x c, X.env.cells.lookup x = some c → c ≠ b) ∧ ∀ p ∈ X.pn ++ pins, p.1 ≠ b) :
    aB X pins σ H' { s with heap := h', gens := g', drawn := d', toks := t' } := by
  obtain ⟨m, ⟨o, es, ep, ho, r⟩, _⟩ := id I.loc
  obtain ⟨sl, hL⟩ := u.any ho I.free fun z => (hch _ z).2.1 rfl
  exact I.step (ch := ch) hch (fun b o hL hb hc e n => u.keep b o e n (fun z => (List.mem_cons.mp (I.stkSub b z)).elim hL hb) hc) (fun b o _ _ hc e n => u.any e n hc) (fun b o hc e n => u.free b o e n hc) (fun b o hc e => u.there b o e hc) u.tups u.frzs u.tbls (fun m' hm => by
    obtain ⟨o', es', ep', ho', r'⟩ := hm
    rw [ho] at ho'; cases ho'
    exact ⟨_, es', ep', hL, r'⟩) hok hg
theorem aB.turned {t' : Nat} {it : Addr} (I : aB X pins σ H s) (k : ∀ b o, b ≠ it → s.heap.get? b = some o → h'.get? b = some o) (hn : H it = none) (hL : it ≠ X.env.locals)
    (h1 : it ∈ X.ex ∨ X.s₀.heap.objs.size ≤ it) (h2 : ∀ x c, X.env.cells.lookup x = some c → c ≠ it) (h3 : ∀ p ∈ X.pn ++ pins, p.1 ≠ it) : aB X pins σ H { s with heap := h', toks := t' } := by
  have nit : ∀ b u, H b = some u → b ≠ it := fun b u e z => by rw [z, hn] at e; cases e
  refine I.step (g' := s.gens) (d' := s.drawn) (ch := [it]) (fun b hb => ?_) (fun b o _ _ hc e _ => k b o (fun z => hc (by simp [z])) e) (fun b o _ _ hc e _ => ⟨o.slots, k b o (fun z => hc (by simp [z])) e⟩) (fun _ _ _ _ n => n)
    (fun b o hc e => ⟨o, k b o (fun z => hc (by simp [z])) e⟩) (fun _ _ e => e) (fun _ _ _ e => e) (fun b ps e => ⟨#[], by rw [e]; simp⟩) (fun m hm => ?_) (fun b u e => ?_) I.bare
  · have e : b = it := by simpa using hb
    subst e
    exact ⟨h1, hL, h2, h3⟩
  · obtain ⟨o, es, ep, ho, r⟩ := hm
    exact ⟨o, es, ep, k _ o (Ne.symm hL) ho, r⟩
  · refine (I.hok b u e).stay (fun c v hc q => k c v ?_ q) (fun _ q => q) fun _ _ q => q
    rcases hc with z | z
    · rw [z]; exact nit b u e
    · exact nit c _ z
theorem aB.tok (I : aB X pins σ H s) (t : Nat) : aB X pins σ H { s with toks := t } := I.un (h' := s.heap) (t' := t) Un.refl I.hok
theorem aB.kept {t' : Nat} (I : aB X pins σ H s) (k : ∀ b u, s.heap.get? b = some u → h'.get? b = some u) : aB X pins σ H { s with heap := h', toks := t' } := I.un (Un.kept k) (I.hok.kept k)
theorem aB.laid {a : Addr} {o : HO} {t' : Nat} (I : aB X pins σ H s) (k : ∀ b u, s.heap.get? b = some u → h'.get? b = some u) (hp : s.heap.objs.size ≤ a) (new : dJ X.prog X.w (upd H a o) h' a o) :
    aB X pins σ (upd H a o) { s with heap := h', toks := t' } := I.un (Un.laid k hp (I.hok.fresh hp)) (I.hok.laid k hp new)
theorem aB.write {x e : Addr} {o : HO} {t' : Nat} (I : aB X pins σ H s) (mu : ES (H x)) (he : e = x ∨ H e = some (.own x)) (k : ∀ b u, b ≠ e → s.heap.get? b = some u → h'.get? b = some u) (heo : ∃ u, h'.get? e = some u)
    (new : dJ X.prog X.w (upd H x o) h' x o) : aB X pins σ (upd H x o) { s with heap := h', toks := t' } := I.un (Un.write mu he k heo) (I.hok.write mu he k heo new)
theorem aB.pins_of {pins' : List (Addr × Obj)} (I : aB X pins σ H s) (h : ∀ p ∈ pins', s.heap.get? p.1 = some p.2 ∧ H p.1 = none ∧ p.1 ≠ X.env.locals ∧ p.1 ∉ X.fs ∧ ∀ v, p.2.data ≠ .cell v) : aB X pins' σ H s :=
  ⟨I.ok, I.os, I.bare, I.base, I.loc, I.cell, I.free, I.freeC, fun p hp => (List.mem_append.mp hp).elim (fun z => I.pin p (List.mem_append_left _ z)) (h p), I.hok, I.len⟩
theorem tf {N : List Str} (hN : N.Nodup) {i j : Nat} {x : Str} (a : N[i]? = some x) (b : N[j]? = some x) : i = j := by
  obtain ⟨h1, e1⟩ := List.getElem?_eq_some_iff.mp a
  obtain ⟨h2, e2⟩ := List.getElem?_eq_some_iff.mp b
  exact (List.getElem_inj hN).mp (e1.trans e2.symm)
theorem vR {M : Model} {A : Around} {E : Value → Shared → Prop} {i : Nat} {x : Str} {v : V} {u : Value} {Q : Unit → Shared → Prop} (I : aB X pins σ H s) (hN : X.N.Nodup) (hi : X.N[i]? = some x) (hx : wU X.env.scope x) (r : bJ v u)
    (h : ∀ s', aB X pins (σ.set i (some v)) H s' → (∃ a, Heap.SameBut a s.heap s'.heap ∧ (a = X.env.locals ∨ X.env.cells.lookup x = some a)) → Q () s') (hf : X.fn x = true ∨ X.env.scope.names.lookup x = some .local := by first | exact .inl rfl | exact .inr rfl | assumption) : wpAny M A (storeName X.env x u) Q E s := by
  obtain ⟨m, hn, hl⟩ := id I.loc
  have hcls : (X.env.scope.kind == .class || (X.env.scope.kind == .module && X.env.locals != X.env.globals)) = false := by rw [I.ok.kind]; rfl
  have hiσ : i < σ.length := by rw [I.len]; exact (List.getElem?_eq_some_iff.mp hi).1
  have cne := I.cne
  have tracked : ∀ {a : Addr} {h' : Heap}, (∃ o, s.heap.get? a = some o ∧ H a = none) → Heap.SameBut a s.heap h' → mG X.prog X.w H h' := fun {a h'} ha hs b ob e => by
    obtain ⟨_, _, hfree⟩ := ha
    refine (I.hok b ob e).stay (fun c w' hc q => (hs.2 c ?_).trans q) (fun _ q => q) fun _ _ q => q
    rintro rfl
    rcases hc with rfl | hc
    · rw [hfree] at e; cases e
    · rw [hfree] at hc; cases hc
  rcases hx with hk | hk
  · refine wpAny_storeName_local hk hn (fun h' hn' hs => ?_) hcls
    obtain ⟨oL, _, _, hoL, _⟩ := id hn
    refine h _ ⟨I.ok, I.os, I.bare, ⟨fun b o e n hb hx => ?_, fun b o e n hb hx => ?_, I.base.free, fun b o e hx => ?_, I.base.tups, I.base.frzs, I.base.tbls⟩, ⟨_, hn', fun j y v' e1 e2 e3 => ?_⟩, fun y c e => ?_, I.free, I.freeC, fun p hp => ?_, tracked ⟨oL, hoL, I.free⟩ hs, by simpa using I.len⟩ ⟨_, hs, .inl rfl⟩
    · exact (hs.2 b (Nat.ne_of_lt (Nat.lt_of_lt_of_le (Heap.lt_size e) I.ok.above))).trans (I.base.keep b o e n hb hx)
    · obtain ⟨sl, e1⟩ := I.base.slot b o e n hb hx
      exact ⟨sl, (hs.2 b (Nat.ne_of_lt (Nat.lt_of_lt_of_le (Heap.lt_size e) I.ok.above))).trans e1⟩
    · obtain ⟨o', e1⟩ := I.base.there b o e hx
      exact ⟨o', (hs.2 b (Nat.ne_of_lt (Nat.lt_of_lt_of_le (Heap.lt_size e) I.ok.above))).trans e1⟩
    · by_cases hj : j = i
      · subst hj
        rw [hi] at e1; cases e1
        rw [List.getElem?_set_self hiσ] at e2
        cases e2
        exact ⟨u, r, .inl ⟨hk, by simp⟩⟩
      · rw [List.getElem?_set_ne (Ne.symm hj)] at e2
        obtain ⟨u', r', q⟩ := hl j y v' e1 e2 e3
        refine ⟨u', r', ?_⟩
        rcases q with ⟨k, e⟩ | ⟨k, c, e, z⟩
        · refine .inl ⟨k, ?_⟩
          have : y ≠ x := fun e => hj (tf hN e1 (e ▸ hi))
          simp [this, e]
        · exact .inr ⟨k, c, e, z.sameBut hs (cne y c e)⟩
    · obtain ⟨w', z⟩ := I.cell y c e
      exact ⟨w', z.sameBut hs (cne y c e)⟩
    · obtain ⟨e, n, ne, nf, d⟩ := I.pin p hp
      exact ⟨(hs.2 p.1 ne).trans e, n, ne, nf, d⟩
  · have hfn : X.fn x = true := by
      rcases hf with z | z
      · exact z
      · rw [z] at hk; cases hk
    obtain ⟨c, hc⟩ := I.ok.has x (.inl hk)
    obtain ⟨w', z⟩ := I.cell x c hc
    refine wpAny_storeName_cell I.ok.kind hk hc z (fun h' hc' hs => ?_)
    obtain ⟨oc, hoc, hocd⟩ := id z
    refine h { s with heap := h' } ⟨I.ok, I.os, I.bare, ⟨fun b o e n hb hx => ?_, fun b o e n hb hx => ?_, I.base.free, fun b o e hx => ?_, I.base.tups, I.base.frzs, I.base.tbls⟩, ⟨m, hn.sameBut hs (Ne.symm (cne x c hc)), fun j y v' e1 e2 e3 => ?_⟩, fun y c' e => ?_, I.free, I.freeC, fun p hp => ?_, tracked ⟨oc, hoc, I.freeC x c hc⟩ hs, by simpa using I.len⟩ ⟨c, hs, .inr hc⟩
    · exact (hs.2 b (Nat.ne_of_lt (Nat.lt_of_lt_of_le (Heap.lt_size e) (I.ok.cab x c hfn hc)))).trans (I.base.keep b o e n hb hx)
    · obtain ⟨sl, e1⟩ := I.base.slot b o e n hb hx
      exact ⟨sl, (hs.2 b (Nat.ne_of_lt (Nat.lt_of_lt_of_le (Heap.lt_size e) (I.ok.cab x c hfn hc)))).trans e1⟩
    · obtain ⟨o', e1⟩ := I.base.there b o e hx
      exact ⟨o', (hs.2 b (Nat.ne_of_lt (Nat.lt_of_lt_of_le (Heap.lt_size e) (I.ok.cab x c hfn hc)))).trans e1⟩
    · by_cases hj : j = i
      · subst hj
        rw [hi] at e1; cases e1
        rw [List.getElem?_set_self hiσ] at e2
        cases e2
        exact ⟨u, r, .inr ⟨.inl hk, c, hc, hc'⟩⟩
      · rw [List.getElem?_set_ne (Ne.symm hj)] at e2
        obtain ⟨u', r', q⟩ := hl j y v' e1 e2 e3
        refine ⟨u', r', ?_⟩
        rcases q with q | ⟨k, c', e, z'⟩
        · exact .inl q
        · refine .inr ⟨k, c', e, z'.sameBut hs ?_⟩
          rintro rfl
          exact hj (tf hN e1 (I.ok.inj _ _ _ e hc ▸ hi))
    · by_cases hcc : c' = c
      · subst hcc; exact ⟨_, hc'⟩
      · obtain ⟨w2, z2⟩ := I.cell y c' e
        exact ⟨w2, z2.sameBut hs hcc⟩
    · obtain ⟨e, n, ne, nf, d⟩ := I.pin p hp
      refine ⟨(hs.2 p.1 ?_).trans e, n, ne, nf, d⟩
      intro q
      rw [q, hoc] at e
      have q' : oc = p.2 := Option.some.inj e
      exact d w' (by rw [← q']; exact hocd)
theorem pv {M : Model} {A : Around} {E : Value → Shared → Prop} {i : Nat} {x : Str} {v : V} {u : Value} {Q : Unit → Shared → Prop} (I : aB X pins σ H s) (hN : X.N.Nodup) (hi : X.N[i]? = some x) (hx : wU X.env.scope x) (r : bJ v u)
    (h : ∀ s', aB X pins (σ.set i (some v)) H s' → Q () s') (hf : X.fn x = true ∨ X.env.scope.names.lookup x = some .local := by first | exact .inl rfl | exact .inr rfl | assumption) : wpAny M A (storeName X.env x u) Q E s :=
  vR I hN hi hx r (fun s' I' _ => h s' I') hf
theorem aB.call' {s' : Shared} {ch : List Addr} (I : aB X pins σ H s) (ho : s'.os = s.os) (u : Un (tE X.stack) ch H H' s.heap s'.heap) (hok : mG X.prog X.w H' s'.heap) (hg : AllBare s'.gens)
    (hch : ∀ b ∈ ch, (b ∈ X.ex ∨ X.s₀.heap.objs.size ≤ b) ∧ b ≠ X.env.locals ∧ (∀ x c, X.env.cells.lookup x = some c → c ≠ b) ∧ ∀ p ∈ X.pn ++ pins, p.1 ≠ b) : aB X pins σ H' s' := by
  obtain ⟨h', g', d', t', o'⟩ := s'
  have e : o' = s.os := ho
  subst e
  exact I.call (g' := g') (t' := t') (d' := d') u hok hg hch
end
abbrev XK := Value → Option Addr → Hp → Prop
abbrev St := List (Option V)
abbrev VK := V → Hp → Prop
abbrev TE := St → Hp → VK → Prop
abbrev TT := St → Hp → (Bool → Hp → Prop) → Prop
abbrev TA := St → Hp → (List V → Hp → Prop) → Prop
structure o4 where
  nx : St → Hp → Prop
  rt : VK
  bk : St → Hp → Prop := fun _ _ => False
  ct : St → Hp → Prop := fun _ _ => False
abbrev TS := o4 → St → Hp → Prop
def EP (X : Cx) (pins : List (Addr × Obj)) (σ : St) (Q : VK) (u : Value) (s' : Shared) : Prop := ∃ v H', aB X pins σ H' s' ∧ bJ v u ∧ Q v H'
def TP (X : Cx) (pins : List (Addr × Obj)) (σ : St) (Q : Bool → Hp → Prop) (b : Bool) (s' : Shared) : Prop := ∃ H', aB X pins σ H' s' ∧ Q b H'
def AP (X : Cx) (pins : List (Addr × Obj)) (σ : St) (Q : List V → Hp → Prop) (us : List Value) (s' : Shared) : Prop := ∃ vs H', aB X pins σ H' s' ∧ aM vs us ∧ Q vs H'
def SP (X : Cx) (pins : List (Addr × Obj)) (D : o4) (f : Flow) (s' : Shared) : Prop :=
  match f with
  | .next => ∃ σ' H', aB X pins σ' H' s' ∧ D.nx σ' H'
  | .brk => ∃ σ' H', aB X pins σ' H' s' ∧ D.bk σ' H'
  | .cont => ∃ σ' H', aB X pins σ' H' s' ∧ D.ct σ' H'
  | .ret u => ∃ v σ' H', aB X pins σ' H' s' ∧ bJ v u ∧ D.rt v H'
def PE (X : Cx) (e : Expr) (t : TE) : Prop :=
  ∀ (pins : List (Addr × Obj)) (s : Shared) (σ : St) (H : Hp) (Q : VK), aB X pins σ H s → t σ H Q → wpAny (model X.prog X.w) X.A (eval e X.env) (EP X pins σ Q) X.xe s
def PT (X : Cx) (e : Expr) (t : TT) : Prop :=
  ∀ (pins : List (Addr × Obj)) (s : Shared) (σ : St) (H : Hp) (Q : Bool → Hp → Prop), aB X pins σ H s → t σ H Q → wpAny (model X.prog X.w) X.A (isTrue e X.env (eval e X.env)) (TP X pins σ Q) X.xe s
def PW (X : Cx) (e : Expr) (t : TT) : Prop :=
  ∀ (whole : Sem Value) (pins : List (Addr × Obj)) (s : Shared) (σ : St) (H : Hp) (Q : Bool → Hp → Prop), aB X pins σ H s → t σ H Q → wpAny (model X.prog X.w) X.A (isTrue e X.env whole) (TP X pins σ Q) X.xe s
theorem PW.pt {X : Cx} {e : Expr} {t : TT} (h : PW X e t) : PT X e t := h _
def PA (X : Cx) (es : List Expr) (t : TA) : Prop :=
  ∀ (pos : Pos) (pins : List (Addr × Obj)) (s : Shared) (σ : St) (H : Hp) (Q : List V → Hp → Prop), aB X pins σ H s → t σ H Q → wpAny (model X.prog X.w) X.A (spliced (backTo pos (starEach es X.env))) (AP X pins σ Q) X.xe s
def PS (X : Cx) (st : Stmt) (t : TS) : Prop :=
  ∀ (pins : List (Addr × Obj)) (s : Shared) (σ : St) (H : Hp) (D : o4), aB X pins σ H s → t D σ H → wpAny (model X.prog X.w) X.A (exec st X.env) (SP X pins D) X.xe s
def oI (X : Cx) (st : List Stmt) (t : TS) : Prop :=
  ∀ (pins : List (Addr × Obj)) (s : Shared) (σ : St) (H : Hp) (D : o4), aB X pins σ H s → t D σ H → wpAny (model X.prog X.w) X.A (execs st X.env) (SP X pins D) X.xe s
theorem ez {α : Type} {t : Sem α} {Q Q' : α → Shared → Prop} {M : Model} {A : Around} {E : Value → Shared → Prop} {s : Shared} (h : wpAny M A t Q E s) (hQ : ∀ a s, Q a s → Q' a s) : wpAny M A t Q' E s := wpAny_mono h hQ fun _ _ x => x
end L2
namespace L2
open PySem PySem.Spec PyProof.Rows
section
variable {X : Cx}
def E3 (i : Nat) : TE := fun σ H Q => ∃ v, σ[i]? = some (some v) ∧ Q v H
def tC (v : V) : TE := fun _ H Q => Q v H
theorem BE {i : Nat} {x : Str} {pos : Pos} (hN : X.N[i]? = some x) (hv : EM X.env.scope x) (hd : (x == ("__debug__" : Str)) = false := by decide) (hcd : (x == ("__classdict__" : Str)) = false := by decide) : PE X (.Name x pos) (E3 i) := by
  intro pins s σ H Q I h
  obtain ⟨v, e, h⟩ := h
  obtain ⟨m, hn, hl⟩ := I.loc
  obtain ⟨u, r, l⟩ := hl i x v hN e hv
  have fin : EP X pins σ Q u s := ⟨v, H, I, r, h⟩
  rcases l with ⟨hk, hm⟩ | ⟨hk, c, hc, hcell⟩
  · exact wpAny_Name (wpAny_loadName_local I.ok.kind hk hn hm fin) hd
  · rcases hk with hk | hk
    · exact wpAny_Name (wpAny_loadName_cell I.ok.kind hk hc hcell fin) hd
    · exact wpAny_Name (wpAny_loadName_free I.ok.kind hk hc hcell fin hcd) hd
theorem BL {i j pos} : PE X (.Constant (.int i) j pos) (tC (.int i)) := fun _ _ _ H _ I h => wpAny_Constant_int ⟨.int i, H, I.tok _, ⟨_, rfl⟩, h⟩
theorem DU {b j pos} : PE X (.Constant (.bool b) j pos) (tC (.bl b)) := fun _ _ _ H _ I h => Constant_bool ⟨.bl b, H, I, rfl, h⟩
theorem BJ {j pos} : PE X (.Constant .none j pos) (tC .non) := fun _ _ _ H _ I h => Constant_none ⟨.non, H, I, rfl, h⟩
theorem BG {x j pos} : PE X (.Constant (.str x) j pos) (tC (.str x)) := fun _ _ _ H _ I h => Calls.Constant_str ⟨.str x, H, I.tok _, ⟨_, rfl⟩, h⟩
def Gl (X : Cx) (x : Str) : Prop := X.env.kindOf x = some .globalImplicit
theorem mD {E : Value → Shared → Prop} {pins : List (Addr × Obj)} {s : Shared} {σ : St} {H : Hp} {x : Str} {u : Value} {pos : Pos} {Q : Value → Shared → Prop} (I : aB X pins σ H s) (hg : Gl X x) (hm : X.mg x = some u) (h : Q u s)
    (hd : (x == ("__debug__" : Str)) = false := by decide) : wpAny (model X.prog X.w) X.A (eval (.Name x pos) X.env) Q E s :=
  Calls.Name_function_global I.ok.kind hg (Calls.loadGlobal_global (by rw [I.ok.glob]; exact I.mod.glob.keeps I.bk) hm h) hd
theorem pW {E : Value → Shared → Prop} {pins : List (Addr × Obj)} {s : Shared} {σ : St} {H : Hp} {x : Str} {u : Value} {pos : Pos} {Q : Value → Shared → Prop} (I : aB X pins σ H s) (hg : Gl X x) (hm : X.mg x = none) (hv : bootBuiltins x = some u) (h : Q u s)
    (hn : x ≠ "__name__" := by decide) (hd : (x == ("__debug__" : Str)) = false := by decide) : wpAny (model X.prog X.w) X.A (eval (.Name x pos) X.env) Q E s := by
  obtain ⟨mb, h1, h2⟩ := I.mod.blt
  exact Calls.Name_function_global I.ok.kind hg (Calls.loadGlobal_builtin (by rw [I.ok.glob]; exact I.mod.glob.keeps I.bk) hm (by rw [I.ok.blt]; exact h1.keeps I.bk) ((h2 x hn).trans hv) h) hd
theorem vh {x : Str} {v : V} {u : Value} {pos : Pos} (hg : Gl X x) (hm : X.mg x = some u) (r : bJ v u) (hd : (x == ("__debug__" : Str)) = false := by decide) : PE X (.Name x pos) (tC v) :=
  fun _ _ _ H _ I h => mD I hg hm ⟨v, H, I, r, h⟩ hd
theorem zJ {x : Str} {v : V} {u : Value} {pos : Pos} (hg : Gl X x) (hm : X.mg x = none) (hv : bootBuiltins x = some u) (r : bJ v u) (hn : x ≠ "__name__" := by decide) (hd : (x == ("__debug__" : Str)) = false := by decide) : PE X (.Name x pos) (tC v) :=
  fun _ _ _ H _ I h => pW I hg hm hv ⟨v, H, I, r, h⟩ hn hd
def Ge (ta tb : TE) (k : Int → Int → Hp → Prop) : St → Hp → Prop := fun σ H => ta σ H fun x H1 => tb σ H1 fun y H2 => ∃ i j, x = .int i ∧ y = .int j ∧ k i j H2
variable {a b : Expr} {ta tb : TE} {pos : Pos}
def vQ (p : Int → Int → Bool) (ta tb : TE) : TE := fun σ H Q => Ge ta tb (fun i j H2 => Q (.bl (p i j)) H2) σ H
abbrev Gs : TE → TE → TE := vQ fun i j => decide (i < j)
abbrev Gu : TE → TE → TE := vQ fun i j => decide (i ≤ j)
abbrev Gv : TE → TE → TE := vQ fun i j => decide (j < i)
abbrev Gw : TE → TE → TE := vQ fun i j => decide (j ≤ i)
abbrev Gb : TE → TE → TE := vQ fun i j => decide (i = j)
abbrev Ga : TE → TE → TE := vQ fun i j => !decide (i = j)
variable {tA tB' : TT} {dE : List Expr}
def gh (t u : TT) : TT := fun σ H Q => t σ H fun c H1 => if c = true then u σ H1 Q else Q false H1
def lC (t u : TT) : TT := fun σ H Q => t σ H fun c H1 => if c = true then Q true H1 else u σ H1 Q
def cP (t : TT) : TT := fun σ H Q => t σ H fun c H1 => Q (!c) H1
theorem zz (ha : PT X a tA) : PW X (.BoolOp .And [a] pos) tA := by
  intro wh pins s σ H Q I h
  refine isTrue_and (ez (ha pins s σ H Q I h) fun c s1 e => ?_)
  cases c with
  | true => exact isTrue_and_nil e
  | false => exact e
theorem Bt (ha : PT X a tA) : PW X (.BoolOp .Or [a] pos) tA := by
  intro wh pins s σ H Q I h
  refine isTrue_or (ez (ha pins s σ H Q I h) fun c s1 e => ?_)
  cases c with
  | false => exact isTrue_or_nil e
  | true => exact e
theorem Bu (ha : PT X a tA) (hb : PW X (.BoolOp .And (b :: dE) pos) tB') : PW X (.BoolOp .And (a :: b :: dE) pos) (gh tA tB') := by
  intro wh pins s σ H Q I h
  refine isTrue_and (ez (ha pins s σ H _ I h) fun c s1 ⟨H1, I1, q1⟩ => ?_)
  cases c with
  | true => exact hb wh pins s1 σ H1 Q I1 q1
  | false => exact ⟨H1, I1, q1⟩
theorem DL (ha : PT X a tA) (hb : PW X (.BoolOp .Or (b :: dE) pos) tB') : PW X (.BoolOp .Or (a :: b :: dE) pos) (lC tA tB') := by
  intro wh pins s σ H Q I h
  refine isTrue_or (ez (ha pins s σ H _ I h) fun c s1 ⟨H1, I1, q1⟩ => ?_)
  cases c with
  | true => exact ⟨H1, I1, q1⟩
  | false => exact hb wh pins s1 σ H1 Q I1 q1
theorem Bx (ha : PT X a tA) : PT X (.UnaryOp .Not a pos) (cP tA) := by
  intro pins s σ H Q I h
  exact isTrue_not (ha pins s σ H (fun c H1 => Q (!c) H1) I h)
def Ds (ta tb : TE) : TE := fun σ H Q => ta σ H fun x H1 => ∃ c, x = .bl c ∧ if c = true then tb σ H1 Q else Q (.bl false) H1
def Di (ta : TE) : TE := fun σ H Q => ta σ H fun x H1 => ∃ c, x = .bl c ∧ Q (.bl (!c)) H1
theorem BH {op} {t : TE} (h : PE X a t) : PE X (.BoolOp op [a] pos) t := fun pins s σ H Q I hw => BoolOp_one (h pins s σ H Q I hw)
theorem BP (ha : PE X a ta) (hb : PE X (.BoolOp .And (b :: dE) pos) tb) : PE X (.BoolOp .And (a :: b :: dE) pos) (Ds ta tb) := by
  intro pins s σ H Q I h
  refine BoolOp_and (ez (ha pins s σ H _ I h) fun v s1 ⟨x, H1, I1, r1, q1⟩ => ?_)
  obtain ⟨c, rfl, q1⟩ := q1
  cases r1
  refine wpAny_truthy_bool ?_
  cases c with
  | true => exact hb pins s1 σ H1 Q I1 q1
  | false => exact ⟨.bl false, H1, I1, rfl, q1⟩
theorem BI (ha : PE X a ta) : PE X (.UnaryOp .Not a pos) (Di ta) := by
  intro pins s σ H Q I h
  refine UnaryOp_ (ez (ha pins s σ H _ I h) fun v s1 ⟨x, H1, I1, r1, q1⟩ => ?_)
  obtain ⟨c, rfl, q1⟩ := q1
  cases r1
  exact not_of (wpAny_truthy_bool ⟨.bl (!c), H1, I1, rfl, q1⟩)
end
end L2
namespace L2
open PySem PySem.Spec PyProof.Rows
def ka (K : PySem.W.Frag) (H : Hp) (a : Addr) (xs : List V) : Prop :=
  Rd H a (.lst xs) ∨
    ∃ (o : Obj) (its : Array Value) (n : Nat), K.lookup a = some o ∧ o.cls = .type "list" ∧ o.dict = none ∧ o.data = .seq its n ∧ its.size ≤ sizeLine ∧ aM xs its.toList
def lq (K : PySem.W.Frag) (H : Hp) (a : Addr) (xs : List V) : Prop :=
  Rd H a (.tup xs) ∨
    ∃ (o : Obj) (its : Array Value) (n : Nat), K.lookup a = some o ∧ o.cls = .type "tuple" ∧ o.data = .seq its n ∧ its.size ≤ sizeLine ∧ aM xs its.toList
def Fy : Value → Option V
  | .none => some .non
  | .bool b => some (.bl b)
  | .int i _ => some (.int i)
  | .str x _ => some (.str x)
  | .bytes b _ => some (.byt b)
  | .float b _ => some (.flt b)
  | .ref a => some (.ref a)
  | .type n => some (.ty n)
  | _ => none
theorem bJ.abs {x : V} {u : Value} (r : bJ x u) : Fy u = some x := by
  cases x with
  | non => cases r; rfl
  | bl _ => cases r; rfl
  | int _ => obtain ⟨t, rfl⟩ := r; rfl
  | str _ => obtain ⟨t, rfl⟩ := r; rfl
  | byt _ => obtain ⟨t, rfl⟩ := r; rfl
  | flt _ => obtain ⟨t, rfl⟩ := r; rfl
  | ref _ => cases r; rfl
  | ty _ => cases r; rfl
theorem bJ.inj {x y : V} {u : Value} (r : bJ x u) (q : bJ y u) : x = y := Option.some.inj (r.abs.symm.trans q.abs)
theorem aM.inj : ∀ {xs ys : List V} {us : List Value}, aM xs us → aM ys us → xs = ys
  | _, _, _, .nil, .nil => rfl
  | _, _, _, .cons r t, .cons r' t' => by rw [r.inj r', aM.inj t t']
section
variable {X : Cx} {pins : List (Addr × Obj)} {σ : St} {H : Hp} {s : Shared} {a : Addr} {xs ys : List V}
theorem ka.of {K : PySem.W.Frag} (h : H a = some (.lst xs)) : ka K H a xs := .inl (.inl h)
theorem lq.of {K : PySem.W.Frag} (h : H a = some (.tup xs)) : lq K H a xs := .inl (.inl h)
theorem aB.list (I : aB X pins σ H s) (h : ka X.K H a xs) : ∃ its : List Value, aM xs its ∧ PlainL s.heap a its.toArray ∧ xs.length ≤ sizeLine := by
  rcases h with h | ⟨o, its, n, hk, hc, hd, hs, hz, r⟩
  · obtain ⟨z, its, n, r, e⟩ := h.ok I.hok
    exact ⟨its, r, ⟨_, n, e, rfl, rfl, rfl⟩, z⟩
  · refine ⟨its.toList, r, ⟨o, n, I.kIn a o hk, hc, hd, by simpa using hs⟩, ?_⟩
    have e := r.length
    simp only [Array.length_toList] at e
    omega
theorem aB.tuple (I : aB X pins σ H s) (h : lq X.K H a xs) : ∃ its : List Value, aM xs its ∧ IsTup s.heap a its.toArray ∧ xs.length ≤ sizeLine := by
  rcases h with h | ⟨o, its, n, hk, hc, hs, hz, r⟩
  · obtain ⟨z, its, r, p⟩ := h.ok I.hok
    exact ⟨its, r, p, z⟩
  · refine ⟨its.toList, r, ⟨o, I.kIn a o hk, hc, n, by simpa using hs⟩, ?_⟩
    have e := r.length
    simp only [Array.length_toList] at e
    omega
theorem aB.list_inj (I : aB X pins σ H s) (h : ka X.K H a xs) (h' : ka X.K H a ys) : xs = ys := by
  obtain ⟨its, r, ⟨o, n, e, _, _, d⟩, _⟩ := I.list h
  obtain ⟨its', r', ⟨o', n', e', _, _, d'⟩, _⟩ := I.list h'
  rw [e] at e'; cases e'
  rw [d] at d'
  injection d' with d1 _
  have : its = its' := by simpa using congrArg Array.toList d1
  subst this
  exact r.inj r'
theorem aB.tuple_inj (I : aB X pins σ H s) (h : lq X.K H a xs) (h' : lq X.K H a ys) : xs = ys := by
  obtain ⟨its, r, ⟨o, e, _, n, d⟩, _⟩ := I.tuple h
  obtain ⟨its', r', ⟨o', e', _, n', d'⟩, _⟩ := I.tuple h'
  rw [e] at e'; cases e'
  rw [d] at d'
  injection d' with d1 _
  have : its = its' := by simpa using congrArg Array.toList d1
  subst this
  exact r.inj r'
end
abbrev Cx.wish (X : Cx) (E : Value → Shared → Prop) : Cx := { X with xe := E }
abbrev Cx.nox (X : Cx) : Cx := X.wish fun _ _ => False
theorem Cx.Ok.wish {X : Cx} (ok : X.Ok) (E : Value → Shared → Prop) : (X.wish E).Ok :=
  ⟨ok.mod, ok.kind, ok.glob, ok.blt, ok.above, ok.inj, ok.has, ok.cab, ok.hd, ok.frames, ok.stk, ok.exf, ok.bs, ok.bsz, ok.noex, ok.exfs, ok.funs, ok.frf⟩
theorem Cx.Ok.unwish {X : Cx} {E : Value → Shared → Prop} (ok : (X.wish E).Ok) : X.Ok :=
  ⟨ok.mod, ok.kind, ok.glob, ok.blt, ok.above, ok.inj, ok.has, ok.cab, ok.hd, ok.frames, ok.stk, ok.exf, ok.bs, ok.bsz, ok.noex, ok.exfs, ok.funs, ok.frf⟩
section
variable {X : Cx} {pins : List (Addr × Obj)} {σ : St} {H : Hp} {s : Shared} {E : Value → Shared → Prop}
theorem aB.wish (I : aB X pins σ H s) (E : Value → Shared → Prop) : aB (X.wish E) pins σ H s := ⟨I.ok.wish E, I.os, I.bare, I.base, I.loc, I.cell, I.free, I.freeC, I.pin, I.hok, I.len⟩
theorem aB.unwish (I : aB (X.wish E) pins σ H s) : aB X pins σ H s := ⟨I.ok.unwish, I.os, I.bare, I.base, I.loc, I.cell, I.free, I.freeC, I.pin, I.hok, I.len⟩
theorem SP.unwish {D : o4} {f : Flow} {s' : Shared} (h : SP (X.wish E) pins D f s') : SP X pins D f s' := by
  cases f with
  | next => obtain ⟨σ', H', I, q⟩ := h; exact ⟨σ', H', I.unwish, q⟩
  | brk => obtain ⟨σ', H', I, q⟩ := h; exact ⟨σ', H', I.unwish, q⟩
  | cont => obtain ⟨σ', H', I, q⟩ := h; exact ⟨σ', H', I.unwish, q⟩
  | ret u => obtain ⟨v, σ', H', I, r, q⟩ := h; exact ⟨v, σ', H', I.unwish, r, q⟩
theorem oI.nox {st : List Stmt} {t : TS} (h : oI X.nox st t) : oI X st t := fun pins s σ H D I hw =>
  wpAny_mono (h pins s σ H D (I.wish _) hw) (fun _ _ q => q.unwish) fun _ _ z => False.elim z
end
section
variable {X : Cx} {st : Stmt} {dE : List Stmt} {t u : TS} {e : Expr} {te : TE} {pos : Pos}
def Dk : TS := fun D σ H => D.nx σ H
def De (t u : TS) : TS := fun D σ H => t { D with nx := u D } σ H
theorem ve : oI X [] Dk := fun _ _ σ H _ I h => wpAny_execs_nil ⟨σ, H, I, h⟩
theorem sU (h1 : PS X st t) (h2 : oI X dE u) : oI X (st :: dE) (De t u) := by
  intro pins s σ H D I h
  refine wpAny_execs_cons (ez (h1 pins s σ H { D with nx := u D } I h) fun f s1 q => ?_)
  cases f with
  | next =>
    obtain ⟨σ', H', I', q⟩ := q
    exact h2 pins s1 σ' H' D I' q
  | ret v => exact q
  | brk => exact q
  | cont => exact q
theorem rD (h1 : PS X st t) : oI X [st] t := by
  intro pins s σ H D I h
  refine wpAny_execs_cons (ez (h1 pins s σ H D I h) fun f s1 q => ?_)
  cases f with
  | next => exact wpAny_execs_nil q
  | ret v => exact q
  | brk => exact q
  | cont => exact q
theorem aB.quiet {pins : List (Addr × Obj)} {σ : St} {H : Hp} {s : Shared} (I : aB X pins σ H s) : interactive X.env = false := by simp [interactive, I.ok.kind]
def Dp (te : TE) : TS := fun D σ H => te σ H fun _ H1 => D.nx σ H1
theorem rE (he : PE X e te) (hs : swapsWith e none pos.line X.env = pure false := by rfl) : PS X (.Expr e pos) (Dp te) := by
  intro pins s σ H D I h
  exact wpAny_Expr_any (ez (he pins s σ H _ I h) fun v s1 ⟨x, H1, I1, r1, q1⟩ => ⟨σ, H1, I1, q1⟩) I.quiet hs
def E6 (te : TE) : TS := fun D σ H => te σ H D.rt
theorem Bz (he : PE X e te) : PS X (.Return (some e) pos) (E6 te) := by
  intro pins s σ H D I h
  exact wpAny_Return_some (ez (he pins s σ H _ I h) fun v s1 ⟨x, H1, I1, r1, q1⟩ => ⟨x, σ, H1, I1, r1, q1⟩)
def E8 (c : TT) (t u : TS) : TS := fun D σ H => c σ H fun b H1 => if b = true then t D σ H1 else u D σ H1
theorem AM {c : Expr} {a b : List Stmt} {tc : TT} (hc : PT X c tc) (ha : oI X a t) (hb : oI X b u) : PS X (.If c a b pos) (E8 tc t u) := by
  intro pins s σ H D I h
  refine wpAny_If (ez (hc pins s σ H _ I h) fun d s1 ⟨H1, I1, q1⟩ => ?_)
  cases d with
  | true => exact ha pins s1 σ H1 D I1 q1
  | false => exact hb pins s1 σ H1 D I1 q1
def Bj : TS := fun _ _ _ => False
theorem xN : PS X st Bj := fun _ _ _ _ _ _ h => h.elim
end
abbrev TG := V → St → Hp → (St → Hp → Prop) → Prop
abbrev A5 := List V → St → Hp → (St → Hp → Prop) → Prop
def PG (X : Cx) (target : Expr) (t : TG) : Prop :=
  ∀ (pins : List (Addr × Obj)) (s : Shared) (σ : St) (H : Hp) (v : V) (u : Value) (Q : St → Hp → Prop), aB X pins σ H s → bJ v u → t v σ H Q →
    wpAny (model X.prog X.w) X.A (assign target X.env u) (fun _ s' => ∃ σ' H', aB X pins σ' H' s' ∧ Q σ' H') X.xe s
def El (X : Cx) (ts : List Expr) (t : A5) : Prop :=
  ∀ (pins : List (Addr × Obj)) (s : Shared) (σ : St) (H : Hp) (vs : List V) (us : List Value) (Q : St → Hp → Prop), aB X pins σ H s → aM vs us → t vs σ H Q →
    wpAny (model X.prog X.w) X.A (assignInOrder ((assignEach ts X.env).map (·.2)) us) (fun _ s' => ∃ σ' H', aB X pins σ' H' s' ∧ Q σ' H') X.xe s
abbrev CY := V → V → V → Hp → (Hp → Prop) → Prop
def Ek (X : Cx) (t : CY) : Prop :=
  ∀ (pins : List (Addr × Obj)) (s : Shared) (σ : St) (H : Hp) (o i v : V) (ov iv u : Value) (Q : Hp → Prop), aB X pins σ H s → bJ o ov → bJ i iv → bJ v u → t o i v H Q →
    wpAny (model X.prog X.w) X.A (setItem ov iv u) (fun _ s' => ∃ H', aB X pins σ H' s' ∧ Q H') X.xe s
abbrev GB := V → V → Hp → VK → Prop
section
variable {X : Cx} {pos : Pos}
def bD (i : Nat) : TG := fun v σ H Q => Q (σ.set i (some v)) H
theorem vf {i : Nat} {x : Str} (hN : X.N.Nodup) (hi : X.N[i]? = some x) (hx : wU X.env.scope x) (hf : X.fn x = true ∨ X.env.scope.names.lookup x = some .local := by first | exact .inl rfl | exact .inr rfl | assumption) : PG X (.Name x pos) (bD i) := by
  intro pins s σ H v u Q I r h
  exact wpAny_assign_Name (pv I hN hi hx r (fun s' I' => ⟨_, H, I', h⟩) hf)
def Ec : A5 := fun vs σ H Q => vs = [] ∧ Q σ H
def AX (t : TG) (u : A5) : A5 := fun vs σ H Q => ∃ v r, vs = v :: r ∧ t v σ H fun σ' H' => u r σ' H' Q
theorem zE : El X [] Ec := by
  intro pins s σ H vs us Q I r h
  obtain ⟨e, h⟩ := h
  subst e
  cases r
  exact assignInOrder_nil ⟨σ, H, I, h⟩
theorem sV {e : Expr} {es : List Expr} {t : TG} {u : A5} (h1 : PG X e t) (h2 : El X es u)
    (hs : (assignEach (e :: es) X.env).map (·.2) = assign e X.env :: (assignEach es X.env).map (·.2) := by rfl) : El X (e :: es) (AX t u) := by
  intro pins s σ H vs us Q I r h
  obtain ⟨v, vr, e1, h⟩ := h
  subst e1
  cases r with
  | cons r rr =>
    rw [hs]
    refine assignInOrder_cons (ez (h1 pins s σ H _ _ _ I r h) fun _ s1 ⟨σ1, H1, I1, q1⟩ => ?_)
    exact h2 pins s1 σ1 H1 _ _ Q I1 rr q1
def qw (K : PySem.W.Frag) (n : Nat) (t : A5) : TG := fun v σ H Q => ∃ a xs, v = .ref a ∧ lq K H a xs ∧ xs.length = n ∧ t xs σ H Q
theorem BC {es : List Expr} {k : Nat} {t : A5} {n : Nat} (hc : X.calm = true) (h : El X es t)
    (hn : (assignEach es X.env).length = n := by rfl) (hst : (assignEach es X.env).findIdx? (·.1) = none := by rfl) : PG X (.Tuple es k pos) (qw X.K n t) := by
  intro pins s σ H v u Q I r hw
  obtain ⟨a, xs, e1, hq, hl, hw⟩ := hw
  subst e1
  cases r
  obtain ⟨its, rv, ht, hz⟩ := I.tuple hq
  refine assign_Tuple_tuple (I.ok.hd hc) ht (by simp [hn, ← hl, rv.length]) hst fun h' hx => ?_
  have I1 : aB X pins σ H { s with heap := h' } := I.kept (t' := s.toks) fun b o e => hx b o (Nat.ne_of_lt (Heap.lt_size e)) e
  exact h pins _ σ H xs _ Q I1 (by simpa using rv) hw
def Fq (to ti : TE) (t : CY) : TG := fun v σ H Q => to σ H fun o H1 => ti σ H1 fun i H2 => t o i v H2 fun H3 => Q σ H3
theorem BD {o i : Expr} {to ti : TE} {t : CY} (ho : PE X o to) (hi : PE X i ti) (hs : Ek X t)
    (ha : ∀ v, assign (.Subscript o i pos) X.env v = (do
      let ov ← holding [v] (eval o X.env)
      let iv ← holding [v, ov] (eval i X.env)
      standAt pos
      holding [v, ov, iv] (setItem ov iv v)
      release [v, ov, iv] []) := by intro _; rfl) : PG X (.Subscript o i pos) (Fq to ti t) := by
  intro pins s σ H v u Q I r h
  rw [ha]
  refine wpAny_bind (wpAny_holding (ez (ho pins s σ H _ I h) fun ov s1 ⟨x, H1, I1, r1, q1⟩ => ?_))
  refine wpAny_bind (wpAny_holding (ez (hi pins s1 σ H1 _ I1 q1) fun iv s2 ⟨y, H2, I2, r2, q2⟩ => ?_))
  refine wpAny_bind (wpAny_standAt (wpAny_bind (wpAny_holding (ez (hs pins s2 σ H2 x y v ov iv u _ I2 r1 r2 r q2) fun _ s3 ⟨H3, I3, q3⟩ => ?_))))
  exact wpAny_release ⟨σ, H3, I3, q3⟩
def Dr (te : TE) (g : TG) : TS := fun D σ H => te σ H fun x H1 => g x σ H1 D.nx
theorem BB {tg e : Expr} {te : TE} {g : TG} (he : PE X e te) (hg : PG X tg g) (hs : swapsWithSole [tg] e pos.line X.env = pure false := by rfl) (hw : swappedStores [tg] e X.env = pure none := by rfl)
    (h1 : (assignEach [tg] X.env).map (·.2) = [assign tg X.env] := by rfl) : PS X (.Assign [tg] e pos) (Dr te g) := by
  intro pins s σ H D I h
  refine wpAny_Assign_stores (ez (he pins s σ H _ I h) fun v s1 ⟨x, H1, I1, r1, q1⟩ => ?_) hs hw
  rw [h1]
  exact ez (hg pins s1 σ H1 x v _ I1 r1 q1) fun _ s2 q => q
theorem By {i : Nat} {x : Str} {e : Expr} {te : TE} {pos' : Pos} (hN : X.N.Nodup) (hi : X.N[i]? = some x) (hx : wU X.env.scope x) (he : PE X e te) (hs : swapsWith e (some (.Name x pos')) pos.line X.env = pure false := by rfl) (hf : X.fn x = true ∨ X.env.scope.names.lookup x = some .local := by first | exact .inl rfl | exact .inr rfl | assumption) :
    PS X (.Assign [.Name x pos'] e pos) (Dr te (bD i)) := by
  intro pins s σ H D I h
  refine wpAny_Assign_Name (ez (he pins s σ H _ I h) fun v s1 ⟨y, H1, I1, r1, q1⟩ => ?_) hs
  exact pv I1 hN hi hx r1 (fun s2 I2 => ⟨_, H1, I2, q1⟩) hf
end
section
variable {X : Cx} {pos : Pos}
end
structure It where
  go : Nat → Hp → Prop
  yld : Nat → Hp → V → Hp → Prop
  stop : Nat → Hp → Prop
def mJ (X : Cx) (pins : List (Addr × Obj)) (H : Hp) (b : Addr) : Prop :=
  H b = none ∧ b ≠ X.env.locals ∧ b ∉ X.fs ∧ (b ∈ X.ex ∨ X.s₀.heap.objs.size ≤ b) ∧ (∀ x c, X.env.cells.lookup x = some c → c ≠ b) ∧ ∀ p ∈ X.pn ++ pins, p.1 ≠ b
theorem aB.fpOk {X : Cx} {pins : List (Addr × Obj)} {σ : St} {H H' : Hp} {s : Shared} {b : Addr} (I : aB X pins σ H s) (hb : s.heap.objs.size ≤ b) (hn : H' b = none) : mJ X pins H' b := by
  refine ⟨hn, Nat.ne_of_gt (Nat.lt_of_lt_of_le I.lt hb), I.nofs hb, .inr (Nat.le_trans I.sz hb), fun x c e z => ?_, fun p hp z => ?_⟩
  · obtain ⟨v, q⟩ := I.cell x c e
    exact absurd (Nat.lt_of_lt_of_le q.lt (by rw [z]; exact hb)) (Nat.lt_irrefl _)
  · exact absurd (Nat.lt_of_lt_of_le (Heap.lt_size (I.pin p hp).1) (by rw [z]; exact hb)) (Nat.lt_irrefl _)
structure yQ (P : Program) (w : World) (K : PySem.W.Frag) (tg : Expr) (J : It) (fp : List Addr) (it : Addr) (tn : Nat → Heap → Prop) : Prop where
  mem : it ∈ fp
  obj : ∀ i h, tn i h → ∀ b ∈ fp, ∃ o, h.get? b = some o ∧ ∀ v, o.data ≠ .cell v
  keep : ∀ i h h', tn i h → (∀ b ∈ fp, ∀ o, h.get? b = some o → h'.get? b = some o) → tn i h'
  item : ∀ (X : Cx), X.prog = P → X.w = w → X.K = K → X.calm = true → ∀ (i : Nat) (pins : List (Addr × Obj)) (s : Shared) (σ : St) (H : Hp) (E : Value → Shared → Prop), aB X pins σ H s → (∀ b ∈ fp, mJ X pins H b) → tn i s.heap → J.go i H →
    wpAny (model P w) X.A (pyNext (.ref it)) (fun r s1 => ∃ u, r = some u ∧
      wpAny (model P w) X.A (letOwnedTupleGo tg (.ref it) u) (fun _ s2 => ∃ x H', aB X pins σ H' s2 ∧ bJ x u ∧ J.yld i H x H' ∧ tn (i + 1) s2.heap ∧ ∀ b ∈ fp, H' b = none) E s1) E s
  done : ∀ (X : Cx), X.prog = P → X.w = w → X.K = K → X.calm = true → ∀ (i : Nat) (pins : List (Addr × Obj)) (s : Shared) (σ : St) (H : Hp) (E : Value → Shared → Prop), aB X pins σ H s → (∀ b ∈ fp, mJ X pins H b) → tn i s.heap → J.stop i H →
    wpAny (model P w) X.A (pyNext (.ref it)) (fun r s1 => r = none ∧ aB X pins σ H s1) E s
  self : ∀ (A : Around) (i : Nat) (s : Shared) (Q : Value → Shared → Prop) (E : Value → Shared → Prop), tn i s.heap → Q (.ref it) s → wpAny (model P w) A (pyIter (.ref it)) Q E s
abbrev TI := St → Hp → (It → Hp → Prop) → Prop
def FZ (X : Cx) (pins : List (Addr × Obj)) (σ : St) (tg : Expr) (R : It → Hp → Prop) (itv : Value) (s2 : Shared) : Prop :=
  ∃ (it : Addr) (fp : List Addr) (tn : Nat → Heap → Prop) (J : It) (H' : Hp), itv = .ref it ∧ aB X pins σ H' s2 ∧ yQ X.prog X.w X.K tg J fp it tn ∧ tn 0 s2.heap ∧ (∀ b ∈ fp, mJ X pins H' b) ∧ R J H'
def PI (X : Cx) (tg iter : Expr) (wi : TI) : Prop :=
  ∀ (pins : List (Addr × Obj)) (s : Shared) (σ : St) (H : Hp) (R : It → Hp → Prop), aB X pins σ H s → wi σ H R →
    wpAny (model X.prog X.w) X.A (eval iter X.env) (fun v s1 => wpAny (model X.prog X.w) X.A (pyIter v) (FZ X pins σ tg R) X.xe s1) X.xe s
theorem yr {M : Model} {A : Around} {E : Value → Shared → Prop} {s : Shared} {tg : Expr} {it : Addr} {u : Value} {o : Obj} {n : String} {vs : Array Value} {Q : Unit → Shared → Prop} (ho : s.heap.get? it = some o) (hc : o.cls = .type n) (hd : o.data = .fields vs)
    (hn : ["enumerate", "zip", "dict_itemiterator", "dict_reverseitemiterator", "odict_iterator", "itertools.zip_longest", "itertools.pairwise"].contains n = false) (hQ : Q () s) : wpAny M A (letOwnedTupleGo tg (.ref it) u) Q E s := by
  unfold letOwnedTupleGo
  cases tg <;> first
    | exact wpAny_pure hQ
    | (cases u <;> first
        | exact wpAny_pure hQ
        | (refine wpAny_bind (wpAny_load ho ?_)
           rw [hc, hd]
           show wpAny M A (if (["enumerate", "zip", "dict_itemiterator", "dict_reverseitemiterator", "odict_iterator", "itertools.zip_longest", "itertools.pairwise"].contains n && vs[0]? == some (rawInt _)) = true then _ else _) Q E s
           rw [if_neg (by intro h; rw [hn, Bool.false_and] at h; cases h)]
           exact wpAny_pure hQ))
def F5 (K : PySem.W.Frag) (a : Addr) : It :=
  ⟨fun i H => ∃ xs x, ka K H a xs ∧ xs[i]? = some x, fun i H x H' => H' = H ∧ ∀ xs, ka K H a xs → xs[i]? = some x, fun i H => ∃ xs, ka K H a xs ∧ xs.length ≤ i⟩
def F4 (K : PySem.W.Frag) (a : Addr) : It :=
  ⟨fun i H => ∃ xs x, lq K H a xs ∧ xs[i]? = some x, fun i H x H' => H' = H ∧ ∀ xs, lq K H a xs → xs[i]? = some x, fun i H => ∃ xs, lq K H a xs ∧ xs.length ≤ i⟩
def EU (lo : Int) (n : Nat) : It := ⟨fun i _ => i < n, fun i H x H' => H' = H ∧ x = .int (lo + i), fun i _ => n ≤ i⟩
theorem vO {P : Program} {w : World} {K : PySem.W.Frag} {tg : Expr} (a it : Addr) : yQ P w K tg (F5 K a) [it] it (fun i h => h.IsListIter it a i) where
  mem := by simp
  obj := fun i h st b hb => by
    have e : b = it := by simpa using hb
    subst e
    obtain ⟨o, e, c, d⟩ := st
    exact ⟨o, e, fun v z => by rw [d] at z; cases z⟩
  keep := fun i h h' st k => st.at fun o e => k it (by simp) o e
  item := by
    intro X hP hw hK hc i pins s σ H E I hf st hg
    subst hP hw hK
    obtain ⟨xs, x, hq, hx⟩ := hg
    obtain ⟨its, rv, p, hz⟩ := I.list hq
    obtain ⟨u, hu, ru⟩ := rv.get hx
    obtain ⟨f0, f1, f2, f3, f4, f5⟩ := hf it (by simp)
    refine wpAny_pyNext_list_item st p.isList (x := u) (by simpa using hu) fun h' st' sb => ?_
    have I1 : aB X pins σ H { s with heap := h' } := I.turned (t' := s.toks) (fun b o hb e => (sb.2 b hb).trans e) f0 f1 f3 f4 f5
    obtain ⟨o, e, c, d⟩ := id st'
    exact ⟨u, rfl, yr (s := { s with heap := h' }) e c d (by decide) ⟨x, H, I1, ru, ⟨rfl, fun ys hy => by rw [I.list_inj hy hq]; exact hx⟩, st', fun b hb => (hf b hb).1⟩⟩
  done := by
    intro X hP hw hK hc i pins s σ H E I hf st hg
    subst hP hw hK
    obtain ⟨xs, hq, hx⟩ := hg
    obtain ⟨its, rv, p, hz⟩ := I.list hq
    obtain ⟨f0, f1, f2, f3, f4, f5⟩ := hf it (by simp)
    have hl := rv.length
    exact wpAny_pyNext_list_end (I.ok.hd hc) st p.isList (by simp; omega) fun h' eb => ⟨rfl, I.turned (t' := s.toks) (fun b o hb e => eb b o hb e) f0 f1 f3 f4 f5⟩
  self := fun _ _ _ _ _ st h => wpAny_pyIter_listiter st h
theorem tZ {P : Program} {w : World} {K : PySem.W.Frag} {tg : Expr} (a it : Addr) : yQ P w K tg (F4 K a) [it] it (fun i h => h.IsTupleIter it a i) where
  mem := by simp
  obj := fun i h st b hb => by
    have e : b = it := by simpa using hb
    subst e
    obtain ⟨o, e, c, d⟩ := st
    exact ⟨o, e, fun v z => by rw [d] at z; cases z⟩
  keep := fun i h h' st k => st.at fun o e => k it (by simp) o e
  item := by
    intro X hP hw hK hc i pins s σ H E I hf st hg
    subst hP hw hK
    obtain ⟨xs, x, hq, hx⟩ := hg
    obtain ⟨its, rv, p, hz⟩ := I.tuple hq
    obtain ⟨u, hu, ru⟩ := rv.get hx
    obtain ⟨f0, f1, f2, f3, f4, f5⟩ := hf it (by simp)
    refine wpAny_pyNext_tuple_item st (show s.heap.IsTuple a its.toArray from p) (x := u) (by simpa using hu) fun h' st' sb => ?_
    have I1 : aB X pins σ H { s with heap := h' } := I.turned (t' := s.toks) (fun b o hb e => (sb.2 b hb).trans e) f0 f1 f3 f4 f5
    obtain ⟨o, e, c, d⟩ := id st'
    exact ⟨u, rfl, yr (s := { s with heap := h' }) e c d (by decide) ⟨x, H, I1, ru, ⟨rfl, fun ys hy => by rw [I.tuple_inj hy hq]; exact hx⟩, st', fun b hb => (hf b hb).1⟩⟩
  done := by
    intro X hP hw hK hc i pins s σ H E I hf st hg
    subst hP hw hK
    obtain ⟨xs, hq, hx⟩ := hg
    obtain ⟨its, rv, p, hz⟩ := I.tuple hq
    obtain ⟨f0, f1, f2, f3, f4, f5⟩ := hf it (by simp)
    have hl := rv.length
    exact wpAny_pyNext_tuple_end (I.ok.hd hc) st (show s.heap.IsTuple a its.toArray from p) (by simp; omega) fun h' eb => ⟨rfl, I.turned (t' := s.toks) (fun b o hb e => eb b o hb e) f0 f1 f3 f4 f5⟩
  self := fun _ _ _ _ _ st h => wpAny_pyIter_tupleiter st h
theorem t5 {P : Program} {w : World} {K : PySem.W.Frag} {tg : Expr} (it : Addr) (lo : Int) (n : Nat) : yQ P w K tg (EU lo n) [it] it (fun i h => IsRangeIter h it (lo + (i : Nat) * 1) ((n : Int) - (i : Nat)) 1) where
  mem := by simp
  obj := fun i h st b hb => by
    have e : b = it := by simpa using hb
    subst e
    exact ⟨_, st, fun v z => by
      have z' : Data.fields _ = Data.cell v := z
      cases z'⟩
  keep := fun i h h' st k => k it (by simp) _ st
  item := by
    intro X hP hw hK hc i pins s σ H E I hf st hg
    subst hP hw hK
    obtain ⟨f0, f1, f2, f3, f4, f5⟩ := hf it (by simp)
    have W := Walks.range (prog := X.prog) (w := X.w) (I.ok.hd hc) it lo 1 n
    refine W.item i s _ _ hg st fun v h' tk hv st' kk => ?_
    obtain ⟨t, rfl⟩ := hv
    have I1 : aB X pins σ H { s with heap := h', toks := tk } := I.turned (fun b o hb e => kk b o (by simpa using hb) e) f0 f1 f3 f4 f5
    refine ⟨_, rfl, yr (s := { s with heap := h', toks := tk }) (n := "range_iterator") st' rfl rfl (by decide) ⟨.int (lo + i), H, I1, ⟨t, ?_⟩, ⟨rfl, rfl⟩, st', fun b hb => (hf b hb).1⟩⟩
    rw [Int.mul_one]
  done := by
    intro X hP hw hK hc i pins s σ H E I hf st hg
    subst hP hw hK
    obtain ⟨f0, f1, f2, f3, f4, f5⟩ := hf it (by simp)
    exact wpAny_pyNext_range_end (I.ok.hd hc) st (by have : n ≤ i := hg; omega) fun h' eb => ⟨rfl, I.turned (t' := s.toks) (fun b o hb e => eb b o hb e) f0 f1 f3 f4 f5⟩
  self := fun _ _ _ _ _ st h => wpAny_pyIter_rangeiter st h
end L2
namespace L2
open PySem PySem.Spec PyProof.Rows
section
variable {X : Cx} {tg : Expr}
theorem xC {pins : List (Addr × Obj)} {σ : St} {H : Hp} {s : Shared} {R : It → Hp → Prop} {E : Value → Shared → Prop} {lo hi : Int} {t u v : Tok} {tk : Nat} (I : aB X pins σ H s) (h1 : -(2 ^ 62) ≤ lo) (h2 : lo < 2 ^ 62) (h3 : -(2 ^ 62) ≤ hi) (h4 : hi < 2 ^ 62)
    (q : R (EU lo (hi - lo).toNat) H) : wpAny (model X.prog X.w) X.A (pyIter (.ref s.heap.objs.size)) (FZ X pins σ tg R) E { s with heap := s.heap.push { cls := .type "range", data := .fields #[.int lo t, .int hi u, .int 1 v] }, toks := tk } := by
  refine wpAny_pyIter_range (IsRange.new ..) (small_one h1 h2 h3 h4) ?_
  have I1 : aB X pins σ H { s with heap := s.heap.push { cls := .type "range", data := .fields #[.int lo t, .int hi u, .int 1 v] }, toks := tk } := I.kept fun b o e => Heap.get?_push_of_some _ e
  refine ⟨(s.heap.push { cls := .type "range", data := .fields #[.int lo t, .int hi u, .int 1 v] }).objs.size, [(s.heap.push { cls := .type "range", data := .fields #[.int lo t, .int hi u, .int 1 v] }).objs.size], _, _, H, rfl,
    I1.kept (t' := tk) fun b o e => Heap.get?_push_of_some _ e, t5 _ lo (hi - lo).toNat, ?_, fun b hb => ?_, q⟩
  · have e1 : lo + ((0 : Nat) : Int) * 1 = lo := by simp
    have e2 : (((hi - lo).toNat : Nat) : Int) - ((0 : Nat) : Int) = Builtin.Range.rangeSize lo hi 1 := by rw [rangeSize_one]; split <;> omega
    show IsRangeIter _ _ (lo + ((0 : Nat) : Int) * 1) ((((hi - lo).toNat : Nat) : Int) - ((0 : Nat) : Int)) 1
    rw [e1, e2]
    exact Heap.get?_push_size _ rfl
  · have e : b = (s.heap.push { cls := .type "range", data := .fields #[.int lo t, .int hi u, .int 1 v] }).objs.size := by simpa using hb
    subst e
    exact I1.fpOk (Nat.le_refl _) (I1.hok.fresh (Nat.le_refl _))
def D9 (ta : TA) : TI := fun σ H R => ta σ H fun vs H1 => ∃ j : Int, vs = [.int j] ∧ -(2 ^ 62) ≤ j ∧ j < 2 ^ 62 ∧ R (EU 0 j.toNat) H1
theorem v3 {a : Expr} {ta : TA} {p pos : Pos} (hg : Gl X "range") (hm : X.mg "range" = none) (ha : PA X [a] ta) (hs : starEach [a] X.env = [(false, eval a X.env)] := by rfl) : PI X tg (.Call (.Name "range" p) [a] [] pos) (D9 ta) := by
  intro pins s σ H R I h
  refine Call_ (pW I hg hm boot_range (PyProof.Rows.callWith_type1 (ez (ha pos pins s σ H _ I h) fun us s1 ⟨vs, H1, I1, r1, q1⟩ => ?_) hs rfl))
  obtain ⟨j, e, q1, q2, q⟩ := q1
  subst e
  cases r1 with
  | cons r rr =>
    cases rr
    obtain ⟨t, rfl⟩ := r
    exact call_range_1 (xC I1 (by omega) (by omega) q1 q2 (by simpa using q))
def Bk (wi : TI) (g : TG) (tb : TS) : TS := fun D σ H => wi σ H fun J H1 => ∃ W : Nat → Nat → St → Hp → Prop, (∃ m, W 0 m σ H1) ∧ ∀ i m σ H, W i m σ H →
  (J.stop i H ∧ D.nx σ H) ∨ (J.go i H ∧ ∃ N : St → Hp → Prop, (∀ σ' H', N σ' H' → ∃ m', m' < m ∧ W (i + 1) m' σ' H') ∧ ∀ x H', J.yld i H x H' → g x σ H' fun σ2 H2 => tb { D with nx := N, ct := N, bk := D.nx } σ2 H2)
def pN (fp : List Addr) (h : Heap) : List (Addr × Obj) := fp.filterMap fun b => (h.get? b).map fun o => (b, o)
theorem kv {fp : List Addr} {h : Heap} {b : Addr} {o : Obj} (hb : b ∈ fp) (e : h.get? b = some o) : (b, o) ∈ pN fp h := List.mem_filterMap.mpr ⟨b, hb, by rw [e]; rfl⟩
theorem wc {fp : List Addr} {h : Heap} {p : Addr × Obj} (hp : p ∈ pN fp h) : p.1 ∈ fp ∧ h.get? p.1 = some p.2 := by
  obtain ⟨b, hb, e⟩ := List.mem_filterMap.mp hp
  cases q : h.get? b with
  | none => rw [q] at e; cases e
  | some o =>
    rw [q] at e
    have e' : (b, o) = p := Option.some.inj e
    subst e'
    exact ⟨hb, q⟩
theorem aB.pinned {pins : List (Addr × Obj)} {σ : St} {H : Hp} {s : Shared} {fp : List Addr} (I : aB X pins σ H s) (hf : ∀ b ∈ fp, mJ X pins H b) (ho : ∀ b ∈ fp, ∃ o, s.heap.get? b = some o ∧ ∀ v, o.data ≠ .cell v) : aB X (pins ++ pN fp s.heap) σ H s :=
  I.pins_of fun p hp => (List.mem_append.mp hp).elim (fun z => I.pin p (List.mem_append_right _ z)) fun z => by
    obtain ⟨hb, e⟩ := wc z
    obtain ⟨f0, f1, f2, _⟩ := hf p.1 hb
    obtain ⟨o, e', d⟩ := ho p.1 hb
    rw [e] at e'; cases e'
    exact ⟨e, f0, f1, f2, d⟩
theorem aB.unpinned {pins pl : List (Addr × Obj)} {σ : St} {H : Hp} {s : Shared} (I : aB X (pins ++ pl) σ H s) : aB X pins σ H s := I.pins_of fun p hp => I.pin p (List.mem_append_right _ (List.mem_append_left _ hp))
theorem xO {iter : Expr} {body : List Stmt} {wi : TI} {g : TG} {tb : TS} {pos : Pos} (hp : PassesOwn (model X.prog X.w) X.A X.env X.xe) (hc : X.calm = true) (hi : PI X tg iter wi) (hg : PG X tg g) (hb : oI X body tb)
    (hs : ∀ x, foldedSetIterable iter X.env x = pure x := by intro _; rfl) : PS X (.For tg iter body [] pos) (Bk wi g tb) := by
  intro pins s σ H D I h
  refine wpAny_For (ez (hi pins s σ H _ I h) fun v s1 h1 => ez h1 fun itv s2 h2 => ?_) hs
  obtain ⟨it, fp, tn, J, H2, e, I2, T, st2, f2, W, ⟨m0, w0⟩, turn⟩ := h2
  subst e
  -- what stays true of the iterator's objects through the loop
  have stat : ∀ {H' : Hp}, (∀ b ∈ fp, H' b = none) → ∀ b ∈ fp, mJ X pins H' b := fun hn b hb => ⟨hn b hb, (f2 b hb).2⟩
  refine codeAny_forLoop_any (fun n s' => ∃ i σ' H', aB X pins σ' H' s' ∧ tn i s'.heap ∧ (∀ b ∈ fp, H' b = none) ∧ W i n σ' H') ?_ m0 ⟨0, σ, H2, I2, st2, fun b hb => (f2 b hb).1, w0⟩
  rintro n s3 ⟨i, σ3, H3, I3, st3, fr3, w3⟩
  rcases turn i n σ3 H3 w3 with ⟨stop, qn⟩ | ⟨go, N, hN, step⟩
  · refine wpAny_passesOwn hp (ez (T.done X rfl rfl rfl hc i pins s3 σ3 H3 X.xe I3 (stat fr3) st3 stop) fun r s4 ⟨hr, I4⟩ => ?_)
    subst hr
    exact wpAny_execs_nil ⟨σ3, H3, I4, qn⟩
  · refine wpAny_passesOwn hp (ez (T.item X rfl rfl rfl hc i pins s3 σ3 H3 X.xe I3 (stat fr3) st3 go) fun r s4 ⟨u, hr, h4⟩ => ?_)
    subst hr
    refine wpAny_passesOwn hp (ez h4 fun _ s5 ⟨x, H5, I5, r5, y5, st5, fr5⟩ => ?_)
    have I5' := I5.pinned (stat fr5) (T.obj _ _ st5)
    refine wpAny_passesOwn hp (ez (hg _ s5 σ3 H5 x u _ I5' r5 (step x H5 y5)) fun _ s6 ⟨σ6, H6, I6, q6⟩ => ?_)
    refine wpAny_passesOwn hp (ez (hb _ s6 σ6 H6 _ I6 q6) fun f s7 q7 => ?_)
    have again : ∀ {σ7 : St} {H7 : Hp}, aB X (pins ++ pN fp s5.heap) σ7 H7 s7 → N σ7 H7 → ∃ m, m < n ∧ ∃ i σ' H', aB X pins σ' H' s7 ∧ tn i s7.heap ∧ (∀ b ∈ fp, H' b = none) ∧ W i m σ' H' := fun {σ7 H7} I7 n7 => by
      obtain ⟨m', hm, w7⟩ := hN σ7 H7 n7
      refine ⟨m', hm, i + 1, σ7, H7, I7.unpinned, T.keep _ _ _ st5 fun b hb o e => (I7.pin (b, o) (List.mem_append_right _ (List.mem_append_right _ (kv hb e)))).1, fun b hb => ?_, w7⟩
      obtain ⟨o, e, d⟩ := T.obj _ _ st5 b hb
      exact (I7.pin (b, o) (List.mem_append_right _ (List.mem_append_right _ (kv hb e)))).2.1
    cases f with
    | next => obtain ⟨σ7, H7, I7, n7⟩ := q7; exact again I7 n7
    | cont => obtain ⟨σ7, H7, I7, n7⟩ := q7; exact again I7 n7
    | brk => obtain ⟨σ7, H7, I7, q7⟩ := q7; exact ⟨σ7, H7, I7.unpinned, q7⟩
    | ret v => obtain ⟨x7, σ7, H7, I7, r7, q7⟩ := q7; exact ⟨x7, σ7, H7, I7.unpinned, r7, q7⟩
end
end L2
namespace L2
open PySem PySem.Spec PyProof.Rows
abbrev R2 := V → V → Hp → VK → Prop
def kY (X : Cx) (f : Value → Value → Sem Value) (r : R2) : Prop :=
  ∀ (pins : List (Addr × Obj)) (s : Shared) (σ : St) (H : Hp) (x y : V) (v u : Value) (Q : VK), aB X pins σ H s → bJ x v → bJ y u → r x y H Q →
    wpAny (model X.prog X.w) X.A (f v u) (EP X pins σ Q) X.xe s
def EN (X : Cx) (f : Value → Sem Value) (r : V → Hp → VK → Prop) : Prop :=
  ∀ (pins : List (Addr × Obj)) (s : Shared) (σ : St) (H : Hp) (x : V) (v : Value) (Q : VK), aB X pins σ H s → bJ x v → r x H Q →
    wpAny (model X.prog X.w) X.A (f v) (EP X pins σ Q) X.xe s
def mT (X : Cx) (f : Value) (r : List V → Hp → VK → Prop) : Prop :=
  ∀ (pins : List (Addr × Obj)) (s : Shared) (σ : St) (H : Hp) (xs : List V) (us : List Value) (Q : VK), aB X pins σ H s → aM xs us → r xs H Q →
    wpAny (model X.prog X.w) X.A (call f us) (EP X pins σ Q) X.xe s
def FA (X : Cx) (r : V → Hp → (Bool → Hp → Prop) → Prop) : Prop :=
  ∀ (pins : List (Addr × Obj)) (s : Shared) (σ : St) (H : Hp) (x : V) (v : Value) (Q : Bool → Hp → Prop), aB X pins σ H s → bJ x v → r x H Q →
    wpAny (model X.prog X.w) X.A (truthy v) (TP X pins σ Q) X.xe s
def Dh (r : R2) (ta tb : TE) : TE := fun σ H Q => ta σ H fun x H1 => tb σ H1 fun y H2 => r x y H2 Q
def F8 (r : V → Hp → VK → Prop) (ta : TE) : TE := fun σ H Q => ta σ H fun x H1 => r x H1 Q
def rI (C : Int → Int → Prop) (g : Int → Int → V) : R2 := fun x y H Q => ∃ i j, x = .int i ∧ y = .int j ∧ C i j ∧ Q (g i j) H
def AH (g : Int → Int → V) : R2 := fun x y H Q => ∃ i j, x = .int i ∧ y = .int j ∧ Q (g i j) H
def rU (g : Int → V) : V → Hp → VK → Prop := fun x H Q => ∃ i, x = .int i ∧ Q (g i) H
section
variable {X : Cx} {a b c : Expr} {ta tb tc : TE} {pos : Pos}
theorem CP (ha : PE X a ta) (hb : PE X b tb) {pins : List (Addr × Obj)} {s : Shared} {σ : St} {H : Hp} {R : V → V → Hp → Prop} (I : aB X pins σ H s)
    (h : ta σ H fun x H1 => tb σ H1 fun y H2 => R x y H2) {Q : Value → Shared → Prop} {f : Value → Value → Sem Value}
    (hf : ∀ v u s2 x y H2, aB X pins σ H2 s2 → bJ x v → bJ y u → R x y H2 → wpAny (model X.prog X.w) X.A (f v u) Q X.xe s2) :
    wpAny (model X.prog X.w) X.A (eval a X.env) (fun v s₁ => wpAny (model X.prog X.w) X.A (eval b X.env) (fun u s₂ => wpAny (model X.prog X.w) X.A (f v u) Q X.xe s₂) X.xe s₁) X.xe s := by
  refine ez (ha pins s σ H _ I h) fun v s1 ⟨x, H1, I1, r1, q1⟩ => ?_
  refine ez (hb pins s1 σ H1 _ I1 q1) fun u s2 ⟨y, H2, I2, r2, q2⟩ => ?_
  exact hf v u s2 x y H2 I2 r1 r2 q2
theorem DP {op : Operator} {r : R2} (ho : kY X (binaryOp op) r) (ha : PE X a ta) (hb : PE X b tb) : PE X (.BinOp a op b pos) (Dh r ta tb) := by
  intro pins s σ H Q I h
  exact wpAny_BinOp (CP ha hb I h fun v u s2 x y H2 I2 rx ry q => ho pins s2 σ H2 x y v u Q I2 rx ry q)
theorem DN {op : UnaryOp} {r : V → Hp → VK → Prop} (ho : EN X (unaryOp op) r) (ha : PE X a ta) : PE X (.UnaryOp op a pos) (F8 r ta) := by
  intro pins s σ H Q I h
  exact UnaryOp_ (ez (ha pins s σ H _ I h) fun v s1 ⟨x, H1, I1, r1, q1⟩ => ho pins s1 σ H1 x v Q I1 r1 q1)
theorem EG {f : Value → Value → Sem Value} {C : Int → Int → Prop} {g : Int → Int → Int}
    (rule : ∀ (i j : Int) (t u : Tok) (s : Shared) (Q : Value → Shared → Prop) (E : Value → Shared → Prop), C i j → Q (.int (g i j) s.toks) { s with toks := s.toks + 1 } → wpAny (model X.prog X.w) X.A (f (.int i t) (.int j u)) Q E s) :
    kY X f (rI C fun i j => .int (g i j)) := by
  intro pins s σ H x y v u Q I rx ry h
  obtain ⟨i, j, rfl, rfl, hc, q⟩ := h
  obtain ⟨t, rfl⟩ := rx
  obtain ⟨t', rfl⟩ := ry
  exact rule i j t t' s _ _ hc ⟨.int (g i j), H, I.tok _, ⟨_, rfl⟩, q⟩
theorem D1 {f : Value → Value → Sem Value} {g : Int → Int → Int}
    (rule : ∀ (i j : Int) (t u : Tok) (s : Shared) (Q : Value → Shared → Prop) (E : Value → Shared → Prop), Q (.int (g i j) s.toks) { s with toks := s.toks + 1 } → wpAny (model X.prog X.w) X.A (f (.int i t) (.int j u)) Q E s) :
    kY X f (AH fun i j => .int (g i j)) := by
  intro pins s σ H x y v u Q I rx ry h
  obtain ⟨i, j, rfl, rfl, q⟩ := h
  obtain ⟨t, rfl⟩ := rx
  obtain ⟨t', rfl⟩ := ry
  exact rule i j t t' s _ _ ⟨.int (g i j), H, I.tok _, ⟨_, rfl⟩, q⟩
theorem Fj {f : Value → Value → Sem Value} {g : Int → Int → Bool}
    (rule : ∀ (i j : Int) (t u : Tok) (s : Shared) (Q : Value → Shared → Prop) (E : Value → Shared → Prop), Q (.bool (g i j)) s → wpAny (model X.prog X.w) X.A (f (.int i t) (.int j u)) Q E s) :
    kY X f (AH fun i j => .bl (g i j)) := by
  intro pins s σ H x y v u Q I rx ry h
  obtain ⟨i, j, rfl, rfl, q⟩ := h
  obtain ⟨t, rfl⟩ := rx
  obtain ⟨t', rfl⟩ := ry
  exact rule i j t t' s _ _ ⟨.bl (g i j), H, I, rfl, q⟩
def EB (i j : Int) : Prop := 0 < j ∧ j < 1073741824
def C0 (i j : Int) : Prop := 0 ≤ j ∧ j ≤ 1000000 ∧ i.natAbs < 2 ^ 64
def yV (i j : Int) : Prop := (-(2 ^ 64) < i ∧ i < 2 ^ 64) ∨ (-(2 ^ 64) < j ∧ j < 2 ^ 64)
theorem yV.ok {i j : Int} (h : yV i j) : IntMulOk i j := by
  rcases h with ⟨h1, h2⟩ | ⟨h1, h2⟩
  · exact .of_left (intBits_le_64 h1 h2)
  · exact .of_right (intBits_le_64 h1 h2)
theorem B7 : kY X (binaryOp .Add) (AH fun i j => .int (i + j)) := D1 fun _ _ _ _ _ _ _ q => add_int q
theorem BZ : kY X (binaryOp .Sub) (AH fun i j => .int (i - j)) := D1 fun _ _ _ _ _ _ _ q => sub_int q
theorem B3 : kY X (binaryOp .Mult) (rI yV fun i j => .int (i * j)) := EG fun _ _ _ _ _ _ _ hc q => mul_int q hc.ok
theorem zO : kY X (binaryOp .FloorDiv) (rI EB fun i j => .int (i / j)) := EG fun i j _ _ _ _ _ hc q => by
  have h1 : (0 : Int) < j := hc.1
  have h2 : j < 1073741824 := hc.2
  exact floordiv_int (by omega) (by rw [Int.fdiv_eq_ediv_of_nonneg i (by omega)]; exact q) (.inl (PyProof.noPylong_small (by omega)))
theorem B4 : kY X (binaryOp .Mod) (rI (fun _ j => 0 < j) fun i j => .int (i % j)) := EG fun i j _ _ _ _ _ hc q => by
  have h1 : (0 : Int) < j := hc
  exact mod_int' (by omega) (by rw [Int.fmod_eq_emod_of_nonneg i (by omega)]; exact q)
theorem B1 : kY X (binaryOp .Pow) (rI C0 fun i j => .int (i ^ j.toNat)) := EG fun _ _ _ _ _ _ _ hc q => pow_int_small hc.1 hc.2.1 hc.2.2 q
theorem F7 {f : Value → Sem Value} {g : Int → Int}
    (rule : ∀ (i : Int) (t : Tok) (s : Shared) (Q : Value → Shared → Prop) (E : Value → Shared → Prop), Q (.int (g i) s.toks) { s with toks := s.toks + 1 } → wpAny (model X.prog X.w) X.A (f (.int i t)) Q E s) :
    EN X f (rU fun i => .int (g i)) := by
  intro pins s σ H x v Q I rx h
  obtain ⟨i, rfl, q⟩ := h
  obtain ⟨t, rfl⟩ := rx
  exact rule i t s _ _ ⟨.int (g i), H, I.tok _, ⟨_, rfl⟩, q⟩
theorem Be : EN X (unaryOp .USub) (rU fun i => .int (-i)) := F7 fun _ _ _ _ _ q => neg_int q
end
def zl : V → V → Bool
  | .non, .non => true | .non, .int _ => true | .int _, .non => true | .non, .bl _ => true | .bl _, .non => true | .non, .str _ => true | .str _, .non => true
  | .int _, .int _ => true | .bl _, .bl _ => true | .str _, .str _ => true | .byt _, .byt _ => true
  | .int _, .str _ => true | .str _, .int _ => true | .bl _, .str _ => true | .str _, .bl _ => true
  | _, _ => false
def Gg : R2 := fun x y H Q => zl x y = true ∧ Q (.bl (decide (x = y))) H
def Gf : R2 := fun x y H Q => zl x y = true ∧ Q (.bl (!decide (x = y))) H
theorem vz {i j : Int} : decide (V.int i = V.int j) = (i == j) := by
  rw [Bool.eq_iff_iff]
  simp
theorem yD {i j : Bool} : decide (V.bl i = V.bl j) = (i == j) := by
  rw [Bool.eq_iff_iff]
  simp
theorem vy {i j : Str} : decide (V.str i = V.str j) = (i == j) := by
  rw [Bool.eq_iff_iff]
  simp
theorem vA {i j : Array UInt8} : decide (V.byt i = V.byt j) = (i.toList == j.toList) := by
  rw [Bool.eq_iff_iff]
  cases i
  cases j
  simp
section
variable {X : Cx} {a b c : Expr} {ta tb tc : TE} {pos : Pos}
theorem bz {pins : List (Addr × Obj)} {σ : St} {H : Hp} {s : Shared} {Q : VK} {k k' : Bool} (I : aB X pins σ H s) (q : Q (.bl k) H) (e : k = k') : EP X pins σ Q (.bool k') s := by
  subst e
  exact ⟨.bl k, H, I, rfl, q⟩
theorem D0 : kY X (compareOp .Eq) Gg := by
  intro pins s σ H x y v u Q I rx ry h
  obtain ⟨hs, q⟩ := h
  cases x with
  | non =>
    cases rx
    cases y with
    | non => cases ry; exact PySem.EqNone.eq_none_none (bz I q (by simp))
    | bl j => cases ry; exact PySem.EqNone.eq_none_bool (bz I q (by simp))
    | int j => obtain ⟨t', rfl⟩ := ry; exact PySem.EqNone.eq_none_int (bz I q (by simp))
    | str j => obtain ⟨t', rfl⟩ := ry; exact PySem.EqNone.eq_none_str (bz I q (by simp))
    | _ => exact absurd (show false = true from hs) Bool.false_ne_true
  | bl i =>
    cases rx
    cases y with
    | non => cases ry; exact PySem.EqNone.eq_bool_none (bz I q (by simp))
    | bl j => cases ry; exact eq_bool (bz I q yD)
    | str j => obtain ⟨t', rfl⟩ := ry; exact PySem.EqMixed.eq_bool_str (bz I q (by simp))
    | _ => exact absurd (show false = true from hs) Bool.false_ne_true
  | int i =>
    obtain ⟨t, rfl⟩ := rx
    cases y with
    | non => cases ry; exact PySem.EqNone.eq_int_none (bz I q (by simp))
    | int j => obtain ⟨t', rfl⟩ := ry; exact eq_int (bz I q vz)
    | str j => obtain ⟨t', rfl⟩ := ry; exact PySem.EqMixed.eq_int_str (bz I q (by simp))
    | _ => exact absurd (show false = true from hs) Bool.false_ne_true
  | str i =>
    obtain ⟨t, rfl⟩ := rx
    cases y with
    | non => cases ry; exact PySem.EqNone.eq_str_none (bz I q (by simp))
    | bl j => cases ry; exact PySem.EqMixed.eq_str_bool (bz I q (by simp))
    | int j => obtain ⟨t', rfl⟩ := ry; exact PySem.EqMixed.eq_str_int (bz I q (by simp))
    | str j => obtain ⟨t', rfl⟩ := ry; exact eq_str (bz I q vy)
    | _ => exact absurd (show false = true from hs) Bool.false_ne_true
  | byt i =>
    obtain ⟨t, rfl⟩ := rx
    cases y with
    | byt j => obtain ⟨t', rfl⟩ := ry; exact PySem.W.eq_bytes (bz I q vA)
    | _ => exact absurd (show false = true from hs) Bool.false_ne_true
  | _ => cases y <;> exact absurd (show false = true from hs) Bool.false_ne_true
theorem DZ : kY X (compareOp .NotEq) Gf := by
  intro pins s σ H x y v u Q I rx ry h
  obtain ⟨hs, q⟩ := h
  cases x with
  | non =>
    cases rx
    cases y with
    | non => cases ry; exact PySem.EqNone.ne_none_none (bz I q (by simp))
    | bl j => cases ry; exact PySem.EqNone.ne_none_bool (bz I q (by simp))
    | int j => obtain ⟨t', rfl⟩ := ry; exact PySem.EqNone.ne_none_int (bz I q (by simp))
    | str j => obtain ⟨t', rfl⟩ := ry; exact PySem.EqNone.ne_none_str (bz I q (by simp))
    | _ => exact absurd (show false = true from hs) Bool.false_ne_true
  | bl i =>
    cases rx
    cases y with
    | non => cases ry; exact PySem.EqNone.ne_bool_none (bz I q (by simp))
    | bl j => cases ry; exact ne_bool (bz I q (congrArg not yD))
    | str j => obtain ⟨t', rfl⟩ := ry; exact PySem.EqMixed.ne_bool_str (bz I q (by simp))
    | _ => exact absurd (show false = true from hs) Bool.false_ne_true
  | int i =>
    obtain ⟨t, rfl⟩ := rx
    cases y with
    | non => cases ry; exact PySem.EqNone.ne_int_none (bz I q (by simp))
    | int j => obtain ⟨t', rfl⟩ := ry; exact ne_int (bz I q (congrArg not vz))
    | str j => obtain ⟨t', rfl⟩ := ry; exact PySem.EqMixed.ne_int_str (bz I q (by simp))
    | _ => exact absurd (show false = true from hs) Bool.false_ne_true
  | str i =>
    obtain ⟨t, rfl⟩ := rx
    cases y with
    | non => cases ry; exact PySem.EqNone.ne_str_none (bz I q (by simp))
    | bl j => cases ry; exact PySem.EqMixed.ne_str_bool (bz I q (by simp))
    | int j => obtain ⟨t', rfl⟩ := ry; exact PySem.EqMixed.ne_str_int (bz I q (by simp))
    | str j => obtain ⟨t', rfl⟩ := ry; exact ne_str (bz I q (congrArg not vy))
    | _ => exact absurd (show false = true from hs) Bool.false_ne_true
  | byt i =>
    obtain ⟨t, rfl⟩ := rx
    cases y with
    | byt j => obtain ⟨t', rfl⟩ := ry; exact PySem.W.ne_bytes (bz I q (congrArg not vA))
    | _ => exact absurd (show false = true from hs) Bool.false_ne_true
  | _ => cases y <;> exact absurd (show false = true from hs) Bool.false_ne_true
theorem AO : kY X (compareOp .LtE) (AH fun i j => .bl (decide (i ≤ j))) := Fj fun _ _ _ _ _ _ _ q => le_int q
theorem B5 : kY X (compareOp .Is) (fun x y H Q => y = .non ∧ Q (.bl (decide (x = .non))) H) := by
  intro pins s σ H x y v u Q I rx ry h
  obtain ⟨rfl, q⟩ := h
  cases ry
  refine is_none_gen (bz I q ?_)
  cases x <;> first
    | (cases rx; rfl)
    | (obtain ⟨t, rfl⟩ := rx; rfl)
theorem zM : kY X (compareOp .IsNot) (fun x y H Q => y = .non ∧ Q (.bl (!decide (x = .non))) H) := by
  intro pins s σ H x y v u Q I rx ry h
  obtain ⟨rfl, q⟩ := h
  cases ry
  refine isnot_none_gen (bz I q ?_)
  cases x <;> first
    | (cases rx; rfl)
    | (obtain ⟨t, rfl⟩ := rx; rfl)
theorem kY.or {f : Value → Value → Sem Value} {r r' : R2} (h : kY X f r) (h' : kY X f r') : kY X f (fun x y H Q => r x y H Q ∨ r' x y H Q) := by
  intro pins s σ H x y v u Q I rx ry q
  rcases q with q | q
  · exact h pins s σ H x y v u Q I rx ry q
  · exact h' pins s σ H x y v u Q I rx ry q
theorem zH {op : CmpOp} {r : R2} (ho : kY X (compareOp op) r) (ha : PE X a ta) (hb : PE X b tb) (hm : behindInMarks op b = false) : PE X (.Compare a [op] [b] pos) (Dh r ta tb) := by
  intro pins s σ H Q I h
  exact wpAny_Compare1 (CP ha hb I h fun v u s2 x y H2 I2 rx ry q => ho pins s2 σ H2 x y v u Q I2 rx ry q) hm
def AB (t : TE) : TT := fun σ H Q => t σ H fun x H' => ∃ k, x = .bl k ∧ Q k H'
theorem zB {op : CmpOp} {r : R2} (ho : kY X (compareOp op) r) (ha : PE X a ta) (hb : PE X b tb) (hm : behindInMarks op b = false) : PT X (.Compare a [op] [b] pos) (AB (Dh r ta tb)) := by
  intro pins s σ H Q I h
  refine wpAny_isTrue_Compare1 (ez (ha pins s σ H _ I h) fun v s1 ⟨x, H1, I1, r1, q1⟩ => ez (hb pins s1 σ H1 _ I1 q1) fun u s2 ⟨y, H2, I2, r2, q2⟩ =>
    ez (ho pins s2 σ H2 x y v u _ I2 r1 r2 q2) fun c s3 ⟨z, H3, I3, r3, k, e, q3⟩ => ?_) hm
  subst e
  cases r3
  exact wpAny_truthy_bool ⟨H3, I3, q3⟩
def xi (r r' : R2) (ta tb tc : TE) : TE := fun σ H Q => ta σ H fun x H1 => tb σ H1 fun y H2 => r x y H2 fun z H3 => ∃ k, z = .bl k ∧
  (if k = true then tc σ H3 fun w' H4 => r' y w' H4 Q else Q (.bl false) H3)
theorem xT {op op' : CmpOp} {r r' : R2} (ho : kY X (compareOp op) r) (ho' : kY X (compareOp op') r') (ha : PE X a ta) (hb : PE X b tb) (hc : PE X c tc)
    (hm : lastMarks [op, op'] [b, c] = false := by with_unfolding_all rfl) : PE X (.Compare a [op, op'] [b, c] pos) (xi r r' ta tb tc) := by
  intro pins s σ H Q I h
  refine Compare_chain (ez (ha pins s σ H _ I h) fun v s1 ⟨x, H1, I1, r1, q1⟩ => chain_link (ez (hb pins s1 σ H1 _ I1 q1) fun u s2 ⟨y, H2, I2, r2, q2⟩ =>
    ez (ho pins s2 σ H2 x y v u _ I2 r1 r2 q2) fun d s3 ⟨z, H3, I3, r3, k, e, q3⟩ => ?_)) hm
  subst e
  cases r3
  refine wpAny_truthy_bool ?_
  cases k with
  | false => exact ite_ff ⟨.bl false, H3, I3, rfl, q3⟩
  | true => exact ite_tt (chain_last (ez (hc pins s3 σ H3 _ I3 q3) fun w' s4 ⟨z', H4, I4, r4, q4⟩ => ho' pins s4 σ H4 y z' u w' Q I4 r2 r4 q4))
def CW (K : PySem.W.Frag) (x : V) (H : Hp) (k : Bool) : Prop :=
  match x with
  | .non => k = false
  | .bl b => k = b
  | .int i => k = (i != 0)
  | .str y => y.length ≤ sizeLine ∧ k = ((y.length : Int) != 0)
  | .byt y => y.size ≤ sizeLine ∧ k = ((y.size : Int) != 0)
  | .ref p => (∃ xs, ka K H p xs ∧ k = !xs.isEmpty) ∨ (∃ xs, lq K H p xs ∧ k = !xs.isEmpty) ∨ ∃ kvs, H p = some (.dK kvs) ∧ k = !kvs.isEmpty
  | _ => False
theorem uq {κ : Type} {kvs : List (κ × V)} {vs : List (κ × Value)} (r : KV kvs vs) : (!vs.isEmpty) = !kvs.isEmpty := by
  cases r <;> rfl
theorem pX {xs : List V} {its : List Value} (r : aM xs its) : (!its.toArray.isEmpty) = !xs.isEmpty := by
  cases r <;> simp
theorem nY : (sizeLine : Nat) < 2 ^ 63 := by rw [sizeLine_eq]; decide
theorem Bh : FA X (fun x H Q => ∃ k, CW X.K x H k ∧ Q k H) := by
  intro pins s σ H x v Q I rx h
  obtain ⟨k, e, q⟩ := h
  have hl := nY
  have hs : sizeLine = 16777216 := sizeLine_eq
  cases x with
  | non =>
    cases rx
    have e' : k = false := e
    subst e'
    exact truthy_none ⟨H, I, q⟩
  | bl b =>
    cases rx
    have e' : k = b := e
    subst e'
    exact wpAny_truthy_bool ⟨H, I, q⟩
  | int i =>
    obtain ⟨t, rfl⟩ := rx
    have e' : k = (i != 0) := e
    subst e'
    exact PySem.P.truthy_int ⟨H, I, q⟩
  | str y =>
    obtain ⟨t, rfl⟩ := rx
    obtain ⟨hy, e'⟩ : y.length ≤ sizeLine ∧ k = ((y.length : Int) != 0) := e
    subst e'
    exact PySem.P.truthy_str (by omega) ⟨H, I.tok _, q⟩
  | byt y =>
    obtain ⟨t, rfl⟩ := rx
    obtain ⟨hy, e'⟩ : y.size ≤ sizeLine ∧ k = ((y.size : Int) != 0) := e
    subst e'
    exact PySem.W.truthy_bytes (by omega) ⟨H, I.tok _, q⟩
  | ref p =>
    cases rx
    have e' : (∃ xs, ka X.K H p xs ∧ k = !xs.isEmpty) ∨ (∃ xs, lq X.K H p xs ∧ k = !xs.isEmpty) ∨ ∃ kvs, H p = some (.dK kvs) ∧ k = !kvs.isEmpty := e
    rcases e' with ⟨xs, hx, e'⟩ | ⟨xs, hx, e'⟩ | ⟨kvs, hx, e'⟩
    · subst e'
      obtain ⟨its, r, pl, hz⟩ := I.list hx
      have hlen := r.length
      exact wpAny_truthy_list pl.isList (by simp only [List.size_toArray]; omega) ⟨H, I.tok _, by rw [pX r]; exact q⟩
    · subst e'
      obtain ⟨its, r, pl, hz⟩ := I.tuple hx
      have hlen := r.length
      exact truthy_tuple pl (by simp only [List.size_toArray]; omega) ⟨H, I.tok _, by rw [pX r]; exact q⟩
    · subst e'
      obtain ⟨hz, hS, vs, r, m⟩ : kvs.length ≤ sizeLine ∧ (p == sysModules) = false ∧ ∃ vs, KV kvs vs ∧ s.heap.DictOf (r6 X.prog X.w) p vs := I.hok p _ hx
      have hlen : kvs.length = vs.length := Paired.length r
      exact wpAny_truthy_dict hS m (by omega) ⟨H, I.tok _, by rw [uq r]; exact q⟩
  | _ => exact (show False from e).elim
theorem xK (ha : PE X a ta) (he : ∀ whole, isTrue a X.env whole = (do let v ← whole; standAt a.pos; holding [v] (truthy v))) :
    PT X a (fun σ H Q => ta σ H fun x H' => ∃ k, CW X.K x H' k ∧ Q k H') := by
  intro pins s σ H Q I h
  exact isTrue_plain (ez (ha pins s σ H _ I h) fun v s1 ⟨x, H1, I1, r1, q1⟩ => Bh pins s1 σ H1 x v Q I1 r1 q1) (he _)
theorem uh : kY X (binaryOp .Add) (fun x y H Q => ∃ i j, x = .str i ∧ y = .str j ∧ i.length + j.length ≤ sizeLine ∧ Q (.str (i ++ j)) H) := by
  intro pins s σ H x y v u Q I rx ry h
  obtain ⟨i, j, rfl, rfl, hz, q⟩ := h
  obtain ⟨t, rfl⟩ := rx
  obtain ⟨t', rfl⟩ := ry
  exact add_str (fun t' tk => ⟨.str (i ++ j), H, I.tok _, ⟨_, rfl⟩, q⟩) hz
theorem uR {x : V} {us : List Value} (r : aM [x] us) : ∃ u, us = [u] ∧ bJ x u := by
  cases r with
  | cons r1 r2 => cases r2; exact ⟨_, rfl, r1⟩
theorem AA {x y : V} {us : List Value} (r : aM [x, y] us) : ∃ u w', us = [u, w'] ∧ bJ x u ∧ bJ y w' := by
  cases r with
  | cons r1 r2 =>
    cases r2 with
    | cons r3 r4 => cases r4; exact ⟨_, _, rfl, r1, r3⟩
theorem wL (hc : X.calm = true) : mT X (.builtin "min") (fun xs H Q => ∃ i j, xs = [.int i, .int j] ∧ Q (.int (if j < i then j else i)) H) := by
  intro pins s σ H xs us Q I r h
  obtain ⟨i, j, rfl, q⟩ := h
  obtain ⟨u, w', rfl, ⟨t, rfl⟩, ⟨t', rfl⟩⟩ := AA r
  refine min_two_ints (I.ok.hd hc) fun h' tk k => ⟨_, H, I.kept k, ?_, q⟩
  by_cases hj : j < i
  · rw [if_pos hj, if_pos hj]; exact ⟨_, rfl⟩
  · rw [if_neg hj, if_neg hj]; exact ⟨_, rfl⟩
def Es (K : PySem.W.Frag) (x : V) (H : Hp) (n : Nat) : Prop :=
  match x with
  | .str y => y.length ≤ sizeLine ∧ n = y.length
  | .byt y => y.size ≤ sizeLine ∧ n = y.size
  | .ref p => (∃ xs, ka K H p xs ∧ n = xs.length) ∨ ∃ xs, lq K H p xs ∧ n = xs.length
  | _ => False
theorem yL : mT X (.builtin "len") (fun xs H Q => ∃ x n, xs = [x] ∧ Es X.K x H n ∧ Q (.int n) H) := by
  intro pins s σ H xs us Q I r h
  obtain ⟨x, n, rfl, e, q⟩ := h
  obtain ⟨u, rfl, rx⟩ := uR r
  have hl := nY
  have hs : sizeLine = 16777216 := sizeLine_eq
  cases x with
  | str y =>
    obtain ⟨t, rfl⟩ := rx
    obtain ⟨hy, e'⟩ : y.length ≤ sizeLine ∧ n = y.length := e
    subst e'
    exact len_str (by omega) ⟨.int _, H, I.tok _, ⟨_, rfl⟩, q⟩
  | byt y =>
    obtain ⟨t, rfl⟩ := rx
    obtain ⟨hy, e'⟩ : y.size ≤ sizeLine ∧ n = y.size := e
    subst e'
    exact PySem.W.len_bytes (by omega) ⟨.int _, H, I.tok _, ⟨_, rfl⟩, q⟩
  | ref p =>
    cases rx
    have e' : (∃ xs, ka X.K H p xs ∧ n = xs.length) ∨ ∃ xs, lq X.K H p xs ∧ n = xs.length := e
    rcases e' with ⟨xs, hx, e'⟩ | ⟨xs, hx, e'⟩
    · subst e'
      obtain ⟨its, r', pl, hz⟩ := I.list hx
      have hlen := r'.length
      exact Calls.call_len_list pl.isList (by simp only [List.size_toArray]; omega) ⟨.int xs.length, H, I.tok _, ⟨_, by simp only [List.size_toArray]; rw [hlen]⟩, q⟩
    · subst e'
      obtain ⟨its, r', pl, hz⟩ := I.tuple hx
      have hlen := r'.length
      exact len_tuple pl (by simp only [List.size_toArray]; omega) ⟨.int xs.length, H, I.tok _, ⟨_, by simp only [List.size_toArray]; rw [hlen]⟩, q⟩
  | _ => exact (show False from e).elim
end
end L2
namespace L2
open PySem PySem.Spec PyProof.Rows
structure uL (h : Heap) (x dx C : Addr) (mA : Str → Option Value) : Prop where
  obj : h.get? x = some (PySem.W.instObj C dx)
  ns : h.Ns1 dx mA
  ne : dx ≠ x
theorem qH {h : Heap} {dx : Addr} {mA : Str → Option Value} (n : h.Ns1 dx mA) : ∃ od, h.get? dx = some od ∧ ∀ name, PySem.W.lookIn name od = some (mA name) := by
  obtain ⟨o, es, ep, ho, hd, hk, _, hm⟩ := n
  refine ⟨o, ho, fun name => ?_⟩
  have e := hm name
  unfold nsFind findBy at e
  rw [← Array.find?_toList] at e
  unfold PySem.W.lookIn
  rw [hd]
  dsimp only
  split
  · rename_i y q
    rw [q] at e
    exact congrArg some e
  · rename_i q
    rw [q] at e
    have a : es.toList.any (·.refKey) = false := by
      rw [List.any_eq_false]
      intro y hy
      obtain ⟨z, t, hkey⟩ := hk y (Array.mem_toList_iff.mp hy)
      simp [DictEntry.refKey, hkey]
    have a' : ¬ es.toList.any (·.refKey) = true := by rw [a]; exact Bool.false_ne_true
    rw [if_neg a']
    exact congrArg some e
theorem uL.look {h : Heap} {x dx C : Addr} {mA : Str → Option Value} (I : uL h x dx C mA) : ∃ od, PySem.W.InstAt h x (PySem.W.instObj C dx) C (some od) ∧ ∀ name, PySem.W.lookIn name od = some (mA name) :=
  let ⟨od, ho, hl⟩ := qH I.ns
  ⟨od, ⟨I.obj, rfl, rfl, ho⟩, hl⟩
section
variable {prog : Program} {w : World} {A : Around} {E : Value → Shared → Prop} {s : Shared} {K : PySem.W.Frag} {x dx C f : Addr} {mA : Str → Option Value} {name : Str} {v : Value}
theorem z9 {expr : Bool} {Q : Value → Shared → Prop} (X : K.In s.heap) (I : uL s.heap x dx C mA) (hg : PySem.W.plainGet K C name = true) (hh : PySem.W.hasDictIn K C = true)
    (ha : PySem.W.findIn K (.ref C) name = some none) (hv : mA name = some v) (hv' : PySem.W.handedIn v = true) (h : Q v { s with toks := s.toks + 1 }) :
    wpAny (model prog w) A (getAttr (.ref x) name expr) Q E s := by
  obtain ⟨od, J, hl⟩ := I.look
  exact PySem.W.get_value X J (PySem.W.plainGet_of hg).1 (PySem.W.findObj_own hh ha rfl (by rw [hl, hv])) hv' h
theorem yu {pl : Sem Bool} {Q : Value × List Value → Shared → Prop} (X : K.In s.heap) (I : uL s.heap x dx C mA) (hg : PySem.W.plainGet K C name = true)
    (hf : PySem.W.findIn K (.ref C) name = some (some (.ref f))) (ht : PySem.W.isFn K (.ref f) = true) (hv : mA name = none) (h : Q (.ref f, [.ref x]) s) :
    wpAny (model prog w) A (getMethod (.ref x) name pl) Q E s := by
  obtain ⟨od, J, hl⟩ := I.look
  exact PySem.W.method_fn X J (PySem.W.plainGet_of hg).1 (PySem.W.plainGet_of hg).2 hf (beq_iff_eq.mp ht) (by show (PySem.W.lookIn name od).map (·.isSome) = some false; rw [hl, hv]; rfl) h
theorem zi {ns : List Str} {Q : Unit → Shared → Prop} (X : K.In s.heap) (I : uL s.heap x dx C mA)
    (hs : PySem.W.findIn K (.ref C) "__setattr__" = some (some (.builtin "object.__setattr__"))) (hp : PySem.W.plainOver K C = true) (ht : PySem.W.takerIn K C name = some none) (hh : PySem.W.hasDictIn K C = true)
    (hw : PySem.Within mA ns) (hsz : ns.length ≤ sizeLine)
    (h : ∀ h', uL h' x dx C (fun y => if y = name then some v else mA y) → Heap.SameBut dx s.heap h' → Q () { s with heap := h', toks := s.toks + 2 }) :
    wpAny (model prog w) A (setAttr (.ref x) name v) Q E s := by
  obtain ⟨od, J, hl⟩ := I.look
  refine PySem.W.set_plain X J hs (PySem.W.osa_open (s := { s with toks := s.toks + 1 }) (r := none) X J hp ht fun b => ?_)
  obtain ⟨cd, hc, hd'⟩ := PySem.W.any_some hh
  have hx : s.heap.get? x = some ⟨.ref C, some dx, .plain, #[]⟩ := I.obj
  refine wpAny_bind (wpAny_pure (wpAny_bind (wpAny_bind (wpAny_loadPart hx (wpAny_bind (PySem.W.Looks.here (s := { s with toks := s.toks + 1 }) (PySem.W.looks_clsIn X hc) ?_))))))
  rw [hd']
  refine wpAny_pure (a := some dx) (wpAny_bind (wpAny_pure (wpAny_bind ?_)))
  refine wpAny_nsSet1 (s := { s with toks := s.toks + 1 }) I.ns fun h' hn2 hs2 => ?_
  obtain ⟨oD, esD, epD, hoD, hdD, hcD⟩ := hn2.count (PySem.Within.cons name v hw)
  refine wpAny_bind (wpAny_lookBehind hoD (by rw [hdD]; exact pastItsLine_dict (Nat.le_trans hcD (by rw [List.length_cons]; omega))) ?_)
  exact wpAny_pure (h _ ⟨(hs2.2 _ (Ne.symm I.ne)).trans I.obj, hn2, I.ne⟩ hs2)
theorem yf {R : Result → Shared → Prop} {vs : List Value} {kw : List (Str × Value)} (X : K.In s.heap) (hm : PySem.W.makesIn K C = true)
    (hi : PySem.W.findIn K (.ref C) "__init__" = some (some (.ref f))) (hf : PySem.W.typeIn K (.ref f) = some (.type "function"))
    (h : codeAny (model prog w) (A.under (.builtin "type.__call__" ⟨.ref C :: vs, kw⟩)) (.call (.ref f) ⟨.ref (s.heap.objs.size + 1) :: vs, kw⟩) (PySem.W.InitBack (s.heap.objs.size + 1) R)
      { s with heap := (s.heap.push PySem.W.emptyDict).push (PySem.W.instObj C s.heap.objs.size) }) :
    codeAny (model prog w) A (.call (.ref C) ⟨vs, kw⟩) R s := by
  obtain ⟨hh, g, d, t, os⟩ := s
  exact PySem.W.make_core (PySem.W.makes_of X hm) (PySem.W.looks_findIn X hi) (fun self => PySem.W.bind_fn X self hf) (.inl rfl) h
end
def j3 (f : Str) (v : V) : List (Str × V) → List (Str × V)
  | [] => [(f, v)]
  | (g, x) :: r => if g = f then (g, v) :: r else (g, x) :: j3 f v r
theorem oA (f g : Str) (v : V) : ∀ fs : List (Str × V), (j3 f v fs).lookup g = if g = f then some v else fs.lookup g
  | [] => by
    show List.lookup g [(f, v)] = _
    by_cases h : g = f
    · have hb : (g == f) = true := beq_iff_eq.mpr h
      simp only [List.lookup, hb, if_pos h]
    · have hb : (g == f) = false := beq_eq_false_iff_ne.mpr h
      simp only [List.lookup, hb, if_neg h]
  | (k, x) :: r => by
    have ih := oA f g v r
    rw [show j3 f v ((k, x) :: r) = (if k = f then (k, v) :: r else (k, x) :: j3 f v r) from rfl]
    by_cases hk : k = f
    · rw [if_pos hk]
      by_cases h : g = k
      · have hb : (g == k) = true := beq_iff_eq.mpr h
        simp only [List.lookup, hb, if_pos (h.trans hk)]
      · have hb : (g == k) = false := beq_eq_false_iff_ne.mpr h
        simp only [List.lookup, hb, if_neg (fun e : g = f => h (e.trans hk.symm))]
    · rw [if_neg hk]
      by_cases h : g = k
      · have hb : (g == k) = true := beq_iff_eq.mpr h
        simp only [List.lookup, hb, if_neg (fun e : g = f => hk (h.symm.trans e))]
      · have hb : (g == k) = false := beq_eq_false_iff_ne.mpr h
        simp only [List.lookup, hb]
        exact ih
theorem nZ (f : Str) (v : V) : ∀ fs : List (Str × V), f ∈ (j3 f v fs).map (·.1) ∧ ∀ g, g ∈ fs.map (·.1) → g ∈ (j3 f v fs).map (·.1)
  | [] => ⟨by simp [j3], fun g h => by simp at h⟩
  | (k, x) :: r => by
    obtain ⟨i1, i2⟩ := nZ f v r
    rw [show j3 f v ((k, x) :: r) = (if k = f then (k, v) :: r else (k, x) :: j3 f v r) from rfl]
    by_cases hk : k = f
    · rw [if_pos hk]
      subst hk
      exact ⟨by simp, fun g h => by simpa using h⟩
    · rw [if_neg hk]
      refine ⟨?_, fun g h => ?_⟩
      · rw [List.map_cons]
        exact List.mem_cons_of_mem _ i1
      · rw [List.map_cons] at h ⊢
        rcases List.mem_cons.mp h with e | e
        · exact List.mem_cons.mpr (.inl e)
        · exact List.mem_cons_of_mem _ (i2 g e)
theorem oB (f : Str) (v : V) : ∀ fs : List (Str × V), (j3 f v fs).length ≤ fs.length + 1
  | [] => by simp [j3]
  | (k, x) :: r => by
    have ih := oB f v r
    rw [show j3 f v ((k, x) :: r) = (if k = f then (k, v) :: r else (k, x) :: j3 f v r) from rfl]
    by_cases hk : k = f
    · rw [if_pos hk, List.length_cons, List.length_cons]; omega
    · rw [if_neg hk, List.length_cons, List.length_cons]; omega
theorem nN.some_of {v : V} {o : Option Value} (r : nN (some v) o) : ∃ u, o = some u ∧ bJ v u := by
  cases o with
  | none => exact (show False from r).elim
  | some u => exact ⟨u, rfl, r⟩
theorem nN.none_of {o : Option Value} (r : nN none o) : o = none := by
  cases o with
  | none => rfl
  | some u => exact (show False from r).elim
theorem wF {v : V} {u : Value} (r : bJ v u) : PySem.W.handedIn u = true := by
  cases v with
  | non => cases (show u = Value.none from r); rfl
  | bl b => cases (show u = Value.bool b from r); rfl
  | int i => obtain ⟨t, e⟩ := (show ∃ t, u = Value.int i t from r); cases e; rfl
  | str x => obtain ⟨t, e⟩ := (show ∃ t, u = Value.str x t from r); cases e; rfl
  | byt b => obtain ⟨t, e⟩ := (show ∃ t, u = Value.bytes b t from r); cases e; rfl
  | flt b => obtain ⟨t, e⟩ := (show ∃ t, u = Value.float b t from r); cases e; rfl
  | ref a => cases (show u = Value.ref a from r); rfl
  | ty n => cases (show u = Value.type n from r); rfl
section
variable {P : Program} {w : World} {H H' : Hp} {h h' : Heap} {a C dx : Addr} {fs fs' : List (Str × V)}
theorem nG (hok : mG P w H h) (e : H a = some (.ins C dx fs)) : ∃ mA, uL h a dx C mA ∧ (∀ f, nN (fs.lookup f) (mA f)) ∧ PySem.Within mA (fs.map (·.1)) ∧ fs.length ≤ 1000 ∧ H dx = some (.own a) := by
  obtain ⟨d, z, ne, ob, mA, n, r, q⟩ := (show dJ P w H h a (.ins C dx fs) from hok a _ e)
  exact ⟨mA, ⟨ob, n, ne⟩, r, q, z, d⟩
end
structure pj (K : PySem.W.Frag) (C : Addr) : Prop where
  pg : PySem.W.plainGet K C Str.empty = true
  hd : PySem.W.hasDictIn K C = true
  po : PySem.W.plainOver K C = true
  sa : PySem.W.findIn K (.ref C) "__setattr__" = some (some (.builtin "object.__setattr__"))
theorem pj.get {K : PySem.W.Frag} {C : Addr} (c : pj K C) (f : Str) : PySem.W.plainGet K C f = true := c.pg
def dZ (K : PySem.W.Frag) (C : Addr) (f : Str) : Prop := PySem.W.findIn K (.ref C) f = some none
theorem dZ.taker {K : PySem.W.Frag} {C : Addr} {f : Str} (n : dZ K C f) : PySem.W.takerIn K C f = some none := by
  unfold PySem.W.takerIn
  rw [show PySem.W.findIn K (.ref C) f = some none from n]
  rfl
structure GD (K : PySem.W.Frag) (C : Addr) (f : Str) (v : V) (u : Value) : Prop where
  at_ : PySem.W.findIn K (.ref C) f = some (some u)
  rel : bJ v u
  get : PySem.W.specialIn K u "__get__" = some none
  cp : PySem.W.copiedNames.contains f = false
structure Er (K : PySem.W.Frag) (C : Addr) (m : Str) (f : Addr) : Prop where
  at_ : PySem.W.findIn K (.ref C) m = some (some (.ref f))
  fn : PySem.W.isFn K (.ref f) = true
  kp : PySem.W.keepIn K (.ref f) = true
section
variable {X : Cx} {pins : List (Addr × Obj)} {σ : St} {H : Hp} {s : Shared} {a C dx : Addr} {fs : List (Str × V)} {f : Str} {v : V} {A : Around} {E : Value → Shared → Prop}
theorem uv {b : Bool} {Q : Value → Shared → Prop} (I : aB X pins σ H s) (e : H a = some (.ins C dx fs)) (c : pj X.K C) (n : dZ X.K C f) (l : fs.lookup f = some v)
    (h : ∀ u s', aB X pins σ H s' → bJ v u → Q u s') : wpAny (model X.prog X.w) A (getAttr (.ref a) f b) Q E s := by
  obtain ⟨mA, O, r, _, _, _⟩ := nG I.hok e
  obtain ⟨u, hu, ru⟩ := nN.some_of (v := v) (o := mA f) (by rw [← l]; exact r f)
  exact z9 I.kIn O (c.get f) c.hd n hu (wF ru) (h u _ (I.tok _) ru)
theorem m4 {m : Str} {g : Addr} {pl : Sem Bool} {Q : Value × List Value → Shared → Prop} (I : aB X pins σ H s) (e : H a = some (.ins C dx fs)) (c : pj X.K C) (k : Er X.K C m g) (l : fs.lookup m = none)
    (h : Q (.ref g, [.ref a]) s) : wpAny (model X.prog X.w) A (getMethod (.ref a) m pl) Q E s := by
  obtain ⟨mA, O, r, _, _, _⟩ := nG I.hok e
  have hn : mA m = none := nN.none_of (by rw [← l]; exact r m)
  exact yu I.kIn O (c.get m) k.at_ k.fn hn h
theorem uc {y : V} {u : Value} {Q : Unit → Shared → Prop} (I : aB X pins σ H s) (e : H a = some (.ins C dx fs)) (c : pj X.K C) (n : dZ X.K C f) (hl : fs.length < 1000) (ry : bJ y u)
    (h : ∀ s', aB X pins σ (upd H a (.ins C dx (j3 f y fs))) s' → Q () s') : wpAny (model X.prog X.w) A (setAttr (.ref a) f u) Q E s := by
  obtain ⟨mA, O, r, wi, _, ho⟩ := nG I.hok e
  have hz : (fs.map (·.1)).length ≤ sizeLine := by rw [List.length_map, sizeLine_eq]; omega
  refine zi I.kIn O c.sa c.po n.taker c.hd wi hz fun h' O' sb => h _ ?_
  have hd : ∃ o, h'.get? dx = some o := let ⟨o, _, _, e', _⟩ := O'.ns; ⟨o, e'⟩
  refine I.write (x := a) (e := dx) (by rw [e]; exact True.intro) (.inr ho) (fun b q hb z => (sb.2 b hb).trans z) hd ?_
  refine ⟨by rw [aV O.ne]; exact ho, ?_, O.ne, O'.obj, _, O'.ns, fun g => ?_, fun g hg => ?_⟩
  · have := oB f y fs; omega
  · show nN ((j3 f y fs).lookup g) (if g = f then some u else mA g)
    rw [oA]
    by_cases q : g = f
    · rw [if_pos q, if_pos q]; exact ry
    · rw [if_neg q, if_neg q]; exact r g
  · by_cases q : g = f
    · rw [q]; exact (nZ f y fs).1
    · refine (nZ f y fs).2 g (wi g fun z => hg ?_)
      show (if g = f then some u else mA g) = none
      rw [if_neg q]; exact z
theorem aB.made (I : aB X pins σ H s) : aB X pins σ (upd (upd H s.heap.objs.size (.own (s.heap.objs.size + 1))) (s.heap.objs.size + 1) (.ins C s.heap.objs.size []))
    { s with heap := (s.heap.push PySem.W.emptyDict).push (PySem.W.instObj C s.heap.objs.size) } := by
  have e1 : (s.heap.push PySem.W.emptyDict).get? s.heap.objs.size = some PySem.W.emptyDict := Heap.get?_push_size s.heap rfl
  have e2 : ((s.heap.push PySem.W.emptyDict).push (PySem.W.instObj C s.heap.objs.size)).get? (s.heap.objs.size + 1) = some (PySem.W.instObj C s.heap.objs.size) := by
    have := Heap.get?_push_size (s.heap.push PySem.W.emptyDict) (o := PySem.W.instObj C s.heap.objs.size) rfl
    rwa [Heap.size_push] at this
  have e3 : (s.heap.push PySem.W.emptyDict).Ns s.heap.objs.size (fun _ => none) := ⟨PySem.W.emptyDict, #[], _, e1, rfl, (fun e he => absurd he (by simp)), fun _ => rfl⟩
  have I1 := I.laid (a := s.heap.objs.size) (o := .own (s.heap.objs.size + 1)) (h' := s.heap.push PySem.W.emptyDict) (t' := s.toks) (fun b u q => Heap.get?_push_of_some _ q) (Nat.le_refl _) ⟨_, e1⟩
  refine I1.laid (a := s.heap.objs.size + 1) (o := .ins C s.heap.objs.size []) (t' := s.toks) (fun b u q => Heap.get?_push_of_some _ q) (Nat.le_of_eq (Heap.size_push _ _)) ?_
  have ne : s.heap.objs.size ≠ s.heap.objs.size + 1 := Nat.ne_of_lt (Nat.lt_succ_self _)
  refine ⟨by rw [aV ne, bK], Nat.zero_le _, ne, e2, fun _ => none, (Heap.Ns1.of_empty e3).at fun o q => Heap.get?_push_of_some _ q, fun _ => True.intro, fun y hy => absurd rfl hy⟩
theorem Au {prog : Program} {w : World} {env : Env} {e : Expr} {f : Str} {pos : Pos} {s : Shared} {Q : Value → Shared → Prop} (hb : attributeBase e f env (eval e env) = eval e env)
    (h : wpAny (model prog w) A (eval e env) (fun o s₁ => wpAny (model prog w) A (getAttr o f true) Q E s₁) E s) : wpAny (model prog w) A (eval (.Attribute e f pos) env) Q E s :=
  Attribute_any_ h (by rw [arm_eval_Attribute, hb])
end
def E9 (K : PySem.W.Frag) (ta : TE) (f : Str) : TE := fun σ H Q => ta σ H fun x H1 => ∃ a C dx fs v, x = .ref a ∧ H1 a = some (.ins C dx fs) ∧ pj K C ∧ dZ K C f ∧ fs.lookup f = some v ∧ Q v H1
def cB (K : PySem.W.Frag) (ta tv : TE) (f : Str) : TS := fun D σ H => tv σ H fun y H1 => ta σ H1 fun x H2 => ∃ a C dx fs, x = .ref a ∧ H2 a = some (.ins C dx fs) ∧ pj K C ∧ dZ K C f ∧ fs.length < 1000 ∧
  D.nx σ (upd H2 a (.ins C dx (j3 f y fs)))
section
variable {X : Cx} {o e value : Expr} {f : Str} {pos pos' tpos : Pos} {ta tv : TE}
theorem BM (he : PE X e ta) (hb : attributeBase e f X.env (eval e X.env) = eval e X.env) : PE X (.Attribute e f pos) (E9 X.K ta f) := by
  intro pins s σ H Q I h
  refine Au hb (ez (he pins s σ H _ I h) fun u s1 ⟨x, H1, I1, rx, a, C, dx, fs, v, ex, ea, c, n, l, q⟩ => ?_)
  subst ex
  obtain rfl : u = Value.ref a := rx
  exact uv I1 ea c n l fun u' s2 I2 ru => ⟨v, H1, I2, ru, q⟩
theorem BA (ha : PE X o ta) (hv : PE X value tv) (hs : swapsWith value (some (.Attribute o f pos')) pos.line X.env = pure false) : PS X (.Assign [.Attribute o f pos'] value pos) (cB X.K ta tv f) := by
  intro pins s σ H D I h
  refine plainObj_wpAny_Assign_Attribute (ez (hv pins s σ H _ I h) fun u s1 ⟨y, H1, I1, ry, q⟩ => ez (ha pins s1 σ H1 _ I1 q) fun ov s2 ⟨x, H2, I2, rx, a, C, dx, fs, ex, ea, c, n, l, q2⟩ => ?_) hs
  subst ex
  obtain rfl : ov = Value.ref a := rx
  exact uc I2 ea c n l ry fun s3 I3 => ⟨σ, _, I3, q2⟩
end
section
variable {X : Cx} {pins : List (Addr × Obj)} {σ : St} {H : Hp} {s : Shared} {A : Around} {E : Value → Shared → Prop} {Q : Value → Shared → Prop} {c : Value} {b : Bool}
inductive oZ (K : PySem.W.Frag) (H : Hp) : V → Value → Prop where
  | non : oZ K H .non (.type "NoneType")
  | bl (x : Bool) : oZ K H (.bl x) (.type "bool")
  | int (i : Int) : oZ K H (.int i) (.type "int")
  | str (x : Str) : oZ K H (.str x) (.type "str")
  | flt (x : UInt64) : oZ K H (.flt x) (.type "float")
  | lst {a : Addr} {xs : List V} (e : H a = some (.lst xs)) : oZ K H (.ref a) (.type "list")
  | frz {a : Addr} {o : Obj} {xs : List V} (e : H a = some (.frz o (.lst xs))) : oZ K H (.ref a) (.type "list")
  | tup {a : Addr} {xs : List V} (e : H a = some (.tup xs)) : oZ K H (.ref a) (.type "tuple")
  | dK {a : Addr} {kvs : List (sy × V)} (e : H a = some (.dK kvs)) : oZ K H (.ref a) (.type "dict")
  | dT {a : Addr} {kvs : List (List sy × V)} (e : H a = some (.dT kvs)) : oZ K H (.ref a) (.type "dict")
  | ins {a C dx : Addr} {fs : List (Str × V)} (e : H a = some (.ins C dx fs)) (cl : pj K C) (ha : PySem.W.findIn K (.ref C) "__class__" = some (some (.builtin "object.__class__")))
      (hn : PySem.W.specialIn K (.builtin "object.__class__") "__get__" = some (some (.builtin "getset_descriptor.__get__"))) (htk : PySem.W.takesIn K (.builtin "object.__class__") = some true)
      (hm : PySem.W.mroIn K C (.type "object") = some true) : oZ K H (.ref a) (.ref C)
end
end L2
namespace L2
open PySem PySem.Spec PyProof.Rows
structure b6 (k : Nat) (A : Around) : Prop where
  hd : A.handled = none
  dp : A.depth + 3 * k + 5 < recursionLimit
  un : A.units + 16 * k + 200 < cLine
theorem b6.mono {j k : Nat} {A : Around} (r : b6 k A) (h : j ≤ k) : b6 j A := ⟨r.hd, by have := r.dp; omega, by have := r.un; omega⟩
theorem b6.deeper {k : Nat} {A : Around} (r : b6 (k + 1) A) (env : Env) : b6 k (A.deeper env) :=
  ⟨r.hd, by have := r.dp; show A.depth + 1 + 3 * k + 5 < _; omega, by have := r.un; show A.units + 3 + 16 * k + 200 < _; omega⟩
theorem b6.in1 {k : Nat} {A : Around} (r : b6 (k + 1) A) : b6 k A.in1 :=
  ⟨r.hd, by have := r.dp; show A.depth + 3 * k + 5 < _; omega, by have := r.un; show A.units + 1 + 16 * k + 200 < _; omega⟩
theorem um {A : Around} {C : Addr} {us : List Value} {kw : List (Str × Value)} : (A.under (.builtin "type.__call__" ⟨.ref C :: us, kw⟩)).depth = A.depth + 1 := by
  first | rfl | simp [Around.under, Code.weight, Code.isCreation, Code.isGuard, Code.isCaller, Code.frames, Code.isFrame, guardIds]
theorem uk {A : Around} {C : Addr} {us : List Value} {kw : List (Str × Value)} : (A.under (.builtin "type.__call__" ⟨.ref C :: us, kw⟩)).units = A.units + 1 := by
  first | rfl | simp [Around.under, Code.cUnits, Code.frames, Code.isFrame]
theorem b6.make {k : Nat} {A : Around} (r : b6 (k + 1) A) (C : Addr) (us : List Value) (kw : List (Str × Value)) : b6 k (A.under (.builtin "type.__call__" ⟨.ref C :: us, kw⟩)) :=
  ⟨r.hd, by have := r.dp; rw [um]; omega, by have := r.un; rw [uk]; omega⟩
theorem b6.depth {k : Nat} {A : Around} (r : b6 k A) : A.depth < recursionLimit := by have := r.dp; omega
theorem b6.units {k : Nat} {A : Around} (r : b6 k A) : A.units + 64 < cLine := by have := r.un; omega
def Dj : TA := fun _ H Q => Q [] H
def Dq (ta : TE) (tr : TA) : TA := fun σ H Q => ta σ H fun x H1 => tr σ H1 fun xs H2 => Q (x :: xs) H2
section
variable {X : Cx} {e : Expr} {es : List Expr} {te : TE} {t : TA} {pos : Pos}
theorem BQ : PA X [] Dj := fun _ _ _ _ H Q I h => Calls.spliced_nil ⟨[], H, I, .nil, h⟩
theorem zK (ha : PE X e te) (hr : PA X es t) (hs : starEach (e :: es) X.env = (false, eval e X.env) :: starEach es X.env := by rfl) : PA X (e :: es) (Dq te t) := by
  intro pos pins s σ H Q I h
  rw [hs]
  show wpAny _ _ (spliced ((false, eval e X.env) :: backTo pos (starEach es X.env))) _ _ s
  refine Calls.spliced_cons (ez (ha pins s σ H _ I h) fun u s1 ⟨x, H1, I1, r1, q1⟩ => ?_)
  exact ez (hr pos pins s1 σ H1 _ I1 q1) fun us s2 ⟨xs, H2, I2, r2, q2⟩ => ⟨x :: xs, H2, I2, .cons r1 r2, q2⟩
def E4 (t : TA) : TE := fun σ H Q => t σ H fun xs H1 => xs.length ≤ sizeLine ∧ ∀ p, H1 p = none → Q (.ref p) (upd H1 p (.tup xs))
def E7 (t : TA) : TE := fun σ H Q => t σ H fun xs H1 => xs.length ≤ sizeLine ∧ ∀ p, H1 p = none → Q (.ref p) (upd H1 p (.lst xs))
theorem BF {x1} (h : PA X es t) : PE X (.Tuple es x1 pos) (E4 t) := by
  intro pins s σ H Q I hq
  refine wpAny_Tuple_spliced (ez (h pos pins s σ H _ I hq) fun us s1 ⟨xs, H1, I1, r, z, q⟩ => ⟨by rw [← r.length]; exact z, ?_⟩)
  have hf : H1 s1.heap.objs.size = none := I1.hok.fresh (Nat.le_refl _)
  refine ⟨.ref s1.heap.objs.size, upd H1 s1.heap.objs.size (.tup xs), I1.laid (t' := s1.toks) (fun b u e => Heap.get?_push_of_some _ e) (Nat.le_refl _) ?_, rfl, q _ hf⟩
  exact ⟨z, us, r, ⟨_, Heap.get?_push_size _ rfl, rfl, _, rfl⟩⟩
theorem BK (h : PA X es t) : PE X (.List es pos) (E7 t) := by
  intro pins s σ H Q I hq
  refine wpAny_List_spliced (ez (h pos pins s σ H _ I hq) fun us s1 ⟨xs, H1, I1, r, z, q⟩ => ⟨by rw [← r.length]; exact z, ?_⟩)
  have hf : H1 s1.heap.objs.size = none := I1.hok.fresh (Nat.le_refl _)
  refine ⟨.ref s1.heap.objs.size, upd H1 s1.heap.objs.size (.lst xs), I1.laid (t' := s1.toks) (fun b u e => Heap.get?_push_of_some _ e) (Nat.le_refl _) ?_, rfl, q _ hf⟩
  exact ⟨z, us, 0, r, Heap.get?_push_size _ rfl⟩
end
abbrev Sp := List V → Hp → VK → XK → Prop
abbrev tV := List Env → Hp → Shared → XK → Value → Shared → Prop
structure o2 (P : Program) (w : World) (K : PySem.W.Frag) (mg : Str → Option Value) (base : Heap) (A : Around) (outer : List Env) (s : Shared) (H : Hp) : Prop where
  frames : A.frames = some outer
  mod : Mod K mg base
  bs : ∀ b o, base.get? b = some o → s.heap.get? b = some o ∧ H b = none
  bsz : base.objs.size ≤ s.heap.objs.size
  funs : s.heap.FunFrames base outer
  frf : ∀ b ∈ tE outer, H b = none
  hok : mG P w H s.heap
  bare : AllBare s.gens
def CE (outer : List Env) (P : Program) (w : World) (H : Hp) (s : Shared) (Q : VK) (u : Value) (s' : Shared) : Prop :=
  ∃ v H', s'.os = s.os ∧ AllBare s'.gens ∧ Un (tE outer) [] H H' s.heap s'.heap ∧ mG P w H' s'.heap ∧ bJ v u ∧ Q v H'
def CR (CX : tV) (outer : List Env) (P : Program) (w : World) (H : Hp) (s : Shared) (Q : VK) (E : XK) (r : Result) (s' : Shared) : Prop :=
  match r with
  | .ok (.ret u) => CE outer P w H s Q u s'
  | .ok _ => False
  | .error e => CX outer H s E e s'
structure m5 (P : Program) (w : World) (K : PySem.W.Frag) (mg : Str → Option Value) (base : Heap) (CX : tV) (k : Nat) (f : Addr) (fd : FuncData) (ps : List Str) (sp : Sp) : Prop where
  len : ∀ vs H Q E, sp vs H Q E → vs.length = ps.length
  run : ∀ (A : Around) (outer : List Env) (s : Shared) (H : Hp) (args : Args) (us : List Value) (vs : List V) (Q : VK) (E : XK), b6 k A → o2 P w K mg base A outer s H → BindsTo s fd args (ps.zip us) → aM vs us → sp vs H Q E →
    codeAny (model P w) A (.call (.ref f) args) (CR CX outer P w H s Q E) s
theorem o2.make {P : Program} {w : World} {K : PySem.W.Frag} {mg : Str → Option Value} {base : Heap} {A : Around} {outer : List Env} {s : Shared} {H : Hp} (e : o2 P w K mg base A outer s H) (C : Addr) (us : List Value) (kw : List (Str × Value)) :
    o2 P w K mg base (A.under (.builtin "type.__call__" ⟨.ref C :: us, kw⟩)) outer s H := ⟨by first | exact e.frames | (simpa [Around.under, Code.envs, Code.isFrame, pushEnvs] using e.frames), e.mod, e.bs, e.bsz, e.funs, e.frf, e.hok, e.bare⟩
theorem o2.in1 {P : Program} {w : World} {K : PySem.W.Frag} {mg : Str → Option Value} {base : Heap} {A : Around} {outer : List Env} {s : Shared} {H : Hp} (e : o2 P w K mg base A outer s H) :
    o2 P w K mg base A.in1 outer s H := ⟨e.frames, e.mod, e.bs, e.bsz, e.funs, e.frf, e.hok, e.bare⟩
section
variable {X : Cx} {pins : List (Addr × Obj)} {σ : St} {H : Hp} {s s' : Shared}
theorem aB.env0 (I : aB X pins σ H s) : o2 X.prog X.w X.K X.mg X.base X.A X.stack s H :=
  ⟨I.ok.frames, I.ok.mod, I.bs, Nat.le_trans I.ok.bsz I.sz, I.stack, I.stkFree, I.hok, I.bare⟩
theorem aB.after {Q : VK} {u : Value} (I : aB X pins σ H s) (h : CE X.stack X.prog X.w H s Q u s') : EP X pins σ Q u s' := by
  obtain ⟨v, H', os, bare, un, hok, r, q⟩ := h
  obtain ⟨hh, g, d, t, os'⟩ := s'
  obtain rfl : os' = s.os := os
  exact ⟨v, H', I.call (h' := hh) (g' := g) (d' := d) (t' := t) (ch := []) un hok bare (fun b z => absurd z (by simp)), r, q⟩
end
def sJ (sp : Sp) (dvs : List V) (E : XK) (t : TA) : TE := fun σ H Q => t σ H fun vs H1 => sp (vs ++ dvs) H1 Q E
def Dm (C : Addr) (m : Str) (sp : Sp) (dvs : List V) (E : XK) (ta : TE) (t : TA) : TE := fun σ H Q => ta σ H fun x H1 => ∃ a dx fs, x = .ref a ∧ H1 a = some (.ins C dx fs) ∧ fs.lookup m = none ∧
  t σ H1 fun vs H2 => sp (x :: (vs ++ dvs)) H2 Q E
def AD (C : Addr) (sp : Sp) (dvs : List V) (E : XK) (t : TA) : TE := fun σ H Q => t σ H fun vs H1 => ∀ x dx, H1 x = none → H1 dx = none → dx ≠ x →
  sp (.ref x :: (vs ++ dvs)) (upd (upd H1 dx (.own x)) x (.ins C dx [])) (fun v H2 => v = .non ∧ Q (.ref x) H2) E
def gg (K : PySem.W.Frag) (fd : FuncData) (ps : List Str) (ds : List Value) : Prop :=
  ∀ (s : Shared) (us : List Value), K.In s.heap → (us ++ ds).length = ps.length → BindsTo s fd ⟨us, []⟩ (ps.zip (us ++ ds))
theorem gg.all {K : PySem.W.Frag} {fd : FuncData} {ps : List Str} (h : ∀ us : List Value, us.length = ps.length → bindArgs fd ⟨us, []⟩ = pure (ps.zip us)) : gg K fd ps [] := fun s us _ hl => by
  rw [List.append_nil] at hl ⊢
  exact .of_eq (h us hl)
def kD (CX : tV) (X : Cx) (E : XK) : Prop := ∀ (pins : List (Addr × Obj)) (σ : St) (H : Hp) (s : Shared) (e : Value) (s' : Shared), aB X pins σ H s → CX X.stack H s E e s' → X.xe e s'
section
variable {X : Cx} {CX : tV} {k : Nat} {f C : Addr} {fd : FuncData} {ps : List Str} {sp : Sp} {dvs : List V} {ds : List Value} {E : XK} {x m : Str} {p pos apos : Pos} {e o : Expr} {es : List Expr} {ta : TE} {t : TA}
theorem rp {pins : List (Addr × Obj)} {σ : St} {H : Hp} {s : Shared} {Q : VK} {us : List Value} {vs : List V} (F : m5 X.prog X.w X.K X.mg X.base CX k f fd ps sp) (hr : b6 k X.A) (hb : gg X.K fd ps ds) (hd : aM dvs ds) (hx : kD CX X E)
    (I : aB X pins σ H s) (r : aM vs us) (h : sp (vs ++ dvs) H Q E) : wpAny (model X.prog X.w) X.A (call (.ref f) us) (EP X pins σ Q) X.xe s := by
  have r2 : aM (vs ++ dvs) (us ++ ds) := r.append hd
  have hl : (us ++ ds).length = ps.length := by rw [← r2.length]; exact F.len _ _ _ _ h
  refine wpAny_call (codeAny_mono (F.run X.A X.stack s H ⟨us, []⟩ (us ++ ds) (vs ++ dvs) Q E hr I.env0 (hb s us I.kIn hl) r2 h) fun r s' hq => ?_)
  cases r with
  | error e => exact hx pins σ H s e s' I hq
  | ok fl =>
    cases fl with
    | ret u => exact I.after hq
    | next => exact False.elim hq
    | brk => exact False.elim hq
    | cont => exact False.elim hq
theorem zI (F : m5 X.prog X.w X.K X.mg X.base CX k f fd ps sp) (hr : b6 k X.A) (hg : Gl X x) (hm : X.mg x = some (.ref f)) (hk : PySem.W.keepIn X.K (.ref f) = true) (hb : gg X.K fd ps ds) (hd : aM dvs ds) (hx : kD CX X E)
    (ha : PA X (e :: es) t) (hdb : (x == ("__debug__" : Str)) = false := by decide) (he : starEach (e :: es) X.env = (false, eval e X.env) :: starEach es X.env := by rfl) (hpl : (backTo pos (starEach es X.env)).any (·.1) = false := by rfl) :
    PE X (.Call (.Name x p) (e :: es) [] pos) (sJ sp dvs E t) := by
  intro pins s σ H Q I h
  refine wpAny_Call_Name_kw (mD I hg hm ?_ hdb)
  refine PySem.W.callWith_K (h₀ := X.base) I.ok.mod.kin hk (ez (ha pos pins s σ H _ I h) fun us s1 ⟨vs, H1, I1, r, q⟩ => ⟨I1.kIn, ?_⟩) he hpl
  exact rp F hr hb hd hx I1 r q
theorem zF {pl : Sem Bool} (he : PE X o ta) (c : pj X.K C) (hm : Er X.K C m f) (F : m5 X.prog X.w X.K X.mg X.base CX k f fd ps sp) (hr : b6 k X.A) (hb : gg X.K fd ps ds) (hd : aM dvs ds) (hx : kD CX X E) (ha : PA X (e :: es) t)
    (hst : starEach (e :: es) X.env = (false, eval e X.env) :: starEach es X.env := by rfl) (hpl : (backTo pos (starEach es X.env)).any (·.1) = false := by rfl)
    (ht : eval (.Call (.Attribute o m apos) (e :: es) [] pos) X.env = (do
      let ov ← eval o X.env
      standAt apos.atName
      let (f, first) ← holding [ov] (getMethod ov m pl)
      callWith pos f first (backTo pos (starEach (e :: es) X.env)) (backToKw pos (keywordEach [] X.env))) := by rfl) :
    PE X (.Call (.Attribute o m apos) (e :: es) [] pos) (Dm C m sp dvs E ta t) := by
  intro pins s σ H Q I h
  refine PySem.W.methodCall_KW (pl := pl) (ez (he pins s σ H _ I h) fun u s1 ⟨x, H1, I1, rx, a, dx, fs, ex, ea, l, q⟩ => ?_) ht
  subst ex
  obtain rfl : u = Value.ref a := rx
  refine m4 I1 ea c hm l ?_
  refine PySem.W.callWith_K (first := [.ref a]) (h₀ := X.base) I.ok.mod.kin hm.kp (ez (ha pos pins s1 σ H1 _ I1 q) fun us s2 ⟨vs, H2, I2, r, q2⟩ => ⟨I2.kIn, ?_⟩) hst hpl
  exact rp (us := .ref a :: us) (vs := .ref a :: vs) F hr hb hd hx I2 (.cons rfl r) q2
structure Mk (K : PySem.W.Frag) (C f : Addr) : Prop where
  makes : PySem.W.makesIn K C = true
  init : PySem.W.findIn K (.ref C) "__init__" = some (some (.ref f))
  fn : PySem.W.isFn K (.ref f) = true
  kp : PySem.W.keepIn K (.ref C) = true
theorem xw {pins : List (Addr × Obj)} {σ : St} {H : Hp} {s : Shared} {Q : VK} {us : List Value} {vs : List V} (M : Mk X.K C f) (F : m5 X.prog X.w X.K X.mg X.base CX k f fd ps sp) (hr : b6 (k + 1) X.A) (hb : gg X.K fd ps ds) (hd : aM dvs ds)
    (hx : kD CX X E) (I : aB X pins σ H s) (r : aM vs us)
    (h : ∀ x dx, H x = none → H dx = none → dx ≠ x → sp (.ref x :: (vs ++ dvs)) (upd (upd H dx (.own x)) x (.ins C dx [])) (fun v H2 => v = .non ∧ Q (.ref x) H2) E) :
    wpAny (model X.prog X.w) X.A (call (.ref C) us) (EP X pins σ Q) X.xe s := by
  have hq := h (s.heap.objs.size + 1) s.heap.objs.size (I.hok.fresh (Nat.le_succ _)) (I.hok.fresh (Nat.le_refl _)) (Nat.ne_of_lt (Nat.lt_succ_self _))
  have I2 := aB.made (C := C) I
  have r2 : aM (V.ref (s.heap.objs.size + 1) :: (vs ++ dvs)) (Value.ref (s.heap.objs.size + 1) :: (us ++ ds)) := .cons rfl (r.append hd)
  have hl : (Value.ref (s.heap.objs.size + 1) :: us ++ ds).length = ps.length := by
    have e := r2.length
    rw [F.len _ _ _ _ hq] at e
    exact e.symm
  refine wpAny_call (yf (f := f) I.kIn M.makes M.init (beq_iff_eq.mp M.fn) (codeAny_mono (F.run _ X.stack _ _ ⟨Value.ref (s.heap.objs.size + 1) :: us, []⟩ (Value.ref (s.heap.objs.size + 1) :: (us ++ ds)) _ _ E (hr.make C us [])
    (I2.env0.make C us []) (hb _ (Value.ref (s.heap.objs.size + 1) :: us) I2.kIn hl) r2 hq) fun r s' hq' => ?_))
  cases r with
  | error e => exact hx pins σ _ _ e s' I2 hq'
  | ok fl =>
    cases fl with
    | ret u =>
      obtain ⟨v, H', I3, rv, ev, q3⟩ := I2.after hq'
      subst ev
      exact ⟨rv, ⟨V.ref (s.heap.objs.size + 1), H', I3, rfl, q3⟩⟩
    | next => exact False.elim hq'
    | brk => exact False.elim hq'
    | cont => exact False.elim hq'
theorem vg (M : Mk X.K C f) (F : m5 X.prog X.w X.K X.mg X.base CX k f fd ps sp) (hr : b6 (k + 1) X.A) (hg : Gl X x) (hm : X.mg x = some (.ref C)) (hb : gg X.K fd ps ds) (hd : aM dvs ds) (hx : kD CX X E)
    (ha : PA X (e :: es) t) (hdb : (x == ("__debug__" : Str)) = false := by decide) (he : starEach (e :: es) X.env = (false, eval e X.env) :: starEach es X.env := by rfl) (hpl : (backTo pos (starEach es X.env)).any (·.1) = false := by rfl) :
    PE X (.Call (.Name x p) (e :: es) [] pos) (AD C sp dvs E t) := by
  intro pins s σ H Q I h
  refine wpAny_Call_Name_kw (mD I hg hm ?_ hdb)
  refine PySem.W.callWith_K (h₀ := X.base) I.ok.mod.kin M.kp (ez (ha pos pins s σ H _ I h) fun us s1 ⟨vs, H1, I1, r, q⟩ => ⟨I1.kIn, ?_⟩) he hpl
  exact xw M F hr hb hd hx I1 r q
end
section
variable {X : Cx} {CX : tV} {k : Nat} {f C : Addr} {fd : FuncData} {ps ks : List Str} {sp : Sp} {E : XK} {x m : Str} {p pos apos kpos : Pos} {e o : Expr} {es : List Expr} {kws : List Keyword} {te ta : TE} {t tk : TA} {nm : Option Str}
structure FG (K : PySem.W.Frag) (fd : FuncData) (ps ks : List Str) (g : List Value → List Value → List Value) (gV : List V → List V → List V) : Prop where
  to : ∀ (s : Shared) (us ws : List Value), K.In s.heap → (g us ws).length = ps.length → BindsTo s fd ⟨us, ks.zip ws⟩ (ps.zip (g us ws))
  rel : ∀ {vs : List V} {us : List Value} {zs : List V} {ws : List Value}, aM vs us → aM zs ws → aM (gV vs zs) (g us ws)
variable {g : List Value → List Value → List Value} {gV : List V → List V → List V}
end
structure aD (N P : List Str) (sc : Scope) : Prop where
  kind : sc.kind = .function
  co : sc.isCoroutine = false
  gen : sc.isGenerator = false
  nd : N.Nodup
  pre : N.take P.length = P
  par : ∀ x ∈ P, sc.names.lookup x = some .local ∨ sc.names.lookup x = some .cell
  nofree : ∀ y ∈ sc.names, y.2 ≠ .free
theorem qP {kindOf : Str → Option NameKind} {x : Str} : ∀ {binds : List (Str × Value)} {m : Str → Option Value}, (∀ v, (x, v) ∉ binds) → bindL kindOf binds m x = m x
  | [], _, _ => rfl
  | (n, v) :: r, m, h => by
    unfold bindL
    rw [qP fun w hw => h w (List.mem_cons_of_mem _ hw)]
    split
    · have : x ≠ n := by rintro rfl; exact h v List.mem_cons_self
      simp [this]
    · rfl
theorem qQ {kindOf : Str → Option NameKind} {x : Str} : ∀ {binds : List (Str × Value)} {m : Str → Option Value}, (∀ v, (x, v) ∉ binds) → bindC kindOf binds m x = m x
  | [], _, _ => rfl
  | (n, v) :: r, m, h => by
    unfold bindC
    rw [qQ fun w hw => h w (List.mem_cons_of_mem _ hw)]
    split
    · rfl
    · have : x ≠ n := by rintro rfl; exact h v List.mem_cons_self
      simp [this]
theorem oi {kindOf : Str → Option NameKind} {x : Str} {v : Value} : ∀ {P : List Str} {vs : List Value} {i : Nat} {m : Str → Option Value}, P.Nodup → P[i]? = some x → vs[i]? = some v → kindOf x = some .local →
    bindL kindOf (P.zip vs) m x = some v
  | [], _, _, _, _, h, _, _ => by simp at h
  | _ :: _, [], _, _, _, _, h, _ => by simp at h
  | p :: P, w :: vs, 0, m, nd, h1, h2, hk => by
    simp at h1 h2; subst h1; subst h2
    show bindL kindOf ((p, w) :: P.zip vs) m p = _
    unfold bindL
    rw [qP fun v hv => (List.nodup_cons.mp nd).1 (List.of_mem_zip hv).1, if_pos hk]
    simp
  | p :: P, w :: vs, i + 1, m, nd, h1, h2, hk => by
    show bindL kindOf ((p, w) :: P.zip vs) m x = _
    unfold bindL
    exact oi (i := i) (List.nodup_cons.mp nd).2 (by simpa using h1) (by simpa using h2) hk
theorem oj {kindOf : Str → Option NameKind} {x : Str} {v : Value} : ∀ {P : List Str} {vs : List Value} {i : Nat} {m : Str → Option Value}, P.Nodup → P[i]? = some x → vs[i]? = some v → kindOf x ≠ some .local →
    bindC kindOf (P.zip vs) m x = some v
  | [], _, _, _, _, h, _, _ => by simp at h
  | _ :: _, [], _, _, _, _, h, _ => by simp at h
  | p :: P, w :: vs, 0, m, nd, h1, h2, hk => by
    simp at h1 h2; subst h1; subst h2
    show bindC kindOf ((p, w) :: P.zip vs) m p = _
    unfold bindC
    rw [qQ fun v hv => (List.nodup_cons.mp nd).1 (List.of_mem_zip hv).1, if_neg hk]
    simp
  | p :: P, w :: vs, i + 1, m, nd, h1, h2, hk => by
    show bindC kindOf ((p, w) :: P.zip vs) m x = _
    unfold bindC
    exact oj (i := i) (List.nodup_cons.mp nd).2 (by simpa using h1) (by simpa using h2) hk
def aH (N : List Str) (vs : List V) : St := vs.map some ++ List.replicate (N.length - vs.length) none
def oh (CX : tV) (P : Program) (w : World) (K : PySem.W.Frag) (mg : Str → Option Value) (base : Heap) (N : List Str) (qual : Str) (scope : Scope) (f : Addr) (cd : Value) (A : Around) (outer : List Env) (s : Shared) (H : Hp) (E : XK) : Cx where
  prog := P
  w := w
  K := K
  mg := mg
  base := base
  A := A.deeper (envOfC qual scope s.heap.objs.size f cd)
  N := N
  s₀ := s
  H₀ := H
  env := envOfC qual scope s.heap.objs.size f cd
  outer := outer
  stack := envOfC qual scope s.heap.objs.size f cd :: outer
  ex := []
  calm := true
  fn := fun _ => true
  pn := []
  xe := fun e s' => wpAny (model P w) (A.deeper (envOfC qual scope s.heap.objs.size f cd)) (leaving (envOfC qual scope s.heap.objs.size f cd) e) (fun _ s'' => CX outer H s E e s'') (fun e' s'' => CX outer H s E e' s'') s'
theorem nL {sc : Scope} {n : Nat} {x : Str} (h : sc.names.lookup x = some .cell) : ∃ c, (cellsFrom n sc.names []).lookup x = some c := by
  have q := PySem.W.cellsFrom_some sc.names n [] (.inl h)
  exact Option.isSome_iff_exists.mp q
theorem wB {CX : tV} {P : Program} {w : World} {K : PySem.W.Frag} {mg : Str → Option Value} {base : Heap} {N ps : List Str} {qual : Str} {scope : Scope} {f : Addr} {cd : Value} {A : Around} {outer : List Env} {s s1 : Shared} {H : Hp} {E : XK} {us : List Value} {vs : List V}
    (S : aD N ps scope) (hd : A.handled = none) (e0 : o2 P w K mg base A outer s H) (hl : vs.length = ps.length) (r : aM vs us)
    (x : InCallC s s.heap.objs.size (bindL (envOfC qual scope s.heap.objs.size f cd).kindOf (ps.zip us) fun _ => none) (cellsFrom (s.heap.objs.size + 1) scope.names []) (bindC (envOfC qual scope s.heap.objs.size f cd).kindOf (ps.zip us) fun _ => none) s1) :
    aB (oh CX P w K mg base N qual scope f cd A outer s H E) [] (aH N vs) H s1 := by
  have hpl : ps.length ≤ N.length := by have := congrArg List.length S.pre; rw [List.length_take] at this; omega
  obtain ⟨h1, tk, rfl, hk⟩ := x.done
  have noA : ∀ b : Addr, b ∉ (oh CX P w K mg base N qual scope f cd A outer s H E).ex := fun b z => absurd (show b ∈ ([] : List Addr) from z) (by simp)
  refine ⟨⟨e0.mod, S.kind, rfl, rfl, Nat.le_refl _, fun y z c h1 h2 => ?_, fun y hy => ?_, fun y c _ h => ?_, fun _ => hd, Around.frames_deeper e0.frames, .inr ⟨rfl, rfl⟩, fun b z => absurd z (noA b), e0.bs, e0.bsz, fun b _ _ => noA b, fun b z => absurd z (noA b), e0.funs, e0.frf⟩,
    rfl, e0.bare, Un.kept hk, ⟨_, x.toInCall.ns, fun i y v h1 h2 h3 => ?_⟩, fun y c h => ⟨_, x.cell y c h⟩, e0.hok.fresh (Nat.le_refl _), fun y c h => ?_, fun p hp => absurd (show p ∈ ([] : List (Addr × Obj)) from hp) (by simp), e0.hok.kept hk, ?_⟩
  · exact name_of_addr x.apart (PySem.mem_of_lookup h1) (PySem.mem_of_lookup h2)
  · have hy : scope.names.lookup y = some .cell ∨ scope.names.lookup y = some .free := hy
    rcases hy with hy | hy
    · exact nL hy
    · exact absurd rfl (S.nofree _ (PySem.mem_of_lookup hy))
  · exact Nat.le_of_lt (x.above y c (PySem.mem_of_lookup h))
  · have hi : i < vs.length := by
      unfold aH at h2
      by_cases hi : i < vs.length
      · exact hi
      · rw [List.getElem?_append_right (by simpa using hi)] at h2
        rw [List.getElem?_replicate] at h2
        split at h2 <;> cases h2
    have ha : vs[i]? = some v := by
      unfold aH at h2
      rw [List.getElem?_append_left (by simpa using hi), List.getElem?_map] at h2
      cases e : vs[i]? with
      | none => rw [e] at h2; cases h2
      | some a => rw [e] at h2; cases h2; rfl
    obtain ⟨u, hu, rv⟩ := r.get ha
    have hp : ps[i]? = some y := by
      rw [← S.pre, List.getElem?_take_of_lt (by omega)]; exact h1
    have ndP : ps.Nodup := by rw [← S.pre]; exact S.nd.sublist (List.take_sublist _ _)
    refine ⟨u, rv, ?_⟩
    rcases S.par y (List.mem_of_getElem? hp) with k | k
    · exact .inl ⟨k, oi ndP hp hu k⟩
    · obtain ⟨c, e⟩ := nL (n := s.heap.objs.size + 1) k
      refine .inr ⟨.inl k, c, e, ?_⟩
      have q := x.cell y c e
      rw [oj ndP hp hu (by show scope.names.lookup y ≠ _; rw [k]; decide)] at q
      exact q
  · exact e0.hok.fresh (Nat.le_of_lt (x.above y c (PySem.mem_of_lookup h)))
  · unfold aH
    show _ = N.length
    rw [List.length_append, List.length_map, List.length_replicate]
    omega
theorem yw {CX : tV} {P : Program} {w : World} {K : PySem.W.Frag} {mg : Str → Option Value} {base : Heap} {k : Nat} {f : Addr} {name qual : Str} {params : Arguments} {body : List Stmt} {scope : Scope} {dV kV doc pm cdv ct oc : Value} {an od : Option Addr}
    {osl : Array (Option Value)} {N ps : List Str} {sp : Sp} (lk : K.lookup f = some ⟨oc, od, .func (PySem.W.fnOf name qual params body scope dV kV doc pm an cdv ct), osl⟩) (hcd : PySem.W.codeIn K cdv qual = true) (S : aD N ps scope)
    (len : ∀ vs H Q E, sp vs H Q E → vs.length = ps.length)
    (hbody : ∀ (A : Around) (outer : List Env) (s : Shared) (H : Hp) (vs : List V) (Q : VK) (E : XK), b6 k (A.deeper (envOfC qual scope s.heap.objs.size f cdv)) → sp vs H Q E →
      ∃ t, oI (oh CX P w K mg base N qual scope f cdv A outer s H E) body t ∧ t { nx := fun _ H' => Q .non H', rt := Q } (aH N vs) H) :
    m5 P w K mg base CX (k + 1) f (PySem.W.fnOf name qual params body scope dV kV doc pm an cdv ct) ps sp := by
  refine ⟨len, fun A outer s H args us vs Q E hr e0 hb r hsp => ?_⟩
  have hl := len _ _ _ _ hsp
  have KX : K.In s.heap := e0.mod.kin.keeps fun b o e => (e0.bs b o e).1
  have lim : s.heap.NoLimit := e0.mod.nolimit.keeps fun b o e => (e0.bs b o e).1
  have hkind : ∀ y ∈ ps.zip us, scope.names.lookup y.1 = some .local ∨ (scope.names.lookup y.1 = some .cell ∧ ((cellsFrom (s.heap.objs.size + 1) scope.names []).lookup y.1).isSome = true) := fun ⟨n, v⟩ hy => by
    rcases S.par n (List.of_mem_zip hy).1 with q | q
    · exact .inl q
    · exact .inr ⟨q, PySem.W.cellsFrom_some _ _ _ (.inl q)⟩
  refine codeAny_call_function hr.depth (KX _ _ lk) rfl S.co S.gen rfl (PySem.W.codeRec_of KX hcd) (hb _ _ _ _ ?_)
  refine wpAny_newFunctionEnv_cells S.kind hkind fun env he s1 x => ?_
  subst he
  refine ⟨lim.keeps x.toInCall.keep, codeAny_func ?_⟩
  obtain ⟨t, ht, hq⟩ := hbody A outer s H vs Q E (hr.deeper _) hsp
  have I : aB (oh CX P w K mg base N qual scope f cdv A outer s H E) [] (aH N vs) H s1 := wB S hr.hd e0 hl r x
  refine wpAny_mono (ht [] s1 (aH N vs) H _ I hq) (fun fl s' hs => ?_) fun e s' hs => hs
  have fin : ∀ {σ' : St} {H' : Hp} {v : V} {u : Value}, aB (oh CX P w K mg base N qual scope f cdv A outer s H E) [] σ' H' s' → bJ v u → Q v H' → CE outer P w H s Q u s' :=
    fun {σ' H' v u} J rv q => ⟨v, H', J.os, J.bare, J.base, J.hok, rv, q⟩
  cases fl with
  | ret u =>
    obtain ⟨v, σ', H', J, rv, q⟩ := hs
    exact fin J rv q
  | next =>
    obtain ⟨σ', H', J, q⟩ := hs
    exact fin (v := V.non) (u := Value.none) J rfl q
  | brk =>
    obtain ⟨_, _, _, q⟩ := hs
    exact False.elim q
  | cont =>
    obtain ⟨_, _, _, q⟩ := hs
    exact False.elim q
end L2
namespace L2
open PySem PySem.Spec PyProof.Rows
section
variable {X : Cx} {x : Str} {p pos : Pos} {e : Expr} {es : List Expr} {t : TA} {id T : String} {r : List V → Hp → VK → Prop}
def Fb (r : List V → Hp → VK → Prop) (t : TA) : TE := fun σ H Q => t σ H fun vs H1 => r vs H1 Q
theorem xV (hc : mT X (.builtin id) r) (hg : Gl X x) (hm : X.mg x = none) (hv : bootBuiltins x = some (.builtin id)) (ha : PA X (e :: es) t) (hn : x ≠ "__name__" := by decide) (hdb : (x == ("__debug__" : Str)) = false := by decide)
    (he : starEach (e :: es) X.env = (false, eval e X.env) :: starEach es X.env := by rfl) (hpl : (backTo pos (starEach es X.env)).any (·.1) = false := by rfl) : PE X (.Call (.Name x p) (e :: es) [] pos) (Fb r t) := by
  intro pins s σ H Q I h
  refine wpAny_Call_Name_kw (pW I hg hm hv ?_ hn hdb)
  exact PyProof.Rows.callWith_builtin1 (ez (ha pos pins s σ H _ I h) fun us s1 ⟨vs, H1, I1, r1, q1⟩ => hc pins s1 σ H1 vs us Q I1 r1 q1) he hpl
theorem v7 (hc : mT X (.type T) r) (hg : Gl X x) (hm : X.mg x = none) (hv : bootBuiltins x = some (.type T)) (ha : PA X (e :: es) t) (hn : x ≠ "__name__" := by decide) (hdb : (x == ("__debug__" : Str)) = false := by decide)
    (he : starEach (e :: es) X.env = (false, eval e X.env) :: starEach es X.env := by rfl) (hpl : (backTo pos (starEach es X.env)).any (·.1) = false := by rfl) : PE X (.Call (.Name x p) (e :: es) [] pos) (Fb r t) := by
  intro pins s σ H Q I h
  refine wpAny_Call_Name_kw (pW I hg hm hv ?_ hn hdb)
  exact PyProof.Rows.callWith_type1 (ez (ha pos pins s σ H _ I h) fun us s1 ⟨vs, H1, I1, r1, q1⟩ => hc pins s1 σ H1 vs us Q I1 r1 q1) he hpl
end
end L2
namespace HT
open PySem PyProof.Rows
section
open PySem.SeqAt
open PySem.AutoSeq1 (wpAny_loadPart')
open PySem.MeetsSeq PySem.MeetsSeq2 PySem.MeetsSeq3
end
section
variable {prog : Program} {w : World} {A : Around} {E : Value → Shared → Prop} {s : Shared}
theorem cat_tup {t b : Addr} {vs ws : List Value} {Q : Value → Shared → Prop} (ht : IsTup s.heap t vs.toArray) (hb : IsTup s.heap b ws.toArray) (hv : vs ≠ [])
    (h1 : ws = [] → Q (.ref t) s) (h2 : ws ≠ [] → Q (.ref s.heap.objs.size) { s with heap := s.heap.push { cls := .type "tuple", data := .seq (vs ++ ws).toArray } })
    (hsz : vs.length + ws.length ≤ sizeLine) : wpAny (model prog w) A (binaryOp .Add (.ref t) (.ref b)) Q E s := by
  obtain ⟨⟨cls, dd, data, sl⟩, ho, hc, n, hd⟩ := id ht
  obtain ⟨⟨cls2, dd2, data2, sl2⟩, ho2, hc2, n2, hd2⟩ := id hb
  simp only at hc hd hc2 hd2
  subst hc hd hc2 hd2
  have e : vs.toArray ++ ws.toArray = (vs ++ ws).toArray := by simp
  by_cases hw : ws = []
  · exact concat_meets ⟨_, ho, rfl⟩ ⟨_, ho2, rfl⟩ noFill_tuple_add seq_tuple_add PySem.F.slot_tuple_add PySem.F.entry_tuple_add (PySem.F.args_tuple_add_2 _ _)
      (tuple_addW1 t b vs.toArray ws.toArray n n2 dd dd2 sl sl2 (by simpa using hv) (by simp [hw])) ⟨ho, ho2, h1 hw⟩
  · refine concat_meets ⟨_, ho, rfl⟩ ⟨_, ho2, rfl⟩ noFill_tuple_add seq_tuple_add PySem.F.slot_tuple_add PySem.F.entry_tuple_add (PySem.F.args_tuple_add_2 _ _)
      (tuple_addW2 t b vs.toArray ws.toArray n n2 dd dd2 sl sl2 (by simpa using hv) (by simpa using hw) (by rw [List.size_toArray, List.size_toArray]; exact hsz)) ⟨ho, ho2, ?_⟩
    rw [e]
    exact h2 hw
def sIx (n d : Nat) : Option Int → Nat
  | none => d
  | some v => if v < 0 then (v + (n : Int)).toNat else min v.toNat n
theorem Bn (n d : Nat) (hd : d ≤ n) (o : Option Int) : sIx n d o ≤ n := by
  cases o with
  | none => exact hd
  | some v =>
    show (if v < 0 then (v + (n : Int)).toNat else min v.toNat n) ≤ n
    by_cases hv : v < 0
    · rw [if_pos hv]; omega
    · rw [if_neg hv]; exact Nat.min_le_right _ _
theorem vH (v : Int) (n d : Nat) : (if v < 0 then max (v + (n : Int)) 0 else min v (n : Int)) = ((sIx n d (some v) : Nat) : Int) := by
  show (if v < 0 then max (v + (n : Int)) 0 else min v (n : Int)) = (((if v < 0 then (v + (n : Int)).toNat else min v.toNat n) : Nat) : Int)
  by_cases hv : v < 0
  · simp only [if_pos hv]; omega
  · simp only [if_neg hv]; omega
theorem uI (lo hi : Option Int) (n : Nat) : Builtin.Slice.sliceAdjust lo hi 1 (n : Int) = (((sIx n 0 lo : Nat) : Int), ((sIx n n hi : Nat) : Int)) := by
  have h1 : ¬ ((1 : Int) < 0) := by omega
  unfold Builtin.Slice.sliceAdjust
  simp only [h1, if_false]
  refine Prod.ext ?_ ?_
  · cases lo with
    | none => rfl
    | some v => exact vH v n 0
  · cases hi with
    | none => rfl
    | some v => exact vH v n n
theorem ug (i j : Nat) : Builtin.Slice.slicePlaces (i : Int) (j : Int) 1 = j - i := by
  unfold Builtin.Slice.slicePlaces
  have h1 : (1 : Int) > 0 := by omega
  simp only [h1, if_true, Int.ediv_one]
  split <;> omega
theorem pw {v : Value} {o : Option Int} {Q : Option Int → Shared → Prop} (p : IsPart v o) (h : Q o s) : wpAny (model prog w) A (Builtin.Slice.slicePartIndex v) Q E s := by
  cases p with
  | none => exact slicePart_none h
  | int i t => exact slicePart_int h
theorem nR {sl : Addr} {vl vu : Value} {lo hi : Option Int} {n : Nat} {Q : Int × Int × Nat → Shared → Prop} (hs : s.heap.IsSliceOf sl vl vu .none) (pl : IsPart vl lo) (pu : IsPart vu hi)
    (h : Q (((sIx n 0 lo : Nat) : Int), 1, sIx n n hi - sIx n 0 lo) s) : wpAny (model prog w) A (Builtin.Slice.sliceApplied (.ref sl) (pure (n : Int))) Q E s := by
  obtain ⟨os, hos, hcs, hds⟩ := id hs
  unfold Builtin.Slice.sliceApplied Builtin.Slice.sliceFields
  refine wpAny_bind (wpAny_bind (wpAny_field hos hds (x := vl) rfl (wpAny_bind (wpAny_field hos hds (x := vu) rfl (wpAny_bind (wpAny_field hos hds (x := .none) rfl (wpAny_pure ?_)))))))
  refine wpAny_bind (slicePart_none ?_)
  show wpAny _ _ (if ((1 : Int) == 0) = true then _ else _) _ _ s
  rw [if_neg (by decide)]
  refine wpAny_bind (pw pl (wpAny_bind (pw pu (wpAny_bind (wpAny_pure ?_)))))
  show wpAny _ _ (match Builtin.Slice.sliceAdjust lo hi 1 (n : Int) with | (lo, hi) => pure (lo, (1 : Int), Builtin.Slice.slicePlaces lo hi 1)) _ _ s
  rw [uI lo hi n]
  show wpAny _ _ (pure (((sIx n 0 lo : Nat) : Int), (1 : Int), Builtin.Slice.slicePlaces ((sIx n 0 lo : Nat) : Int) ((sIx n n hi : Nat) : Int) 1)) _ _ s
  rw [ug]
  exact wpAny_pure h
theorem xP (xs : Array Value) (i k : Nat) : ((List.range k).filterMap fun (m : Nat) => xs[((i : Int) + (m : Int) * 1).toNat]?).toArray = ((xs.toList.drop i).take k).toArray := by
  have e : (fun (m : Nat) => xs[((i : Int) + (m : Int) * 1).toNat]?) = fun m => xs[i + m]? := by
    funext m
    have : ((i : Int) + (m : Int) * 1).toNat = i + m := by omega
    rw [this]
  rw [e]
  have := pick_run xs i k
  rw [List.filterMap_map] at this
  have e2 : ((fun x => xs[x]?) ∘ fun x => i + x) = fun m => xs[i + m]? := rfl
  rw [e2] at this
  rw [this]
theorem getItem_tuple_cut {t sl : Addr} {items : Array Value} {vl vu : Value} {lo hi : Option Int} {Q : Value → Shared → Prop} (ht : IsTup s.heap t items) (hs : s.heap.IsSliceOf sl vl vu .none) (pl : IsPart vl lo) (pu : IsPart vu hi)
    (hw : ¬ (sIx items.size 0 lo = 0 ∧ sIx items.size items.size hi = items.size))
    (h : Q (.ref s.heap.objs.size) { s with heap := s.heap.push { cls := .type "tuple", data := .seq ((items.toList.drop (sIx items.size 0 lo)).take (sIx items.size items.size hi - sIx items.size 0 lo)).toArray } })
    (hsz : items.size ≤ sizeLine) : wpAny (model prog w) A (getItem (.ref t) (.ref sl)) Q E s := by
  have htake : sizeOk (.seq ((items.toList.drop (sIx items.size 0 lo)).take (sIx items.size items.size hi - sIx items.size 0 lo)).toArray) := by
    show ((items.toList.drop (sIx items.size 0 lo)).take (sIx items.size items.size hi - sIx items.size 0 lo)).toArray.size ≤ sizeLine
    rw [List.size_toArray, List.length_take, List.length_drop, Array.length_toList]
    omega
  have hj : sIx items.size items.size hi ≤ items.size := Bn _ _ (Nat.le_refl _) hi
  obtain ⟨os, hos, hcs, hds⟩ := id hs
  have hTs : s.TypeIs (.ref sl) "slice" := ⟨os, hos, hcs⟩
  unfold getItem
  try with_reducible refine wpAny_holding ?_
  first | refine wpAny_bind (wpAny_pure ?_) | skip
  refine wpAny_bind (wpAny_sequenceKey ht.typeIs (by decide) ?_)
  refine wpAny_bind (wpAny_callSpecial?_slot (name := Str.ofString "__getitem__") ht.typeIs PyProof.Rows.slot_tuple_getitem
    (wpAny_call_entry PyProof.Rows.slot_tuple_getitem ht.typeIs entry_tuple_getitem ?_ (args_tuple_getitem _ _)))
  show wpAny _ _ (Builtin.Tuple.tupleItemsOf (.ref t) >>= _) _ _ s
  refine wpAny_bind (tupleItemsOf_ ht ?_)
  refine wpAny_bind (wpAny_typeOf hTs ?_)
  rw [if_pos (by decide)]
  refine wpAny_bind (nR hs pl pu ?_)
  have hno : ¬ ((((sIx items.size 0 lo : Nat) : Int) == 0 && (1 : Int) == 1 && (sIx items.size items.size hi - sIx items.size 0 lo) == items.size) = true) := by
    intro q
    rw [Bool.and_eq_true, Bool.and_eq_true] at q
    have q1 : ((sIx items.size 0 lo : Nat) : Int) = 0 := eq_of_beq q.1.1
    have q2 : sIx items.size items.size hi - sIx items.size 0 lo = items.size := eq_of_beq q.2
    exact hw ⟨by omega, by omega⟩
  show wpAny _ _ (if (((sIx items.size 0 lo : Nat) : Int) == 0 && (1 : Int) == 1 && (sIx items.size items.size hi - sIx items.size 0 lo) == items.size) = true then _ else _) _ _ s
  rw [if_neg hno, xP]
  first
    | exact wpAny_bind (m := Builtin.Tuple.tupleExact _) (wpAny_newObj_type (wpAny_pure ⟨_, rfl, wpAny_pure h⟩) htake)
    | exact wpAny_bind (m := Builtin.Tuple.tupleExact _) (wpAny_newObj_type (wpAny_bind (wpAny_pure (wpAny_pure ⟨_, rfl, wpAny_pure h⟩))) htake)
    | exact wpAny_bind (wpAny_bind (m := Builtin.Tuple.tupleExact _) (wpAny_newObj_type (wpAny_pure (wpAny_pure ⟨_, rfl, wpAny_pure h⟩)) htake))
    | exact wpAny_bind (wpAny_bind (m := Builtin.Tuple.tupleExact _) (wpAny_newObj_type (wpAny_pure ⟨_, rfl, wpAny_pure h⟩) htake))
end
end HT
namespace L2
open PySem PySem.Spec PyProof.Rows
abbrev TO := St → Hp → (Option Int → Hp → Prop) → Prop
def PO (X : Cx) (e : Option Expr) (t : TO) : Prop :=
  ∀ (pins : List (Addr × Obj)) (s : Shared) (σ : St) (H : Hp) (Q : Option Int → Hp → Prop), aB X pins σ H s → t σ H Q →
    wpAny (model X.prog X.w) X.A (evalPart e X.env) (fun u s' => ∃ o H', aB X pins σ H' s' ∧ IsPart u o ∧ Q o H') X.xe s
def Df (t : TE) : TO := fun σ H Q => t σ H fun x H1 => ∃ i, x = .int i ∧ Q (some i) H1
section
variable {X : Cx} {e : Expr} {te : TE} {lo hi : Option Expr} {tl th : TO} {pos p2 : Pos}
theorem zC (h : PE X e te) : PO X (some e) (Df te) := by
  intro pins s σ H Q I hw
  rw [evalPart_some]
  refine ez (h pins s σ H _ I hw) fun u s1 ⟨x, H1, I1, r1, q1⟩ => ?_
  obtain ⟨i, rfl, q⟩ := q1
  obtain ⟨t, rfl⟩ := r1
  exact ⟨some i, H1, I1, .int i t, q⟩
def A6 (X : Cx) (r : V → Option Int → Option Int → Hp → VK → Prop) : Prop :=
  ∀ (pins : List (Addr × Obj)) (s : Shared) (σ : St) (H : Hp) (x : V) (v vl vu : Value) (lo hi : Option Int) (sl : Addr) (Q : VK), aB X pins σ H s → bJ x v → s.heap.IsSliceOf sl vl vu .none → IsPart vl lo → IsPart vu hi → r x lo hi H Q →
    ∃ T id, typeLookup (.type T) "__getitem__" = pure (some (.builtin id)) ∧ s.TypeIs v T ∧ wpAny (model X.prog X.w) X.A (getItem v (.ref sl)) (EP X pins σ Q) X.xe s
theorem A6.or {r r' : V → Option Int → Option Int → Hp → VK → Prop} (h : A6 X r) (h' : A6 X r') : A6 X (fun x lo hi H Q => r x lo hi H Q ∨ r' x lo hi H Q) := by
  intro pins s σ H x v vl vu lo hi sl Q I rx hs pl pu q
  rcases q with q | q
  · exact h pins s σ H x v vl vu lo hi sl Q I rx hs pl pu q
  · exact h' pins s σ H x v vl vu lo hi sl Q I rx hs pl pu q
def F9 (r : V → Option Int → Option Int → Hp → VK → Prop) (te : TE) (tl th : TO) : TE := fun σ H Q => te σ H fun x H1 => tl σ H1 fun l H2 => th σ H2 fun u H3 => r x l u H3 Q
theorem xQ {r : V → Option Int → Option Int → Hp → VK → Prop} (hr : A6 X r) (he : PE X e te) (hl : PO X lo tl) (hu : PO X hi th) : PE X (.Subscript e (.Slice lo hi none p2) pos) (F9 r te tl th) := by
  intro pins s σ H Q I h
  refine Subscript_ (ez (he pins s σ H _ I h) fun v s1 ⟨x, H1, I1, r1, q1⟩ => ?_)
  refine wpAny_Slice (ez (hl pins s1 σ H1 _ I1 q1) fun vl s2 ⟨l, H2, I2, pl, q2⟩ => ez (hu pins s2 σ H2 _ I2 q2) fun vu s3 ⟨u, H3, I3, pu, q3⟩ => ?_)
  rw [evalPart_none]
  refine wpAny_pure ?_
  have I4 : aB X pins σ H3 { s3 with heap := s3.heap.push { cls := .type "slice", data := .fields #[vl, vu, .none] } } := I3.kept (t' := s3.toks) fun b ob q => Heap.get?_push_of_some _ q
  obtain ⟨T, id, hT, ht, hg⟩ := hr pins { s3 with heap := s3.heap.push { cls := .type "slice", data := .fields #[vl, vu, .none] } } σ H3 x v vl vu l u s3.heap.objs.size Q I4 r1 (Heap.IsSliceOf.new ..) pl pu q3
  show wpAny (model X.prog X.w) X.A (subscriptTail e (.Slice lo hi none p2) v (.ref s3.heap.objs.size)) (EP X pins σ Q) X.xe { s3 with heap := s3.heap.push { cls := .type "slice", data := .fields #[vl, vu, .none] } }
  exact tail_any (ops := [.ref s3.heap.objs.size, v]) ht hT hg (by with_unfolding_all rfl)
def tM (xs : List V) (lo hi : Option Int) : List V := (xs.drop (HT.sIx xs.length 0 lo)).take (HT.sIx xs.length xs.length hi - HT.sIx xs.length 0 lo)
theorem oG (xs : List V) (lo hi : Option Int) : (tM xs lo hi).length ≤ xs.length := by
  unfold tM
  rw [List.length_take, List.length_drop]
  omega
def Du (K : PySem.W.Frag) : V → Option Int → Option Int → Hp → VK → Prop := fun x lo hi H Q => ∃ a xs, x = .ref a ∧ lq K H a xs ∧
  ¬ (HT.sIx xs.length 0 lo = 0 ∧ HT.sIx xs.length xs.length hi = xs.length) ∧ ∀ p, H p = none → Q (.ref p) (upd H p (.tup (tM xs lo hi)))
theorem Bl : A6 X (Du X.K) := by
  intro pins s σ H x v vl vu lo hi sl Q I rx hs pl pu h
  obtain ⟨a, xs, rfl, hx, hw, q⟩ := h
  cases rx
  obtain ⟨its, r, ht, hz⟩ := I.tuple hx
  have hlen : its.toArray.size = xs.length := by rw [List.size_toArray]; exact r.length.symm
  refine ⟨"tuple", _, PyProof.Rows.slot_tuple_getitem.lookup, ht.typeIs, ?_⟩
  refine HT.getItem_tuple_cut ht hs pl pu (by rw [hlen]; exact hw) ?_ (by rw [hlen]; exact hz)
  rw [hlen]
  refine ⟨.ref s.heap.objs.size, _, I.laid (t' := s.toks) (o := .tup (tM xs lo hi)) (fun b ob q => Heap.get?_push_of_some _ q) (Nat.le_refl _) ?_, rfl, q _ (I.hok.fresh (Nat.le_refl _))⟩
  exact ⟨Nat.le_trans (oG xs lo hi) hz, _, (r.drop (HT.sIx xs.length 0 lo)).take (HT.sIx xs.length xs.length hi - HT.sIx xs.length 0 lo), IsTup.new _ _⟩
def AI (K : PySem.W.Frag) : R2 := fun x y H Q => ∃ a b xs ys, x = .ref a ∧ y = .ref b ∧ lq K H a xs ∧ lq K H b ys ∧ xs ≠ [] ∧ xs.length + ys.length ≤ sizeLine ∧
  (ys = [] → Q (.ref a) H) ∧ (ys ≠ [] → ∀ p, H p = none → Q (.ref p) (upd H p (.tup (xs ++ ys))))
theorem aM.nil_iff {xs : List V} {us : List Value} (r : aM xs us) : us = [] ↔ xs = [] := by
  cases r with
  | nil => simp
  | cons _ _ => simp
theorem zP : kY X (binaryOp .Add) (AI X.K) := by
  intro pins s σ H x y v u Q I rx ry h
  obtain ⟨a, b, xs, ys, rfl, rfl, ha, hb, hx, hz, q1, q2⟩ := h
  cases rx
  cases ry
  obtain ⟨its, r1, p1, _⟩ := I.tuple ha
  obtain ⟨its2, r2, p2, _⟩ := I.tuple hb
  refine HT.cat_tup p1 p2 (fun z => hx (r1.nil_iff.mp z)) (fun z => ⟨.ref a, H, I, rfl, q1 (r2.nil_iff.mp z)⟩) (fun z => ?_) (by rw [← r1.length, ← r2.length]; exact hz)
  refine ⟨.ref s.heap.objs.size, _, I.laid (t' := s.toks) (o := .tup (xs ++ ys)) (fun b ob q => Heap.get?_push_of_some _ q) (Nat.le_refl _) ?_, rfl, q2 (fun w => z (r2.nil_iff.mpr w)) _ (I.hok.fresh (Nat.le_refl _))⟩
  exact ⟨by rw [List.length_append]; exact hz, _, r1.append r2, IsTup.new _ _⟩
end
end L2
namespace L2
open PySem PySem.Spec PyProof.Rows
def C3 (n : Nat) (i : Int) : Option Nat := if 0 ≤ i then (if i < n then some i.toNat else none) else if -(n : Int) ≤ i then some (i + n).toNat else none
def CQ {α : Type} (xs : List α) (i : Int) : Option α := (C3 xs.length i).bind fun j => xs[j]?
theorem vp {n : Nat} {i : Int} {j : Nat} (h : C3 n i = some j) : seqIndex? i n = some j ∧ j < n ∧ -(n : Int) ≤ i ∧ i < n := by
  unfold C3 at h
  by_cases h0 : 0 ≤ i
  · rw [if_pos h0] at h
    by_cases h1 : i < n
    · rw [if_pos h1] at h
      have e : i.toNat = j := Option.some.inj h
      exact ⟨by rw [seqIndex_of h0 h1, e], by omega, by omega, h1⟩
    · rw [if_neg h1] at h; cases h
  · rw [if_neg h0] at h
    by_cases h1 : -(n : Int) ≤ i
    · rw [if_pos h1] at h
      have e : (i + n).toNat = j := Option.some.inj h
      exact ⟨by rw [seqIndex_neg (by omega) h1, e], by omega, h1, by omega⟩
    · rw [if_neg h1] at h; cases h
theorem sk {α : Type} {xs : List α} {i : Int} {v : α} (h : CQ xs i = some v) : ∃ j, seqIndex? i xs.length = some j ∧ xs[j]? = some v ∧ j < xs.length ∧ -(xs.length : Int) ≤ i ∧ i < xs.length := by
  unfold CQ at h
  cases e : C3 xs.length i with
  | none => rw [e] at h; cases h
  | some j =>
    rw [e] at h
    obtain ⟨h1, h2, h3, h4⟩ := vp e
    exact ⟨j, h1, h, h2, h3, h4⟩
def su (b : Expr) : Prop := ∀ o i, subscripted b false o i = operate [o, i] (getItem o i)
def yZ (X : Cx) (r : R2) : Prop :=
  ∀ (value slice : Expr) (pins : List (Addr × Obj)) (s : Shared) (σ : St) (H : Hp) (x y : V) (v u : Value) (Q : VK), aB X pins σ H s → bJ x v → bJ y u → r x y H Q →
    subscripted slice false v u = operate [v, u] (getItem v u) → wpAny (model X.prog X.w) X.A (subscriptTail value slice v u) (EP X pins σ Q) X.xe s
def En (X : Cx) (id : String) (r : V → List V → Hp → VK → Prop) : Prop :=
  ∀ (pins : List (Addr × Obj)) (s : Shared) (σ : St) (H : Hp) (x : V) (xs : List V) (v : Value) (us : List Value) (Q : VK), aB X pins σ H s → bJ x v → aM xs us → r x xs H Q →
    wpAny (model X.prog X.w) X.A (call (.builtin id) (v :: us)) (EP X pins σ Q) X.xe s
section
variable {X : Cx} {a b : Expr} {ta tb : TE} {pos : Pos}
theorem yZ.or {r r' : R2} (h : yZ X r) (h' : yZ X r') : yZ X (fun x y H Q => r x y H Q ∨ r' x y H Q) := by
  intro value slice pins s σ H x y v u Q I rx ry q hs
  rcases q with q | q
  · exact h value slice pins s σ H x y v u Q I rx ry q hs
  · exact h' value slice pins s σ H x y v u Q I rx ry q hs
theorem DQ {r : R2} (hr : yZ X r) (ha : PE X a ta) (hb : PE X b tb) (hs : su b) : PE X (.Subscript a b pos) (Dh r ta tb) := by
  intro pins s σ H Q I h
  exact Subscript_ (CP ha hb I h fun v u s2 x y H2 I2 rx ry q => hr a b pins s2 σ H2 x y v u Q I2 rx ry q (hs _ _))
def DC (K : PySem.W.Frag) : R2 := fun x y H Q => ∃ p xs i v, x = .ref p ∧ y = .int i ∧ ka K H p xs ∧ CQ xs i = some v ∧ Q v H
def Dz (K : PySem.W.Frag) : R2 := fun x y H Q => ∃ p xs i v, x = .ref p ∧ y = .int i ∧ lq K H p xs ∧ CQ xs i = some v ∧ Q v H
def DB : R2 := fun x y H Q => ∃ z i c, x = .str z ∧ y = .int i ∧ z.length ≤ sizeLine ∧ CQ z.cps.toList i = some c ∧ Q (.str ⟨#[c]⟩) H
theorem zX : yZ X (DC X.K) := by
  intro value slice pins s σ H x y v u Q I rx ry h hs
  obtain ⟨p, xs, i, z, rfl, rfl, hq, he, q⟩ := h
  cases rx
  obtain ⟨t, rfl⟩ := ry
  obtain ⟨its, r, pl, hz⟩ := I.list hq
  obtain ⟨j, h1, h2, h3, h4, h5⟩ := sk he
  obtain ⟨w, ew, rw'⟩ := r.get h2
  have hl := r.length
  have hn := nY
  have fin : EP X pins σ Q w s := ⟨z, H, I, rw', q⟩
  by_cases h0 : 0 ≤ i
  · have hj : i.toNat = j := by
      rw [seqIndex_of h0 h5] at h1
      exact Option.some.inj h1
    exact item_listR pl.isList h0 (by omega) (by rw [hj]; simpa using ew) fin hs
  · have hj : (i + (its.toArray.size : Int)).toNat = j := by
      rw [seqIndex_neg (by omega) h4] at h1
      rw [List.size_toArray, ← hl]
      exact Option.some.inj h1
    exact subscriptTail_builtinR (x := w) pl.isList.typeIs slot_list_getitem.lookup
      (wpAny_getItem_list_neg (Q := fun r s' => r = w ∧ EP X pins σ Q r s') pl.isList (by omega) (by rw [List.size_toArray] <;> omega) (by omega) (by rw [hj]; simpa using ew) ⟨rfl, fin⟩) hs
theorem Ct : yZ X (Dz X.K) := by
  intro value slice pins s σ H x y v u Q I rx ry h hs
  obtain ⟨p, xs, i, z, rfl, rfl, hq, he, q⟩ := h
  cases rx
  obtain ⟨t, rfl⟩ := ry
  obtain ⟨its, r, pl, hz⟩ := I.tuple hq
  obtain ⟨j, h1, h2, h3, h4, h5⟩ := sk he
  obtain ⟨w, ew, rw'⟩ := r.get h2
  have hl := r.length
  have hn := nY
  have fin : EP X pins σ Q w s := ⟨z, H, I, rw', q⟩
  exact subscriptTail_builtinR (x := w) pl.typeIs slot_tuple_getitem.lookup
    (getItem_tuple (j := j) (Q := fun r s' => r = w ∧ EP X pins σ Q r s') pl (by omega) (by omega) (by rw [List.size_toArray, ← hl]; exact h1) (by simpa using ew) ⟨rfl, fin⟩) hs
theorem Cu : yZ X DB := by
  intro value slice pins s σ H x y v u Q I rx ry h hs
  obtain ⟨z, i, c, rfl, rfl, hz, he, q⟩ := h
  obtain ⟨t, rfl⟩ := rx
  obtain ⟨t', rfl⟩ := ry
  obtain ⟨j, h1, h2, h3, h4, h5⟩ := sk he
  have hl : z.cps.toList.length = z.length := by simp [Str.length]
  rw [hl] at h1 h4 h5
  have hn := nY
  exact tail_any (typeIs_str s z t) slot_str_getitem.lookup (getItem_str (c := c) (by
    have e1 : decide (i < -(2 ^ 63 : Int)) = false := decide_eq_false (by omega)
    have e2 : decide (i ≥ 2 ^ 63) = false := decide_eq_false (by omega)
    rw [e1, e2, Bool.or_false]) (by rw [h1]; simpa using h2) ⟨.str ⟨#[c]⟩, H, I.tok _, ⟨_, rfl⟩, q⟩) hs
def FQ (K : PySem.W.Frag) : R2 := fun x y H Q => DC K x y H Q ∨ Dz K x y H Q ∨ DB x y H Q
theorem Cv : yZ X (FQ X.K) := zX.or (Ct.or Cu)
theorem uj (its : List Value) (n j : Nat) (u : Value) : Obj.mapSeq (·.setIfInBounds j u) { cls := .type "list", data := .seq its.toArray n } = { cls := .type "list", data := .seq (its.set j u).toArray n } := by
  simp [Obj.mapSeq]
theorem aB.lst {pins : List (Addr × Obj)} {σ : St} {H : Hp} {s : Shared} {p : Addr} {xs : List V} (I : aB X pins σ H s) (h : H p = some (.lst xs)) :
    ∃ (its : List Value) (n : Nat), aM xs its ∧ s.heap.get? p = some { cls := .type "list", data := .seq its.toArray n } ∧ xs.length ≤ sizeLine := by
  obtain ⟨z, its, n, r, e⟩ := I.hok p _ h
  exact ⟨its, n, r, e, z⟩
theorem aB.lstUpd {pins : List (Addr × Obj)} {σ : St} {H : Hp} {s : Shared} {p : Addr} {xs ys : List V} {its its' : List Value} {n n' : Nat} {f : Obj → Obj} (I : aB X pins σ H s) (h : H p = some (.lst xs))
    (ho : s.heap.get? p = some { cls := .type "list", data := .seq its.toArray n }) (hf : f { cls := .type "list", data := .seq its.toArray n } = { cls := .type "list", data := .seq its'.toArray n' }) (r : aM ys its') (hz : ys.length ≤ sizeLine) (t : Nat) :
    aB X pins σ (upd H p (.lst ys)) { s with heap := s.heap.update p f, toks := t } := by
  have e : (s.heap.update p f).get? p = some { cls := .type "list", data := .seq its'.toArray n' } := by
    rw [Heap.get?_update_self f ho (by rw [hf] <;> rfl), hf]
  refine I.write (x := p) (e := p) (by rw [h]; trivial) (.inl rfl) (fun b u hb q => (Heap.get?_update_other _ _ (Ne.symm hb)).trans q) ⟨_, e⟩ ?_
  exact ⟨hz, its', n', r, e⟩
def Dw : V → V → V → Hp → (Hp → Prop) → Prop := fun o i v H Q => ∃ p xs k j, o = .ref p ∧ i = .int k ∧ H p = some (.lst xs) ∧ C3 xs.length k = some j ∧ Q (upd H p (.lst (xs.set j v)))
theorem xk : Ek X Dw := by
  intro pins s σ H o i v ov iv u Q I ro ri rv h
  obtain ⟨p, xs, k, j, rfl, rfl, hp, hj, q⟩ := h
  cases ro
  obtain ⟨t, rfl⟩ := ri
  obtain ⟨its, n, r, ho, hz⟩ := I.lst hp
  obtain ⟨h1, h2, h3, h4⟩ := vp hj
  have hl := r.length
  have hn := nY
  have I' : aB X pins σ (upd H p (.lst (xs.set j v))) { s with heap := s.heap.update p (Obj.mapSeq (·.setIfInBounds j u)) } :=
    I.lstUpd hp ho (uj its n j u) (r.set rv j) (by rw [List.length_set]; exact hz) s.toks
  by_cases h0 : 0 ≤ k
  · have hk : k.toNat = j := by
      rw [seqIndex_of h0 h4] at h1
      exact Option.some.inj h1
    exact PySem.W.ki_setAt ho h0 (by omega) (by rw [List.size_toArray, ← hl]; exact h4) (by rw [hk]; exact ⟨_, I', q⟩)
  · have hk : (k + (its.toArray.size : Int)).toNat = j := by
      rw [seqIndex_neg (by omega) h3] at h1
      rw [List.size_toArray, ← hl]
      exact Option.some.inj h1
    exact PySem.W.ki_setBack ho (by omega) (by rw [List.size_toArray, ← hl]; exact h3) (by omega) (by rw [hk]; exact ⟨_, I', q⟩)
theorem qY (lo hi : Option Int) (n : Nat) : (sliceBounds lo hi none n).1 = ((HT.sIx n 0 lo : Nat) : Int) ∧ (sliceBounds lo hi none n).2.1 = ((HT.sIx n n hi : Nat) : Int) ∧ (sliceBounds lo hi none n).2.2 = 1 := by
  refine ⟨?_, ?_, rfl⟩
  · cases lo with
    | none => simp [sliceBounds, HT.sIx]
    | some i =>
      simp only [sliceBounds, HT.sIx, Option.getD_none, show (1 : Int) > 0 by decide, if_true]
      by_cases h : i < 0
      · simp only [h, if_true] <;> omega
      · simp only [h, if_false] <;> omega
  · cases hi with
    | none => simp [sliceBounds, HT.sIx]
    | some i =>
      simp only [sliceBounds, HT.sIx, Option.getD_none, show (1 : Int) > 0 by decide, if_true]
      by_cases h : i < 0
      · simp only [h, if_true] <;> omega
      · simp only [h, if_false] <;> omega
theorem qc (its : List Value) (lo hi : Option Int) : slicePick its.toArray lo hi none = ((its.drop (HT.sIx its.length 0 lo)).take (HT.sIx its.length its.length hi - HT.sIx its.length 0 lo)).toArray := by
  obtain ⟨h1, h2, h3⟩ := qY lo hi its.toArray.size
  unfold slicePick
  rw [h1, h2, h3]
  simp only [sliceRange_one, pick_run, List.size_toArray] <;> rfl
def Dv (K : PySem.W.Frag) : V → Option Int → Option Int → Hp → VK → Prop := fun x lo hi H Q => ∃ a xs, x = .ref a ∧ ka K H a xs ∧ ∀ p, H p = none → Q (.ref p) (upd H p (.lst (tM xs lo hi)))
theorem zg : A6 X (Dv X.K) := by
  intro pins s σ H x v vl vu lo hi sl Q I rx hs pl pu h
  obtain ⟨a, xs, rfl, hx, q⟩ := h
  cases rx
  obtain ⟨its, r, ht, hz⟩ := I.list hx
  have hlen := r.length
  refine ⟨"list", _, slot_list_getitem.lookup, ht.isList.typeIs, ?_⟩
  refine wpAny_getItem_list_slice ht.isList hs pl pu .none (by simp) ?_ (by rw [List.size_toArray] <;> omega)
  rw [qc, ← hlen]
  refine ⟨.ref s.heap.objs.size, _, I.laid (t' := s.toks) (o := .lst (tM xs lo hi)) (fun b ob q => Heap.get?_push_of_some _ q) (Nat.le_refl _) ?_, rfl, q _ (I.hok.fresh (Nat.le_refl _))⟩
  exact ⟨Nat.le_trans (oG xs lo hi) hz, _, 0, (r.drop (HT.sIx xs.length 0 lo)).take (HT.sIx xs.length xs.length hi - HT.sIx xs.length 0 lo), Heap.get?_push_size _ rfl⟩
def mQ : V → Bool
  | .non => true
  | .bl _ => true
  | .int _ => true
  | .str _ => true
  | _ => false
def Ah : V → V → Bool
  | .non, .non => true
  | .bl a, .bl b => a == b
  | .bl a, .int b => (if a then 1 else 0) == b
  | .int a, .bl b => a == (if b then 1 else 0)
  | .int a, .int b => a == b
  | .str a, .str b => a == b
  | _, _ => false
theorem CH {A : Around} {s : Shared} {y x : V} {u v : Value} (ry : bJ y u) (rx : bJ x v) (fy : mQ y = true) (fx : mQ x = true) : SeqAt.EqAt A s u v (Ah y x) := by
  cases y with
  | non =>
    cases ry
    cases x with
    | non => cases rx; exact SeqAt.EqAt.same _
    | bl b => cases rx; exact SeqAt.EqAt.none_bool b
    | int b => obtain ⟨t, rfl⟩ := rx; exact SeqAt.EqAt.none_int b t
    | str b => obtain ⟨t, rfl⟩ := rx; exact SeqAt.EqAt.none_str b t
    | _ => exact absurd (show false = true from fx) Bool.false_ne_true
  | bl a =>
    cases ry
    cases x with
    | non => cases rx; exact SeqAt.EqAt.bool_none a
    | bl b => cases rx; exact SeqAt.EqAt.bool_bool a b
    | int b => obtain ⟨t, rfl⟩ := rx; exact SeqAt.EqAt.bool_int a b t
    | str b => obtain ⟨t, rfl⟩ := rx; exact SeqAt.EqAt.bool_str a b t
    | _ => exact absurd (show false = true from fx) Bool.false_ne_true
  | int a =>
    obtain ⟨t', rfl⟩ := ry
    cases x with
    | non => cases rx; exact SeqAt.EqAt.int_none a t'
    | bl b => cases rx; exact SeqAt.EqAt.int_bool a t' b
    | int b => obtain ⟨t, rfl⟩ := rx; exact SeqAt.EqAt.int_int a t' b t
    | str b => obtain ⟨t, rfl⟩ := rx; exact SeqAt.EqAt.int_str a t' b t
    | _ => exact absurd (show false = true from fx) Bool.false_ne_true
  | str a =>
    obtain ⟨t', rfl⟩ := ry
    cases x with
    | non => cases rx; exact SeqAt.EqAt.str_none a t'
    | bl b => cases rx; exact SeqAt.EqAt.str_bool a t' b
    | int b => obtain ⟨t, rfl⟩ := rx; exact SeqAt.EqAt.str_int a t' b t
    | str b => obtain ⟨t, rfl⟩ := rx; exact SeqAt.EqAt.str_str a t' b t
    | _ => exact absurd (show false = true from fx) Bool.false_ne_true
  | _ => exact absurd (show false = true from fy) Bool.false_ne_true
def uB (x : V) (u : Value) : Bool := match u with
  | .none => Ah .non x
  | .bool b => Ah (.bl b) x
  | .int i _ => Ah (.int i) x
  | .str z _ => Ah (.str z) x
  | _ => false
theorem yA {x y : V} {u : Value} (r : bJ y u) (f : mQ y = true) : uB x u = Ah y x := by
  cases y with
  | non => cases r; rfl
  | bl b => cases r; rfl
  | int i => obtain ⟨t, rfl⟩ := r; rfl
  | str z => obtain ⟨t, rfl⟩ := r; rfl
  | _ => exact absurd (show false = true from f) Bool.false_ne_true
theorem nM {x : V} : ∀ {xs : List V} {us : List Value}, aM xs us → xs.all mQ = true → us.any (uB x) = xs.any fun y => Ah y x
  | _, _, .nil, _ => rfl
  | y :: xs, u :: us, .cons r t, f => by
    rw [List.all_cons, Bool.and_eq_true] at f
    rw [List.any_cons, List.any_cons, yA r f.1, nM t f.2]
theorem lG {A : Around} {s : Shared} {x : V} {v : Value} (rx : bJ x v) (fx : mQ x = true) : ∀ {xs : List V} {us : List Value}, aM xs us → xs.all mQ = true → ∀ u ∈ us, SeqAt.EqAt A s u v (uB x u)
  | _, _, .nil, _ => fun u hu => by cases hu
  | y :: xs, u :: us, .cons r t, f => fun u' hu => by
    rw [List.all_cons, Bool.and_eq_true] at f
    rcases List.mem_cons.mp hu with rfl | hu
    · rw [yA r f.1]; exact CH r rx f.1 fx
    · exact lG rx fx t f.2 u' hu
def EH (x : V) (xs : List V) : Bool := xs.any fun y => Ah y x
def EF (K : PySem.W.Frag) (neg : Bool) : R2 := fun x y H Q => ∃ p xs, y = .ref p ∧ (ka K H p xs ∨ lq K H p xs) ∧ mQ x = true ∧ xs.all mQ = true ∧ Q (.bl (if neg then !EH x xs else EH x xs)) H
theorem v9 : kY X (compareOp .In) (EF X.K false) := by
  intro pins s σ H x y v u Q I rx ry h
  obtain ⟨p, xs, rfl, hq, fx, fs, q⟩ := h
  cases ry
  rcases hq with hq | hq
  · obtain ⟨its, r, pl, hz⟩ := I.list hq
    refine SeqAt.in_listAt (uB x) pl.isList (fun w hw => lG rx fx r fs w (by simpa using hw)) ⟨.bl _, H, I, rfl, ?_⟩
    rw [show its.toArray.any (uB x) = its.any (uB x) by simp, nM r fs]
    exact q
  · obtain ⟨its, r, pl, hz⟩ := I.tuple hq
    refine SeqAt.in_tupleAt (uB x) pl (fun w hw => lG rx fx r fs w (by simpa using hw)) ⟨.bl _, H, I, rfl, ?_⟩
    rw [show its.toArray.any (uB x) = its.any (uB x) by simp, nM r fs]
    exact q
theorem rG : kY X (compareOp .NotIn) (EF X.K true) := by
  intro pins s σ H x y v u Q I rx ry h
  obtain ⟨p, xs, rfl, hq, fx, fs, q⟩ := h
  cases ry
  rcases hq with hq | hq
  · obtain ⟨its, r, pl, hz⟩ := I.list hq
    refine SeqAt.notIn_listAt (uB x) pl.isList (fun w hw => lG rx fx r fs w (by simpa using hw)) ⟨.bl _, H, I, rfl, ?_⟩
    rw [show its.toArray.any (uB x) = its.any (uB x) by simp, nM r fs]
    exact q
  · obtain ⟨its, r, pl, hz⟩ := I.tuple hq
    refine SeqAt.notIn_tupleAt (uB x) pl (fun w hw => lG rx fx r fs w (by simpa using hw)) ⟨.bl _, H, I, rfl, ?_⟩
    rw [show its.toArray.any (uB x) = its.any (uB x) by simp, nM r fs]
    exact q
theorem si : mT X (.type "list") (fun xs H Q => ∃ p ys, xs = [.ref p] ∧ (ka X.K H p ys ∨ lq X.K H p ys) ∧ ∀ l, H l = none → Q (.ref l) (upd H l (.lst ys))) := by
  intro pins s σ H xs us Q I r h
  obtain ⟨p, ys, rfl, hq, q⟩ := h
  obtain ⟨u, rfl, rx⟩ := uR r
  cases rx
  have fin : ∀ (its : List Value), aM ys its → ys.length ≤ sizeLine → ∀ (h' : Heap) (c' : Nat), (∀ b o', s.heap.get? b = some o' → h'.get? b = some o') →
      h'.get? s.heap.objs.size = some { cls := .type "list", dict := none, data := .seq its.toArray c', slots := #[] } → EP X pins σ Q (.ref s.heap.objs.size) { s with heap := h' } := fun its r' hz h' c' kp e =>
    ⟨.ref s.heap.objs.size, _, I.laid (t' := s.toks) kp (Nat.le_refl _) (show dJ X.prog X.w _ h' _ (.lst ys) from ⟨hz, its, c', r', e⟩), rfl, q _ (I.hok.fresh (Nat.le_refl _))⟩
  rcases hq with hq | hq
  · obtain ⟨its, r', pl, hz⟩ := I.list hq
    have hlen := r'.length
    obtain ⟨o, ho, hc, n, hd⟩ := pl.isList
    exact call_list_seq p (.inl rfl) ho hc hd (fun h' c' kp e => fin its r' hz h' c' kp e) (by simp only [List.size_toArray] <;> omega)
  · obtain ⟨its, r', pl, hz⟩ := I.tuple hq
    have hlen := r'.length
    obtain ⟨o, ho, hc, n, hd⟩ := pl
    exact call_list_seq p (.inr rfl) ho hc hd (fun h' c' kp e => fin its r' hz h' c' kp e) (by simp only [List.size_toArray] <;> omega)
theorem qx : mT X (.type "tuple") (fun xs H Q => ∃ p ys, xs = [.ref p] ∧ ((ka X.K H p ys ∧ ∀ l, H l = none → Q (.ref l) (upd H l (.tup ys))) ∨ (lq X.K H p ys ∧ Q (.ref p) H))) := by
  intro pins s σ H xs us Q I r h
  obtain ⟨p, ys, rfl, h⟩ := h
  obtain ⟨u, rfl, rx⟩ := uR r
  cases rx
  rcases h with ⟨hq, q⟩ | ⟨hq, q⟩
  · obtain ⟨its, r', pl, hz⟩ := I.list hq
    have hlen := r'.length
    refine call_tuple_list pl.isList (fun h' kp => ?_) (by simp only [List.size_toArray] <;> omega)
    have I1 : aB X pins σ H { s with heap := h' } := I.kept (t' := s.toks) kp
    have I2 : aB X pins σ (upd H h'.objs.size (.tup ys)) { s with heap := h'.push { cls := .type "tuple", data := .seq its.toArray } } :=
      I1.laid (t' := s.toks) (fun b o e => Heap.get?_push_of_some _ e) (Nat.le_refl _) (show dJ X.prog X.w _ _ _ (.tup ys) from ⟨hz, its, r', IsTup.new _ _⟩)
    exact ⟨.ref h'.objs.size, _, I2, rfl, q _ (I1.hok.fresh (Nat.le_refl _))⟩
  · obtain ⟨its, r', pl, hz⟩ := I.tuple hq
    exact call_tuple_same pl ⟨.ref p, H, I, rfl, q⟩
def ED (K : PySem.W.Frag) (T : String) (x : V) (H : Hp) : Prop := match x with
  | .str _ => T = "str"
  | .int _ => T = "int"
  | .ref p => (T = "list" ∧ ∃ xs, ka K H p xs) ∨ (T = "tuple" ∧ ∃ o, K.lookup p = some o ∧ o.cls = .type "tuple" ∧ o.dict = none) ∨
      (T = "dict" ∧ ((∃ kvs, H p = some (.dK kvs)) ∨ ∃ kvs, H p = some (.dT kvs))) ∨ (T = "set" ∧ ∃ S n, H p = some (.set S n))
  | _ => False
theorem xa {pins : List (Addr × Obj)} {σ : St} {H : Hp} {s : Shared} {T : String} {x : V} {v : Value} (I : aB X pins σ H s) (r : bJ x v) (ty : ED X.K T x H) :
    s.TypeIs v T ∧ ∀ a, v = .ref a → ∃ ob, s.heap.get? a = some ob ∧ ob.dict = none := by
  cases x with
  | str z =>
    obtain ⟨t, rfl⟩ := r
    cases (show T = "str" from ty)
    exact ⟨typeIs_str s z t, fun _ e => nomatch e⟩
  | int i =>
    obtain ⟨t, rfl⟩ := r
    cases (show T = "int" from ty)
    exact ⟨typeIs_int s i t, fun _ e => nomatch e⟩
  | ref p =>
    cases r
    rcases ty with ⟨rfl, xs, hq⟩ | ⟨rfl, o, hk, hc, hd⟩ | ⟨rfl, hk⟩ | ⟨rfl, S, n, hk⟩
    · obtain ⟨its, _, pl, _⟩ := I.list hq
      refine ⟨pl.isList.typeIs, fun a e => ?_⟩
      cases e
      obtain ⟨o, n, e, c, hd, _⟩ := pl
      exact ⟨o, e, hd⟩
    · refine ⟨⟨o, I.kIn p o hk, hc⟩, fun a e => ?_⟩
      cases e
      exact ⟨o, I.kIn _ o hk, hd⟩
    · have z : ∃ o, s.heap.get? p = some o ∧ o.ExactDict := by
        rcases hk with ⟨kvs, hk⟩ | ⟨kvs, hk⟩
        · obtain ⟨_, _, _, _, o, _, _, e, ex, _⟩ := I.hok p _ hk
          exact ⟨o, e, ex⟩
        · obtain ⟨_, _, _, _, o, _, _, e, ex, _⟩ := I.hok p _ hk
          exact ⟨o, e, ex⟩
      obtain ⟨o, e, ex⟩ := z
      refine ⟨⟨o, e, ex.1⟩, fun a e2 => ?_⟩
      cases e2
      exact ⟨o, e, ex.2.1⟩
    · obtain ⟨o, _, _, _, e, ex, _⟩ := I.hok p _ hk
      refine ⟨⟨o, e, ex.1⟩, fun a e2 => ?_⟩
      cases e2
      exact ⟨o, e, ex.2.1⟩
  | _ => exact False.elim ty
def Fc (K : PySem.W.Frag) (T : String) (r : V → List V → Hp → VK → Prop) (to : TE) : TE := fun σ H Q => to σ H fun x H1 => ED K T x H1 ∧ r x [] H1 Q
def Gd (K : PySem.W.Frag) (T : String) (r : V → List V → Hp → VK → Prop) (to : TE) (t : TA) : TE := fun σ H Q => to σ H fun x H1 => ED K T x H1 ∧ t σ H1 fun xs H2 => r x xs H2 Q
variable {o e : Expr} {es : List Expr} {to : TE} {t : TA} {name : Str} {apos cpos : Pos} {T id : String} {r : V → List V → Hp → VK → Prop}
theorem BO (pa : PlainAttrs T) (slot : Slot T name id) (hty : typeOf (.builtin id) = pure (.type "method_descriptor")) (hm : En X id r) (ho : PE X o to)
    (hbase : attributeBase o name X.env (eval o X.env) = eval o X.env := by rfl) (hline : (apos.endLine == cpos.line) = true := by rfl) : PE X (.Call (.Attribute o name apos) [] [] cpos) (Fc X.K T r to) := by
  intro pins s σ H Q I h
  refine wpAny_Call_method0_late hbase hline (ez (ho pins s σ H _ I h) fun v s1 ⟨x, H1, I1, r1, ty, q1⟩ => ?_)
  obtain ⟨h1, h2⟩ := xa I1 r1 ty
  exact ⟨T, id, pa, slot, hty, h1, h2, Calls.callWith_builtin rfl (PySem.evalArgs_none (hm pins s1 σ H1 x [] v [] Q I1 r1 .nil q1))⟩
theorem DR (pa : PlainAttrs T) (slot : Slot T name id) (hty : typeOf (.builtin id) = pure (.type "method_descriptor")) (hm : En X id r) (ho : PE X o to) (ha : PA X (e :: es) t)
    (hbase : attributeBase o name X.env (eval o X.env) = eval o X.env := by rfl)
    (hfew : ((backTo cpos (starEach (e :: es) X.env)).all (fun x => !x.1) && (backToKw cpos (keywordEach [] X.env)).all (fun x => x.1.isSome)
      && decide ((e :: es).length + ([] : List Keyword).length + (if ([] : List Keyword).isEmpty then 0 else 1) < 30)) = true := by rfl)
    (hline : (apos.endLine == cpos.line) = true := by rfl) (hs : starEach (e :: es) X.env = (false, eval e X.env) :: starEach es X.env := by rfl) (hplain : (backTo cpos (starEach es X.env)).any (·.1) = false := by rfl) :
    PE X (.Call (.Attribute o name apos) (e :: es) [] cpos) (Gd X.K T r to t) := by
  intro pins s σ H Q I h
  refine wpAny_Call_method_late hbase hfew hline rfl (ez (ho pins s σ H _ I h) fun v s1 ⟨x, H1, I1, r1, ty, q1⟩ => ?_)
  obtain ⟨h1, h2⟩ := xa I1 r1 ty
  refine ⟨T, id, pa, slot, hty, h1, h2, ?_⟩
  have hA := ha cpos pins s1 σ H1 _ I1 q1
  rw [hs] at hA ⊢
  refine Calls.callWith_builtin (by show (false || (backTo cpos (starEach es X.env)).any (·.1)) = false; rw [hplain] <;> rfl) (Calls.evalArgs_plain ?_)
  exact ez hA fun us s2 ⟨vs, H2, I2, r2, q2⟩ => hm pins s2 σ H2 x vs v us Q I2 r1 r2 q2
/- xs.append(e), list.index on a module's tuple .. are En facts of 06m -/
end
end L2
namespace L2
open PySem PySem.Spec PyProof.Rows
def ET (X : Cx) (id : String) (r : V → List V → Hp → VK → Prop) : Prop :=
  ∀ (pins : List (Addr × Obj)) (s : Shared) (σ : St) (H : Hp) (x : V) (xs : List V) (v : Value) (us : List Value) (Q : VK), aB X pins σ H s → bJ x v → aM xs us → r x xs H Q →
    wpAny (model X.prog X.w) X.A (call (.builtin id) (v :: us)) (EP X pins σ Q) X.xe s
theorem aM.one : ∀ {x : V} {us : List Value}, aM [x] us → ∃ u, us = [u] ∧ bJ x u
  | _, _, .cons r .nil => ⟨_, rfl, r⟩
theorem aM.two : ∀ {x y : V} {us : List Value}, aM [x, y] us → ∃ u v, us = [u, v] ∧ bJ x u ∧ bJ y v
  | _, _, _, .cons r (.cons q .nil) => ⟨_, _, rfl, r, q⟩
theorem aM.zero : ∀ {us : List Value}, aM [] us → us = []
  | _, .nil => rfl
theorem aM.dropLast {xs : List V} {us : List Value} (h : aM xs us) : aM xs.dropLast us.dropLast := by
  induction h with
  | nil => exact .nil
  | cons r t ih =>
    cases t with
    | nil => exact .nil
    | cons q t' => exact .cons r ih
theorem aM.eraseIdx : ∀ {xs : List V} {us : List Value} (i : Nat), aM xs us → aM (xs.eraseIdx i) (us.eraseIdx i)
  | _, _, _, .nil => .nil
  | _, _, 0, .cons _ t => t
  | _, _, i + 1, .cons r t => .cons r (aM.eraseIdx i t)
theorem aM.rep {xs : List V} {us : List Value} (h : aM xs us) : ∀ k : Nat, aM (List.replicate k xs).flatten (List.replicate k us).flatten
  | 0 => .nil
  | k + 1 => by
    rw [List.replicate_succ, List.replicate_succ, List.flatten_cons, List.flatten_cons]
    exact aM.append h (aM.rep h k)
theorem uA {α : Type} (l : List α) : l.eraseIdx (l.length - 1) = l.dropLast := by
  induction l with
  | nil => rfl
  | cons a r ih =>
    cases r with
    | nil => rfl
    | cons b r =>
      have e : (a :: b :: r).length - 1 = ((b :: r).length - 1) + 1 := by
        have h1 : (a :: b :: r).length = r.length + 2 := rfl
        have h2 : (b :: r).length = r.length + 1 := rfl
        omega
      rw [e, List.eraseIdx_cons_succ, ih]
      all_goals rfl
theorem qI {α : Type} : ∀ (l : List α) (i : Nat), (l.eraseIdx i).length ≤ l.length
  | [], _ => Nat.le_refl _
  | _ :: _, 0 => Nat.le_succ _
  | _ :: r, i + 1 => Nat.succ_le_succ (qI r i)
theorem qK (its : List Value) : ∀ (k : Nat) (acc : List Value),
    List.foldl (fun x1 x2 => x1 ++ x2) acc.toArray (List.replicate k its.toArray) = (acc ++ (List.replicate k its).flatten).toArray
  | 0, acc => by simp
  | k + 1, acc => by
    have e : acc.toArray ++ its.toArray = (acc ++ its).toArray := by simp
    have e2 : (acc ++ its) ++ (List.replicate k its).flatten = acc ++ (List.replicate (k + 1) its).flatten := by
      rw [List.replicate_succ, List.flatten_cons, List.append_assoc]
    rw [← e2, ← qK its k (acc ++ its), ← e, List.replicate_succ, List.foldl_cons]
section
variable {X : Cx} {pins : List (Addr × Obj)} {σ : St} {H : Hp} {s : Shared} {l b : Addr} {xs ys zs : List V}
theorem aB.lset {its its' : List Value} {n : Nat} {f : Array Value → Array Value} {t' : Nat} (I : aB X pins σ H s) (hH : H l = some (.lst xs))
    (e : s.heap.get? l = some { cls := .type "list", data := .seq its.toArray n }) (hf : f its.toArray = its'.toArray) (hv : aM ys its') (hz : ys.length ≤ sizeLine) :
    aB X pins σ (upd H l (.lst ys)) { s with heap := s.heap.update l (Obj.mapSeq f), toks := t' } := by
  have q := PySem.IsL.update e f
  rw [hf] at q
  refine I.write (x := l) (e := l) (by rw [hH]; exact trivial) (.inl rfl) (fun b' u hb hu => (Heap.get?_update_other s.heap (Obj.mapSeq f) (Ne.symm hb)).trans hu) ⟨_, q⟩ ?_
  exact ⟨hz, its', _, hv, q⟩
theorem aB.lnew {its : List Value} {t' : Nat} (I : aB X pins σ H s) (hv : aM ys its) (hz : ys.length ≤ sizeLine) :
    aB X pins σ (upd H s.heap.objs.size (.lst ys)) { s with heap := s.heap.push { cls := .type "list", data := .seq its.toArray }, toks := t' } :=
  I.laid (fun _ _ q => Heap.get?_push_of_some _ q) (Nat.le_refl _) ⟨hz, its, 0, hv, Heap.get?_push_size _ rfl⟩
theorem aB.fresh (I : aB X pins σ H s) : H s.heap.objs.size = none := I.hok.fresh (Nat.le_refl _)
theorem aB.lstM (I : aB X pins σ H s) (hH : H l = some (.lst xs)) : xs.length ≤ sizeLine ∧ ∃ (its : List Value) (n : Nat), aM xs its ∧ xs.length = its.length ∧ s.heap.get? l = some { cls := .type "list", data := .seq its.toArray n } := by
  obtain ⟨z, its, n, r, e⟩ := I.hok l _ hH
  exact ⟨z, its, n, r, r.length, e⟩
theorem yc {n : Nat} (h : n ≤ sizeLine) : Builtin.List.listTooLong n = false := by
  unfold Builtin.List.listTooLong
  exact decide_eq_false (by omega)
end
section
variable {X : Cx}
def zt : V → List V → Hp → VK → Prop := fun x vs H Q => ∃ l xs y, x = .ref l ∧ vs = [y] ∧ H l = some (.lst xs) ∧ xs.length < sizeLine ∧ Q .non (upd H l (.lst (xs ++ [y])))
theorem wj : ET X "list.append" zt := by
  intro pins s σ H x vs v us Q I rx rv h
  obtain ⟨l, xs, y, rfl, rfl, hH, hz, q⟩ := h
  cases rx
  obtain ⟨u, rfl, ru⟩ := rv.one
  obtain ⟨z, its, n, r, hl, e⟩ := I.lstM hH
  refine call_meets F.slot_list_append ⟨_, e, rfl⟩ F.entry_list_append (F.args_list_append_2 _ _) (PySem.list_append l its.toArray n u (by rw [List.size_toArray]; omega)) ⟨e, ?_⟩
  refine ⟨.non, _, I.lset (its' := its ++ [u]) hH e (by simp) (r.append (.cons ru .nil)) ?_, rfl, q⟩
  rw [List.length_append, List.length_singleton]
  omega
def Dy : V → List V → Hp → VK → Prop := fun x vs H Q => ∃ l xs y, x = .ref l ∧ vs = [] ∧ H l = some (.lst xs) ∧ xs[xs.length - 1]? = some y ∧ Q y (upd H l (.lst xs.dropLast))
theorem Ci : ET X "list.pop" Dy := by
  intro pins s σ H x vs v us Q I rx rv h
  obtain ⟨l, xs, y, rfl, rfl, hH, hy, q⟩ := h
  cases rx
  have hus := rv.zero
  subst hus
  obtain ⟨z, its, n, r, hl, e⟩ := I.lstM hH
  obtain ⟨u, hu, ru⟩ := r.get hy
  have hy' : its.toArray[its.toArray.size - 1]? = some u := by
    show its.toArray[its.length - 1]? = some u
    rw [← Array.getElem?_toList, ← hl]
    exact hu
  refine call_meets F.slot_list_pop ⟨_, e, rfl⟩ F.entry_list_pop (F.args_list_pop_1 _) (MeetsSeq.list_pop_last l its.toArray n u hy' (by rw [List.size_toArray]; omega)) ⟨e, ?_⟩
  refine ⟨y, _, I.lset (its' := its.dropLast) hH e ?_ r.dropLast ?_, ru, q⟩
  · show its.toArray.eraseIdxIfInBounds (its.toArray.size - 1) = its.dropLast.toArray
    rw [List.size_toArray, List.eraseIdxIfInBounds_toArray, uA]
  · rw [List.length_dropLast]
    omega
def DD : R2 := fun x y H Q => ∃ l b xs zs, x = .ref l ∧ y = .ref b ∧ H l = some (.lst xs) ∧ H b = some (.lst zs) ∧ xs.length + zs.length ≤ sizeLine ∧ ∀ p, H p = none → Q (.ref p) (upd H p (.lst (xs ++ zs)))
theorem B6 : kY X (binaryOp .Add) DD := by
  intro pins s σ H x y v u Q I rx ry h
  obtain ⟨l, b, xs, zs, rfl, rfl, hH, hB, hz, q⟩ := h
  cases rx
  cases ry
  obtain ⟨z, its, n, r, hl, e⟩ := I.lstM hH
  obtain ⟨z2, its2, n2, r2, hl2, e2⟩ := I.lstM hB
  refine PySem.P.add_list e e2 ?_ (by rw [List.size_toArray, List.size_toArray]; omega)
  have ea : its.toArray ++ its2.toArray = (its ++ its2).toArray := by simp
  rw [ea]
  exact ⟨.ref _, _, I.lnew (t' := s.toks) (r.append r2) (by rw [List.length_append]; omega), rfl, q _ I.fresh⟩
def Dx : R2 := fun x y H Q => ∃ l k xs, x = .ref l ∧ y = .int k ∧ H l = some (.lst xs) ∧ -(2 ^ 63) ≤ k ∧ k < 2 ^ 63 ∧ xs.length * k.toNat ≤ sizeLine ∧
  ∀ p, H p = none → Q (.ref p) (upd H p (.lst (List.replicate k.toNat xs).flatten))
theorem zW {α : Type} (xs : List α) (k : Nat) : (List.replicate k xs).flatten.length = k * xs.length := by
  induction k with
  | zero => simp
  | succ k ih => rw [List.replicate_succ, List.flatten_cons, List.length_append, ih, Nat.succ_mul, Nat.add_comm]
theorem B0 : kY X (binaryOp .Mult) Dx := by
  intro pins s σ H x y v u Q I rx ry h
  obtain ⟨l, k, xs, rfl, rfl, hH, h1, h2, hz, q⟩ := h
  cases rx
  obtain ⟨t, rfl⟩ := ry
  obtain ⟨z, its, n, r, hl, e⟩ := I.lstM hH
  have hlen : its.toArray.size * k.toNat ≤ sizeLine := by rw [List.size_toArray, ← hl]; exact hz
  have hcap : ¬ its.toArray.size * k.toNat > (2 ^ 63 - 1) / 8 := by
    have : (sizeLine : Nat) ≤ (2 ^ 63 - 1) / 8 := by decide
    omega
  have hfit : ¬ (!Builtin.List.listFitsIndex k) = true := by
    rw [fitsIndex_both h1 h2]
    exact Bool.false_ne_true
  have hlong : ¬ Builtin.List.listTooLong (its.toArray.size * k.toNat) = true := by
    rw [yc hlen]
    exact Bool.false_ne_true
  have hnew : List.foldl (fun x1 x2 => x1 ++ x2) #[] (List.replicate (if its.toArray.isEmpty = true then 0 else k.toNat) its.toArray) = (List.replicate k.toNat its).flatten.toArray := by
    have f0 : ∀ m : Nat, List.foldl (fun x1 x2 => x1 ++ x2) #[] (List.replicate m its.toArray) = (List.replicate m its).flatten.toArray := fun m => by
      have := qK its m []
      rw [List.nil_append] at this
      exact this
    rw [f0]
    cases its with
    | nil => simp
    | cons a r' => rw [if_neg (by simp)]
  refine wpAny_binaryOp_repeat_ref (T := "list") (U := "int") (by decide) ⟨_, e, rfl⟩ (fun s' => typeIs_int s' k t) noFill_list_mul F.fills_int_mul F.slot_int_rmul repeat_list F.slot_int_index.lookup
    (call_meets F.slot_int_rmul (typeIs_int s k t) F.entry_int_rmul (F.args_int_rmul_2 _ _) (int___rmul___int_list k t l its.toArray n)
      ⟨e, rfl, ⟨_, e, rfl⟩, call_meets F.slot_list_mul ⟨_, e, rfl⟩ F.entry_list_mul (F.args_list_mul_2 _ _) (AutoListH.list___mul___list_int_3 l its.toArray n k t hfit hcap hlong) ⟨e, ?_⟩⟩)
  rw [hnew]
  exact ⟨.ref _, _, I.lnew (t' := s.toks) (r.rep k.toNat) (by rw [zW, Nat.mul_comm]; exact hz), rfl, q _ I.fresh⟩
end
section
variable {prog : Program} {w : World} {A : Around} {E : Value → Shared → Prop} {s : Shared}
set_option maxRecDepth 100000 in
end
section
variable {X : Cx}
end
end L2
namespace Att
open PySem PySem.W PySem.Calls PyProof.Rows
theorem oY {P : Params} {h : Heap} : ∀ (ns : List Int) (vs : List Value), WellAll P h vs (ns.map WData.int) → IntsAre vs ns := by
  intro ns
  induction ns with
  | nil =>
    intro vs w
    rw [List.map_nil] at w
    cases w
    exact .nil
  | cons n ns ih =>
    intro vs w
    rw [List.map_cons] at w
    cases w with
    | cons a b =>
      cases a
      exact .cons _ _ (ih _ b)
theorem vV {l : OpenLaw} {n : Nat} (hn : l.most = some n) {P : Params} {h : Heap} {args : List WData} {vals : List Value}
    (hpre : l.row.toRowW.claim.pre args = true) (hwl : WellAll P h vals args) :
    ∃ a vs ns, vals = [Value.ref a] ∧ args = [WData.list (ns.map WData.int)] ∧ h.get? a = some { cls := .type "list", data := .seq vs.toArray } ∧ IntsAre vs ns ∧ ns.length ≤ n := by
  have hsh : WShape.hasAll [] args [.list .int] = true := (pre_splitW hpre).1
  have hc : l.pre.holds [] { args := args } = true := (pre_splitW hpre).2
  obtain ⟨d, r, rfl, h1, h2⟩ := hasAllW_cons hsh
  obtain rfl := hasAllW_nil h2
  obtain ⟨xs, rfl, h3⟩ := hasW_list h1
  obtain ⟨ns, rfl⟩ := items_int h3
  have hlen : ns.length ≤ n := by
    unfold OpenLaw.pre at hc
    have h4 : (WTm.not (.lt (.lit (.int (n : Int))) (.len (.arg 0)))).holds [] { args := [.list (ns.map .int)] } = true := by
      have h4 := (holds_andW hc).1
      rw [hn] at h4
      exact h4
    have h5 := condW_of h4 (w_not (w_lt w_lit (w_len_list (w_arg rfl))))
    rw [List.length_map] at h5
    refine Nat.le_of_not_lt fun q => ?_
    have q' : (n : Int) < ((ns.length : Nat) : Int) := by omega
    first
      | (rw [decide_eq_true q'] at h5; exact absurd h5 (by decide))
      | (simp at h5; omega)
  cases hwl with
  | cons w1 w2 =>
    cases w2
    cases w1 with
    | list ho hall => exact ⟨_, _, ns, rfl, rfl, ho, oY ns _ hall, hlen⟩
theorem vZ (l : OpenLaw) (args : List WData) : l.row.toRowW.claim.post args (.bool true) args = true :=
  postW_of (r := l.row.toRowW) (X := (true == true))
    (show WShape.has [] (.bool true) .bool = true by first | rfl | decide | simp [WShape.has, WShape.arms, WShape.armsAll])
    (show (WTm.eq .res (.lit (.bool true))).value [] { args := args, res := some (.bool true), after := args } = some (.bool (true == true)) from w_eq_bool (w_res rfl) w_lit) rfl
theorem attach_call {l : OpenLaw} {n : Nat} {q : Program} {loose : List Str} {XP : (Str → Option Value) → Heap → Prop} {YP : World → Heap → Prop} {d : DefRec}
    (hn : l.most = some n) (hdf : d.params.defaults = [])
    (call : ∀ (w : World) (s₀ s₁ : Shared) (mg mb : Str → Option Value) (fa : Addr) (o : Obj) (pm cd doc : Value) (a : Addr) (vs : List Value) (ns : List Int),
      Ground q loose [] XP w s₀ mg mb s₁.heap → YP w s₁.heap →
      s₁.heap.get? fa = some o → o.data = .func (docDef d.name d.params d.body d.scope pm cd doc) → s₁.heap.CodeRec cd d.name → mg d.name = some (.ref fa) →
      s₁.heap.get? a = some { cls := .type "list", data := .seq vs.toArray } → IntsAre vs ns → ns.length ≤ n → s₁.gens = #[] →
      codeAny (model l.prog w) callerA (.call (.ref fa) ⟨[.ref a], []⟩) (fun r s' => r = .ok (.ret (.bool true)) ∧ OldK s₁.heap s'.heap ∧ s'.os = s₁.os ∧ AllBare s'.gens) s₁) :
    WalkO q loose XP YP l.row.toRowW d [] (fun f vs => PySem.call f vs) := by
  intro w s₀ s₁ mg mb G Y fa o pm cd doc dV kV ho hd hcd hD hmg hg args vals as hpre hlay hrd hwl hlo
  obtain rfl : dV = .none := Dflts.none hD hdf
  obtain rfl : kV = .none := Dflts.noKw hD
  obtain ⟨a, vs, ns, rfl, rfl, hobj, hints, hlen⟩ := vV hn hpre hwl
  refine enter_call (codeAny_mono (call w s₀ s₁ mg mb fa o pm cd doc a vs ns G Y ho (fd_plain hd) hcd hmg hobj hints hlen hg) fun r s' hq => ?_)
  obtain ⟨rfl, h2, h3, h4⟩ := hq
  exact ⟨.inl ⟨.bool true, .bool true, [], rfl, fun _ => rfl, .bool true, vZ l _, fun _ => ⟨List.Pairwise.nil, fun _ hm => (nomatch hm)⟩⟩, h2, h3, h4⟩
section
variable {prog : Program} {w : World} {A : Around} {E : Value → Shared → Prop} {s : Shared} {K : Frag}
def Fm (h : Heap) (L d : Addr) : List (Addr × Obj) := (List.range h.objs.size).filterMap fun a => if a = L ∨ a = d then none else (h.get? a).map fun o => (a, o)
end
end Att
namespace L2
open PySem PySem.Spec PyProof.Rows
theorem qD : ∀ {vs : List Value} {ns : List Int}, IntsAre vs ns → aM (ns.map V.int) vs
  | _, _, .nil => .nil
  | _, _, .cons n t h => .cons ⟨t, rfl⟩ (qD h)
def CZ (H : Hp) : Prop := ∀ b, H b = none ∨ ∃ o xs, H b = some (.frz o (.lst xs))
theorem yj {P : Program} {w : World} {K : PySem.W.Frag} {mg mb : Str → Option Value} {CX : tV} {k : Nat} {fa a : Addr} {fd : FuncData} {x : Str} {sp : Sp} {s₁ : Shared} {vs : List Value} {ns : List Int}
    (KX : K.In s₁.heap) (hns : s₁.heap.Ns mainGlobals mg) (hb : s₁.heap.Ns builtinsNs mb) (hbb : ∀ x : Str, x ≠ "__name__" → mb x = bootBuiltins x) (hlim : s₁.heap.NoLimit) (hg : s₁.gens = #[])
    (ha : s₁.heap.get? a = some { cls := .type "list", data := .seq vs.toArray }) (hi : IntsAre vs ns) (hl : ns.length ≤ sizeLine) (hr : b6 k callerA)
    (F : ∀ base : Heap, K.In base → base.Ns mainGlobals mg → m5 P w K mg base CX k fa fd [x] sp) (hbind : ∀ (s : Shared) (u : Value), BindsTo s fd ⟨[u], []⟩ [(x, u)])
    (hsp : ∀ H : Hp, CZ H → ka K H a (ns.map V.int) → sp [.ref a] H (fun v _ => v = .bl true) fun _ _ _ => False)
    (hCX : ∀ H e s', CX [] H s₁ (fun _ _ _ => False) e s' → False) :
    codeAny (model P w) callerA (.call (.ref fa) ⟨[.ref a], []⟩) (fun r s' => r = .ok (.ret (.bool true)) ∧ OldK s₁.heap s'.heap ∧ s'.os = s₁.os ∧ AllBare s'.gens) s₁ := by
  have rv := qD hi
  have lenV := hi.length
  -- from an abstract heap in which nothing but the script may be tracked
  have core : ∀ H : Hp, CZ H → ka K H a (ns.map V.int) → mG P w H s₁.heap → (∀ b, H b ≠ none → b = a) → (H a ≠ none → K.lookup a = none) →
      codeAny (model P w) callerA (.call (.ref fa) ⟨[.ref a], []⟩) (fun r s' => r = .ok (.ret (.bool true)) ∧ OldK s₁.heap s'.heap ∧ s'.os = s₁.os ∧ AllBare s'.gens) s₁ := by
    intro H hO hS hok hA hK
    have base_of : ∀ {b : Addr} {o : Obj}, s₁.heap.get? b = some o → H b = none → (r9 s₁.heap H).get? b = some o := fun e n => yo e n
    have noA : ∀ {b : Addr} {o : Obj} {es : Array DictEntry} {ep : Nat}, s₁.heap.get? b = some o → o.data = .dict es ep → H b = none := fun {b o es ep} e d => by
      cases q : H b with
      | none => rfl
      | some u =>
        have e' : b = a := hA b (by rw [q]; simp)
        subst e'
        rw [ha] at e; cases e
        have d' : Data.seq vs.toArray _ = Data.dict es ep := d
        cases d'
    have nsK : ∀ {b : Addr} {m : Str → Option Value}, s₁.heap.Ns b m → (r9 s₁.heap H).Ns b m := fun {b m} ⟨o, es, ep, e, d, r⟩ => ⟨o, es, ep, base_of e (noA e d), d, r⟩
    have hKb : K.In (r9 s₁.heap H) := fun b o e => base_of (KX b o e) (by
      cases q : H b with
      | none => rfl
      | some u =>
        have e' : b = a := hA b (by rw [q]; simp)
        subst e'
        rw [hK (by rw [q]; simp)] at e; cases e)
    have hM : Mod K mg (r9 s₁.heap H) := ⟨hKb, nsK hns, ⟨mb, nsK hb, hbb⟩, let ⟨mc, h1, h2⟩ := hlim; ⟨mc, nsK h1, h2⟩⟩
    have e0 : o2 P w K mg (r9 s₁.heap H) callerA [] s₁ H := ⟨rfl, hM, fun b o e => zR e, Nat.le_of_eq (wD _ _), trivial, fun b hb => absurd (show b ∈ ([] : List Addr) from hb) (by simp), hok, .of_eq hg⟩
    refine codeAny_mono ((F _ hKb (nsK hns)).run callerA [] s₁ H ⟨[.ref a], []⟩ [.ref a] [.ref a] _ _ hr e0 (hbind s₁ (.ref a)) (.cons rfl .nil) (hsp H hO hS)) fun r s' h => ?_
    cases r with
    | error e => exact (hCX H e s' h).elim
    | ok fl =>
      cases fl with
      | next => exact False.elim h
      | brk => exact False.elim h
      | cont => exact False.elim h
      | ret u =>
        obtain ⟨v, H', os, bare, un, hok', r', q⟩ := h
        have q' : v = .bl true := q
        subst q'
        obtain rfl : u = Value.bool true := r'
        refine ⟨rfl, OldK.of_keep fun b o e => ?_, os, bare⟩
        cases q : H b with
        | none => exact un.keep b o e q (by intro z; exact absurd (show b ∈ ([] : List Addr) from z) (by simp)) (by simp)
        | some u =>
          rcases hO b with z | ⟨ob, xs, z⟩
          · rw [q] at z; cases z
          · have z2 := un.frzs b ob _ z
            obtain ⟨e1, _⟩ := hok b _ z
            obtain ⟨e2, _⟩ := hok' b _ z2
            rw [e] at e1; cases e1
            exact e2
  cases hk : K.lookup a with
  | some o =>
    -- the script is one of the module's own objects
    have e := KX a o hk
    rw [ha] at e
    cases e
    refine core (fun _ => none) (fun _ => .inl rfl) (.inr ⟨_, vs.toArray, _, hk, rfl, rfl, rfl, by rw [List.size_toArray, lenV]; exact hl, by simpa using rv⟩) (fun b u z => by have z' : (none : Option HO) = some u := z; cases z') (fun b z => absurd rfl z) fun z => absurd rfl z
  | none =>
    refine core (fun b => if b = a then some (.frz { cls := .type "list", data := .seq vs.toArray } (.lst (ns.map V.int))) else none) (fun b => ?_) (.inl (.inr ⟨{ cls := .type "list", data := .seq vs.toArray }, if_pos rfl⟩)) (fun b u z => ?_) (fun b z => ?_) fun _ => hk
    · by_cases hb : b = a
      · exact .inr ⟨_, _, if_pos hb⟩
      · exact .inl (if_neg hb)
    · by_cases hb : b = a
      · have z' := (if_pos hb).symm.trans z
        cases z'
        subst hb
        exact ⟨ha, by rw [List.length_map]; exact hl, vs, _, rv, ha⟩
      · have z' := (if_neg hb).symm.trans z
        cases z'
    · by_cases hb : b = a
      · exact hb
      · exact absurd (if_neg hb) z
end L2
namespace L2
open PySem PySem.Spec PyProof.Rows
abbrev F3 {K : PySem.W.Frag} {h : Heap} (_ : K.In h) : PySem.W.Frag := K
theorem uQ {l : PySem.W.OpenLaw} {n k : Nat} {q : Program} {loose : List Str} {XP : (Str → Option Value) → Heap → Prop} {YP : World → Heap → Prop} {d : DefRec} {K : Params → PySem.W.Frag} {CX : World → tV} {sp : World → Sp} {x : Str}
    (hn : l.most = some n) (hn2 : n ≤ sizeLine) (hdf : d.params.defaults = []) (hr : b6 k callerA)
    (hY : ∀ (w : World) (h : Heap), YP w h → (K w.params).In h)
    (F : ∀ (w : World) (mg : Str → Option Value) (fa : Addr) (h : Heap), (K w.params).In h → h.Ns mainGlobals mg → mg d.name = some (.ref fa) →
      ∃ fd : FuncData, (∀ (s : Shared) (u : Value), BindsTo s fd ⟨[u], []⟩ [(x, u)]) ∧
        ∀ base : Heap, (K w.params).In base → base.Ns mainGlobals mg → m5 l.prog w (K w.params) mg base (CX w) k fa fd [x] (sp w))
    (hsp : ∀ (w : World) (H : Hp) (a : Addr) (ns : List Int), ns.length ≤ n → CZ H → ka (K w.params) H a (ns.map V.int) → sp w [.ref a] H (fun v _ => v = .bl true) fun _ _ _ => False)
    (hCX : ∀ (w : World) (H : Hp) (s : Shared) (e : Value) (s' : Shared), CX w [] H s (fun _ _ _ => False) e s' → False) :
    PySem.W.WalkO q loose XP YP l.row.toRowW d [] (fun f vs => PySem.call f vs) := by
  refine Att.attach_call hn hdf fun w s₀ s₁ mg mb fa o pm cd doc a vs ns G Y ho hd hcd hmg hobj hints hlen hg => ?_
  have KX := hY w _ Y
  obtain ⟨fd, hb, hF⟩ := F w mg fa _ KX G.T.g hmg
  exact yj KX G.T.g G.T.b G.T.builtins G.T.nolimit hg hobj hints (Nat.le_trans hlen hn2) hr hF hb (fun H hO hS => hsp w H a ns hlen hO hS) fun H e s' => hCX w H s₁ e s'
end L2
/- THE LAST THEOREM (shape; LID, My.* are yours):
   My.Adr: a structure of the addresses that your layer names (classes, functions); My.Txt K t: a structure (Prop) of the equations over K;
   My.txt_mk : {K} {implicit addresses ..} (e1 : nsIn K mainGlobals "law" = some (some (.ref f))) (e2 : K.lookup f = some ⟨oc, od, .func (fnOf "law" "law" params body scope dV kV doc pm an cdv ct), sl⟩) (e3 : codeIn K cdv "law" = true) .. : ∃ t, My.Txt K t
set_option maxRecDepth 100000 in
set_option maxHeartbeats 0 in
theorem PySem.Challenge.cw_LID_holds : PySem.Challenge.rw_LID.Holds := by
  w_on; o_law; k_head; (case hw => w_witness2)
  k_fill
  refine L2.uQ (l := PySem.Challenge.rw_LID) (n := 63) (k := 40) (x := "script") (CX := fun w => ..) (sp := fun _ => My.sp_law) rfl (by decide) rfl ⟨rfl, by decide, by decide⟩ (fun w h Y => PySem.W.kIn_of Y) ?F ?S ?C
  case F =>
    intro w mg fa h KX G hmg
    have T : ∃ t, My.Txt (L2.F3 KX) t := by
      dsimp only [L2.F3]                          -- K must stand as «<heap const> w.params» for k_is
      refine' My.txt_mk ?e1 ?e2 ?e3 ..
      (case e1 => PySem.W.k_is)                    -- in the order: a name -> its address -> its object -> its parts
      (case e2 => PySem.W.k_is)
      ..
    obtain ⟨t, T⟩ := T
    have e0 := hmg.symm.trans (PySem.W.mg_of KX G T.law)
    cases e0                                       -- fa is the law's own address
    exact ⟨_, fun s u => .of_eq rfl, fun base kb nb => My.law_fn T kb nb⟩     -- if «.of_eq rfl» comes too early: refine' ⟨_, ?b, fun base kb nb => My.law_fn T kb nb⟩; exact fun s u => .of_eq rfl
  case S => exact fun w H a ns hl hO hS => ..
  case C => exact ..
(the tactic k_is has no namespace: write k_is) -/
namespace L2
open PySem PySem.Spec PyProof.Rows
def bM (s : Stmt) (j : Nat) : Stmt := match s with
  | .ClassDef _ _ _ body _ _ _ _ _ _ _ => body.getD j (.Pass ⟨0, 0, 0, 0⟩)
  | _ => .Pass ⟨0, 0, 0, 0⟩
def cO (s : Stmt) : Arguments := match s with
  | .FunctionDef _ a _ _ _ _ _ _ _ _ => a
  | _ => { posonlyargs := [], args := [], vararg := none, kwonlyargs := [], kw_defaults := [], kwarg := none, defaults := [] }
def bC (s : Stmt) : List Stmt := match s with
  | .FunctionDef _ _ b _ _ _ _ _ _ _ => b
  | _ => []
def aq (s : Stmt) : Scope := match s with
  | .FunctionDef _ _ _ _ _ _ sc _ _ _ => sc
  | _ => { kind := .function, names := [], isGenerator := false, isCoroutine := false }
abbrev sA : tV := fun _ _ _ _ _ _ => False
abbrev E0 : XK := fun _ _ _ => False
theorem sW {X : Cx} : kD sA X E0 := fun _ _ _ _ _ _ _ h => h.elim
structure Ay (K : PySem.W.Frag) (x qual : Str) (st : Stmt) (f : Addr) (fd : FuncData) : Prop where
  ex : ∃ (oc : Value) (od : Option Addr) (kV doc pm : Value) (an : Option Addr) (cdv ct : Value) (osl : Array (Option Value)),
    fd = PySem.W.fnOf x qual (cO st) (bC st) (aq st) .none kV doc pm an cdv ct ∧ K.lookup f = some ⟨oc, od, .func fd, osl⟩ ∧ PySem.W.codeIn K cdv qual = true
  kp : PySem.W.keepIn K (.ref f) = true
section
variable {P : Program} {w : World} {K : PySem.W.Frag} {mg : Str → Option Value} {base : Heap}
theorem Ay.ok {x qual : Str} {st : Stmt} {f : Addr} {fd : FuncData} {N ps : List Str} {k : Nat} {sp : Sp} (F : Ay K x qual st f fd) (S : aD N ps (aq st)) (len : ∀ vs H Q E, sp vs H Q E → vs.length = ps.length)
    (hbody : ∀ (cdv : Value) (A : Around) (outer : List Env) (s : Shared) (H : Hp) (vs : List V) (Q : VK) (E : XK), b6 k (A.deeper (envOfC qual (aq st) s.heap.objs.size f cdv)) → sp vs H Q E →
      ∃ t, oI (oh sA P w K mg base N qual (aq st) f cdv A outer s H E).nox (bC st) t ∧ t { nx := fun _ H' => Q .non H', rt := Q } (aH N vs) H) : m5 P w K mg base sA (k + 1) f fd ps sp := by
  obtain ⟨oc, od, kV, doc, pm, an, cdv, ct, osl, rfl, lk, hcd⟩ := F.ex
  refine yw lk hcd S len fun A outer s H vs Q E hr hsp => ?_
  obtain ⟨t, h, q⟩ := hbody cdv A outer s H vs Q E hr hsp
  exact ⟨t, h.nox, q⟩
theorem Ay.binds {x qual : Str} {st : Stmt} {f : Addr} {fd : FuncData} {ps : List Str} (F : Ay K x qual st f fd)
    (h : ∀ (kV doc pm : Value) (an : Option Addr) (cdv ct : Value) (us : List Value), us.length = ps.length → bindArgs (PySem.W.fnOf x qual (cO st) (bC st) (aq st) .none kV doc pm an cdv ct) ⟨us, []⟩ = pure (ps.zip us)) : gg K fd ps [] := by
  obtain ⟨oc, od, kV, doc, pm, an, cdv, ct, osl, rfl, lk, hcd⟩ := F.ex
  exact .all (h kV doc pm an cdv ct)
theorem CA {x qual : Str} {st : Stmt} {f : Addr} {oc : Value} {od an : Option Addr} {osl : Array (Option Value)} {kV doc pm cdv ct : Value} (l : K.lookup f = some ⟨oc, od, .func (PySem.W.fnOf x qual (cO st) (bC st) (aq st) .none kV doc pm an cdv ct), osl⟩)
    (c : PySem.W.codeIn K cdv qual = true) (k : PySem.W.keepIn K (.ref f) = true) : Ay K x qual st f (PySem.W.fnOf x qual (cO st) (bC st) (aq st) .none kV doc pm an cdv ct) := ⟨⟨oc, od, kV, doc, pm, an, cdv, ct, osl, rfl, l, c⟩, k⟩
end
section
variable {X : Cx}
end
def Aw (H H' : Hp) : Prop := ∀ b o, H b = some o → H' b = some o
theorem Aw.free {H H' : Hp} (e : Aw H H') {l : Addr} (h : H' l = Option.none) : H l = Option.none := by
  cases q : H l with
  | none => rfl
  | some o =>
    rw [e l o q] at h
    cases h
theorem Aw.seq {K : PySem.W.Frag} {H H' : Hp} {a : Addr} {xs : List V} (e : Aw H H') (h : ka K H a xs) : ka K H' a xs := by
  rcases h with (h | ⟨o, h⟩) | h
  · exact .inl (.inl (e _ _ h))
  · exact .inl (.inr ⟨o, e _ _ h⟩)
  · exact .inr h
end L2
namespace L2
open PySem PySem.Spec PyProof.Rows
section
variable {X : Cx}
def qO : V → Value
  | .ref a => .ref a
  | .ty n => .type n
  | _ => .none
def C4 : V → Bool
  | .ref _ => true
  | .ty _ => true
  | _ => false
theorem bJ.cls {c : V} {u : Value} (r : bJ c u) (h : C4 c = true) : u = qO c := by
  cases c with
  | ref a => exact r
  | ty n => exact r
  | _ => cases h
end
structure aQ (K : PySem.W.Frag) (mg : Str → Option Value) (x : Str) (st : Stmt) : Prop where
  ex : ∃ f fd, Ay K x x st f fd ∧ mg x = some (.ref f)
structure kZ (P : Program) (w : World) (K : PySem.W.Frag) (mg : Str → Option Value) (base : Heap) (k : Nat) (x : Str) (ps : List Str) (sp : Sp) : Prop where
  ex : ∃ f fd, m5 P w K mg base sA k f fd ps sp ∧ mg x = some (.ref f) ∧ PySem.W.keepIn K (.ref f) = true ∧ gg K fd ps []
section
variable {P : Program} {w : World} {K : PySem.W.Frag} {mg : Str → Option Value} {base : Heap}
theorem cm {h : Heap} {x : Str} {st : Stmt} {f : Addr} {oc : Value} {od an : Option Addr} {osl : Array (Option Value)} {kV doc pm cdv ct : Value} (X : K.In h) (G : h.Ns mainGlobals mg)
    (a : PySem.W.nsIn K mainGlobals x = some (some (.ref f))) (l : K.lookup f = some ⟨oc, od, .func (PySem.W.fnOf x x (cO st) (bC st) (aq st) .none kV doc pm an cdv ct), osl⟩)
    (c : PySem.W.codeIn K cdv x = true) (k : PySem.W.keepIn K (.ref f) = true) : aQ K mg x st := ⟨f, _, CA l c k, PySem.W.mg_of X G a⟩
theorem aQ.mk_def {x : Str} {st : Stmt} {N ps : List Str} {k : Nat} {sp : Sp} (F : aQ K mg x st) (S : aD N ps (aq st))
    (hb : ∀ (kV doc pm : Value) (an : Option Addr) (cdv ct : Value) (us : List Value), us.length = ps.length → bindArgs (PySem.W.fnOf x x (cO st) (bC st) (aq st) .none kV doc pm an cdv ct) ⟨us, []⟩ = pure (ps.zip us))
    (len : ∀ vs H Q E, sp vs H Q E → vs.length = ps.length)
    (hbody : ∀ (f : Addr) (cdv : Value) (A : Around) (outer : List Env) (s : Shared) (H : Hp) (vs : List V) (Q : VK) (E : XK), b6 k (A.deeper (envOfC x (aq st) s.heap.objs.size f cdv)) → sp vs H Q E →
      ∃ t, oI (oh sA P w K mg base N x (aq st) f cdv A outer s H E).nox (bC st) t ∧ t { nx := fun _ H' => Q .non H', rt := Q } (aH N vs) H) : kZ P w K mg base (k + 1) x ps sp := by
  obtain ⟨f, fd, F, m⟩ := F.ex
  exact ⟨f, fd, F.ok S len (hbody f), m, F.kp, F.binds hb⟩
end
theorem BN {X : Cx} {k : Nat} {x : Str} {ps : List Str} {sp : Sp} {p pos : Pos} {e : Expr} {es : List Expr} {t : TA} (D : kZ X.prog X.w X.K X.mg X.base k x ps sp) (hr : b6 k X.A) (hg : Gl X x) (ha : PA X (e :: es) t) (hdb : (x == ("__debug__" : Str)) = false := by decide)
    (he : starEach (e :: es) X.env = (false, eval e X.env) :: starEach es X.env := by rfl) (hpl : (backTo pos (starEach es X.env)).any (·.1) = false := by rfl) : PE X (.Call (.Name x p) (e :: es) [] pos) (sJ sp [] E0 t) := by
  obtain ⟨f, fd, F, m, kp, b⟩ := D.ex
  exact zI F hr hg m kp b .nil sW ha hdb he hpl
end L2
namespace L2
open PySem PySem.Spec PyProof.Rows
theorem zc {H : Hp} {p q : Addr} {o : HO} (h1 : (H q).isSome = true) (h2 : H p = none) : upd H p o q = H q := aV (by intro z; rw [z, h2] at h1; cases h1)
abbrev qy (H H' : Hp) : Prop := ∀ b, (H b).isSome = true → H' b = H b
theorem qy.upd {H : Hp} {p : Addr} (o : HO) (h : H p = none) : qy H (upd H p o) := fun _ hb => zc hb h
theorem qy.trans {H H1 H2 : Hp} (a : qy H H1) (b : qy H1 H2) : qy H H2 := fun c hc => by
  have e := a c hc
  rw [b c (by rw [e]; exact hc), e]
section
variable {X : Cx} {a b : Expr} {ta tb : TE} {pos : Pos}
end
structure vL (K : PySem.W.Frag) (C : Addr) : Prop where
  cl : pj K C
  ha : PySem.W.findIn K (.ref C) "__class__" = some (some (.builtin "object.__class__"))
  hn : PySem.W.specialIn K (.builtin "object.__class__") "__get__" = some (some (.builtin "getset_descriptor.__get__"))
  htk : PySem.W.takesIn K (.builtin "object.__class__") = some true
  hm : PySem.W.mroIn K C (.type "object") = some true
def AF : List V → Hp → VK → Prop := fun xs H Q => match xs with
  | [.int i, .int j] => Q (.int (if j < i then j else i)) H
  | _ => False
theorem uG {X : Cx} (hc : X.calm = true) : mT X (.builtin "min") AF := by
  intro pins s σ H xs us Q I r h
  match xs, h with
  | [.int i, .int j], h => exact wL hc pins s σ H _ us Q I r ⟨i, j, rfl, h⟩
def EO (K : PySem.W.Frag) (H : Hp) (x : V) (ns : List Int) : Prop := ∃ a, x = .ref a ∧ ka K H a (ns.map V.int)
theorem EO.ext {K : PySem.W.Frag} {H H' : Hp} {x : V} {ns : List Int} (h : EO K H x ns) (e : qy H H') : EO K H' x ns := by
  obtain ⟨a, rfl, h⟩ := h
  refine ⟨a, rfl, ?_⟩
  rcases h with (h | ⟨o, h⟩) | h
  · exact .inl (.inl (by rw [e a (by rw [h]; rfl), h]))
  · exact .inl (.inr ⟨o, by rw [e a (by rw [h]; rfl), h]⟩)
  · exact .inr h
section
variable {X : Cx}
end
def sp_law (K : PySem.W.Frag) : Sp := fun vs H Q _ => match vs with
  | [x] => ∃ ns, EO K H x ns ∧ ns.length ≤ 63 ∧ ∀ H', Q (.bl true) H'
  | _ => False
structure Is {α : Type} (a b : α) : Prop where
  eq : a = b
theorem dD {A : Around} {k : Nat} (h : b6 k A) : A.units + 64 < cLine := h.units
end L2
set_option maxHeartbeats 4000000
namespace L2
open PySem PySem.Spec PyProof.Rows PySem.W
def tK : List Value := [.type "ValueError", .type "Exception", .type "BaseException", .type "object"]
def oe (K : Frag) (C : Addr) : Bool := match K.lookup C with
  | some ⟨.type "type", _, .cls cd, sl⟩ => (match cd.mro, sl.toList with
    | .ref C' :: bm, [_, _, _, _, some (.builtin n), _] => C' == C && n == "ValueError.__new__" && !cd.hasDel && cd.hasDict && tailIn K tK bm && nsOkIn K cd.ns
    | _, _ => false)
  | _ => false
theorem pd {K : Frag} {h : Heap} {C : Addr} (X : K.In h) (q : oe K C = true) : ∃ bm N nm qn bs sn sub ab col dd k0 k1 k2 k3 k5,
    h.get? C = some (excClassObj nm qn C N bs bm true sn sub ab col dd k0 k1 k2 k3 k5 "ValueError.__new__") ∧ OwnTail h tK bm ∧ clsIn K C = some { name := nm, bases := bs, mro := .ref C :: bm, ns := N, qualname := qn, hasDict := true, slotNames := sn, subclasses := sub, abstract := ab, collection := col, hasDel := false } := by
  unfold oe at q
  split at q
  · rename_i dd cd sl ho
    split at q
    · rename_i C' bm k0 k1 k2 k3 n k5 hm hs
      simp only [Bool.and_eq_true, beq_iff_eq, Bool.not_eq_true'] at q
      obtain ⟨⟨⟨⟨⟨rfl, rfl⟩, hdel⟩, hhd⟩, ht⟩, hok⟩ := q
      obtain ⟨nm, bs, mro, ns, qn, hd, sn, sub, ab, col, del⟩ := cd
      dsimp only at hm hdel hok hhd
      subst hm hdel hhd
      have hsl : sl = #[k0, k1, k2, k3, some (.builtin "ValueError.__new__"), k5] := by
        obtain ⟨l⟩ := sl
        simp only at hs
        rw [hs]
      subst hsl
      exact ⟨bm, ns, nm, qn, bs, sn, sub, ab, col, dd, k0, k1, k2, k3, k5, X _ _ ho, tail_of_in X ht, by unfold clsIn; rw [ho]⟩
    · cases q
  · cases q
abbrev EX (vs : List Value) : Obj := { cls := .type "tuple", data := .seq vs.toArray }
abbrev Fs (C t : Addr) : Obj := { cls := .ref C, data := .fields #[.ref t, .none, .none, .none, .bool false, .none] }
section
variable {prog : Program} {w : World} {A : Around} {R : Result → Shared → Prop} {h : Heap} {g : Array GenState} {d : Drawn} {t : Nat} {os : OsState} {K : Frag} {C : Addr}
end
structure Ey (K : Frag) (C : Addr) : Prop where
  cl : oe K C = true
  sa : findIn K (.ref C) "__setattr__" = some (some (.builtin "object.__setattr__"))
  ga : findIn K (.ref C) "__getattribute__" = some (some (.builtin "BaseException.__getattribute__"))
  gt : findIn K (.ref C) "__getattr__" = some none
section
variable {prog : Program} {w : World} {A : Around} {R : Result → Shared → Prop} {K : Frag} {C x : Addr} {s : Shared}
theorem Ac {h : Heap} {M : Model} (X : K.In h) (q : oe K C = true) {b : Value} {T : String} (e : b = .type T) (hb : tK.contains (.type T) = true) : Looks M h (isSubtype (.ref C) b) true := by
  obtain ⟨bm, N, nm, qn, bs, sn, sub, ab, col, dd, k0, k1, k2, k3, k5, hC, T', hcl⟩ := pd X q
  subst e
  refine looks_mroIn X ?_
  unfold mroIn
  rw [hcl, Option.bind_some]
  show (if (Value.ref C :: bm).isEmpty = true then none else some ((Value.ref C :: bm).contains (.type T))) = some true
  rw [if_neg (by simp), List.contains_cons, T'.hasType hb, Bool.or_true]
end
section
variable {X : Cx} {pins : List (Addr × Obj)} {σ : St} {H : Hp} {s : Shared} {a C : Addr} {dx : Option Addr} {fs : List (Str × V)} {f : Str} {v : V} {A : Around} {E : Value → Shared → Prop}
theorem Af (I : aB X pins σ H s) (e : H a = some (.exc C dx fs)) : ∃ o vs, s.heap.get? a = some o ∧ o.cls = .ref C ∧ o.dict = dx ∧ o.data = .fields vs ∧ fs.length ≤ 1000 ∧ (∀ d, dx = some d → H d = some (.own a) ∧ d ≠ a) ∧
    ∃ mA, F1 s.heap dx mA ∧ (∀ f, nN (fs.lookup f) (mA f)) ∧ PySem.Within mA (fs.map (·.1)) :=
  (show dJ X.prog X.w H s.heap a (.exc C dx fs) from I.hok a _ e)
theorem tJ (I : aB X pins σ H s) (e : H a = some (.exc C dx fs)) : ∃ ox od, InstAt s.heap a ox C od ∧ ox.dict = dx ∧ (∃ vs, ox.data = .fields vs) ∧ (∀ name, nN (fs.lookup name) ((match od with | some o => lookIn name o | none => some none).getD none)) ∧ (∀ name, (match od with | some o => lookIn name o | none => some none).isSome = true) ∧ s.heap.get? a = some ox := by
  obtain ⟨o, vs, ho, hc, hd, hv, hl, hw, mA, hm, r, wi⟩ := Af I e
  cases dx with
  | none =>
    refine ⟨o, none, ⟨ho, hc, by unfold notCls; rw [hv], by rw [hd]; exact True.intro⟩, hd, ⟨vs, hv⟩, fun name => ?_, fun _ => rfl, ho⟩
    have := r name
    rw [hm name] at this
    exact this
  | some d =>
    obtain ⟨od, hod, hlk⟩ := qH hm
    refine ⟨o, some od, ⟨ho, hc, by unfold notCls; rw [hv], by rw [hd]; exact hod⟩, hd, ⟨vs, hv⟩, fun name => ?_, fun name => ?_, ho⟩
    · show nN (fs.lookup name) ((lookIn name od).getD none)
      rw [hlk name]; exact r name
    · show (lookIn name od).isSome = true
      rw [hlk name]; rfl
end
structure qR (K : Frag) (C : Addr) : Prop extends Ey K C where
  ha : findIn K (.ref C) "__class__" = some (some (.builtin "object.__class__"))
  hn : specialIn K (.builtin "object.__class__") "__get__" = some (some (.builtin "getset_descriptor.__get__"))
  htk : takesIn K (.builtin "object.__class__") = some true
theorem wG {K : Frag} {C a : Addr} {ox : Obj} {od : Option Obj} {prog : Program} {w : World} {A : Around} {E : Value → Shared → Prop} {Q : Option Value → Shared → Prop} {s : Shared} (c : qR K C) (KX : K.In s.heap) (J : InstAt s.heap a ox C od) (h : Q (some (.ref C)) { s with toks := s.toks + 1 }) :
    wpAny (model prog w) A (getAttr? (.ref a) "__class__") Q E s := by
  have Lt : Looks (model prog w) s.heap (typeOf (.ref a)) (.ref C) := J.type
  have Lf := looks_findIn (M := model prog w) KX c.ha
  have Lga := looks_findIn (M := model prog w) KX c.ga
  have Lgt := looks_findIn (M := model prog w) KX c.gt
  have Lg := looks_specialIn (M := model prog w) KX c.hn
  have Ltk := looks_takesIn (M := model prog w) KX c.htk
  have hm : mroIn K C (.type "object") = some true := by
    obtain ⟨bm, N, nm, qn, bs, sn, sub, ab, col, dd, k0, k1, k2, k3, k5, hC, T', hcl⟩ := pd KX c.cl
    unfold mroIn
    rw [hcl, Option.bind_some]
    show (if (Value.ref C :: bm).isEmpty = true then none else some ((Value.ref C :: bm).contains (.type "object"))) = some true
    rw [if_neg (by simp), List.contains_cons, T'.hasType (show tK.contains (.type "object") = true by decide), Bool.or_true]
  obtain ⟨hp, g, d, tk, os⟩ := s
  dsimp only at *
  have FB := PySem.F.attrBase_ValueError
  have f3 := FB.ga.bind (.ref a)
  have hx2 : (Value.builtin "BaseException.__getattribute__" == Value.builtin "object.__getattribute__") = false := by decide +kernel
  have hx1 : (onTheHeap (Value.ref C) && Value.builtin "BaseException.__getattribute__" == Value.builtin "object.__getattribute__") = false := by rw [hx2]; rfl
  unfold getAttr? getAttrBy?
  repeat (any_goals (first | assumption | with_reducible refine Lt.at ?_ | with_reducible refine Lga.at ?_ | with_reducible refine Lgt.at ?_ | wp_step))
  have sub : Looks (model prog w) hp (isInstance (.ref a) (.type "BaseException")) true := Lt.andThen (Ac KX c.cl rfl (by decide))
  refine codeAny_call_builtin FB.ga.plain PySem.F.entry_bexc_ga (@check_slot (model prog w) _ _ ⟨hp, g, d, tk + 1, os⟩ "BaseException.__getattribute__" "BaseException" "__getattribute__" (.ref a) [.str "__class__" tk] [] _ (by decide +kernel) (by decide +kernel) sub (PySem.F.args_bexc_ga _ _) ?_)
  show wpAny _ _ (Builtin.«object.__getattribute__» ⟨[.ref a, .str "__class__" tk], []⟩) _ _ _
  unfold Builtin.«object.__getattribute__» Builtin.ObjectAttr.find
  repeat (any_goals (first | assumption | with_reducible refine Lt.at ?_ | with_reducible refine Lf.at ?_ | with_reducible refine Lg.at ?_ | with_reducible refine Ltk.at ?_ | wp_step))
  refine class_get (s := ⟨hp, g, d, tk + 1, os⟩) KX J hm ?_
  repeat (any_goals (first | assumption | wp_step))
section
variable {X : Cx} {pins : List (Addr × Obj)} {σ : St} {H : Hp} {s : Shared} {a C : Addr} {dx : Option Addr} {fs : List (Str × V)} {f : Str} {v : V} {A : Around} {E : Value → Shared → Prop}
theorem mG.laidN {P : Program} {w : World} {H : Hp} {h h' : Heap} {a : Addr} {o : HO} (x : mG P w H h) (k : ∀ b u, h.get? b = some u → h'.get? b = some u) (hn : H a = none) (new : dJ P w (upd H a o) h' a o) : mG P w (upd H a o) h' := fun b u e => by
  by_cases hb : b = a
  · subst hb; rw [bK] at e; cases e; exact new
  · rw [aV hb] at e
    exact (x b u e).stay (fun c v _ q => k c v q) (fun c q => by rw [aV (cK q hn)]; exact q) fun c xs q => by rw [aV (cK q hn)]; exact q
theorem Un.laidN {fs ex : List Addr} {H : Hp} {h h' : Heap} {a : Addr} {o : HO} (k : ∀ b u, h.get? b = some u → h'.get? b = some u) (ha : h.get? a = none) (hn : H a = none) : Un fs ex H (upd H a o) h h' where
  keep := fun b u q _ _ _ => k b u q
  slot := fun b u q _ _ _ => ⟨u.slots, k b u q⟩
  free := fun b u q n _ => by rw [aV (fun z => by rw [z, ha] at q; cases q)]; exact n
  there := fun b u q _ => ⟨u, k b u q⟩
  tups := fun b xs q => by rw [aV (cK q hn)]; exact q
  frzs := fun b u xs q => by rw [aV (cK q hn)]; exact q
  tbls := fun b ps q => ⟨#[], by rw [aV (cK q hn), q]; simp⟩
theorem mG.gone {P : Program} {w : World} {H : Hp} {h : Heap} {a : Addr} (x : mG P w H h) (ha : h.get? a = none) : H a = none := by
  cases e : H a with
  | none => rfl
  | some o =>
    have k := x a o e
    have : ∃ ob, h.get? a = some ob := by
      cases o with
      | lst xs => obtain ⟨_, _, _, _, z⟩ := k; exact ⟨_, z⟩
      | tup xs => obtain ⟨_, _, _, ob, z, _⟩ := k; exact ⟨_, z⟩
      | dK kvs => obtain ⟨_, _, _, _, ob, _, _, z, _⟩ := k; exact ⟨_, z⟩
      | dT kvs => obtain ⟨_, _, _, _, ob, _, _, z, _⟩ := k; exact ⟨_, z⟩
      | set S n => obtain ⟨ob, _, _, _, z, _⟩ := k; exact ⟨_, z⟩
      | ins C dx fs => obtain ⟨_, _, _, z, _⟩ := k; exact ⟨_, z⟩
      | own y => exact k
      | xd fs => obtain ⟨_, ⟨ob, _, _, z, _⟩, _⟩ := k; exact ⟨_, z⟩
      | rng lo hi => obtain ⟨_, _, _, z⟩ := k; exact ⟨_, z⟩
      | frz ob u => exact ⟨_, k.1⟩
      | tbl ps => exact ⟨_, k⟩
      | met f y => exact ⟨_, k⟩
      | exc C dx fs => obtain ⟨ob, _, z, _⟩ := k; exact ⟨_, z⟩
      | ext φ => exact k.2.1
    obtain ⟨ob, z⟩ := this
    rw [z] at ha
    cases ha
theorem aB.excMade {h' : Heap} {e : Addr} {us : List Value} (I : aB X pins σ H s) (m : Heap.MadeExcOf s.heap h' e (.ref C) us) : H e = none ∧ aB X pins σ (upd H e (.exc C none [])) { s with heap := h' } := by
  have hn := I.hok.gone m.new
  refine ⟨hn, I.un (t' := s.toks) (Un.laidN m.keeps m.new hn) (I.hok.laidN m.keeps hn ?_)⟩
  obtain ⟨t, he, _, _⟩ := m.there
  exact ⟨_, _, he, rfl, rfl, rfl, Nat.zero_le _, ⟨(fun d q => by cases q), fun _ => none, fun _ => rfl, fun _ => True.intro, fun y hy => absurd rfl hy⟩⟩
theorem tL {K : Frag} {h₀ : Heap} {C : Addr} {bmB : List Value} {newId : String} (X : K.In h₀) (q : excIn K C bmB newId = true) : ∃ bm N nm q bs hdct sn sub ab col dd k0 k1 k2 k3 k5 mN, h₀.get? C = some (excClassObj nm q C N bs bm hdct sn sub ab col dd k0 k1 k2 k3 k5 newId) ∧ h₀.Ns N mN ∧ mN "__init__" = none ∧ OwnTail h₀ bmB bm := by
  unfold excIn at q
  split at q
  · rename_i dd cd sl ho
    split at q
    · rename_i C' bm k0 k1 k2 k3 n k5 hm hs
      simp only [Bool.and_eq_true, beq_iff_eq, Bool.not_eq_true'] at q
      obtain ⟨⟨⟨⟨⟨rfl, rfl⟩, hdel⟩, ht⟩, hok⟩, hni⟩ := q
      obtain ⟨nm, bs, mro, ns, qn, hd, sn, sub, ab, col, del⟩ := cd
      dsimp only at hm hdel hok hni
      subst hm hdel
      have hsl : sl = #[k0, k1, k2, k3, some (.builtin n), k5] := by
        obtain ⟨l⟩ := sl
        simp only at hs
        rw [hs]
      subst hsl
      exact ⟨bm, ns, nm, qn, bs, hd, sn, sub, ab, col, dd, k0, k1, k2, k3, k5, _, X _ _ ho, .of_isNs (isNs_of_in X hok), nsMap_none_of_in X hok hni, tail_of_in X ht⟩
    · cases q
  · cases q
structure wO (K : Frag) (mg : Str → Option Value) (x : Str) (C : Addr) : Prop where
  at_ : mg x = some (.ref C)
  ex : excIn K C tK "ValueError.__new__" = true
  kp : keepIn K (.ref C) = true
structure Gn (K : Frag) (mg : Str → Option Value) (x : Str) (C f : Addr) : Prop where
  at_ : mg x = some (.ref C)
  ex : oe K C = true
  kp : keepIn K (.ref C) = true
  init : findIn K (.ref C) "__init__" = some (some (.ref f))
  fn : isFn K (.ref f) = true
end
end L2
namespace L2
open PySem PySem.Spec PyProof.Rows
abbrev tO (X : Cx) (cs : List Str) : List (Str × Addr) := cs.map fun y => (y, (X.env.cells.lookup y).getD 0)
structure Az (X : Cx) (scope : Scope) (cs : List Str) : Prop where
  clos : closureFor scope X.env = pure (tO X cs)
  some_ : ∀ y ∈ cs, (X.env.cells.lookup y).isSome = true
  kc : ∀ y ∈ cs, X.env.scope.names.lookup y = some .cell ∧ (relabel scope X.env).names.lookup y = some .cell
  kind : scope.kind = .function
  nocell : ∀ y ∈ scope.names, y.2 ≠ .cell
  names : ∀ y ∈ scope.names, y.2 = .local → scope.names.lookup y.1 = some .local
  has : ∀ y ∈ (relabel scope X.env).names, y.2 = .cell ∨ y.2 = .free → y.1 ∈ cs
theorem sg {X : Cx} {scope : Scope} (cs : List Str) (h1 : closureFor scope X.env = pure (tO X cs)) (h2 : cs.all (fun y => (X.env.cells.lookup y).isSome) = true)
    (h3 : cs.all (fun y => X.env.scope.names.lookup y == some .cell && (relabel scope X.env).names.lookup y == some .cell) = true) (h4 : scope.kind = .function) (h5 : ∀ y ∈ scope.names, y.2 ≠ .cell)
    (h6 : ∀ y ∈ scope.names, y.2 = .local → scope.names.lookup y.1 = some .local) (h7 : (relabel scope X.env).names.all (fun y => (y.2 != .cell && y.2 != .free) || cs.contains y.1) = true) : Az X scope cs where
  clos := h1
  some_ := fun y hy => List.all_eq_true.mp h2 y hy
  kc := fun y hy => by
    have := List.all_eq_true.mp h3 y hy
    simp only [Bool.and_eq_true, beq_iff_eq] at this
    exact this
  kind := h4
  nocell := h5
  names := h6
  has := fun y hy hk => by
    have := List.all_eq_true.mp h7 y hy
    simp only [Bool.or_eq_true, Bool.and_eq_true, bne_iff_ne, List.contains_iff_mem] at this
    rcases this with ⟨n1, n2⟩ | h
    · rcases hk with k | k
      · exact absurd k n1
      · exact absurd k n2
    · exact h
theorem ky {β : Type} : ∀ {l : List (Str × β)} {y : Str} {k : β}, l.lookup y = some k → (y, k) ∈ l
  | [], _, _, h => by cases h
  | (z, b) :: r, y, k, h => by
    rw [List.lookup_cons] at h
    split at h
    · rename_i e
      cases h
      rw [beq_iff_eq.mp e]
      exact List.mem_cons_self
    · exact List.mem_cons_of_mem _ (ky h)
theorem p8 {X : Cx} : ∀ {cs : List Str} {y : Str}, y ∈ cs → (tO X cs).lookup y = some ((X.env.cells.lookup y).getD 0)
  | z :: r, y, h => by
    show List.lookup y ((z, (X.env.cells.lookup z).getD 0) :: tO X r) = _
    rw [List.lookup_cons]
    split
    · rename_i e
      rw [beq_iff_eq.mp e]
    · rename_i e
      rcases List.mem_cons.mp h with q | q
      · subst q
        simp at e
      · exact p8 q
section
variable {X : Cx} {scope : Scope} {cs : List Str} {pins : List (Addr × Obj)} {σ : St} {H : Hp} {s : Shared} {fp : List Addr}
theorem Az.sub (c : Az X scope cs) {y : Str} {a : Addr} (h : (tO X cs).lookup y = some a) : X.env.cells.lookup y = some a ∧ y ∈ cs := by
  have m := ky h
  obtain ⟨z, hz, e⟩ := List.mem_map.mp m
  injection e with e1 e2
  subst e1
  refine ⟨?_, hz⟩
  have := c.some_ z hz
  cases q : X.env.cells.lookup z with
  | none => rw [q] at this; cases this
  | some b => rw [q] at e2; rw [← e2]; rfl
def b8 (X : Cx) (scope : Scope) (cs N' : List Str) (s₀ : Shared) (H₀ : Hp) (ex : List Addr) : Cx where
  prog := X.prog
  w := X.w
  K := X.K
  mg := X.mg
  base := X.base
  A := X.A
  N := N'
  s₀ := s₀
  H₀ := H₀
  env := compEnvC scope (tO X cs) s₀.heap.objs.size X.env
  outer := X.stack
  stack := X.stack
  ex := ex
  fn := fun _ => false
  calm := X.calm
  pn := []
  xe := fun _ _ => False
theorem vG (c : Az X scope cs) (I : aB X pins σ H s) (hf : ∀ b ∈ fp, mJ X pins H b) (ho : ∀ b ∈ fp, ∃ o, s.heap.get? b = some o) (N' : List Str) : (b8 X scope cs N' s H fp).Ok where
  mod := I.ok.mod
  kind := c.kind
  glob := I.ok.glob
  blt := I.ok.blt
  above := Nat.le_refl _
  inj := fun x y a h1 h2 => I.ok.inj x y a (c.sub h1).1 (c.sub h2).1
  has := fun x h => by
    have m : x ∈ cs := by
      rcases h with h | h
      · exact c.has _ (ky h) (.inl rfl)
      · exact c.has _ (ky h) (.inr rfl)
    exact ⟨_, p8 m⟩
  cab := fun _ _ h => nomatch h
  hd := I.ok.hd
  frames := I.ok.frames
  stk := .inl rfl
  exf := fun b hb => by
    obtain ⟨o, e⟩ := ho b hb
    exact ⟨Nat.ne_of_lt (Heap.lt_size e), fun x a h => (hf b hb).2.2.2.2.1 x a (c.sub h).1⟩
  bs := fun b o e => I.bs b o e
  bsz := Nat.le_trans I.ok.bsz I.sz
  noex := fun b o e hb => by
    rcases (hf b hb).2.2.2.1 with z | z
    · exact I.ok.noex b o e z
    · exact absurd (Nat.lt_of_lt_of_le (Nat.lt_of_lt_of_le (Heap.lt_size e) I.ok.bsz) z) (Nat.lt_irrefl _)
  exfs := fun b hb hs => by
    rcases List.mem_cons.mp (I.stkSub b hs) with z | z
    · exact (hf b hb).2.1 z
    · exact (hf b hb).2.2.1 z
  funs := I.stack
  frf := I.stkFree
theorem yH {N' : List Str} {σ' : St} {H' : Hp} {s' : Shared} {h' : Heap} {pl : List (Addr × Obj)} (c : Az X scope cs) (I : aB X pins σ H s) (hf : ∀ b ∈ fp, mJ X pins H b) (J : aB (b8 X scope cs N' s H fp) pl σ' H' s') (hs : Heap.SameBut s.heap.objs.size s'.heap h') :
    aB X pins σ H' { s' with heap := h' } := by
  have hL : H' s.heap.objs.size = none := J.free
  have u := J.base
  have ne : ∀ b o, s.heap.get? b = some o → b ≠ s.heap.objs.size := fun b o e => Nat.ne_of_lt (Heap.lt_size e)
  have neT : ∀ b o, H' b = some o → b ≠ s.heap.objs.size := fun b o e z => by rw [z, hL] at e; cases e
  refine aB.call' (s' := { s' with heap := h' }) (ch := fp) I J.os ?_ ?_ J.bare fun b hb => ⟨(hf b hb).2.2.2.1, (hf b hb).2.1, (hf b hb).2.2.2.2.1, (hf b hb).2.2.2.2.2⟩
  · exact ⟨fun b o q n hb hx => (hs.2 b (ne b o q)).trans (u.keep b o q n hb hx), fun b o q n hb hx => by
      obtain ⟨sl, e⟩ := u.slot b o q n hb hx
      exact ⟨sl, (hs.2 b (ne b o q)).trans e⟩, u.free, fun b o q hx => by
      obtain ⟨o', e⟩ := u.there b o q hx
      exact ⟨o', (hs.2 b (ne b o q)).trans e⟩, u.tups, u.frzs, u.tbls⟩
  · intro a o e
    exact (J.hok a o e).stay (fun b v hb q => (hs.2 b (by
      rcases hb with rfl | hb
      · exact neT _ _ e
      · exact neT _ _ hb)).trans q) (fun _ q => q) fun _ _ q => q
end
section
variable {X : Cx} {pins : List (Addr × Obj)} {σ : St} {H : Hp} {s : Shared}
end
end L2
namespace L2
open PySem PySem.Spec PyProof.Rows PySem.W
theorem As : bootBuiltins (Str.ofString "ValueError") = some (.type "ValueError") := by kernel_rfl
def Kn (H : Hp) (L : List (Addr × HO)) : Prop := ∀ p ∈ L, H p.1 = some p.2
theorem Kn.ext {H H' : Hp} {L : List (Addr × HO)} (h : Kn H L) (e : qy H H') : Kn H' L := fun p hp => by
  rw [e p.1 (by rw [h p hp]; rfl)]
  exact h p hp
theorem Kn.nil (H : Hp) : Kn H [] := fun _ h => by cases h
section
variable {H H1 : Hp} {L : List (Addr × HO)} {σ : St} {i : Nat} {v : V} {C : Addr} {Q : VK}
end
structure FE (K : Frag) (C : Addr) (m qual : Str) (st : Stmt) : Prop where
  ex : ∃ f fd, Ay K m qual st f fd ∧ findIn K (.ref C) m = some (some (.ref f)) ∧ isFn K (.ref f) = true
structure aS (P : Program) (w : World) (K : Frag) (mg : Str → Option Value) (base : Heap) (k : Nat) (C : Addr) (m : Str) (ps : List Str) (sp : Sp) : Prop where
  ex : ∃ f fd, m5 P w K mg base sA k f fd ps sp ∧ findIn K (.ref C) m = some (some (.ref f)) ∧ isFn K (.ref f) = true ∧ keepIn K (.ref f) = true ∧ gg K fd ps []
structure Gm (K : Frag) (mg : Str → Option Value) (x : Str) (C : Addr) : Prop where
  at_ : mg x = some (.ref C)
  ex : oe K C = true
  kp : keepIn K (.ref C) = true
end L2
namespace HL
open PySem (Str)
inductive W where
  | non | bl (b : Bool) | int (i : Int) | str (s : Str) | ref (i : Nat) | ty (n : String) | gl (x : Str)
  deriving DecidableEq, Repr, Inhabited
inductive SO where
  | lst (xs : List W) | rol (xs : List W) | tup (xs : List W) | ins (c : Str) (fs : List (Str × W)) | exc (c : Str) (fs : List (Str × W))
  deriving DecidableEq, Repr, Inhabited
abbrev Sh := List SO
inductive R (α : Type) where
  | ok (a : α) (h : Sh) | ex (e : Nat) (h : Sh) | er
  deriving Repr
def R.bind {α β : Type} (r : R α) (f : α → Sh → R β) : R β := match r with
  | .ok a h => f a h
  | .ex e h => .ex e h
  | .er => .er
inductive OR where
  | er | val (v : W) | new (o : SO)
def OR.fin (o : OR) (h : Sh) : R W := match o with
  | .er => .er
  | .val v => .ok v h
  | .new o => .ok (.ref h.length) (h ++ [o])
abbrev Sg := List (Option W)
inductive C where
  | nx (s : Sg) (h : Sh) | rt (v : W) (h : Sh) | bk (s : Sg) (h : Sh) | ct (s : Sg) (h : Sh) | ex (e : Nat) (h : Sh) | er
  deriving Repr
abbrev DE := Sg → Sh → R W
abbrev DT := Sg → Sh → R Bool
abbrev DA := Sg → Sh → R (List W)
abbrev DS := Sg → Sh → C
abbrev Fn := List W → Sh → R W
def hW : Nat := 100000
def bE (h : Sh) (x : W) : Option (List W) := match x with
  | .ref i => (match h[i]? with
    | some (.lst xs) => some xs
    | some (.rol xs) => some xs
    | _ => none)
  | _ => none
def iy (h : Sh) (x : W) : Option (List W) := match x with
  | .ref i => (match h[i]? with
    | some (.tup xs) => some xs
    | _ => none)
  | _ => none
def cy (h : Sh) (x : W) : Option (List W) := (bE h x).or (iy h x)
inductive D where
  | non | bl (b : Bool) | int (i : Int) | str (s : Str) | lst (xs : List D) | tup (xs : List D)
mutual
def D.eq : D → D → Bool
  | .non, y => (match y with | .non => true | _ => false)
  | .bl a, y => (match y with | .bl b => a == b | .int j => (if a then 1 else 0) == j | _ => false)
  | .int i, y => (match y with | .bl b => i == (if b then 1 else 0) | .int j => i == j | _ => false)
  | .str a, y => (match y with | .str b => a == b | _ => false)
  | .lst xs, y => (match y with | .lst ys => D.eqs xs ys | _ => false)
  | .tup xs, y => (match y with | .tup ys => D.eqs xs ys | _ => false)
def D.eqs : List D → List D → Bool
  | [], ys => ys.isEmpty
  | x :: xs, ys => (match ys with | [] => false | y :: ys => D.eq x y && D.eqs xs ys)
end
def du (f : W → Option D) : List W → Option (List D)
  | [] => some []
  | x :: r => (f x).bind fun d => (du f r).map (d :: ·)
def Fe (s : Str) : Bool := decide (s.length ≤ hW) && s.cps.toList.all fun c => decide (c < 1114112)
def dat : Nat → Sh → W → Option D
  | _, _, .non => some .non
  | _, _, .bl b => some (.bl b)
  | _, _, .int i => some (.int i)
  | _, _, .str x => if Fe x then some (.str x) else none
  | n + 1, h, .ref i => (match h[i]? with
    | some (.lst xs) => (du (dat n h) xs).map .lst
    | some (.rol xs) => (du (dat n h) xs).map .lst
    | some (.tup xs) => (du (dat n h) xs).map .tup
    | _ => none)
  | _, _, _ => none
def o5 : Nat := 8
abbrev O1 := W → Sh → OR
abbrev O2 := W → W → Sh → OR
def fL (i j : Int) : Bool := decide (i.natAbs < 2 ^ 64) || decide (j.natAbs < 2 ^ 64)
def bu : O2 := fun x y h => match x, y with
  | .int i, .int j => .val (.int (i + j))
  | .str s, .str t => if s.length + t.length ≤ hW then .val (.str (s ++ t)) else .er
  | .ref i, .ref j => (match h[i]?, h[j]? with
    | some (.lst xs), some (.lst ys) => if xs.length + ys.length ≤ hW then .new (.lst (xs ++ ys)) else .er
    | some (.tup xs), some (.tup ys) => if xs.length + ys.length ≤ hW ∧ xs ≠ [] then (if ys = [] then .val x else .new (.tup (xs ++ ys))) else .er
    | _, _ => .er)
  | _, _ => .er
def eP (c : Int → Int → Bool) (f : Int → Int → Int) : O2 := fun x y _ => match x, y with
  | .int i, .int j => if c i j then .val (.int (f i j)) else .er
  | _, _ => .er
def eN : O2 := eP (fun _ _ => true) fun i j => i - j
def cj : O2 := fun x y h => match x, y with
  | .int i, .int j => if fL i j then .val (.int (i * j)) else .er
  | .ref i, .int k => (match h[i]? with
    | some (.lst xs) => if k < 2 ^ 20 ∧ -(2 ^ 20) < k ∧ xs.length * k.toNat ≤ hW then .new (.lst (List.replicate k.toNat xs).flatten) else .er
    | _ => .er)
  | _, _ => .er
def ck : O2 := eP (fun _ j => decide (0 < j) && decide (j < 1073741824)) fun i j => i / j
def bp : O2 := eP (fun _ j => decide (0 < j)) fun i j => i % j
def rX : O2 := eP (fun i j => decide (0 ≤ j) && decide (j ≤ 1000000) && decide (i.natAbs < 2 ^ 64)) fun i j => i ^ j.toNat
def gX (p : Int → Int → Bool) : O2 := fun x y _ => match x, y with
  | .int i, .int j => .val (.bl (p i j))
  | _, _ => .er
def oz : O2 := gX fun i j => decide (i ≤ j)
def nJ (x y : W) (h : Sh) : Option Bool := match x, y with
  | .str a, .str b => some (decide (a = b))
  | .int a, .int b => some (decide (a = b))
  | x, y => (match dat o5 h x, dat o5 h y with
    | some a, some b => some (D.eq a b)
    | _, _ => none)
def jf : O2 := fun x y h => match nJ x y h with
  | some b => .val (.bl b)
  | none => .er
def td : O2 := fun x y h => match nJ x y h with
  | some b => .val (.bl (!b))
  | none => .er
def AR : O2 := fun x y _ => match y with
  | .non => .val (.bl (decide (x = .non)))
  | _ => .er
def gv : O2 := fun x y _ => match y with
  | .non => .val (.bl (!decide (x = .non)))
  | _ => .er
def kX : W → Bool
  | .non => true
  | .bl _ => true
  | .int _ => true
  | .str _ => true
  | _ => false
def Ft : W → W → Bool
  | .non, .non => true
  | .bl a, .bl b => a == b
  | .bl a, .int b => (if a then 1 else 0) == b
  | .int a, .bl b => a == (if b then 1 else 0)
  | .int a, .int b => a == b
  | .str a, .str b => a == b
  | _, _ => false
def AV (x : W) (xs : List W) : Bool := xs.any fun y => Ft y x
def zS : O2 := fun x y h => match cy h y with
  | some xs => if kX x && xs.all kX then .val (.bl (AV x xs)) else .er
  | none => .er
def jP : O2 := fun x y h => match cy h y with
  | some xs => if kX x && xs.all kX then .val (.bl (!AV x xs)) else .er
  | none => .er
def wQ (n : Nat) (i : Int) : Option Nat := if 0 ≤ i then (if i < n then some i.toNat else none) else if -(n : Int) ≤ i then some (i + n).toNat else none
def qb (xs : List W) (i : Int) : Option W := (wQ xs.length i).bind fun j => xs[j]?
def gW : O2 := fun x y h => match cy h x, y with
  | some xs, .int i => (match qb xs i with
    | some v => .val v
    | none => .er)
  | _, _ => .er
def dP : O1 := fun x _ => match x with
  | .int i => .val (.int (-i))
  | _ => .er
def dM (x : W) (h : Sh) : Option Bool := match x with
  | .non => some false
  | .bl b => some b
  | .int i => some (i != 0)
  | .str s => if s.length ≤ hW then some ((s.length : Int) != 0) else none
  | .ref i => (match h[i]? with
    | some (.lst xs) => some (!xs.isEmpty)
    | some (.rol xs) => some (!xs.isEmpty)
    | some (.tup xs) => some (!xs.isEmpty)
    | _ => none)
  | _ => none
def af (i : Nat) : DE := fun s h => match s[i]? with
  | some (some v) => .ok v h
  | _ => .er
def dC (v : W) : DE := fun _ h => .ok v h
def aE (f : O2) (a b : DE) : DE := fun s h => (a s h).bind fun x h => (b s h).bind fun y h => (f x y h).fin h
def mF (f : O1) (a : DE) : DE := fun s h => (a s h).bind fun x h => (f x h).fin h
def aj : DA := fun _ h => .ok [] h
def aa (a : DE) (r : DA) : DA := fun s h => (a s h).bind fun x h => (r s h).bind fun xs h => .ok (x :: xs) h
def dB (f : List W → Sh → OR) (as : DA) : DE := fun s h => (as s h).bind fun xs h => (f xs h).fin h
def cW : List W → Sh → OR := fun xs _ => if xs.length ≤ hW then .new (.lst xs) else .er
def hV : List W → Sh → OR := fun xs _ => if xs.length ≤ hW then .new (.tup xs) else .er
def dT (a : DE) : DT := fun s h => (a s h).bind fun x h => match dM x h with
  | some b => .ok b h
  | none => .er
def cP (a : DT) : DT := fun s h => (a s h).bind fun b h => .ok (!b) h
def gh (a b : DT) : DT := fun s h => (a s h).bind fun c h => if c = true then b s h else .ok false h
def lC (a b : DT) : DT := fun s h => (a s h).bind fun c h => if c = true then .ok true h else b s h
def fg (a b : DE) : DE := fun s h => (a s h).bind fun x h => match x with
  | .bl c => if c = true then b s h else .ok (.bl false) h
  | _ => .er
def qa (a b : DE) : DE := fun s h => (a s h).bind fun x h => match x with
  | .bl c => if c = true then .ok (.bl true) h else b s h
  | _ => .er
def ig (a : DE) : DE := fun s h => (a s h).bind fun x h => match x with
  | .bl c => .ok (.bl (!c)) h
  | _ => .er
def bW (f g : O2) (a b c : DE) : DE := fun s h => (a s h).bind fun x h => (b s h).bind fun y h => ((f x y h).fin h).bind fun z h => match z with
  | .bl k => if k = true then (c s h).bind fun w h => (g y w h).fin h else .ok (.bl false) h
  | _ => .er
def aC (f : Fn) (as : DA) : DE := fun s h => (as s h).bind fun xs h => f xs h
def aH (n : Nat) (vs : List W) : Sg := vs.map some ++ List.replicate (n - vs.length) none
def fnOf (p n : Nat) (b : DS) : Fn := fun vs h => if vs.length = p then (match b (aH n vs) h with
  | .nx _ h => .ok .non h
  | .rt v h => .ok v h
  | .ex e h => .ex e h
  | _ => .er) else .er
abbrev DO := Sg → Sh → R (Option Int)
def vD (a : DE) : DO := fun s h => (a s h).bind fun x h => match x with
  | .int i => .ok (some i) h
  | _ => .er
def sIx (n d : Nat) : Option Int → Nat
  | none => d
  | some i => if i < 0 then (i + (n : Int)).toNat else min i.toNat n
def uD (xs : List W) (lo hi : Option Int) : List W := (xs.drop (sIx xs.length 0 lo)).take (sIx xs.length xs.length hi - sIx xs.length 0 lo)
def Fl (x : W) (lo hi : Option Int) (h : Sh) : OR := match bE h x with
  | some xs => .new (.lst (uD xs lo hi))
  | none => (match iy h x with
    | some xs => if sIx xs.length 0 lo = 0 ∧ sIx xs.length xs.length hi = xs.length then .er else .new (.tup (uD xs lo hi))
    | none => .er)
def Fu (a : DE) (lo hi : DO) : DE := fun s h => (a s h).bind fun x h => (lo s h).bind fun l h => (hi s h).bind fun u h => (Fl x l u h).fin h
def gq : DS := fun s h => .nx s h
def aI (a b : DS) : DS := fun s h => match a s h with
  | .nx s h => b s h
  | c => c
def aT (i : Nat) (e : DE) : DS := fun s h => match e s h with
  | .ok v h => .nx (s.set i (some v)) h
  | .ex e h => .ex e h
  | .er => .er
def aU (e : DE) : DS := fun s h => match e s h with
  | .ok v h => .rt v h
  | .ex e h => .ex e h
  | .er => .er
def eL : DS := fun _ h => .rt .non h
def aR (e : DE) : DS := fun s h => match e s h with
  | .ok _ h => .nx s h
  | .ex e h => .ex e h
  | .er => .er
def et (c : DT) (a b : DS) : DS := fun s h => match c s h with
  | .ok k h => if k = true then a s h else b s h
  | .ex e h => .ex e h
  | .er => .er
def xt : DS := fun _ _ => .er
def gk (o i e : DE) : DS := fun s h => match ((e s h).bind fun v h => (o s h).bind fun x h => (i s h).bind fun y h => (match x, y with
    | .ref p, .int k => (match h[p]? with
      | some (.lst xs) => (match wQ xs.length k with
        | some j => R.ok W.non (h.set p (.lst (xs.set j v)))
        | none => .er)
      | _ => .er)
    | _, _ => .er)) with
  | .ok _ h => .nx s h
  | .ex e h => .ex e h
  | .er => .er
inductive It where
  | fix (xs : List W) | lst (i : Nat) (xs : List W) | tup (i : Nat) (xs : List W)
def It.items : It → List W
  | .fix xs => xs
  | .lst _ xs => xs
  | .tup _ xs => xs
def It.stays : It → Sh → Prop
  | .fix _, _ => True
  | .lst i xs, h => bE h (.ref i) = some xs
  | .tup i xs, h => iy h (.ref i) = some xs
instance (t : It) (h : Sh) : Decidable (t.stays h) := by cases t <;> unfold It.stays <;> infer_instance
abbrev DI := Sg → Sh → R It
def lJ (a : DE) : DI := fun s h => (a s h).bind fun x h => match x with
  | .ref i => (match bE h (.ref i) with
    | some xs => .ok (.lst i xs) h
    | none => (match iy h (.ref i) with
      | some xs => .ok (.tup i xs) h
      | none => .er))
  | _ => .er
def cz (lo : Int) (n : Nat) : List W := (List.range n).map fun (k : Nat) => .int (lo + (k : Int))
def dI (a : DE) : DI := fun s h => (a s h).bind fun x h => match x with
  | .int j => if -(2 ^ 62) ≤ j ∧ j < 2 ^ 62 then .ok (.fix (cz 0 j.toNat)) h else .er
  | _ => .er
abbrev DG := W → Sg → Sh → Option Sg
def bD (i : Nat) : DG := fun v s _ => some (s.set i (some v))
def pz : List Nat → List W → Sg → Sg
  | i :: is, v :: vs, s => pz is vs (s.set i (some v))
  | _, _, s => s
def qw (is : List Nat) : DG := fun v s h => match iy h v with
  | some xs => if xs.length = is.length then some (pz is xs s) else none
  | none => none
def lh (t : It) (g : DG) (b : DS) : List W → DS
  | [], s, h => .nx s h
  | x :: xs, s, h => match g x s h with
    | none => .er
    | some s1 => match b s1 h with
      | .nx s2 h2 => if t.stays h2 then lh t g b xs s2 h2 else .er
      | .ct s2 h2 => if t.stays h2 then lh t g b xs s2 h2 else .er
      | .bk s2 h2 => .nx s2 h2
      | c => c
def lg (i : DI) (g : DG) (b : DS) : DS := fun s h => match i s h with
  | .ok t h => lh t g b t.items s h
  | .ex e h => .ex e h
  | .er => .er
def jA (t : It) (g : DG) (c : DT) (e : DE) (acc : Nat) : List W → Sg → Sh → R W
  | [], _, h => .ok (.ref acc) h
  | x :: xs, s, h => match g x s h with
    | none => .er
    | some s1 => (c s1 h).bind fun k h1 => if k = true then (e s1 h1).bind fun v h2 => (match h2[acc]? with
        | some (.lst ys) => if ys.length < hW ∧ t.stays h2 ∧ acc < h2.length then jA t g c e acc xs s1 (h2.set acc (.lst (ys ++ [v]))) else .er
        | _ => .er)
      else if t.stays h1 then jA t g c e acc xs s1 h1 else .er
def sh (n : Nat) (js : List Nat) (s : Sg) : Sg := List.replicate n none ++ js.map fun j => (s[j]?).getD none
def j9 (i : DI) (n : Nat) (js : List Nat) (g : DG) (c : DT) (e : DE) : DE := fun s h => (i s h).bind fun t h => jA t g c e h.length t.items (sh n js s) (h ++ [.lst []])
def bQ : DT := fun _ h => .ok true h
def gi : List W → Sh → OR := fun xs h => match xs with
  | [.str s] => if s.length ≤ hW then .val (.int s.length) else .er
  | [x] => (match cy h x with
    | some ys => .val (.int ys.length)
    | none => .er)
  | _ => .er
def mS : List W → Sh → OR := fun xs _ => match xs with
  | [.int i, .int j] => .val (.int (if j < i then j else i))
  | _ => .er
def lP : List W → Sh → OR := fun xs h => match xs with
  | [x] => (match cy h x with
    | some ys => .new (.lst ys)
    | none => .er)
  | _ => .er
def gD : List W → Sh → OR := fun xs h => match xs with
  | [x] => (match bE h x with
    | some ys => .new (.tup ys)
    | none => (match iy h x with
      | some _ => .val x
      | none => .er))
  | _ => .er
def jz (x : W) (h : Sh) : Bool := (bE h x).isSome
def AZ (T : W → Sh → Bool) (f : W → List W → Sh → R W) (o : DE) (as : DA) : DE := fun s h => (o s h).bind fun x h => if T x h = true then (as s h).bind fun xs h => f x xs h else .er
inductive Ty where
  | bi (n : String) | own (x : Bool) (c : Str)
  deriving DecidableEq
def uS (h : Sh) (x : W) : Option Ty := match x with
  | .non => some (.bi "NoneType")
  | .bl _ => some (.bi "bool")
  | .int _ => some (.bi "int")
  | .str _ => some (.bi "str")
  | .ref i => (match h[i]? with
    | some (.lst _) => some (.bi "list")
    | some (.rol _) => some (.bi "list")
    | some (.tup _) => some (.bi "tuple")
    | some (.ins c _) => some (.own false c)
    | some (.exc c _) => some (.own true c)
    | none => none)
  | _ => none
def tX : List String := ["int", "bool", "str", "list", "tuple", "dict", "ValueError"]
def Dt (a b : String) : Bool := a == b || (a == "bool" && b == "int")
abbrev CT := List (Str × List W)
def lI (T : CT) (t : Ty) (c : W) : Option Bool := match t, c with
  | .bi a, .ty b => if tX.contains b then some (Dt a b) else none
  | .bi _, .gl x => if (T.lookup x).isSome then some false else none
  | .own k a, c => (match T.lookup a with
    | some l => if l.contains (.ty "ValueError") = k then (match c with
        | .ty b => if tX.contains b then some (l.contains (.ty b)) else none
        | .gl x => if (T.lookup x).isSome then some (l.contains (.gl x)) else none
        | _ => none) else none
    | none => none)
  | _, _ => none
def Fp : W → Bool
  | .ty _ => true
  | .gl _ => true
  | _ => false
def zY (T : CT) (t : Ty) : List W → Option Bool
  | [] => some false
  | c :: cs => match lI T t c with
    | some true => some true
    | some false => zY T t cs
    | none => none
def isi (T : CT) (h : Sh) (x c : W) : Option Bool := match uS h x with
  | none => none
  | some t => (match c with
    | .ref i => (match h[i]? with
      | some (.tup cs) => if cs.all Fp && !cs.isEmpty then zY T t cs else none
      | _ => none)
    | c => lI T t c)
def iY (T : CT) : List W → Sh → OR := fun xs h => match xs with
  | [x, c] => (match isi T h x c with
    | some b => .val (.bl b)
    | none => .er)
  | _ => .er
end HL
namespace HL
open PySem (Str)
def eF (cs : List Str) (f : Str) (x : W) (h : Sh) : Option W := match x with
  | .ref i => (match h[i]? with
    | some (.ins c fs) => if cs.contains c = true then fs.lookup f else none
    | _ => none)
  | _ => none
def bA (cs : List Str) (f : Str) (a : DE) : DE := fun s h => (a s h).bind fun x h => match eF cs f x h with
  | some v => .ok v h
  | none => .er
def pM (f : Str) (v : W) : List (Str × W) → List (Str × W)
  | [] => [(f, v)]
  | (g, x) :: r => if g = f then (g, v) :: r else (g, x) :: pM f v r
def mI (cs : List Str) (f : Str) (x v : W) (h : Sh) : R W := match x with
  | .ref i => (match h[i]? with
    | some (.ins c fs) => if cs.contains c = true ∧ fs.length < 1000 then .ok .non (h.set i (.ins c (pM f v fs))) else .er
    | _ => .er)
  | _ => .er
def cB (cs : List Str) (f : Str) (o e : DE) : DS := fun s h => match ((e s h).bind fun v h => (o s h).bind fun x h => mI cs f x v h) with
  | .ok _ h => .nx s h
  | .ex e h => .ex e h
  | .er => .er
def bH (tb : List (Str × Fn)) (m : Str) (x : W) (h : Sh) : Option Fn := match x with
  | .ref i => (match h[i]? with
    | some (.ins c fs) => if fs.lookup m = none then tb.lookup c else none
    | _ => none)
  | _ => none
def aw (tb : List (Str × Fn)) (m : Str) (o : DE) (as : DA) : DE := fun s h => (o s h).bind fun x h => match bH tb m x h with
  | some f => (as s h).bind fun xs h => f (x :: xs) h
  | none => .er
def cV (c : Str) (f : Fn) (ds : List W) (as : DA) : DE := fun s h => (as s h).bind fun xs h1 => (f (.ref h1.length :: (xs ++ ds)) (h1 ++ [.ins c []])).bind fun v h2 => if v = .non then .ok (.ref h1.length) h2 else .er
end HL
namespace L2
open PySem PySem.Spec PyProof.Rows
open HL (W SO Sh Sg OR)
def uK (K : PySem.W.Frag) (H : Hp) (a : Addr) (xs : List V) : Prop := (∃ o, H a = some (.frz o (.lst xs))) ∨
    ∃ (o : Obj) (its : Array Value) (n : Nat), K.lookup a = some o ∧ o.cls = .type "list" ∧ o.dict = none ∧ o.data = .seq its n ∧ its.size ≤ sizeLine ∧ aM xs its.toList
theorem uK.sq {K : PySem.W.Frag} {H : Hp} {a : Addr} {xs : List V} (h : uK K H a xs) : ka K H a xs := by
  rcases h with h | h
  · exact .inl (.inr h)
  · exact .inr h
section
variable (γ : Str → Addr) (ρ : Nat → Addr)
def aF : W → V
  | .non => .non
  | .bl b => .bl b
  | .int i => .int i
  | .str s => .str s
  | .ref i => .ref (ρ i)
  | .ty n => .ty n
  | .gl x => .ref (γ x)
def jg (s : Sg) : St := s.map (Option.map (aF γ ρ))
def lF (fs : List (Str × W)) : List (Str × V) := fs.map fun p => (p.1, aF γ ρ p.2)
def uM (K : PySem.W.Frag) (H : Hp) (a : Addr) : SO → Prop
  | .lst xs => H a = some (.lst (xs.map (aF γ ρ)))
  | .rol xs => uK K H a (xs.map (aF γ ρ))
  | .tup xs => lq K H a (xs.map (aF γ ρ))
  | .ins c fs => ∃ dx, H a = some (.ins (γ c) dx (lF γ ρ fs))
  | .exc c fs => ∃ dx, H a = some (.exc (γ c) dx (lF γ ρ fs))
end
def wf (n : Nat) : W → Prop
  | .ref i => i < n
  | _ => True
def mH (n : Nat) (xs : List W) : Prop := ∀ x ∈ xs, wf n x
def tW (n : Nat) (s : Sg) : Prop := ∀ x, some x ∈ s → wf n x
def y6 (n : Nat) : SO → Prop
  | .lst xs => mH n xs
  | .rol xs => mH n xs
  | .tup xs => mH n xs
  | .ins _ fs => ∀ p ∈ fs, wf n p.2
  | .exc _ fs => ∀ p ∈ fs, wf n p.2
def oX : SO → Bool
  | .lst _ => true
  | .ins _ _ => true
  | .exc _ _ => true
  | _ => false
def Ag (n : Nat) (ρ ρ' : Nat → Addr) : Prop := ∀ i < n, ρ i = ρ' i
theorem wf.mono {n m : Nat} {x : W} (h : wf n x) (l : n ≤ m) : wf m x := by
  cases x with
  | ref i => exact Nat.lt_of_lt_of_le h l
  | _ => trivial
theorem mH.mono {n m : Nat} {xs : List W} (h : mH n xs) (l : n ≤ m) : mH m xs := fun x hx => (h x hx).mono l
theorem tW.mono {n m : Nat} {s : Sg} (h : tW n s) (l : n ≤ m) : tW m s := fun x hx => (h x hx).mono l
theorem y6.mono {n m : Nat} {o : SO} (h : y6 n o) (l : n ≤ m) : y6 m o := by
  cases o with
  | lst xs => exact mH.mono h l
  | rol xs => exact mH.mono h l
  | tup xs => exact mH.mono h l
  | ins c fs => exact fun p hp => (h p hp).mono l
  | exc c fs => exact fun p hp => (h p hp).mono l
theorem fJ {γ : Str → Addr} {ρ ρ' : Nat → Addr} {n : Nat} {x : W} (h : wf n x) (a : Ag n ρ ρ') : aF γ ρ x = aF γ ρ' x := by
  cases x with
  | ref i => exact congrArg V.ref (a i h)
  | _ => rfl
theorem my {γ : Str → Addr} {ρ ρ' : Nat → Addr} {n : Nat} {xs : List W} (h : mH n xs) (a : Ag n ρ ρ') : xs.map (aF γ ρ) = xs.map (aF γ ρ') :=
  List.map_congr_left fun x hx => fJ (h x hx) a
theorem u5 {γ : Str → Addr} {ρ ρ' : Nat → Addr} {n : Nat} {fs : List (Str × W)} (h : ∀ p ∈ fs, wf n p.2) (a : Ag n ρ ρ') : lF γ ρ fs = lF γ ρ' fs :=
  List.map_congr_left fun p hp => by rw [fJ (h p hp) a]
theorem u4 {γ : Str → Addr} {ρ ρ' : Nat → Addr} {n : Nat} {s : Sg} (h : tW n s) (a : Ag n ρ ρ') : jg γ ρ s = jg γ ρ' s := by
  refine List.map_congr_left fun x hx => ?_
  cases x with
  | none => rfl
  | some v => exact congrArg some (fJ (h v hx) a)
theorem Ag.refl (n : Nat) (ρ : Nat → Addr) : Ag n ρ ρ := fun _ _ => rfl
theorem Ag.trans {n m : Nat} {ρ ρ1 ρ2 : Nat → Addr} (a : Ag n ρ ρ1) (b : Ag m ρ1 ρ2) (l : n ≤ m) : Ag n ρ ρ2 := fun i hi => (a i hi).trans (b i (Nat.lt_of_lt_of_le hi l))
structure eQ (h : Sh) (ρ : Nat → Addr) (h' : Sh) (ρ' : Nat → Addr) : Prop where
  le : h.length ≤ h'.length
  ag : Ag h.length ρ ρ'
theorem eQ.refl (h : Sh) (ρ : Nat → Addr) : eQ h ρ h ρ := ⟨Nat.le_refl _, Ag.refl _ _⟩
theorem eQ.trans {h h1 h2 : Sh} {ρ ρ1 ρ2 : Nat → Addr} (a : eQ h ρ h1 ρ1) (b : eQ h1 ρ1 h2 ρ2) : eQ h ρ h2 ρ2 := ⟨Nat.le_trans a.le b.le, a.ag.trans b.ag a.le⟩
structure cM (K : PySem.W.Frag) (γ : Str → Addr) (ρ : Nat → Addr) (h : Sh) (H : Hp) : Prop where
  ob : ∀ (i : Nat) (o : SO), h[i]? = some o → uM γ ρ K H (ρ i) o
  inj : ∀ (i j : Nat) (o u : SO), h[i]? = some o → h[j]? = some u → oX o = true → oX u = true → ρ i = ρ j → i = j
  wf : ∀ (i : Nat) (o : SO), h[i]? = some o → y6 h.length o
structure tT (K : PySem.W.Frag) (γ : Str → Addr) (ρ : Nat → Addr) (s : Sg) (h : Sh) (σ : St) (H : Hp) : Prop where
  hp : cM K γ ρ h H
  ws : tW h.length s
  eq : σ = jg γ ρ s
section
variable {K : PySem.W.Frag} {γ : Str → Addr} {ρ ρ' : Nat → Addr} {s : Sg} {h h' : Sh} {σ : St} {H H' : Hp}
theorem tT.next (S : tT K γ ρ s h σ H) (n : eQ h ρ h' ρ') (S' : cM K γ ρ' h' H') : tT K γ ρ' s h' σ H' := ⟨S', S.ws.mono n.le, S.eq.trans (u4 S.ws n.ag)⟩
theorem uM.ren {a : Addr} {o : SO} (x : uM γ ρ K H a o) {n : Nat} (w : y6 n o) (g : Ag n ρ ρ') : uM γ ρ' K H a o := by
  cases o with
  | lst xs => show _ = _; rw [← my w g]; exact x
  | rol xs => show uK _ _ _ _; rw [← my w g]; exact x
  | tup xs => show lq _ _ _ _; rw [← my w g]; exact x
  | ins c fs => obtain ⟨dx, e⟩ := x; exact ⟨dx, by rw [← u5 w g]; exact e⟩
  | exc c fs => obtain ⟨dx, e⟩ := x; exact ⟨dx, by rw [← u5 w g]; exact e⟩
theorem ka.at {a : Addr} {xs : List V} (h : ka K H a xs) (e : H a ≠ none → H' a = H a) : ka K H' a xs := by
  rcases h with (h | ⟨o, h⟩) | h
  · exact .inl (.inl (by rw [e (by rw [h]; exact nofun), h]))
  · exact .inl (.inr ⟨o, by rw [e (by rw [h]; exact nofun), h]⟩)
  · exact .inr h
theorem lq.at {a : Addr} {xs : List V} (h : lq K H a xs) (e : H a ≠ none → H' a = H a) : lq K H' a xs := by
  rcases h with (h | ⟨o, h⟩) | h
  · exact .inl (.inl (by rw [e (by rw [h]; exact nofun), h]))
  · exact .inl (.inr ⟨o, by rw [e (by rw [h]; exact nofun), h]⟩)
  · exact .inr h
theorem uK.at {a : Addr} {xs : List V} (h : uK K H a xs) (e : H a ≠ none → H' a = H a) : uK K H' a xs := by
  rcases h with ⟨o, h⟩ | h
  · exact .inl ⟨o, by rw [e (by rw [h]; exact nofun), h]⟩
  · exact .inr h
theorem uM.at {a : Addr} {o : SO} (x : uM γ ρ K H a o) (e : H a ≠ none → H' a = H a) : uM γ ρ K H' a o := by
  cases o with
  | lst xs => have x' : H a = _ := x; show H' a = _; rw [e (by rw [x']; exact nofun)]; exact x'
  | rol xs => exact uK.at x e
  | tup xs => exact lq.at x e
  | ins c fs => obtain ⟨dx, q⟩ := x; exact ⟨dx, by rw [e (by rw [q]; exact nofun)]; exact q⟩
  | exc c fs => obtain ⟨dx, q⟩ := x; exact ⟨dx, by rw [e (by rw [q]; exact nofun)]; exact q⟩
def put (ρ : Nat → Addr) (n : Nat) (p : Addr) : Nat → Addr := fun i => if i = n then p else ρ i
theorem ib (ρ : Nat → Addr) (n : Nat) (p : Addr) : Ag n ρ (put ρ n p) := fun i hi => by unfold put; rw [if_neg (Nat.ne_of_lt hi)]
theorem gu (ρ : Nat → Addr) (n : Nat) (p : Addr) : put ρ n p n = p := by unfold put; rw [if_pos rfl]
theorem getElem?_snoc {α : Type} (l : List α) (x : α) (i : Nat) : (l ++ [x])[i]? = if i < l.length then l[i]? else if i = l.length then some x else none := by
  by_cases h1 : i < l.length
  · rw [if_pos h1, List.getElem?_append_left h1]
  · rw [if_neg h1, List.getElem?_append_right (by omega)]
    by_cases h2 : i = l.length
    · rw [if_pos h2, h2, Nat.sub_self]; rfl
    · rw [if_neg h2]
      exact List.getElem?_eq_none_iff.mpr (by simp; omega)
theorem uM.mut {a : Addr} {o : SO} (x : uM γ ρ K H a o) (m : oX o = true) : ∃ u, H a = some u ∧ (∀ xs, u ≠ .tup xs) ∧ ∀ ob t, u ≠ .frz ob t := by
  cases o with
  | lst xs => exact ⟨_, x, (fun _ z => nomatch z), fun _ _ z => nomatch z⟩
  | rol xs => cases m
  | tup xs => cases m
  | ins c fs => obtain ⟨dx, e⟩ := x; exact ⟨_, e, (fun _ z => nomatch z), fun _ _ z => nomatch z⟩
  | exc c fs => obtain ⟨dx, e⟩ := x; exact ⟨_, e, (fun _ z => nomatch z), fun _ _ z => nomatch z⟩
theorem uM.still {a b : Addr} {o : SO} {u v : HO} (x : uM γ ρ K H a o) (m : oX o = false) (e : H b = some u) (n1 : ∀ xs, u ≠ .tup xs) (n2 : ∀ ob t, u ≠ .frz ob t) : uM γ ρ K (upd H b v) a o := by
  cases o with
  | lst xs => cases m
  | ins c fs => cases m
  | exc c fs => cases m
  | rol xs =>
    rcases x with ⟨o, h⟩ | h
    · exact .inl ⟨o, by rw [aV (ye h e (fun z => n2 _ _ z.symm))]; exact h⟩
    · exact .inr h
  | tup xs =>
    rcases x with (h | ⟨o, h⟩) | h
    · exact .inl (.inl (by rw [aV (ye h e (fun z => n1 _ z.symm))]; exact h))
    · exact .inl (.inr ⟨o, by rw [aV (ye h e (fun z => n2 _ _ z.symm))]; exact h⟩)
    · exact .inr h
theorem cM.push {p : Addr} {o : SO} (S : cM K γ ρ h H) (w : y6 h.length o) (E : qy H H') (hp : H p = none) (n : uM γ ρ K H' p o) : cM K γ (put ρ h.length p) (h ++ [o]) H' where
  ob := fun i u e => by
    rw [getElem?_snoc] at e
    by_cases h1 : i < h.length
    · rw [if_pos h1] at e
      have x := (S.ob i u e).at (H' := H') fun z => E _ (by cases q : H (ρ i) with | none => exact absurd q z | some _ => rfl)
      rw [← ib ρ h.length p i h1]
      exact x.ren (S.wf i u e) (ib _ _ _)
    · rw [if_neg h1] at e
      by_cases h2 : i = h.length
      · rw [if_pos h2] at e
        cases e
        rw [h2, gu]
        exact n.ren w (ib _ _ _)
      · rw [if_neg h2] at e; cases e
  inj := fun i j u v e1 e2 m1 m2 q => by
    rw [getElem?_snoc] at e1 e2
    have tr : ∀ k w, k < h.length → h[k]? = some w → oX w = true → ρ k ≠ p := fun k w _ e m z => by
      obtain ⟨y, hy, _⟩ := (S.ob k w e).mut m
      rw [z, hp] at hy; cases hy
    by_cases h1 : i < h.length
    · rw [if_pos h1] at e1
      by_cases h2 : j < h.length
      · rw [if_pos h2] at e2
        rw [← ib ρ h.length p i h1, ← ib ρ h.length p j h2] at q
        exact S.inj i j u v e1 e2 m1 m2 q
      · rw [if_neg h2] at e2
        by_cases h3 : j = h.length
        · rw [h3, gu, ← ib ρ h.length p i h1] at q
          exact absurd q (tr i u h1 e1 m1)
        · rw [if_neg h3] at e2; cases e2
    · rw [if_neg h1] at e1
      by_cases h3 : i = h.length
      · by_cases h2 : j < h.length
        · rw [if_pos h2] at e2
          rw [h3, gu, ← ib ρ h.length p j h2] at q
          exact absurd q.symm (tr j v h2 e2 m2)
        · rw [if_neg h2] at e2
          by_cases h4 : j = h.length
          · rw [h3, h4]
          · rw [if_neg h4] at e2; cases e2
      · rw [if_neg h3] at e1; cases e1
  wf := fun i u e => by
    rw [getElem?_snoc] at e
    have le : h.length ≤ (h ++ [o]).length := by simp
    by_cases h1 : i < h.length
    · rw [if_pos h1] at e
      exact (S.wf i u e).mono le
    · rw [if_neg h1] at e
      by_cases h2 : i = h.length
      · rw [if_pos h2] at e; cases e; exact w.mono le
      · rw [if_neg h2] at e; cases e
theorem eQ.push (h : Sh) (ρ : Nat → Addr) (o : SO) (p : Addr) : eQ h ρ (h ++ [o]) (put ρ h.length p) := ⟨by simp, ib _ _ _⟩
theorem cM.chg {i : Nat} {o u : SO} {v : HO} (S : cM K γ ρ h H) (e : h[i]? = some o) (m : oX o = true) (m' : oX u = true) (w : y6 h.length u) (n : uM γ ρ K (upd H (ρ i) v) (ρ i) u) : cM K γ ρ (h.set i u) (upd H (ρ i) v) where
  ob := fun j t q => by
    rw [List.getElem?_set] at q
    have hi : i < h.length := by
      rcases Nat.lt_or_ge i h.length with z | z
      · exact z
      · rw [List.getElem?_eq_none_iff.mpr z] at e; cases e
    by_cases hj : i = j
    · rw [if_pos hj, if_pos hi] at q
      cases q
      rw [← hj]; exact n
    · rw [if_neg hj] at q
      obtain ⟨y, hy, n1, n2⟩ := (S.ob i o e).mut m
      cases c : oX t with
      | true =>
        have ne : ρ j ≠ ρ i := fun z => hj (S.inj i j o t e q m c z.symm)
        exact (S.ob j t q).at fun _ => aV ne
      | false => exact (S.ob j t q).still c hy n1 n2
  inj := fun j k t r e1 e2 m1 m2 q => by
    rw [List.getElem?_set] at e1 e2
    have g : ∀ j t, (if i = j then if i < h.length then some u else none else h[j]?) = some t → oX t = true → ∃ t', h[j]? = some t' ∧ oX t' = true := fun j t e1 m1 => by
      by_cases hj : i = j
      · rw [← hj]; exact ⟨o, e, m⟩
      · rw [if_neg hj] at e1; exact ⟨t, e1, m1⟩
    obtain ⟨t1, f1, g1⟩ := g j t e1 m1
    obtain ⟨t2, f2, g2⟩ := g k r e2 m2
    exact S.inj j k t1 t2 f1 f2 g1 g2 q
  wf := fun j t q => by
    rw [List.getElem?_set] at q
    rw [List.length_set]
    by_cases hj : i = j
    · rw [if_pos hj] at q
      by_cases hi : i < h.length
      · rw [if_pos hi] at q; cases q; exact w
      · rw [if_neg hi] at q; cases q
    · rw [if_neg hj] at q; exact S.wf j t q
theorem eQ.chg (h : Sh) (ρ : Nat → Addr) (i : Nat) (u : SO) : eQ h ρ (h.set i u) ρ := ⟨by simp, Ag.refl _ _⟩
end
end L2
namespace L2
open PySem PySem.Spec PyProof.Rows
open HL (W SO Sh Sg OR DE DT DA DS Fn)
section
variable (K : PySem.W.Frag) (γ : Str → Addr)
def bg {α β : Type} (g : (Nat → Addr) → α → β) (w : Nat → α → Prop) (ρ : Nat → Addr) (h : Sh) (r : HL.R α) (Q : β → Hp → Prop) : Prop := match r with
  | .ok a h' => ∀ ρ' H', eQ h ρ h' ρ' → cM K γ ρ' h' H' → w h'.length a → Q (g ρ' a) H'
  | _ => False
abbrev nO := bg K γ (aF γ) wf
abbrev Eu := bg K γ (fun ρ (vs : List W) => vs.map (aF γ ρ)) mH
abbrev Ew := bg K γ (fun _ (b : Bool) => b) (fun _ _ => True)
abbrev Et := bg K γ (fun _ (b : Option Int) => b) (fun _ _ => True)
def eE (d : DE) : TE := fun σ H Q => ∃ ρ s h, tT K γ ρ s h σ H ∧ nO K γ ρ h (d s h) Q
def eA (d : DA) : TA := fun σ H Q => ∃ ρ s h, tT K γ ρ s h σ H ∧ Eu K γ ρ h (d s h) Q
def eT (d : DT) : TT := fun σ H Q => ∃ ρ s h, tT K γ ρ s h σ H ∧ Ew K γ ρ h (d s h) Q
def eO (d : HL.DO) : TO := fun σ H Q => ∃ ρ s h, tT K γ ρ s h σ H ∧ Et K γ ρ h (d s h) Q
def f7 (ρ : Nat → Addr) (h : Sh) (c : HL.C) (D : o4) : Prop := match c with
  | .nx s' h' => ∀ ρ' H', eQ h ρ h' ρ' → cM K γ ρ' h' H' → tW h'.length s' → D.nx (jg γ ρ' s') H'
  | .rt v h' => ∀ ρ' H', eQ h ρ h' ρ' → cM K γ ρ' h' H' → wf h'.length v → D.rt (aF γ ρ' v) H'
  | .bk s' h' => ∀ ρ' H', eQ h ρ h' ρ' → cM K γ ρ' h' H' → tW h'.length s' → D.bk (jg γ ρ' s') H'
  | .ct s' h' => ∀ ρ' H', eQ h ρ h' ρ' → cM K γ ρ' h' H' → tW h'.length s' → D.ct (jg γ ρ' s') H'
  | _ => False
def eS (d : DS) : TS := fun D σ H => ∃ ρ s h, tT K γ ρ s h σ H ∧ f7 K γ ρ h (d s h) D
end
section
variable {K : PySem.W.Frag} {γ : Str → Addr} {ρ ρ' : Nat → Addr} {s : Sg} {h h' : Sh} {σ : St} {H H' : Hp}
theorem bg.later {α β : Type} {g : (Nat → Addr) → α → β} {w : Nat → α → Prop} {r : HL.R α} {Q : β → Hp → Prop} (x : bg K γ g w ρ h r Q) (n : eQ h ρ h' ρ') : bg K γ g w ρ' h' r Q := by
  cases r with
  | ok a h2 => exact fun ρ2 H2 n2 => x ρ2 H2 (n.trans n2)
  | ex e h2 => exact x.elim
  | er => exact x.elim
theorem f7.later {c : HL.C} {D : o4} (x : f7 K γ ρ h c D) (n : eQ h ρ h' ρ') : f7 K γ ρ' h' c D := by
  cases c with
  | nx s2 h2 => exact fun ρ2 H2 n2 => x ρ2 H2 (n.trans n2)
  | rt v h2 => exact fun ρ2 H2 n2 => x ρ2 H2 (n.trans n2)
  | bk s2 h2 => exact fun ρ2 H2 n2 => x ρ2 H2 (n.trans n2)
  | ct s2 h2 => exact fun ρ2 H2 n2 => x ρ2 H2 (n.trans n2)
  | ex e h2 => exact x.elim
  | er => exact x.elim
theorem bg.bind {α α' β β' : Type} {g : (Nat → Addr) → α → β} {w : Nat → α → Prop} {g' : (Nat → Addr) → α' → β'} {w' : Nat → α' → Prop} {r : HL.R α} {f : α → Sh → HL.R α'} {Q : β' → Hp → Prop} (x : bg K γ g' w' ρ h (r.bind f) Q) {R : β → Hp → Prop}
    (k : ∀ a h1 ρ1 H1, r = .ok a h1 → eQ h ρ h1 ρ1 → cM K γ ρ1 h1 H1 → w h1.length a → bg K γ g' w' ρ1 h1 (f a h1) Q → R (g ρ1 a) H1) : bg K γ g w ρ h r R := by
  cases r with
  | ok a h1 => exact fun ρ1 H1 n1 S1 wa => k a h1 ρ1 H1 rfl n1 S1 wa (x.later n1)
  | ex e h2 => exact x.elim
  | er => exact x.elim
def ER (K : PySem.W.Frag) (γ : Str → Addr) (ρ : Nat → Addr) (h : Sh) (H : Hp) (o : OR) (Q : VK) : Prop := match o with
  | .er => False
  | .val v => wf h.length v → Q (aF γ ρ v) H
  | .new (.lst xs) => mH h.length xs → ∀ p, H p = none → Q (.ref p) (upd H p (.lst (xs.map (aF γ ρ))))
  | .new (.tup xs) => mH h.length xs → ∀ p, H p = none → Q (.ref p) (upd H p (.tup (xs.map (aF γ ρ))))
  | .new _ => False
def kW : OR → Bool
  | .new (.lst _) => true
  | .new (.tup _) => true
  | .new _ => false
  | _ => true
theorem oC {o : OR} {Q : VK} (S : cM K γ ρ h H) (b : kW o = true) (x : nO K γ ρ h (o.fin h) Q) : ER K γ ρ h H o Q := by
  cases o with
  | er => exact x.elim
  | val v => exact fun w => x ρ H (eQ.refl _ _) S w
  | new o =>
    cases o with
    | lst xs =>
      intro w p hp
      have q := x (put ρ h.length p) (upd H p (.lst (xs.map (aF γ ρ)))) (eQ.push _ _ _ _) (S.push (o := .lst xs) w (qy.upd _ hp) hp bK) (by show h.length < (h ++ [_]).length; simp)
      rw [show aF γ (put ρ h.length p) (.ref h.length) = V.ref p from congrArg V.ref (gu _ _ _)] at q
      exact q
    | tup xs =>
      intro w p hp
      have q := x (put ρ h.length p) (upd H p (.tup (xs.map (aF γ ρ)))) (eQ.push _ _ _ _) (S.push (o := .tup xs) w (qy.upd _ hp) hp (lq.of bK)) (by show h.length < (h ++ [_]).length; simp)
      rw [show aF γ (put ρ h.length p) (.ref h.length) = V.ref p from congrArg V.ref (gu _ _ _)] at q
      exact q
    | _ => cases b
theorem mC {x : W} {xs : List W} (S : cM K γ ρ h H) (e : HL.bE h x = some xs) : ∃ i, x = .ref i ∧ ka K H (ρ i) (xs.map (aF γ ρ)) ∧ mH h.length xs := by
  cases x with
  | ref i =>
    unfold HL.bE at e
    simp only at e
    cases q : h[i]? with
    | none => rw [q] at e; cases e
    | some o =>
      rw [q] at e
      cases o with
      | lst ys => cases e; exact ⟨i, rfl, ka.of (S.ob i _ q), S.wf i _ q⟩
      | rol ys => cases e; exact ⟨i, rfl, (show uK K H (ρ i) _ from S.ob i _ q).sq, S.wf i _ q⟩
      | _ => cases e
  | _ => cases e
theorem mw {x : W} {xs : List W} (S : cM K γ ρ h H) (e : HL.iy h x = some xs) : ∃ i, x = .ref i ∧ lq K H (ρ i) (xs.map (aF γ ρ)) ∧ mH h.length xs := by
  cases x with
  | ref i =>
    unfold HL.iy at e
    simp only at e
    cases q : h[i]? with
    | none => rw [q] at e; cases e
    | some o =>
      rw [q] at e
      cases o with
      | tup ys => cases e; exact ⟨i, rfl, S.ob i _ q, S.wf i _ q⟩
      | _ => cases e
  | _ => cases e
theorem nq {x : W} {xs : List W} (S : cM K γ ρ h H) (e : HL.cy h x = some xs) : ∃ i, x = .ref i ∧ (ka K H (ρ i) (xs.map (aF γ ρ)) ∨ lq K H (ρ i) (xs.map (aF γ ρ))) ∧ mH h.length xs := by
  unfold HL.cy at e
  cases q : HL.bE h x with
  | some ys =>
    rw [q] at e
    cases e
    obtain ⟨i, a, b, c⟩ := mC S q
    exact ⟨i, a, .inl b, c⟩
  | none =>
    rw [q] at e
    obtain ⟨i, a, b, c⟩ := mw S (show HL.iy h x = some xs by simpa using e)
    exact ⟨i, a, .inr b, c⟩
theorem Bc {n i : Nat} {xs : List W} {v : W} (w : mH n xs) (e : xs[i]? = some v) : wf n v := w v (List.mem_of_getElem? e)
end
theorem PE.imp {X : Cx} {e : Expr} {t t' : TE} (h : PE X e t) (i : ∀ σ H Q, t' σ H Q → t σ H Q) : PE X e t' := fun pins s σ H Q I hw => h pins s σ H Q I (i _ _ _ hw)
theorem PT.imp {X : Cx} {e : Expr} {t t' : TT} (h : PT X e t) (i : ∀ σ H Q, t' σ H Q → t σ H Q) : PT X e t' := fun pins s σ H Q I hw => h pins s σ H Q I (i _ _ _ hw)
theorem PW.imp {X : Cx} {e : Expr} {t t' : TT} (h : PW X e t) (i : ∀ σ H Q, t' σ H Q → t σ H Q) : PW X e t' := fun w pins s σ H Q I hw => h w pins s σ H Q I (i _ _ _ hw)
theorem PA.imp {X : Cx} {e : List Expr} {t t' : TA} (h : PA X e t) (i : ∀ σ H Q, t' σ H Q → t σ H Q) : PA X e t' := fun pos pins s σ H Q I hw => h pos pins s σ H Q I (i _ _ _ hw)
theorem PO.imp {X : Cx} {e : Option Expr} {t t' : TO} (h : PO X e t) (i : ∀ σ H Q, t' σ H Q → t σ H Q) : PO X e t' := fun pins s σ H Q I hw => h pins s σ H Q I (i _ _ _ hw)
theorem PS.imp {X : Cx} {e : Stmt} {t t' : TS} (h : PS X e t) (i : ∀ D σ H, t' D σ H → t D σ H) : PS X e t' := fun pins s σ H D I hw => h pins s σ H D I (i _ _ _ hw)
theorem oI.imp {X : Cx} {e : List Stmt} {t t' : TS} (h : oI X e t) (i : ∀ D σ H, t' D σ H → t D σ H) : oI X e t' := fun pins s σ H D I hw => h pins s σ H D I (i _ _ _ hw)
abbrev QE (γ : Str → Addr) (X : Cx) (e : Expr) (d : DE) : Prop := PE X e (eE X.K γ d)
abbrev QT (γ : Str → Addr) (X : Cx) (e : Expr) (d : DT) : Prop := PT X e (eT X.K γ d)
abbrev QW (γ : Str → Addr) (X : Cx) (e : Expr) (d : DT) : Prop := PW X e (eT X.K γ d)
abbrev QA (γ : Str → Addr) (X : Cx) (e : List Expr) (d : DA) : Prop := PA X e (eA X.K γ d)
abbrev QO (γ : Str → Addr) (X : Cx) (e : Option Expr) (d : HL.DO) : Prop := PO X e (eO X.K γ d)
abbrev QS (γ : Str → Addr) (X : Cx) (e : Stmt) (d : DS) : Prop := PS X e (eS X.K γ d)
abbrev sx (γ : Str → Addr) (X : Cx) (e : List Stmt) (d : DS) : Prop := oI X e (eS X.K γ d)
section
variable {X : Cx} {γ : Str → Addr} {a b c e : Expr} {da db dc de : DE} {pos : Pos}
theorem DF {i : Nat} {x : Str} (hN : X.N[i]? = some x) (hv : EM X.env.scope x) (hd : (x == ("__debug__" : Str)) = false := by decide) (hcd : (x == ("__classdict__" : Str)) = false := by decide) : QE γ X (.Name x pos) (HL.af i) :=
  (BE hN hv hd hcd).imp fun σ H Q ⟨ρ, s, h, S, x⟩ => by
    unfold HL.af at x
    split at x
    · rename_i v e
      refine ⟨aF γ ρ v, ?_, x ρ H (eQ.refl _ _) S.hp (S.ws v (List.mem_of_getElem? e))⟩
      rw [S.eq]
      unfold jg
      rw [List.getElem?_map, e]
      rfl
    · exact x.elim
theorem C1 {v : W} {e : Expr} (w : ∀ n, wf n v) (r : ∀ ρ, PE X e (tC (aF γ ρ v))) : QE γ X e (HL.dC v) := fun pins s σ H Q I ⟨ρ, t, h, S, x⟩ => r ρ pins s σ H Q I (x ρ H (eQ.refl _ _) S.hp (w _))
theorem av {i j pos} : QE γ X (.Constant (.int i) j pos) (HL.dC (.int i)) := C1 (fun _ => trivial) fun _ => BL
theorem km {i j pos} : QE γ X (.Constant (.bool i) j pos) (HL.dC (.bl i)) := C1 (fun _ => trivial) fun _ => DU
theorem pL {j pos} : QE γ X (.Constant .none j pos) (HL.dC .non) := C1 (fun _ => trivial) fun _ => BJ
theorem mP {x j pos} : QE γ X (.Constant (.str x) j pos) (HL.dC (.str x)) := C1 (fun _ => trivial) fun _ => BG
theorem rz {x : Str} (hg : Gl X x) (hm : X.mg x = some (.ref (γ x))) (hd : (x == ("__debug__" : Str)) = false := by decide) : QE γ X (.Name x pos) (HL.dC (.gl x)) := C1 (fun _ => trivial) fun _ => vh hg hm rfl hd
theorem xF {x : Str} {n : String} (hg : Gl X x) (hm : X.mg x = none) (hv : bootBuiltins x = some (.type n)) (hn : x ≠ "__name__" := by decide) (hd : (x == ("__debug__" : Str)) = false := by decide) : QE γ X (.Name x pos) (HL.dC (.ty n)) := C1 (fun _ => trivial) fun _ => zJ hg hm hv rfl hn hd
def ph (K : PySem.W.Frag) (γ : Str → Addr) (r : R2) (f : HL.O2) : Prop := ∀ ρ h H x y Q, cM K γ ρ h H → wf h.length x → wf h.length y → ER K γ ρ h H (f x y h) Q → r (aF γ ρ x) (aF γ ρ y) H Q
def f6 (f : HL.O2) : Prop := ∀ x y h, kW (f x y h) = true
theorem rH {r : R2} {f : HL.O2} (hs : ph X.K γ r f) (nw : f6 f) (σ : St) (H : Hp) (Q : VK) (x : eE X.K γ (HL.aE f da db) σ H Q) : Dh r (eE X.K γ da) (eE X.K γ db) σ H Q := by
  obtain ⟨ρ, s, h, S, x⟩ := x
  refine ⟨ρ, s, h, S, bg.bind x fun v h1 ρ1 H1 _ n1 S1 w1 x1 => ?_⟩
  refine ⟨ρ1, s, h1, S.next n1 S1, bg.bind x1 fun u h2 ρ2 H2 _ n2 S2 w2 x2 => ?_⟩
  rw [fJ w1 n2.ag]
  exact hs ρ2 h2 H2 v u Q S2 (w1.mono n2.le) w2 (oC S2 (nw _ _ _) x2)
theorem vX {op : Operator} {r : R2} {f : HL.O2} (ho : kY X (binaryOp op) r) (hs : ph X.K γ r f) (nw : f6 f) (ha : QE γ X a da) (hb : QE γ X b db) : QE γ X (.BinOp a op b pos) (HL.aE f da db) :=
  (DP ho ha hb).imp (rH hs nw)
theorem AL {op : CmpOp} {r : R2} {f : HL.O2} (ho : kY X (compareOp op) r) (hs : ph X.K γ r f) (nw : f6 f) (ha : QE γ X a da) (hb : QE γ X b db) (hm : behindInMarks op b = false) : QE γ X (.Compare a [op] [b] pos) (HL.aE f da db) :=
  (zH ho ha hb hm).imp (rH hs nw)
theorem Fi {r : R2} {f : HL.O2} (ho : yZ X r) (hs : ph X.K γ r f) (nw : f6 f) (ha : QE γ X a da) (hb : QE γ X b db) (hp : su b) : QE γ X (.Subscript a b pos) (HL.aE f da db) :=
  (DQ ho ha hb hp).imp (rH hs nw)
def FW (K : PySem.W.Frag) (γ : Str → Addr) (r : V → Hp → VK → Prop) (f : HL.O1) : Prop := ∀ ρ h H x Q, cM K γ ρ h H → wf h.length x → ER K γ ρ h H (f x h) Q → r (aF γ ρ x) H Q
theorem Fg {op : UnaryOp} {r : V → Hp → VK → Prop} {f : HL.O1} (ho : EN X (unaryOp op) r) (hs : FW X.K γ r f) (nw : ∀ x h, kW (f x h) = true) (ha : QE γ X a da) : QE γ X (.UnaryOp op a pos) (HL.mF f da) :=
  (DN ho ha).imp fun σ H Q x => by
    obtain ⟨ρ, s, h, S, x⟩ := x
    refine ⟨ρ, s, h, S, bg.bind x fun v h1 ρ1 H1 _ n1 S1 w1 x1 => ?_⟩
    exact hs ρ1 h1 H1 v Q S1 w1 (oC S1 (nw _ _) x1)
theorem ak : QA γ X [] HL.aj := BQ.imp fun σ H Q ⟨ρ, s, h, S, x⟩ => x ρ H (eQ.refl _ _) S.hp fun _ z => by cases z
theorem ae {es : List Expr} {d : DA} (ha : QE γ X e de) (hr : QA γ X es d) (hs : starEach (e :: es) X.env = (false, eval e X.env) :: starEach es X.env := by rfl) : QA γ X (e :: es) (HL.aa de d) :=
  (zK ha hr hs).imp fun σ H Q x => by
    obtain ⟨ρ, s, h, S, x⟩ := x
    refine ⟨ρ, s, h, S, bg.bind x fun v h1 ρ1 H1 _ n1 S1 w1 x1 => ?_⟩
    refine ⟨ρ1, s, h1, S.next n1 S1, bg.bind x1 fun us h2 ρ2 H2 _ n2 S2 w2 x2 => ?_⟩
    rw [fJ w1 n2.ag]
    exact x2 ρ2 H2 (eQ.refl _ _) S2 fun y hy => by
      rcases List.mem_cons.mp hy with rfl | hy
      · exact w1.mono n2.le
      · exact w2 y hy
def A9 (K : PySem.W.Frag) (γ : Str → Addr) (r : List V → Hp → VK → Prop) (f : List W → Sh → OR) : Prop := ∀ ρ h H xs Q, cM K γ ρ h H → mH h.length xs → ER K γ ρ h H (f xs h) Q → r (xs.map (aF γ ρ)) H Q
theorem A0 {r : List V → Hp → VK → Prop} {f : List W → Sh → OR} {d : DA} (hs : A9 X.K γ r f) (nw : ∀ x h, kW (f x h) = true) (σ : St) (H : Hp) (Q : VK) (x : eE X.K γ (HL.dB f d) σ H Q) : Fb r (eA X.K γ d) σ H Q := by
  obtain ⟨ρ, s, h, S, x⟩ := x
  refine ⟨ρ, s, h, S, bg.bind x fun v h1 ρ1 H1 _ n1 S1 w1 x1 => ?_⟩
  exact hs ρ1 h1 H1 v Q S1 w1 (oC S1 (nw _ _) x1)
theorem rC {x : Str} {id : String} {p : Pos} {es : List Expr} {d : DA} {r : List V → Hp → VK → Prop} {f : List W → Sh → OR} (hc : mT X (.builtin id) r) (hs : A9 X.K γ r f) (nw : ∀ x h, kW (f x h) = true) (hg : Gl X x) (hm : X.mg x = none) (hv : bootBuiltins x = some (.builtin id)) (ha : QA γ X (e :: es) d)
    (hn : x ≠ "__name__" := by decide) (hdb : (x == ("__debug__" : Str)) = false := by decide) (he : starEach (e :: es) X.env = (false, eval e X.env) :: starEach es X.env := by rfl) (hpl : (backTo pos (starEach es X.env)).any (·.1) = false := by rfl) :
    QE γ X (.Call (.Name x p) (e :: es) [] pos) (HL.dB f d) := (xV hc hg hm hv ha hn hdb he hpl).imp (A0 hs nw)
theorem sQ {x : Str} {T : String} {p : Pos} {es : List Expr} {d : DA} {r : List V → Hp → VK → Prop} {f : List W → Sh → OR} (hc : mT X (.type T) r) (hs : A9 X.K γ r f) (nw : ∀ x h, kW (f x h) = true) (hg : Gl X x) (hm : X.mg x = none) (hv : bootBuiltins x = some (.type T)) (ha : QA γ X (e :: es) d)
    (hn : x ≠ "__name__" := by decide) (hdb : (x == ("__debug__" : Str)) = false := by decide) (he : starEach (e :: es) X.env = (false, eval e X.env) :: starEach es X.env := by rfl) (hpl : (backTo pos (starEach es X.env)).any (·.1) = false := by rfl) :
    QE γ X (.Call (.Name x p) (e :: es) [] pos) (HL.dB f d) := (v7 hc hg hm hv ha hn hdb he hpl).imp (A0 hs nw)
theorem fM {n : Nat} (h : n ≤ HL.hW) : n ≤ sizeLine := by
  have : HL.hW = 100000 := rfl
  rw [sizeLine_eq]; omega
theorem iu {es : List Expr} {d : DA} (ha : QA γ X es d) : QE γ X (.List es pos) (HL.dB HL.cW d) :=
  (BK ha).imp fun σ H Q x => by
    obtain ⟨ρ, s, h, S, x⟩ := x
    refine ⟨ρ, s, h, S, bg.bind x fun v h1 ρ1 H1 _ n1 S1 w1 x1 => ?_⟩
    unfold HL.cW at x1
    split at x1
    · rename_i hl
      exact ⟨by rw [List.length_map]; exact fM hl, oC S1 rfl x1 w1⟩
    · exact x1.elim
theorem mO {x1} {es : List Expr} {d : DA} (ha : QA γ X es d) : QE γ X (.Tuple es x1 pos) (HL.dB HL.hV d) :=
  (BF ha).imp fun σ H Q x => by
    obtain ⟨ρ, s, h, S, x⟩ := x
    refine ⟨ρ, s, h, S, bg.bind x fun v h1 ρ1 H1 _ n1 S1 w1 x1 => ?_⟩
    unfold HL.hV at x1
    split at x1
    · rename_i hl
      exact ⟨by rw [List.length_map]; exact fM hl, oC S1 rfl x1 w1⟩
    · exact x1.elim
def E5 (K : PySem.W.Frag) (ta : TE) : TT := fun σ H Q => ta σ H fun x H' => ∃ k, CW K x H' k ∧ Q k H'
theorem Bi (σ : St) (H : Hp) (Q : Bool → Hp → Prop) (x : eT X.K γ (HL.dT da) σ H Q) : E5 X.K (eE X.K γ da) σ H Q := by
  obtain ⟨ρ, s, h, S, x⟩ := x
  refine ⟨ρ, s, h, S, bg.bind x fun v h1 ρ1 H1 _ n1 S1 w1 x1 => ?_⟩
  have fin : ∀ b, HL.dM v h1 = some b → Q b H1 := fun b e => by
    simp only [e] at x1
    exact x1 ρ1 H1 (eQ.refl _ _) S1 trivial
  cases v with
  | non => exact ⟨_, rfl, fin _ rfl⟩
  | bl b => exact ⟨_, rfl, fin _ rfl⟩
  | int i => exact ⟨_, rfl, fin _ rfl⟩
  | str y =>
    by_cases hl : y.length ≤ HL.hW
    · exact ⟨_, ⟨fM hl, rfl⟩, fin _ (if_pos hl)⟩
    · simp only [HL.dM, if_neg hl] at x1
      exact x1.elim
  | ref i =>
    cases q : h1[i]? with
    | none => simp only [HL.dM, q] at x1; exact x1.elim
    | some o =>
      have ob := S1.ob i o q
      cases o with
      | lst xs => exact ⟨_, .inl ⟨_, ka.of ob, rfl⟩, by have := fin (!xs.isEmpty) (by simp only [HL.dM, q]); simpa using this⟩
      | rol xs => exact ⟨_, .inl ⟨_, (show uK _ _ _ _ from ob).sq, rfl⟩, by have := fin (!xs.isEmpty) (by simp only [HL.dM, q]); simpa using this⟩
      | tup xs => exact ⟨_, .inr (.inl ⟨_, ob, rfl⟩), by have := fin (!xs.isEmpty) (by simp only [HL.dM, q]); simpa using this⟩
      | ins c fs => simp only [HL.dM, q] at x1; exact x1.elim
      | exc c fs => simp only [HL.dM, q] at x1; exact x1.elim
  | ty n => exact x1.elim
  | gl n => exact x1.elim
theorem oP (ha : QE γ X a da) (he : ∀ whole, isTrue a X.env whole = (do let v ← whole; standAt a.pos; holding [v] (truthy v)) := by intro _; rfl) : QT γ X a (HL.dT da) := (xK ha he).imp Bi
theorem ze {t : TE} (ht : ∀ σ H Q, eE X.K γ da σ H Q → t σ H Q) (σ : St) (H : Hp) (Q : Bool → Hp → Prop) (x : eT X.K γ (HL.dT da) σ H Q) (bo : ∀ s h v h', da s h = .ok v h' → ∃ k, v = .bl k) : AB t σ H Q := by
  obtain ⟨ρ, s, h, S, x⟩ := x
  refine ht σ H _ ⟨ρ, s, h, S, bg.bind x fun v h1 ρ1 H1 e n1 S1 w1 x1 => ?_⟩
  obtain ⟨k, rfl⟩ := bo _ _ _ _ e
  exact ⟨k, rfl, x1 ρ1 H1 (eQ.refl _ _) S1 trivial⟩
def Bo (f : HL.O2) : Prop := ∀ x y h, f x y h = .er ∨ ∃ k, f x y h = .val (.bl k)
theorem Bo.op {f : HL.O2} (b : Bo f) : ∀ s h v h', HL.aE f da db s h = .ok v h' → ∃ k, v = .bl k := fun s h v h' e => by
  unfold HL.aE HL.R.bind at e
  cases ea : da s h with
  | ok x h1 =>
    rw [ea] at e
    simp only at e
    cases eb : db s h1 with
    | ok y h2 =>
      rw [eb] at e
      simp only at e
      rcases b x y h2 with z | ⟨k, z⟩
      · rw [z] at e; cases e
      · rw [z] at e; cases e; exact ⟨k, rfl⟩
    | ex => rw [eb] at e; cases e
    | er => rw [eb] at e; cases e
  | ex => rw [ea] at e; cases e
  | er => rw [ea] at e; cases e
theorem pG {op : CmpOp} {r : R2} {f : HL.O2} (ho : kY X (compareOp op) r) (hs : ph X.K γ r f) (nw : f6 f) (bo : Bo f) (ha : QE γ X a da) (hb : QE γ X b db) (hm : behindInMarks op b = false) : QT γ X (.Compare a [op] [b] pos) (HL.dT (HL.aE f da db)) :=
  (zB ho ha hb hm).imp fun σ H Q x => ze (rH hs nw) σ H Q x bo.op
section
variable {dA dB : DT} {dE : List Expr}
theorem not_of (σ : St) (H : Hp) (Q : Bool → Hp → Prop) (x : eT X.K γ (HL.cP dA) σ H Q) : cP (eT X.K γ dA) σ H Q := by
  obtain ⟨ρ, s, h, S, x⟩ := x
  exact ⟨ρ, s, h, S, bg.bind x fun k h1 ρ1 H1 _ n1 S1 w1 x1 => x1 ρ1 H1 (eQ.refl _ _) S1 trivial⟩
theorem jO (ha : QT γ X a dA) : QT γ X (.UnaryOp .Not a pos) (HL.cP dA) := (Bx ha).imp not_of
theorem CS (σ : St) (H : Hp) (Q : Bool → Hp → Prop) (x : eT X.K γ (HL.gh dA dB) σ H Q) : gh (eT X.K γ dA) (eT X.K γ dB) σ H Q := by
  obtain ⟨ρ, s, h, S, x⟩ := x
  refine ⟨ρ, s, h, S, bg.bind x fun k h1 ρ1 H1 _ n1 S1 w1 x1 => ?_⟩
  cases k with
  | true => exact ⟨ρ1, s, h1, S.next n1 S1, x1⟩
  | false => exact x1 ρ1 H1 (eQ.refl _ _) S1 trivial
theorem DY (σ : St) (H : Hp) (Q : Bool → Hp → Prop) (x : eT X.K γ (HL.lC dA dB) σ H Q) : lC (eT X.K γ dA) (eT X.K γ dB) σ H Q := by
  obtain ⟨ρ, s, h, S, x⟩ := x
  refine ⟨ρ, s, h, S, bg.bind x fun k h1 ρ1 H1 _ n1 S1 w1 x1 => ?_⟩
  cases k with
  | false => exact ⟨ρ1, s, h1, S.next n1 S1, x1⟩
  | true => exact x1 ρ1 H1 (eQ.refl _ _) S1 trivial
theorem zu (ha : QT γ X a dA) : QW γ X (.BoolOp .And [a] pos) dA := zz ha
theorem pF (ha : QT γ X a dA) : QW γ X (.BoolOp .Or [a] pos) dA := Bt ha
theorem Bp (ha : QT γ X a dA) (hb : QW γ X (.BoolOp .And (b :: dE) pos) dB) : QW γ X (.BoolOp .And (a :: b :: dE) pos) (HL.gh dA dB) := (Bu ha hb).imp CS
theorem sP (ha : QT γ X a dA) (hb : QW γ X (.BoolOp .Or (b :: dE) pos) dB) : QW γ X (.BoolOp .Or (a :: b :: dE) pos) (HL.lC dA dB) := (DL ha hb).imp DY
theorem vW (h : QW γ X a dA) : QT γ X a dA := h _
theorem va {op} (h : QE γ X a da) : QE γ X (.BoolOp op [a] pos) da := BH h
theorem sR (ha : QE γ X a da) (hb : QE γ X (.BoolOp .And (b :: dE) pos) db) : QE γ X (.BoolOp .And (a :: b :: dE) pos) (HL.fg da db) := (BP ha hb).imp fun σ H Q x => by
  obtain ⟨ρ, s, h, S, x⟩ := x
  refine ⟨ρ, s, h, S, bg.bind x fun v h1 ρ1 H1 _ n1 S1 w1 x1 => ?_⟩
  cases v with
  | bl k =>
    refine ⟨k, rfl, ?_⟩
    cases k with
    | true => exact ⟨ρ1, s, h1, S.next n1 S1, x1⟩
    | false => exact x1 ρ1 H1 (eQ.refl _ _) S1 trivial
  | _ => exact x1.elim
theorem AK (ha : QE γ X a da) : QE γ X (.UnaryOp .Not a pos) (HL.ig da) := (BI ha).imp fun σ H Q x => by
  obtain ⟨ρ, s, h, S, x⟩ := x
  refine ⟨ρ, s, h, S, bg.bind x fun v h1 ρ1 H1 _ n1 S1 w1 x1 => ?_⟩
  cases v with
  | bl k => exact ⟨k, rfl, x1 ρ1 H1 (eQ.refl _ _) S1 trivial⟩
  | _ => exact x1.elim
end
theorem yJ {r r' : R2} {f g : HL.O2} (hs : ph X.K γ r f) (nw : f6 f) (bo : Bo f) (hs' : ph X.K γ r' g) (nw' : f6 g) (σ : St) (H : Hp) (Q : VK) (x : eE X.K γ (HL.bW f g da db dc) σ H Q) : xi r r' (eE X.K γ da) (eE X.K γ db) (eE X.K γ dc) σ H Q := by
  obtain ⟨ρ, s, h, S, x⟩ := x
  refine ⟨ρ, s, h, S, bg.bind x fun v h1 ρ1 H1 _ n1 S1 w1 x1 => ?_⟩
  refine ⟨ρ1, s, h1, S.next n1 S1, bg.bind x1 fun u h2 ρ2 H2 _ n2 S2 w2 x2 => ?_⟩
  have T2 := (S.next n1 S1).next n2 S2
  rw [fJ w1 n2.ag]
  refine hs ρ2 h2 H2 v u _ S2 (w1.mono n2.le) w2 ?_
  rcases bo v u h2 with z | ⟨k, z⟩
  · rw [z] at x2; exact x2.elim
  · rw [z] at x2 ⊢
    intro _
    refine ⟨k, rfl, ?_⟩
    cases k with
    | false => exact x2 ρ2 H2 (eQ.refl _ _) S2 trivial
    | true =>
      have x2' : nO X.K γ ρ2 h2 ((dc s h2).bind fun w h => (g u w h).fin h) Q := x2
      refine ⟨ρ2, s, h2, T2, bg.bind x2' fun t h3 ρ3 H3 _ n3 S3 w3 x3 => ?_⟩
      rw [fJ w2 n3.ag]
      exact hs' ρ3 h3 H3 u t Q S3 (w2.mono n3.le) w3 (oC S3 (nw' _ _ _) x3)
theorem zy {op op' : CmpOp} {r r' : R2} {f g : HL.O2} (ho : kY X (compareOp op) r) (hs : ph X.K γ r f) (nw : f6 f) (bo : Bo f) (ho' : kY X (compareOp op') r') (hs' : ph X.K γ r' g) (nw' : f6 g) (ha : QE γ X a da) (hb : QE γ X b db) (hc : QE γ X c dc)
    (hm : lastMarks [op, op'] [b, c] = false := by with_unfolding_all rfl) : QE γ X (.Compare a [op, op'] [b, c] pos) (HL.bW f g da db dc) := (xT ho ho' ha hb hc hm).imp (yJ hs nw bo hs' nw')
theorem u9 (ha : QE γ X a da) : QO γ X (some a) (HL.vD da) := (zC ha).imp fun σ H Q x => by
  obtain ⟨ρ, s, h, S, x⟩ := x
  refine ⟨ρ, s, h, S, bg.bind x fun v h1 ρ1 H1 _ n1 S1 w1 x1 => ?_⟩
  cases v with
  | int i => exact ⟨i, rfl, x1 ρ1 H1 (eQ.refl _ _) S1 trivial⟩
  | _ => exact x1.elim
theorem rl (n d : Nat) (o : Option Int) : HL.sIx n d o = HT.sIx n d o := by
  cases o with
  | none => rfl
  | some i =>
    rfl
theorem yF (γ : Str → Addr) (ρ : Nat → Addr) (xs : List W) (lo hi : Option Int) : (HL.uD xs lo hi).map (aF γ ρ) = tM (xs.map (aF γ ρ)) lo hi := by
  unfold HL.uD tM
  rw [List.map_take, List.map_drop, List.length_map, rl, rl]
theorem wZ {n : Nat} {xs : List W} (w : mH n xs) (lo hi : Option Int) : mH n (HL.uD xs lo hi) := fun x hx => w x (List.mem_of_mem_drop (List.mem_of_mem_take hx))
def Ff (K : PySem.W.Frag) : V → Option Int → Option Int → Hp → VK → Prop := fun x lo hi H Q => Dv K x lo hi H Q ∨ Du K x lo hi H Q
theorem zh : A6 X (Ff X.K) := zg.or Bl
theorem Fh {lo hi : Option Expr} {dl dh : HL.DO} {p2 : Pos} (ha : QE γ X a da) (hl : QO γ X lo dl) (hu : QO γ X hi dh) : QE γ X (.Subscript a (.Slice lo hi none p2) pos) (HL.Fu da dl dh) := (xQ zh ha hl hu).imp fun σ H Q x => by
  obtain ⟨ρ, s, h, S, x⟩ := x
  refine ⟨ρ, s, h, S, bg.bind x fun v h1 ρ1 H1 _ n1 S1 w1 x1 => ?_⟩
  refine ⟨ρ1, s, h1, S.next n1 S1, bg.bind x1 fun l h2 ρ2 H2 _ n2 S2 w2 x2 => ?_⟩
  refine ⟨ρ2, s, h2, (S.next n1 S1).next n2 S2, bg.bind x2 fun u h3 ρ3 H3 _ n3 S3 w3 x3 => ?_⟩
  rw [fJ w1 n2.ag, fJ (w1.mono n2.le) n3.ag]
  unfold HL.Fl at x3
  split at x3
  · rename_i xs e
    obtain ⟨i, rfl, q, w⟩ := mC S3 e
    refine .inl ⟨_, _, rfl, q, fun p hp => ?_⟩
    rw [← yF]
    exact oC S3 rfl x3 (wZ w _ _) p hp
  · split at x3
    · rename_i xs e
      obtain ⟨i, rfl, q, w⟩ := mw S3 e
      split at x3
      · exact x3.elim
      · rename_i ne
        refine .inr ⟨_, _, rfl, q, ?_, fun p hp => ?_⟩
        · rw [List.length_map, ← rl, ← rl]; exact ne
        · rw [← yF]
          exact oC S3 rfl x3 (wZ w _ _) p hp
    · exact x3.elim
end
end L2
namespace L2
open PySem PySem.Spec PyProof.Rows
open HL (W SO Sh Sg OR DE DT DA DS Fn)
def bF (K : PySem.W.Frag) (γ : Str → Addr) (p : Nat) (f : Fn) : Sp := fun vs H Q _ => vs.length = p ∧ ∃ ρ h us, cM K γ ρ h H ∧ mH h.length us ∧ vs = us.map (aF γ ρ) ∧ nO K γ ρ h (f us h) Q
section
variable {X : Cx} {γ : Str → Addr} {a b c e : Expr} {da db dc de : DE} {pos : Pos}
theorem vJ {f : Fn} {p : Nat} {d : DA} (hp : ∀ us h v h', f us h = .ok v h' → us.length = p) (σ : St) (H : Hp) (Q : VK) (x : eE X.K γ (HL.aC f d) σ H Q) : sJ (bF X.K γ p f) [] E0 (eA X.K γ d) σ H Q := by
  obtain ⟨ρ, s, h, S, x⟩ := x
  refine ⟨ρ, s, h, S, bg.bind x fun us h1 ρ1 H1 _ n1 S1 w1 x1 => ?_⟩
  rw [List.append_nil]
  refine ⟨?_, ρ1, h1, us, S1, w1, rfl, x1⟩
  rw [List.length_map]
  cases q : f us h1 with
  | ok v h' => exact hp _ _ _ _ q
  | ex => rw [q] at x1; exact x1.elim
  | er => rw [q] at x1; exact x1.elim
theorem p4 {p n : Nat} {b : DS} {us : List W} {h : Sh} {v : W} {h' : Sh} (e : HL.fnOf p n b us h = .ok v h') : us.length = p := by
  unfold HL.fnOf at e
  split at e
  · assumption
  · cases e
theorem bR {x : Str} {k p n : Nat} {bd : DS} {ps : List Str} {pp : Pos} {es : List Expr} {d : DA} (D : kZ X.prog X.w X.K X.mg X.base k x ps (bF X.K γ p (HL.fnOf p n bd))) (hr : b6 k X.A) (hg : Gl X x) (ha : QA γ X (e :: es) d) (hdb : (x == ("__debug__" : Str)) = false := by decide)
    (he : starEach (e :: es) X.env = (false, eval e X.env) :: starEach es X.env := by rfl) (hpl : (backTo pos (starEach es X.env)).any (·.1) = false := by rfl) : QE γ X (.Call (.Name x pp) (e :: es) [] pos) (HL.aC (HL.fnOf p n bd) d) :=
  (BN D hr hg ha hdb he hpl).imp (vJ fun _ _ _ _ => p4)
theorem dk : sx γ X [] HL.gq := ve.imp fun D σ H ⟨ρ, s, h, S, x⟩ => by rw [S.eq]; exact x ρ H (eQ.refl _ _) S.hp S.ws
theorem zj {d1 d2 : DS} (D : o4) (σ : St) (H : Hp) (x : eS X.K γ (HL.aI d1 d2) D σ H) : De (eS X.K γ d1) (eS X.K γ d2) D σ H := by
  obtain ⟨ρ, s, h, S, x⟩ := x
  refine ⟨ρ, s, h, S, ?_⟩
  unfold HL.aI at x
  cases q : d1 s h with
  | nx s1 h1 =>
    rw [q] at x
    exact fun ρ1 H1 n1 S1 w1 => ⟨ρ1, s1, h1, ⟨S1, w1, rfl⟩, f7.later x n1⟩
  | rt v h1 => rw [q] at x; exact x
  | bk s1 h1 => rw [q] at x; exact x
  | ct s1 h1 => rw [q] at x; exact x
  | ex => rw [q] at x; exact x.elim
  | er => rw [q] at x; exact x.elim
theorem ax {st : Stmt} {dE : List Stmt} {d1 d2 : DS} (h1 : QS γ X st d1) (h2 : sx γ X dE d2) : sx γ X (st :: dE) (HL.aI d1 d2) := (sU h1 h2).imp zj
theorem az {st : Stmt} {d1 : DS} (h1 : QS γ X st d1) : sx γ X [st] d1 := rD h1
theorem xE {st : Stmt} : QS γ X st HL.xt := xN.imp fun D σ H ⟨ρ, s, h, S, x⟩ => x.elim
theorem aO (he : QE γ X e de) : QS γ X (.Return (some e) pos) (HL.aU de) := (Bz he).imp fun D σ H ⟨ρ, s, h, S, x⟩ => by
  refine ⟨ρ, s, h, S, ?_⟩
  unfold HL.aU at x
  cases q : de s h with
  | ok v h1 => rw [q] at x; exact x
  | ex => rw [q] at x; exact x.elim
  | er => rw [q] at x; exact x.elim
theorem bS (he : QE γ X e de) (hs : swapsWith e none pos.line X.env = pure false := by rfl) : QS γ X (.Expr e pos) (HL.aR de) := (rE he hs).imp fun D σ H ⟨ρ, s, h, S, x⟩ => by
  refine ⟨ρ, s, h, S, ?_⟩
  unfold HL.aR at x
  cases q : de s h with
  | ok v h1 =>
    rw [q] at x
    intro ρ1 H1 n1 S1 w1
    have z := x ρ1 H1 n1 S1 (S.ws.mono n1.le)
    rw [(S.next n1 S1).eq]; exact z
  | ex => rw [q] at x; exact x.elim
  | er => rw [q] at x; exact x.elim
theorem pk {n i : Nat} {s : Sg} {v : W} (w : tW n s) (wv : wf n v) : tW n (s.set i (some v)) := fun y hy => by
  rcases List.mem_or_eq_of_mem_set hy with z | z
  · exact w y z
  · cases z; exact wv
theorem lE {ρ : Nat → Addr} {i : Nat} {s : Sg} {v : W} : jg γ ρ (s.set i (some v)) = (jg γ ρ s).set i (some (aF γ ρ v)) := by
  unfold jg
  rw [List.map_set]
  rfl
theorem Br {i : Nat} {x : Str} {pos' : Pos} (hN : X.N.Nodup) (hi : X.N[i]? = some x) (hx : wU X.env.scope x) (he : QE γ X e de) (hs : swapsWith e (some (.Name x pos')) pos.line X.env = pure false := by rfl) (hf : X.fn x = true ∨ X.env.scope.names.lookup x = some .local := by first | exact .inl rfl | exact .inr rfl | assumption) :
    QS γ X (.Assign [.Name x pos'] e pos) (HL.aT i de) := (By hN hi hx he hs hf).imp fun D σ H ⟨ρ, s, h, S, x⟩ => by
  refine ⟨ρ, s, h, S, ?_⟩
  unfold HL.aT at x
  cases q : de s h with
  | ok v h1 =>
    rw [q] at x
    intro ρ1 H1 n1 S1 w1
    have z := x ρ1 H1 n1 S1 (pk (S.ws.mono n1.le) w1)
    rw [lE, ← (S.next n1 S1).eq] at z
    exact z
  | ex => rw [q] at x; exact x.elim
  | er => rw [q] at x; exact x.elim
theorem dO {dc : DT} {d1 d2 : DS} {s1 s2 : List Stmt} (hc : QT γ X c dc) (ha : sx γ X s1 d1) (hb : sx γ X s2 d2) : QS γ X (.If c s1 s2 pos) (HL.et dc d1 d2) := (AM hc ha hb).imp fun D σ H ⟨ρ, s, h, S, x⟩ => by
  refine ⟨ρ, s, h, S, ?_⟩
  unfold HL.et at x
  cases q : dc s h with
  | ok k h1 =>
    rw [q] at x
    intro ρ1 H1 n1 S1 w1
    cases k with
    | true => exact ⟨ρ1, s, h1, S.next n1 S1, f7.later x n1⟩
    | false => exact ⟨ρ1, s, h1, S.next n1 S1, f7.later x n1⟩
  | ex => rw [q] at x; exact x.elim
  | er => rw [q] at x; exact x.elim
theorem D6 (n : Nat) (i : Int) : HL.wQ n i = C3 n i := rfl
theorem xD {o i : Expr} {d1 d2 : DE} {p2 : Pos} (he : QE γ X e de) (ho : QE γ X o d1) (hi : QE γ X i d2)
    (ha : ∀ v, assign (.Subscript o i p2) X.env v = (do
      let ov ← holding [v] (eval o X.env)
      let iv ← holding [v, ov] (eval i X.env)
      standAt p2
      holding [v, ov, iv] (setItem ov iv v)
      release [v, ov, iv] []) := by intro _; rfl)
    (hs : swapsWithSole [.Subscript o i p2] e pos.line X.env = pure false := by rfl) (hw : swappedStores [.Subscript o i p2] e X.env = pure none := by rfl)
    (h1 : (assignEach [.Subscript o i p2] X.env).map (·.2) = [assign (.Subscript o i p2) X.env] := by rfl) : QS γ X (.Assign [.Subscript o i p2] e pos) (HL.gk d1 d2 de) :=
  (BB he (BD ho hi xk ha) hs hw h1).imp fun D σ H ⟨ρ, s, h, S, x⟩ => by
  unfold HL.gk at x
  refine ⟨ρ, s, h, S, ?_⟩
  cases q : de s h with
  | ok v h1 =>
    rw [q] at x
    intro ρ1 H1 n1 S1 w1
    have T1 := S.next n1 S1
    refine ⟨ρ1, s, h1, T1, ?_⟩
    simp only [HL.R.bind] at x
    cases q2 : d1 s h1 with
    | ok xo h2 =>
      rw [q2] at x
      intro ρ2 H2 n2 S2 w2
      have T2 := T1.next n2 S2
      refine ⟨ρ2, s, h2, T2, ?_⟩
      simp only at x
      cases q3 : d2 s h2 with
      | ok y h3 =>
        rw [q3] at x
        intro ρ3 H3 n3 S3 w3
        have T3 := T2.next n3 S3
        simp only at x
        cases xo with
        | ref pp =>
          cases y with
          | int k =>
            simp only at x
            cases q4 : h3[pp]? with
            | none => rw [q4] at x; exact x.elim
            | some ob =>
              rw [q4] at x
              cases ob with
              | lst xs =>
                simp only at x
                cases q5 : HL.wQ xs.length k with
                | none => rw [q5] at x; exact x.elim
                | some j =>
                  rw [q5] at x
                  have ob := S3.ob pp _ q4
                  have wv := (w1.mono n2.le).mono n3.le
                  refine ⟨ρ2 pp, xs.map (aF γ ρ3), k, j, rfl, rfl, ?_, by rw [List.length_map]; exact q5, ?_⟩
                  · rw [n3.ag pp w2]; exact ob
                  · have S4 : cM X.K γ ρ3 (h3.set pp (.lst (xs.set j v))) (upd H3 (ρ3 pp) (.lst ((xs.set j v).map (aF γ ρ3)))) := S3.chg q4 rfl rfl (by
                      intro y hy
                      rcases List.mem_or_eq_of_mem_set hy with z | z
                      · exact S3.wf pp _ q4 y z
                      · cases z; exact wv) bK
                    have z := x ρ3 _ (((n1.trans n2).trans n3).trans (eQ.chg _ _ _ _)) S4 (by rw [List.length_set]; exact T3.ws)
                    rw [← T3.eq] at z
                    rw [n3.ag pp w2, fJ w1 (n2.trans n3).ag, ← List.map_set]
                    exact z
              | _ => exact x.elim
          | _ => exact x.elim
        | _ => exact x.elim
      | ex => rw [q3] at x; exact x.elim
      | er => rw [q3] at x; exact x.elim
    | ex => rw [q2] at x; exact x.elim
    | er => rw [q2] at x; exact x.elim
  | ex => rw [q] at x; exact x.elim
  | er => rw [q] at x; exact x.elim
def eG (K : PySem.W.Frag) (γ : Str → Addr) (d : HL.DG) : TG := fun v σ H Q => ∃ ρ s h w, tT K γ ρ s h σ H ∧ v = aF γ ρ w ∧ wf h.length w ∧ ∃ s', d w s h = some s' ∧ (tW h.length s' → Q (jg γ ρ s') H)
abbrev QG (γ : Str → Addr) (X : Cx) (e : Expr) (d : HL.DG) : Prop := PG X e (eG X.K γ d)
theorem PG.imp {X : Cx} {e : Expr} {t t' : TG} (h : PG X e t) (i : ∀ v σ H Q, t' v σ H Q → t v σ H Q) : PG X e t' := fun pins s σ H v u Q I r hw => h pins s σ H v u Q I r (i _ _ _ _ hw)
theorem zx {i : Nat} {x : Str} (hN : X.N.Nodup) (hi : X.N[i]? = some x) (hx : wU X.env.scope x) (hf : X.fn x = true ∨ X.env.scope.names.lookup x = some .local := by first | exact .inl rfl | exact .inr rfl | assumption) : QG γ X (.Name x pos) (HL.bD i) :=
  (vf hN hi hx hf).imp fun v σ H Q ⟨ρ, s, h, w, S, e, ww, s', e', q⟩ => by
    cases e'
    have z := q (pk S.ws ww)
    rw [lE, ← S.eq, ← e] at z
    exact z
def sd : List Nat → A5
  | [] => Ec
  | i :: is => AX (bD i) (sd is)
theorem qJ {γ : Str → Addr} {ρ : Nat → Addr} {H : Hp} {Q : St → Hp → Prop} : ∀ (is : List Nat) (xs : List W) (s : Sg), xs.length = is.length → Q (jg γ ρ (HL.pz is xs s)) H → sd is (xs.map (aF γ ρ)) (jg γ ρ s) H Q
  | [], [], s, _, q => ⟨rfl, q⟩
  | i :: is, x :: xs, s, e, q => by
    refine ⟨_, _, rfl, ?_⟩
    show sd is _ ((jg γ ρ s).set i (some _)) H Q
    rw [← lE]
    exact qJ is xs _ (by simpa using e) q
theorem qC {n : Nat} : ∀ (is : List Nat) (xs : List W) (s : Sg), tW n s → mH n xs → tW n (HL.pz is xs s)
  | [], [], s, w, _ => w
  | [], _ :: _, s, w, _ => w
  | _ :: _, [], s, w, _ => w
  | i :: is, x :: xs, s, w, wx => qC is xs _ (pk w (wx x List.mem_cons_self)) fun y hy => wx y (List.mem_cons_of_mem _ hy)
theorem Bs {es : List Expr} {k : Nat} {is : List Nat} (hc : X.calm = true) (h : El X es (sd is)) (hn : (assignEach es X.env).length = is.length := by rfl) (hst : (assignEach es X.env).findIdx? (·.1) = none := by rfl) : QG γ X (.Tuple es k pos) (HL.qw is) :=
  (BC (n := is.length) hc h hn hst).imp fun v σ H Q ⟨ρ, s, h, w, S, e, ww, s', e', q⟩ => by
    unfold HL.qw at e'
    split at e'
    · rename_i xs q1
      split at e'
      · rename_i hl
        cases e'
        obtain ⟨i, rfl, sq, wx⟩ := mw S.hp q1
        refine ⟨ρ i, _, e, sq, by rw [List.length_map]; exact hl, ?_⟩
        rw [S.eq]
        exact qJ is xs s hl (q (qC is xs s S.ws wx))
      · cases e'
    · cases e'
def Gh (K : PySem.W.Frag) (tl : TE) : TI := fun σ H R => tl σ H fun x H1 => ∃ a, x = .ref a ∧ ((∃ xs, ka K H1 a xs) ∧ R (F5 K a) H1 ∨ (∃ xs, lq K H1 a xs) ∧ R (F4 K a) H1)
theorem DM {tg l : Expr} {tl : TE} (hl : PE X l tl) : PI X tg l (Gh X.K tl) := by
  intro pins s σ H R I h
  refine ez (hl pins s σ H _ I h) fun v s1 ⟨x, H1, I1, r1, q1⟩ => ?_
  obtain ⟨a, e, q⟩ := q1
  subst e
  cases r1
  rcases q with ⟨⟨xs, hq⟩, q⟩ | ⟨⟨xs, hq⟩, q⟩
  · obtain ⟨its, rv, p, hz⟩ := I1.list hq
    refine wpAny_pyIter_list p.isList ?_
    refine ⟨s1.heap.objs.size, [s1.heap.objs.size], _, _, H1, rfl, I1.kept (t' := s1.toks) fun b o e => Heap.get?_push_of_some _ e, vO a _, ⟨_, Heap.get?_push_size _ rfl, rfl, rfl⟩, fun b hb => ?_, q⟩
    have e : b = s1.heap.objs.size := by simpa using hb
    subst e
    exact I1.fpOk (Nat.le_refl _) (I1.hok.fresh (Nat.le_refl _))
  · obtain ⟨its, rv, p, hz⟩ := I1.tuple hq
    refine wpAny_pyIter_tuple (show s1.heap.IsTuple a its.toArray from p) ?_
    refine ⟨s1.heap.objs.size, [s1.heap.objs.size], _, _, H1, rfl, I1.kept (t' := s1.toks) fun b o e => Heap.get?_push_of_some _ e, tZ a _, ⟨_, Heap.get?_push_size _ rfl, rfl, rfl⟩, fun b hb => ?_, q⟩
    have e : b = s1.heap.objs.size := by simpa using hb
    subst e
    exact I1.fpOk (Nat.le_refl _) (I1.hok.fresh (Nat.le_refl _))
def FV (K : PySem.W.Frag) (γ : Str → Addr) (J : It) (t : HL.It) (h₀ : Sh) (ρ₀ : Nat → Addr) : Prop := mH h₀.length t.items ∧ ∀ ρ h H, eQ h₀ ρ₀ h ρ → cM K γ ρ h H → t.stays h → ∀ i : Nat,
  (t.items.length ≤ i → J.stop i H) ∧ ∀ x, t.items[i]? = some x → J.go i H ∧ ∀ v H', J.yld i H v H' → H' = H ∧ v = aF γ ρ x
def eI (K : PySem.W.Frag) (γ : Str → Addr) (d : HL.DI) : TI := fun σ H R => ∃ ρ s h, tT K γ ρ s h σ H ∧ (match d s h with
  | .ok t h1 => ∀ ρ1 H1 J, eQ h ρ h1 ρ1 → cM K γ ρ1 h1 H1 → t.stays h1 → FV K γ J t h1 ρ1 → R J H1
  | _ => False)
abbrev QI (γ : Str → Addr) (X : Cx) (tg e : Expr) (d : HL.DI) : Prop := PI X tg e (eI X.K γ d)
theorem PI.imp {X : Cx} {tg e : Expr} {t t' : TI} (h : PI X tg e t) (i : ∀ σ H Q, t' σ H Q → t σ H Q) : PI X tg e t' := fun pins s σ H R I hw => h pins s σ H R I (i _ _ _ hw)
theorem pK {tg : Expr} (ha : QE γ X a da) : QI γ X tg a (HL.lJ da) := (DM ha).imp fun σ H R ⟨ρ, s, h, S, x⟩ => by
  refine ⟨ρ, s, h, S, ?_⟩
  unfold HL.lJ at x
  cases q : da s h with
  | ok v h1 =>
    rw [q] at x
    simp only [HL.R.bind] at x
    intro ρ1 H1 n1 S1 w1
    cases v with
    | ref i =>
      simp only at x
      refine ⟨ρ1 i, rfl, ?_⟩
      cases q3 : HL.bE h1 (.ref i) with
      | some xs =>
        rw [q3] at x
        obtain ⟨j, e, sq, w⟩ := mC S1 q3
        cases e
        refine .inl ⟨⟨_, sq⟩, x ρ1 H1 _ n1 S1 q3 ⟨w, fun ρ2 h2 H2 n2 S2 st k => ?_⟩⟩
        obtain ⟨j, e, sq2, w2⟩ := mC S2 (show HL.bE h2 (.ref i) = some xs from st)
        cases e
        rw [← n2.ag i w1] at sq2
        refine ⟨fun le => ⟨_, sq2, by rw [List.length_map]; exact le⟩, fun y hy => ?_⟩
        have e2 : (xs.map (aF γ ρ2))[k]? = some (aF γ ρ2 y) := by rw [List.getElem?_map, show xs[k]? = some y from hy]; rfl
        exact ⟨⟨_, _, sq2, e2⟩, fun v H' ⟨e, u⟩ => ⟨e, (Option.some.inj ((u _ sq2).symm.trans e2))⟩⟩
      | none =>
        rw [q3] at x
        simp only at x
        cases q4 : HL.iy h1 (.ref i) with
        | none => rw [q4] at x; exact x.elim
        | some xs =>
          rw [q4] at x
          obtain ⟨j, e, sq, w⟩ := mw S1 q4
          cases e
          refine .inr ⟨⟨_, sq⟩, x ρ1 H1 _ n1 S1 q4 ⟨w, fun ρ2 h2 H2 n2 S2 st k => ?_⟩⟩
          obtain ⟨j, e, sq2, w2⟩ := mw S2 (show HL.iy h2 (.ref i) = some xs from st)
          cases e
          rw [← n2.ag i w1] at sq2
          refine ⟨fun le => ⟨_, sq2, by rw [List.length_map]; exact le⟩, fun y hy => ?_⟩
          have e2 : (xs.map (aF γ ρ2))[k]? = some (aF γ ρ2 y) := by rw [List.getElem?_map, show xs[k]? = some y from hy]; rfl
          exact ⟨⟨_, _, sq2, e2⟩, fun v H' ⟨e, u⟩ => ⟨e, (Option.some.inj ((u _ sq2).symm.trans e2))⟩⟩
    | _ => exact x.elim
  | ex => rw [q] at x; exact x.elim
  | er => rw [q] at x; exact x.elim
theorem vM {K : PySem.W.Frag} (lo : Int) (n : Nat) (h : Sh) (ρ : Nat → Addr) : FV K γ (EU lo n) (.fix (HL.cz lo n)) h ρ := by
  have len : (HL.cz lo n).length = n := by unfold HL.cz; rw [List.length_map, List.length_range]
  refine ⟨fun y hy => ?_, fun ρ2 h2 H2 n2 S2 st k => ⟨fun le => ?_, fun y hy => ?_⟩⟩
  · obtain ⟨k, _, rfl⟩ := List.mem_map.mp hy
    exact trivial
  · have le' : (HL.cz lo n).length ≤ k := le
    rw [len] at le'
    exact le'
  · have hy' : (HL.cz lo n)[k]? = some y := hy
    have hk : k < n := by
      have := (List.getElem?_eq_some_iff.mp hy').1
      rw [len] at this; exact this
    unfold HL.cz at hy'
    rw [List.getElem?_map, List.getElem?_range hk] at hy'
    cases hy'
    exact ⟨hk, fun v H' ⟨e, u⟩ => ⟨e, u⟩⟩
theorem mz {tg : Expr} {p : Pos} (hg : Gl X "range") (hm : X.mg "range" = none) (ha : QE γ X a da) (hs : starEach [a] X.env = [(false, eval a X.env)] := by rfl) : QI γ X tg (.Call (.Name "range" p) [a] [] pos) (HL.dI da) :=
  (v3 hg hm (ae ha ak hs) hs).imp fun σ H R ⟨ρ, s, h, S, x⟩ => by
  refine ⟨ρ, s, h, S, ?_⟩
  unfold HL.dI at x
  unfold HL.aa HL.aj
  cases q : da s h with
  | ok v h1 =>
    rw [q] at x
    simp only [HL.R.bind] at x
    intro ρ1 H1 n1 S1 w1
    cases v with
    | int j =>
      by_cases hj : -(2 ^ 62) ≤ j ∧ j < 2 ^ 62
      · simp only [if_pos hj] at x
        exact ⟨j, rfl, hj.1, hj.2, x ρ1 H1 _ n1 S1 trivial (vM _ _ _ _)⟩
      · simp only [if_neg hj] at x
    | _ => exact x.elim
  | ex => rw [q] at x; exact x.elim
  | er => rw [q] at x; exact x.elim
theorem CB {di : HL.DI} {g : HL.DG} {bd : DS} (D : o4) (σ : St) (H : Hp) (x : eS X.K γ (HL.lg di g bd) D σ H) : Bk (eI X.K γ di) (eG X.K γ g) (eS X.K γ bd) D σ H := by
  obtain ⟨ρ, s, h, S, x⟩ := x
  unfold HL.lg at x
  refine ⟨ρ, s, h, S, ?_⟩
  cases q : di s h with
  | ex => rw [q] at x; exact x.elim
  | er => rw [q] at x; exact x.elim
  | ok t h1 =>
    rw [q] at x
    simp only at x
    intro ρ1 H1 J n1 S1 st ⟨wi, wl⟩
    have T1 := S.next n1 S1
    let St' : Nat → St → Hp → Prop := fun i σ' H' => i ≤ t.items.length ∧ ∃ ρ2 s2 h2, tT X.K γ ρ2 s2 h2 σ' H' ∧ eQ h1 ρ1 h2 ρ2 ∧ t.stays h2 ∧ f7 X.K γ ρ2 h2 (HL.lh t g bd (t.items.drop i) s2 h2) D
    refine ⟨fun i m σ' H' => m = t.items.length - i ∧ St' i σ' H', ⟨_, rfl, Nat.zero_le _, ρ1, s, h1, T1, eQ.refl _ _, st, f7.later x n1⟩, ?_⟩
    rintro i m σ' H' ⟨rfl, hi, ρ2, s2, h2, T2, n2, st2, g2⟩
    obtain ⟨w1, w2⟩ := wl ρ2 h2 H' n2 T2.hp st2 i
    cases e : t.items[i]? with
    | none =>
      have hl : t.items.length ≤ i := List.getElem?_eq_none_iff.mp e
      rw [List.drop_eq_nil_of_le hl] at g2
      refine .inl ⟨w1 hl, ?_⟩
      have z := g2 ρ2 H' (eQ.refl _ _) T2.hp T2.ws
      rw [T2.eq]; exact z
    | some y =>
      obtain ⟨hlt, ey⟩ := List.getElem?_eq_some_iff.mp e
      obtain ⟨go, yl⟩ := w2 y e
      refine .inr ⟨go, St' (i + 1), fun σ3 H3 z => ⟨_, by omega, rfl, z⟩, fun v H3 hv => ?_⟩
      obtain ⟨rfl, rfl⟩ := yl v H3 hv
      rw [List.drop_eq_getElem_cons hlt, ey] at g2
      unfold HL.lh at g2
      have wy : wf h2.length y := (wi y (List.mem_of_getElem? e)).mono n2.le
      cases q3 : g y s2 h2 with
      | none => rw [q3] at g2; exact g2.elim
      | some s3 =>
        rw [q3] at g2
        simp only at g2
        refine ⟨ρ2, s2, h2, y, T2, rfl, wy, s3, q3, fun w3 => ⟨ρ2, s3, h2, ⟨T2.hp, w3, rfl⟩, ?_⟩⟩
        cases q4 : bd s3 h2 with
        | nx s4 h4 =>
          rw [q4] at g2
          simp only at g2
          split at g2
          · rename_i st4
            exact fun ρ4 H4 n4 S4 w4 => ⟨hlt, ρ4, s4, h4, ⟨S4, w4, rfl⟩, n2.trans n4, st4, f7.later g2 n4⟩
          · exact g2.elim
        | ct s4 h4 =>
          rw [q4] at g2
          simp only at g2
          split at g2
          · rename_i st4
            exact fun ρ4 H4 n4 S4 w4 => ⟨hlt, ρ4, s4, h4, ⟨S4, w4, rfl⟩, n2.trans n4, st4, f7.later g2 n4⟩
          · exact g2.elim
        | bk s4 h4 => rw [q4] at g2; exact g2
        | rt v4 h4 => rw [q4] at g2; exact g2
        | ex => rw [q4] at g2; exact g2.elim
        | er => rw [q4] at g2; exact g2.elim
theorem pJ {tg iter : Expr} {body : List Stmt} {di : HL.DI} {g : HL.DG} {bd : DS} (hp : PassesOwn (model X.prog X.w) X.A X.env X.xe) (hc : X.calm = true) (hi : QI γ X tg iter di) (hg : QG γ X tg g) (hb : sx γ X body bd)
    (hs : ∀ x, foldedSetIterable iter X.env x = pure x := by intro _; rfl) : QS γ X (.For tg iter body [] pos) (HL.lg di g bd) := (xO hp hc hi hg hb hs).imp CB
end
theorem pD {γ : Str → Addr} {ρ : Nat → Addr} (N : List Str) (us : List W) : aH N (us.map (aF γ ρ)) = jg γ ρ (HL.aH N.length us) := by
  unfold aH jg HL.aH
  rw [List.map_append, List.map_map, List.map_map, List.map_replicate, List.length_map]
  rfl
theorem sE {n m : Nat} {us : List W} (w : mH n us) : tW n (HL.aH m us) := fun x hx => by
  unfold HL.aH at hx
  rcases List.mem_append.mp hx with z | z
  · obtain ⟨y, hy, e⟩ := List.mem_map.mp z
    cases e; exact w _ hy
  · cases (List.mem_replicate.mp z).2
theorem o9 {K : PySem.W.Frag} {γ : Str → Addr} {ρ : Nat → Addr} {h : Sh} {H : Hp} {N : List Str} {us : List W} {bd : DS} {Q : VK} {p : Nat} (S : cM K γ ρ h H) (w : mH h.length us) (x : nO K γ ρ h (HL.fnOf p N.length bd us h) Q) :
    eS K γ bd { nx := fun _ H' => Q .non H', rt := Q } (aH N (us.map (aF γ ρ))) H := by
  refine ⟨ρ, HL.aH N.length us, h, ⟨S, sE w, pD N us⟩, ?_⟩
  unfold HL.fnOf at x
  split at x
  · cases q : bd (HL.aH N.length us) h with
    | nx s' h' => rw [q] at x; exact fun ρ1 H1 n1 S1 _ => x ρ1 H1 n1 S1 trivial
    | rt v h' => rw [q] at x; exact fun ρ1 H1 n1 S1 w1 => x ρ1 H1 n1 S1 w1
    | bk => rw [q] at x; exact x.elim
    | ct => rw [q] at x; exact x.elim
    | ex => rw [q] at x; exact x.elim
    | er => rw [q] at x; exact x.elim
  · exact x.elim
section
variable {P : Program} {w : World} {K : PySem.W.Frag} {mg : Str → Option Value} {base : Heap} {γ : Str → Addr}
theorem aQ.qdef {x : Str} {st : Stmt} {N ps : List Str} {k p n : Nat} {bd : DS} (F : aQ K mg x st) (S : aD N ps (aq st)) (hp : ps.length = p) (hn : N.length = n)
    (hb : ∀ (kV doc pm : Value) (an : Option Addr) (cdv ct : Value) (us : List Value), us.length = ps.length → bindArgs (PySem.W.fnOf x x (cO st) (bC st) (aq st) .none kV doc pm an cdv ct) ⟨us, []⟩ = pure (ps.zip us))
    (hbody : ∀ (f : Addr) (cdv : Value) (A : Around) (outer : List Env) (s : Shared) (H : Hp) (E : XK), b6 k (A.deeper (envOfC x (aq st) s.heap.objs.size f cdv)) →
      sx γ (oh sA P w K mg base N x (aq st) f cdv A outer s H E).nox (bC st) bd) : kZ P w K mg base (k + 1) x ps (bF K γ p (HL.fnOf p n bd)) :=
  F.mk_def S hb (fun vs H Q E h => h.1.trans hp.symm) fun f cdv A outer s H vs Q E hr h => ⟨_, hbody f cdv A outer s H E hr, by
    obtain ⟨_, ρ, hh, us, S, wu, e, x⟩ := h
    rw [e]
    subst hn
    exact o9 S wu x⟩
end
end L2
namespace L2
open PySem PySem.Spec PyProof.Rows
open HL (W SO Sh Sg OR DE DT DA DS Fn)
section
variable {X : Cx} {K : PySem.W.Frag} {γ : Str → Addr}
theorem rF {c : Int → Int → Bool} {C : Int → Int → Prop} {f : Int → Int → Int} (hc : ∀ i j, c i j = true → C i j) : ph K γ (rI C fun i j => .int (f i j)) (HL.eP c f) := by
  intro ρ h H x y Q S wx wy q
  cases x with
  | int i =>
    cases y with
    | int j =>
      unfold HL.eP at q
      simp only at q
      split at q
      · rename_i z; exact ⟨i, j, rfl, rfl, hc i j z, q trivial⟩
      · exact q.elim
    | _ => exact q.elim
  | _ => cases y <;> exact q.elim
theorem rY {c : Int → Int → Bool} {f : Int → Int → Int} : f6 (HL.eP c f) := by
  intro x y h
  unfold HL.eP
  cases x <;> cases y <;> first | rfl | (simp only; split <;> rfl)
theorem xY {p : Int → Int → Bool} : ph K γ (AH fun i j => .bl (p i j)) (HL.gX p) := by
  intro ρ h H x y Q S wx wy q
  cases x with
  | int i =>
    cases y with
    | int j => exact ⟨i, j, rfl, rfl, q trivial⟩
    | _ => exact q.elim
  | _ => cases y <;> exact q.elim
theorem uH {p : Int → Int → Bool} : Bo (HL.gX p) := by
  intro x y h
  unfold HL.gX
  cases x <;> cases y <;> first | exact .inl rfl | exact .inr ⟨_, rfl⟩
theorem Bo.nw {f : HL.O2} (b : Bo f) : f6 f := fun x y h => by
  rcases b x y h with z | ⟨k, z⟩ <;> rw [z] <;> rfl
def AJ (K : PySem.W.Frag) : R2 := fun x y H Q => (AH (fun i j => .int (i + j)) x y H Q) ∨ (∃ i j, x = .str i ∧ y = .str j ∧ i.length + j.length ≤ sizeLine ∧ Q (.str (i ++ j)) H) ∨ DD x y H Q ∨ AI K x y H Q
theorem zQ : kY X (binaryOp .Add) (AJ X.K) := B7.or (uh.or (B6.or zP))
theorem BY : ph K γ (AJ K) HL.bu := by
  intro ρ h H x y Q S wx wy q
  cases x with
  | int i =>
    cases y with
    | int j => exact .inl ⟨i, j, rfl, rfl, q trivial⟩
    | _ => exact q.elim
  | str i =>
    cases y with
    | str j =>
      unfold HL.bu at q
      simp only at q
      split at q
      · rename_i z; exact .inr (.inl ⟨i, j, rfl, rfl, fM z, q trivial⟩)
      · exact q.elim
    | _ => exact q.elim
  | ref i =>
    cases y with
    | ref j =>
      unfold HL.bu at q
      simp only at q
      split at q
      · rename_i xs ys e1 e2
        split at q
        · rename_i z
          refine .inr (.inr (.inl ⟨ρ i, ρ j, xs.map (aF γ ρ), ys.map (aF γ ρ), rfl, rfl, S.ob i _ e1, S.ob j _ e2, by rw [List.length_map, List.length_map]; exact fM z, fun p hp => ?_⟩))
          rw [← List.map_append]
          refine q ?_ p hp
          intro y hy
          rcases List.mem_append.mp hy with z | z
          · exact S.wf i _ e1 y z
          · exact S.wf j _ e2 y z
        · exact q.elim
      · rename_i xs ys e1 e2
        split at q
        · rename_i z
          refine .inr (.inr (.inr ⟨ρ i, ρ j, xs.map (aF γ ρ), ys.map (aF γ ρ), rfl, rfl, S.ob i _ e1, S.ob j _ e2, ?_, by rw [List.length_map, List.length_map]; exact fM z.1, fun ey => ?_, fun ey p hp => ?_⟩))
          · intro e; exact z.2 (List.map_eq_nil_iff.mp e)
          · rw [if_pos (List.map_eq_nil_iff.mp ey)] at q
            exact q wx
          · rw [if_neg (fun e => ey (by rw [e]; rfl))] at q
            rw [← List.map_append]
            refine q ?_ p hp
            intro y hy
            rcases List.mem_append.mp hy with z | z
            · exact S.wf i _ e1 y z
            · exact S.wf j _ e2 y z
        · exact q.elim
      · exact q.elim
    | _ => exact q.elim
  | _ => cases y <;> exact q.elim
theorem Cf : f6 HL.bu := by
  intro x y h
  unfold HL.bu
  cases x <;> cases y <;> first | rfl | (simp only; repeat' (first | rfl | split))
def AE : R2 := fun x y H Q => rI yV (fun i j => .int (i * j)) x y H Q ∨ Dx x y H Q
theorem zN : kY X (binaryOp .Mult) AE := B3.or B0
theorem zU {i j : Int} (h : HL.fL i j = true) : yV i j := by
  unfold HL.fL at h
  rcases (Bool.or_eq_true _ _).mp h with z | z
  · have := of_decide_eq_true z
    exact .inl ⟨by omega, by omega⟩
  · have := of_decide_eq_true z
    exact .inr ⟨by omega, by omega⟩
theorem BU : ph K γ AE HL.cj := by
  intro ρ h H x y Q S wx wy q
  cases x with
  | int i =>
    cases y with
    | int j =>
      unfold HL.cj at q
      simp only at q
      split at q
      · rename_i z; exact .inl ⟨i, j, rfl, rfl, zU z, q trivial⟩
      · exact q.elim
    | _ => exact q.elim
  | ref i =>
    cases y with
    | int k =>
      unfold HL.cj at q
      simp only at q
      split at q
      · rename_i xs e
        split at q
        · rename_i z
          refine .inr ⟨ρ i, k, xs.map (aF γ ρ), rfl, rfl, S.ob i _ e, by omega, by omega, by rw [List.length_map]; exact fM z.2.2, fun p hp => ?_⟩
          have e2 : (List.replicate k.toNat (xs.map (aF γ ρ))).flatten = ((List.replicate k.toNat xs).flatten).map (aF γ ρ) := by rw [List.map_flatten, List.map_replicate]
          first
            | rw [e2]; exact q (fun y hy => by
                obtain ⟨l, hl, hy⟩ := List.mem_flatten.mp hy
                rw [(List.mem_replicate.mp hl).2] at hy
                exact S.wf i _ e y hy) p hp
            | skip
        · exact q.elim
      · exact q.elim
    | _ => exact q.elim
  | _ => cases y <;> exact q.elim
theorem Cc : f6 HL.cj := by
  intro x y h
  unfold HL.cj
  cases x <;> cases y <;> first | rfl | (simp only; repeat' (first | rfl | split))
theorem BW : ph K γ (fun x y H Q => y = .non ∧ Q (.bl (decide (x = .non))) H) HL.AR := by
  intro ρ h H x y Q S wx wy q
  unfold HL.AR at q
  cases y with
  | non => exact ⟨rfl, by have := q trivial; cases x <;> exact this⟩
  | _ => exact q.elim
theorem zL : ph K γ (fun x y H Q => y = .non ∧ Q (.bl (!decide (x = .non))) H) HL.gv := by
  intro ρ h H x y Q S wx wy q
  unfold HL.gv at q
  cases y with
  | non => exact ⟨rfl, by have := q trivial; cases x <;> exact this⟩
  | _ => exact q.elim
theorem A2 : Bo HL.AR := by
  intro x y h; unfold HL.AR; cases y <;> first | exact .inl rfl | exact .inr ⟨_, rfl⟩
theorem tQ : Bo HL.gv := by
  intro x y h; unfold HL.gv; cases y <;> first | exact .inl rfl | exact .inr ⟨_, rfl⟩
theorem sf (ρ : Nat → Addr) (x : W) (h : HL.kX x = true) : mQ (aF γ ρ x) = true := by cases x <;> first | rfl | cases h
theorem CG (ρ : Nat → Addr) (x y : W) (hx : HL.kX x = true) (hy : HL.kX y = true) : HL.Ft x y = Ah (aF γ ρ x) (aF γ ρ y) := by
  cases x <;> cases y <;> first | rfl | cases hx | cases hy
theorem uu (ρ : Nat → Addr) (x : W) (hx : HL.kX x = true) : ∀ xs : List W, xs.all HL.kX = true → HL.AV x xs = EH (aF γ ρ x) (xs.map (aF γ ρ)) ∧ (xs.map (aF γ ρ)).all mQ = true
  | [], _ => ⟨rfl, rfl⟩
  | y :: ys, h => by
    rw [List.all_cons, Bool.and_eq_true] at h
    obtain ⟨a, b⟩ := uu ρ x hx ys h.2
    unfold HL.AV EH at a ⊢
    rw [List.map_cons, List.any_cons, List.any_cons, a, CG (γ := γ) ρ y x h.1 hx, List.all_cons, sf ρ y h.1, b]
    exact ⟨rfl, rfl⟩
theorem DX : ph K γ (EF K false) HL.zS := by
  intro ρ h H x y Q S wx wy q
  unfold HL.zS at q
  split at q
  · rename_i xs e
    split at q
    · rename_i z
      obtain ⟨i, rfl, sq, w⟩ := nq S e
      obtain ⟨z1, z2⟩ := (Bool.and_eq_true _ _).mp z
      obtain ⟨a, b⟩ := uu (γ := γ) ρ x z1 xs z2
      exact ⟨ρ i, _, rfl, sq, sf ρ x z1, b, by have := q trivial; rw [a] at this; exact this⟩
    · exact q.elim
  · exact q.elim
theorem xX : ph K γ (EF K true) HL.jP := by
  intro ρ h H x y Q S wx wy q
  unfold HL.jP at q
  split at q
  · rename_i xs e
    split at q
    · rename_i z
      obtain ⟨i, rfl, sq, w⟩ := nq S e
      obtain ⟨z1, z2⟩ := (Bool.and_eq_true _ _).mp z
      obtain ⟨a, b⟩ := uu (γ := γ) ρ x z1 xs z2
      exact ⟨ρ i, _, rfl, sq, sf ρ x z1, b, by have := q trivial; rw [a] at this; exact this⟩
    · exact q.elim
  · exact q.elim
theorem Eh : Bo HL.zS := by
  intro x y h; unfold HL.zS; split
  · split
    · exact .inr ⟨_, rfl⟩
    · exact .inl rfl
  · exact .inl rfl
theorem tP : Bo HL.jP := by
  intro x y h; unfold HL.jP; split
  · split
    · exact .inr ⟨_, rfl⟩
    · exact .inl rfl
  · exact .inl rfl
theorem DW : ph K γ (FQ K) HL.gW := by
  intro ρ h H x y Q S wx wy q
  unfold HL.gW at q
  split at q
  · rename_i xs i e
    split at q
    · rename_i v ev
      obtain ⟨p, rfl, sq, w⟩ := nq S e
      unfold HL.qb at ev
      cases e2 : HL.wQ xs.length i with
      | none => rw [e2] at ev; cases ev
      | some j =>
        rw [e2] at ev
        have ev' : xs[j]? = some v := ev
        have at_ : CQ (xs.map (aF γ ρ)) i = some (aF γ ρ v) := by
          unfold CQ
          rw [List.length_map, ← D6, e2]
          show (xs.map (aF γ ρ))[j]? = _
          rw [List.getElem?_map, ev']; rfl
        have qq := q (Bc w ev')
        rcases sq with sq | sq
        · exact .inl ⟨_, _, i, _, rfl, rfl, sq, at_, qq⟩
        · exact .inr (.inl ⟨_, _, i, _, rfl, rfl, sq, at_, qq⟩)
    · exact q.elim
  · exact q.elim
theorem D3 : f6 HL.gW := by
  intro x y h; unfold HL.gW; split
  · split <;> rfl
  · rfl
theorem Bd : FW K γ (rU fun i => .int (-i)) HL.dP := by
  intro ρ h H x Q S wx q
  cases x with
  | int i => exact ⟨i, rfl, q trivial⟩
  | _ => exact q.elim
theorem Cb (x : W) (h : Sh) : kW (HL.dP x h) = true := by cases x <;> rfl
theorem CL : A9 K γ (fun xs H Q => ∃ x n, xs = [x] ∧ Es K x H n ∧ Q (.int n) H) HL.gi := by
  intro ρ h H xs Q S w q
  unfold HL.gi at q
  split at q
  · rename_i y
    split at q
    · rename_i z; exact ⟨_, _, rfl, ⟨fM z, rfl⟩, q trivial⟩
    · exact q.elim
  · rename_i x ne
    split at q
    · rename_i ys e
      obtain ⟨p, rfl, sq, w⟩ := nq S e
      have qq := q trivial
      refine ⟨_, ys.length, rfl, ?_, qq⟩
      rcases sq with sq | sq
      · exact .inl ⟨_, sq, by rw [List.length_map]⟩
      · exact .inr ⟨_, sq, by rw [List.length_map]⟩
    · exact q.elim
  · exact q.elim
theorem Cd (x : List W) (h : Sh) : kW (HL.gi x h) = true := by
  unfold HL.gi; split
  · split <;> rfl
  · split <;> rfl
  · rfl
theorem Ak : A9 K γ AF HL.mS := by
  intro ρ h H xs Q S w q
  unfold HL.mS at q
  split at q
  · exact q trivial
  · exact q.elim
theorem zT (x : List W) (h : Sh) : kW (HL.mS x h) = true := by unfold HL.mS; split <;> rfl
theorem Al : A9 K γ (fun xs H Q => ∃ p ys, xs = [.ref p] ∧ (ka K H p ys ∨ lq K H p ys) ∧ ∀ l, H l = none → Q (.ref l) (upd H l (.lst ys))) HL.lP := by
  intro ρ h H xs Q S w q
  unfold HL.lP at q
  split at q
  · split at q
    · rename_i ys e
      obtain ⟨p, rfl, sq, w⟩ := nq S e
      exact ⟨_, _, rfl, sq, q w⟩
    · exact q.elim
  · exact q.elim
theorem yb (x : List W) (h : Sh) : kW (HL.lP x h) = true := by
  unfold HL.lP; split
  · split <;> rfl
  · rfl
theorem yG : A9 K γ (fun xs H Q => ∃ p ys, xs = [.ref p] ∧ ((ka K H p ys ∧ ∀ l, H l = none → Q (.ref l) (upd H l (.tup ys))) ∨ (lq K H p ys ∧ Q (.ref p) H))) HL.gD := by
  intro ρ h H xs Q S w q
  unfold HL.gD at q
  split at q
  · rename_i x
    split at q
    · rename_i ys e
      obtain ⟨p, rfl, sq, w⟩ := mC S e
      exact ⟨_, _, rfl, .inl ⟨sq, q w⟩⟩
    · split at q
      · rename_i ys e
        obtain ⟨p, rfl, sq, _⟩ := mw S e
        exact ⟨_, _, rfl, .inr ⟨sq, q (w _ (List.mem_singleton.mpr rfl))⟩⟩
      · exact q.elim
  · exact q.elim
theorem wd (x : List W) (h : Sh) : kW (HL.gD x h) = true := by
  unfold HL.gD; split
  · split
    · rfl
    · split <;> rfl
  · rfl
end
end L2
namespace L2
open PySem PySem.Spec PyProof.Rows
open HL (W SO Sh Sg OR DE DT DA DS Fn)
def vw : V → PyData → Prop
  | .non, d => d = .none
  | .bl b, d => d = .bool b
  | .int i, d => d = .int i
  | .str x, d => d = .str x
  | _, _ => False
def oo (K : PySem.W.Frag) (H : Hp) : Nat → V → PyData → Prop
  | 0, x, d => vw x d
  | n + 1, x, d => vw x d ∨ ∃ a xs ds, x = .ref a ∧ Paired (oo K H n) xs ds ∧ (ka K H a xs ∧ d = .list ds ∨ lq K H a xs ∧ d = .tuple ds)
section
variable {X : Cx} {pins : List (Addr × Obj)} {σ : St} {H : Hp} {s : Shared}
theorem pE {x : V} {v : Value} {d : PyData} (h : vw x d) (r : bJ x v) : ∃ as, Reads s.heap v d as := by
  cases x with
  | non => cases h; cases r; exact ⟨_, .none⟩
  | bl b => cases h; cases r; exact ⟨_, .bool b⟩
  | int i => cases h; obtain ⟨t, rfl⟩ := r; exact ⟨_, .int i t⟩
  | str y => cases h; obtain ⟨t, rfl⟩ := r; exact ⟨_, .str y t⟩
  | _ => cases h
theorem mY {f : V → PyData → Prop} (hf : ∀ x v d, f x d → bJ x v → ∃ as, Reads s.heap v d as) : ∀ {xs : List V} {us : List Value} {ds : List PyData}, aM xs us → Paired f xs ds → ∃ as, ReadsAll s.heap us ds as
  | _, _, _, .nil, .nil => ⟨_, .nil⟩
  | _, _, _, .cons r rs, .cons p ps => by
    obtain ⟨as, h1⟩ := hf _ _ _ p r
    obtain ⟨bs, h2⟩ := mY hf rs ps
    exact ⟨_, .cons h1 h2⟩
theorem nV (I : aB X pins σ H s) : ∀ (n : Nat) (x : V) (v : Value) (d : PyData), oo X.K H n x d → bJ x v → ∃ as, Reads s.heap v d as
  | 0, x, v, d, h, r => pE h r
  | n + 1, x, v, d, h, r => by
    rcases h with h | ⟨a, xs, ds, rfl, p, ⟨sq, rfl⟩ | ⟨sq, rfl⟩⟩
    · exact pE h r
    · cases r
      obtain ⟨its, rv, pl, _⟩ := I.list sq
      obtain ⟨o, m, ho, hc, _, hs⟩ := pl
      obtain ⟨as, ra⟩ := mY (nV I n) rv p
      exact ⟨_, .list ho hc hs ra⟩
    · cases r
      obtain ⟨its, rv, pl, _⟩ := I.tuple sq
      obtain ⟨o, ho, hc, m, hs⟩ := pl
      obtain ⟨as, ra⟩ := mY (nV I n) rv p
      exact ⟨_, .tuple ho hc hs ra⟩
def zr (K : PySem.W.Frag) (neg : Bool) : R2 := fun x y H Q => (zl x y = true ∧ Q (.bl (if neg then !decide (x = y) else decide (x = y))) H) ∨
  ∃ da db, oo K H 8 x da ∧ oo K H 8 y db ∧ SeqAt.shaped da = true ∧ SeqAt.shaped db = true ∧ Q (.bl (if neg then !PyData.eqv da db else PyData.eqv da db)) H
theorem xZ (hu : X.A.units + 64 < cLine) : kY X (compareOp .Eq) (zr X.K false) := by
  intro pins s σ H x y v u Q I rx ry h
  rcases h with ⟨sc, q⟩ | ⟨da, db, h1, h2, s1, s2, q⟩
  · exact D0 pins s σ H x y v u Q I rx ry ⟨sc, q⟩
  · obtain ⟨as, r1⟩ := nV I 8 x v da h1 rx
    obtain ⟨bs, r2⟩ := nV I 8 y u db h2 ry
    exact PyProof.Rows.eq_dataH r1 r2 s1 s2 hu ⟨.bl _, H, I, rfl, q⟩
theorem B2 (hu : X.A.units + 64 < cLine) : kY X (compareOp .NotEq) (zr X.K true) := by
  intro pins s σ H x y v u Q I rx ry h
  rcases h with ⟨sc, q⟩ | ⟨da, db, h1, h2, s1, s2, q⟩
  · exact DZ pins s σ H x y v u Q I rx ry ⟨sc, q⟩
  · obtain ⟨as, r1⟩ := nV I 8 x v da h1 rx
    obtain ⟨bs, r2⟩ := nV I 8 y u db h2 ry
    exact PyProof.Rows.ne_dataH r1 r2 s1 s2 hu ⟨.bl _, H, I, rfl, q⟩
end
mutual
def cN : HL.D → PyData
  | .non => .none
  | .bl b => .bool b
  | .int i => .int i
  | .str s => .str s
  | .lst xs => .list (toPys xs)
  | .tup xs => .tuple (toPys xs)
def toPys : List HL.D → List PyData
  | [] => []
  | x :: xs => cN x :: toPys xs
end
mutual
theorem uV : ∀ a b : HL.D, PyData.eqv (cN a) (cN b) = HL.D.eq a b
  | .non, b => by cases b <;> simp only [cN, PyData.eqv, HL.D.eq]
  | .bl _, b => by cases b <;> simp only [cN, PyData.eqv, HL.D.eq]
  | .int _, b => by cases b <;> simp only [cN, PyData.eqv, HL.D.eq]
  | .str _, b => by cases b <;> simp only [cN, PyData.eqv, HL.D.eq]
  | .lst xs, b => by
    cases b with
    | lst ys => simp only [cN, PyData.eqv, HL.D.eq]; exact toPys_eq xs ys
    | _ => simp only [cN, PyData.eqv, HL.D.eq]
  | .tup xs, b => by
    cases b with
    | tup ys => simp only [cN, PyData.eqv, HL.D.eq]; exact toPys_eq xs ys
    | _ => simp only [cN, PyData.eqv, HL.D.eq]
theorem toPys_eq : ∀ xs ys : List HL.D, PyData.eqvAll (toPys xs) (toPys ys) = HL.D.eqs xs ys
  | [], ys => by cases ys <;> simp only [toPys, PyData.eqvAll, HL.D.eqs] <;> rfl
  | x :: xs, ys => by
    cases ys with
    | nil => simp only [toPys, PyData.eqvAll, HL.D.eqs]
    | cons y ys => simp only [toPys, PyData.eqvAll, HL.D.eqs]; rw [uV x y, toPys_eq xs ys]
end
section
variable {K : PySem.W.Frag} {γ : Str → Addr} {ρ : Nat → Addr} {h : Sh} {H : Hp}
theorem vB {n : Nat} {f : W → Option HL.D} (hf : ∀ x d, f x = some d → oo K H n (aF γ ρ x) (cN d) ∧ (cN d).canLay0 = true ∧ (cN d).depth ≤ n) :
    ∀ (xs : List W) (ds : List HL.D), HL.du f xs = some ds → Paired (oo K H n) (xs.map (aF γ ρ)) (toPys ds) ∧ PyData.canLayAll0 (toPys ds) = true ∧ PyData.depthAll (toPys ds) ≤ n
  | [], ds, e => by
    cases e
    exact ⟨.nil, by simp [toPys, PyData.canLayAll0], by simp [toPys, PyData.depthAll]⟩
  | x :: xs, ds, e => by
    unfold HL.du at e
    cases q : f x with
    | none => rw [q] at e; cases e
    | some d =>
      rw [q] at e
      cases q2 : HL.du f xs with
      | none => rw [q2] at e; cases e
      | some ds' =>
        rw [q2] at e
        cases e
        obtain ⟨a, b, c⟩ := hf x d q
        obtain ⟨a', b', c'⟩ := vB hf xs ds' q2
        refine ⟨?_, ?_, ?_⟩
        · simp only [toPys, List.map_cons]; exact .cons a a'
        · simp only [toPys, PyData.canLayAll0, b, b']; rfl
        · simp only [toPys, PyData.depthAll]; omega
theorem xq {x : Str} (e : HL.Fe x = true) : PyData.strOk x = true := by
  unfold HL.Fe at e
  unfold PyData.strOk
  obtain ⟨_, e⟩ := (Bool.and_eq_true _ _).mp e
  rw [← Array.all_toList]
  exact e
theorem yE (S : cM K γ ρ h H) : ∀ (n : Nat) (x : W) (d : HL.D), HL.dat n h x = some d → oo K H n (aF γ ρ x) (cN d) ∧ (cN d).canLay0 = true ∧ (cN d).depth ≤ n := by
  have fl : ∀ (n : Nat) (x : V) (d : PyData), vw x d → oo K H n x d := fun n x d f => by cases n <;> first | exact f | exact .inl f
  intro n
  induction n with
  | zero =>
    intro x d e
    cases x with
    | non => cases e; exact ⟨rfl, by simp [cN, PyData.canLay0], by simp [cN, PyData.depth]⟩
    | bl b => cases e; exact ⟨rfl, by simp [cN, PyData.canLay0], by simp [cN, PyData.depth]⟩
    | int i => cases e; exact ⟨rfl, by simp [cN, PyData.canLay0], by simp [cN, PyData.depth]⟩
    | str y =>
      unfold HL.dat at e
      split at e
      · rename_i ok; cases e; exact ⟨rfl, by simp [cN, PyData.canLay0, xq ok], by simp [cN, PyData.depth]⟩
      · cases e
    | _ => cases e
  | succ n ih =>
    intro x d e
    cases x with
    | non => cases e; exact ⟨.inl rfl, by simp [cN, PyData.canLay0], by simp [cN, PyData.depth]⟩
    | bl b => cases e; exact ⟨.inl rfl, by simp [cN, PyData.canLay0], by simp [cN, PyData.depth]⟩
    | int i => cases e; exact ⟨.inl rfl, by simp [cN, PyData.canLay0], by simp [cN, PyData.depth]⟩
    | str y =>
      unfold HL.dat at e
      split at e
      · rename_i ok; cases e; exact ⟨.inl rfl, by simp [cN, PyData.canLay0, xq ok], by simp [cN, PyData.depth]⟩
      · cases e
    | ref i =>
      unfold HL.dat at e
      cases q : h[i]? with
      | none => rw [q] at e; cases e
      | some o =>
        rw [q] at e
        have ob := S.ob i o q
        have go : ∀ xs ds, HL.du (HL.dat n h) xs = some ds → (ka K H (ρ i) (xs.map (aF γ ρ)) ∧ d = .lst ds ∨ lq K H (ρ i) (xs.map (aF γ ρ)) ∧ d = .tup ds) → oo K H (n + 1) (.ref (ρ i)) (cN d) ∧ (cN d).canLay0 = true ∧ (cN d).depth ≤ n + 1 := fun xs ds e2 sq => by
          obtain ⟨a, b, c⟩ := vB ih xs ds e2
          rcases sq with ⟨sq, rfl⟩ | ⟨sq, rfl⟩
          · exact ⟨.inr ⟨_, _, _, rfl, a, .inl ⟨sq, by simp only [cN]⟩⟩, by simp only [cN, PyData.canLay0, b], by simp only [cN, PyData.depth]; omega⟩
          · exact ⟨.inr ⟨_, _, _, rfl, a, .inr ⟨sq, by simp only [cN]⟩⟩, by simp only [cN, PyData.canLay0, b], by simp only [cN, PyData.depth]; omega⟩
        cases o with
        | lst xs =>
          simp only at e
          cases q2 : HL.du (HL.dat n h) xs with
          | none => rw [q2] at e; cases e
          | some ds => rw [q2] at e; cases e; exact go xs ds q2 (.inl ⟨ka.of ob, rfl⟩)
        | rol xs =>
          simp only at e
          cases q2 : HL.du (HL.dat n h) xs with
          | none => rw [q2] at e; cases e
          | some ds => rw [q2] at e; cases e; exact go xs ds q2 (.inl ⟨(show uK _ _ _ _ from ob).sq, rfl⟩)
        | tup xs =>
          simp only at e
          cases q2 : HL.du (HL.dat n h) xs with
          | none => rw [q2] at e; cases e
          | some ds => rw [q2] at e; cases e; exact go xs ds q2 (.inr ⟨ob, rfl⟩)
        | _ => cases e
    | _ => cases e
theorem yB {x y : W} {b : Bool} (S : cM K γ ρ h H) (e : HL.nJ x y h = some b) : (zl (aF γ ρ x) (aF γ ρ y) = true ∧ b = decide (aF γ ρ x = aF γ ρ y)) ∨
    ∃ da db, oo K H 8 (aF γ ρ x) da ∧ oo K H 8 (aF γ ρ y) db ∧ SeqAt.shaped da = true ∧ SeqAt.shaped db = true ∧ b = PyData.eqv da db := by
  have deep : (match HL.dat HL.o5 h x, HL.dat HL.o5 h y with | some a, some b => some (HL.D.eq a b) | _, _ => none) = some b → ∃ da db, oo K H 8 (aF γ ρ x) da ∧ oo K H 8 (aF γ ρ y) db ∧ SeqAt.shaped da = true ∧ SeqAt.shaped db = true ∧ b = PyData.eqv da db := fun e => by
    split at e
    · rename_i a c e1 e2
      cases e
      obtain ⟨d1, l1, p1⟩ := yE S 8 x a e1
      obtain ⟨d2, l2, p2⟩ := yE S 8 y c e2
      refine ⟨_, _, d1, d2, ?_, ?_, (uV a c).symm⟩
      · unfold SeqAt.shaped; rw [l1, Bool.true_and]; exact decide_eq_true (by omega)
      · unfold SeqAt.shaped; rw [l2, Bool.true_and]; exact decide_eq_true (by omega)
    · cases e
  unfold HL.nJ at e
  split at e
  · cases e; exact .inl ⟨rfl, by simp [aF]⟩
  · cases e; exact .inl ⟨rfl, by simp [aF]⟩
  · exact .inr (deep e)
theorem AN : ph K γ (zr K false) HL.jf := by
  intro ρ h H x y Q S wx wy q
  unfold HL.jf at q
  split at q
  · rename_i b e
    rcases yB S e with ⟨sc, e2⟩ | ⟨da, db, h1, h2, s1, s2, e2⟩
    · exact .inl ⟨sc, by have := q trivial; rw [e2] at this; exact this⟩
    · exact .inr ⟨da, db, h1, h2, s1, s2, by have := q trivial; rw [e2] at this; exact this⟩
  · exact q.elim
theorem DV : ph K γ (zr K true) HL.td := by
  intro ρ h H x y Q S wx wy q
  unfold HL.td at q
  split at q
  · rename_i b e
    rcases yB S e with ⟨sc, e2⟩ | ⟨da, db, h1, h2, s1, s2, e2⟩
    · exact .inl ⟨sc, by have := q trivial; rw [e2] at this; exact this⟩
    · exact .inr ⟨da, db, h1, h2, s1, s2, by have := q trivial; rw [e2] at this; exact this⟩
  · exact q.elim
theorem yM : Bo HL.jf := by
  intro x y h; unfold HL.jf; split
  · exact .inr ⟨_, rfl⟩
  · exact .inl rfl
theorem A1 : Bo HL.td := by
  intro x y h; unfold HL.td; split
  · exact .inr ⟨_, rfl⟩
  · exact .inl rfl
end
end L2
namespace L2
open PySem PySem.Spec PyProof.Rows
section
variable {X : Cx} {scope : Scope} {cs : List Str} {pins : List (Addr × Obj)} {σ : St} {H : Hp} {s : Shared} {fp : List Addr}
def uF (n : Nat) (js : List Nat) (σ : St) : St := List.replicate n none ++ js.map fun j => (σ[j]?).getD none
theorem tN {ts : List Str} {js : List Nat} {h₁ : Heap} {tk : Nat} {ob : Obj} (c : Az X scope cs) (I : aB X pins σ H s) (hf : ∀ b ∈ fp, mJ X pins H b) (ho : ∀ b ∈ fp, ∃ o, s.heap.get? b = some o) (hj : js.map (fun j => X.N[j]?) = cs.map some)
    (hns : h₁.Ns s.heap.objs.size fun _ => none) (hsb : Heap.SameBut s.heap.objs.size (s.heap.push ob) h₁) : aB (b8 X scope cs (ts ++ cs) s H fp) [] (uF ts.length js σ) H { s with heap := h₁, toks := tk } := by
  have k : ∀ b o, s.heap.get? b = some o → h₁.get? b = some o := fun b o e => (hsb.2 b (Nat.ne_of_lt (Heap.lt_size e))).trans (Heap.get?_push_of_some _ e)
  refine ⟨vG c I hf ho _, rfl, I.bare, Un.kept k, ⟨_, hns, fun i y v e1 e2 vis => ?_⟩, fun y a h => ?_, I.hok.fresh (Nat.le_refl _), fun y a h => I.freeC y a (c.sub h).1, (fun p hp => by cases hp), I.hok.kept k, ?_⟩
  · by_cases hit : i < ts.length
    · have e2' : (List.replicate ts.length (none : Option V) ++ js.map fun j => (σ[j]?).getD none)[i]? = some (some v) := e2
      rw [List.getElem?_append_left (by rw [List.length_replicate]; exact hit), List.getElem?_replicate, if_pos hit] at e2'
      cases e2'
    · have e1' : (ts ++ cs)[i]? = some y := e1
      have e2' : (List.replicate ts.length (none : Option V) ++ js.map fun j => (σ[j]?).getD none)[i]? = some (some v) := e2
      rw [List.getElem?_append_right (by omega)] at e1'
      rw [List.getElem?_append_right (by rw [List.length_replicate]; omega), List.length_replicate] at e2'
      generalize i - ts.length = i at e1' e2'
      rw [List.getElem?_map] at e2'
      have hji := congrArg (fun l => l[i]?) hj
      simp only [List.getElem?_map] at hji
      rw [e1'] at hji
      cases q : js[i]? with
      | none => rw [q] at e2'; cases e2'
      | some j =>
        rw [q] at e2' hji
        have hN : X.N[j]? = some y := Option.some.inj hji
        have hv : (σ[j]?).getD none = some v := Option.some.inj e2'
        have hσ : σ[j]? = some (some v) := by
          cases q2 : σ[j]? with
          | none => rw [q2] at hv; cases hv
          | some z => rw [q2] at hv; rw [← hv]; rfl
        have hm : y ∈ cs := List.mem_of_getElem? e1'
        obtain ⟨m, hn, hl⟩ := I.loc
        obtain ⟨u, r, l⟩ := hl j y v hN hσ (.inr (.inl (c.kc y hm).1))
        refine ⟨u, r, .inr ⟨.inl (c.kc y hm).2, ?_⟩⟩
        rcases l with ⟨lk, _⟩ | ⟨_, a, ha, o, ho', hd⟩
        · have := (c.kc y hm).1
          have lk' : X.env.scope.names.lookup y = some .local := lk
          rw [this] at lk'
          cases lk'
        · refine ⟨a, ?_, o, k _ _ ho', hd⟩
          show (tO X cs).lookup y = some a
          rw [p8 hm, ha]
          rfl
  · obtain ⟨v, o, ho', hd⟩ := I.cell y a (c.sub h).1
    exact ⟨v, o, k _ _ ho', hd⟩
  · have := congrArg List.length hj
    rw [List.length_map, List.length_map] at this
    show (uF ts.length js σ).length = (ts ++ cs).length
    unfold uF
    rw [List.length_append, List.length_append, List.length_replicate, List.length_map, this]
def Aq (J : It) (g : TG) (tc : TT) (te : TE) (acc : Addr) (σ : St) (H : Hp) (Q : VK) : Prop := ∃ W : Nat → Nat → St → Hp → Prop, (∃ m, W 0 m σ (upd H acc (.lst []))) ∧ ∀ i m σ H, W i m σ H →
  (J.stop i H ∧ Q (.ref acc) H) ∨ (J.go i H ∧ ∃ Nx : St → Hp → Prop, (∀ σ' H', Nx σ' H' → ∃ m', m' < m ∧ W (i + 1) m' σ' H') ∧ ∀ x H', J.yld i H x H' → g x σ H' fun σ2 H2 => tc σ2 H2 fun k H3 => if k = true then te σ2 H3 fun v H4 => ∃ ys, H4 acc = some (.lst ys) ∧ ys.length < sizeLine ∧ Nx σ2 (upd H4 acc (.lst (ys ++ [v]))) else Nx σ2 H3)
def ua (wi : TI) (n : Nat) (js : List Nat) (g : TG) (tc : TT) (te : TE) : TE := fun σ H Q => wi σ H fun J H1 => ∀ acc, H1 acc = none → Aq J g tc te acc (uF n js σ) H1 Q
def Ej (X : Cx) (ifs : List Expr) (tc : TT) : Prop := ∀ (pins : List (Addr × Obj)) (s : Shared) (σ : St) (H : Hp) (Q : Bool → Hp → Prop), aB X pins σ H s → tc σ H Q →
  wpAny (model X.prog X.w) X.A (forIn ifs true fun c r => if r = true then do let ok ← isTrue c X.env (eval c X.env); pure (ForInStep.yield ok) else pure (ForInStep.yield r)) (TP X pins σ Q) X.xe s
theorem zA : Ej X [] (fun _ H Q => Q true H) := fun pins s σ H Q I h => wpAny_tests_nil ⟨H, I, h⟩
theorem wJ {elt iter tg : Expr} {ifs : List Expr} {ts : List Str} {pos : Pos} {wi : TI} {js : List Nat} {g : TG} {tc : TT} {te : TE} (c : Az X scope cs) (hc : X.calm = true) (hj : js.map (fun j => X.N[j]?) = cs.map some) (hi : PI X tg iter wi)
    (hg : ∀ s₀ H₀ ex, PG (b8 X scope cs (ts ++ cs) s₀ H₀ ex) tg g) (he : ∀ s₀ H₀ ex, PE (b8 X scope cs (ts ++ cs) s₀ H₀ ex) elt te)
    (ht : ∀ s₀ H₀ ex, Ej (b8 X scope cs (ts ++ cs) s₀ H₀ ex) ifs tc)
    (hs : ∀ x, foldedSetIterable iter X.env x = pure x := by intro _; rfl) {use : Option (Value → Sem Unit)} {Qf : Value → Shared → Prop} {pos' : Pos} {Q : VK} (I : aB X pins σ H s)
    (fin : ∀ (fp' : List Addr) (s3 : Shared) (H3 : Hp) (acc : Addr) (σ' : St) (H' : Hp) (s4 : Shared), aB X pins σ H3 s3 → (∀ b ∈ fp', mJ X pins H3 b) → aB (b8 X scope cs (ts ++ cs) s3 H3 fp') [] σ' H' s4 → Q (.ref acc) H' →
      compPost (model X.prog X.w) X.A X.xe use Qf (.ref acc) s3.heap.objs.size (.ok .next) s4) (h : ua wi ts.length js g tc te σ H Q) :
    wpAny (model X.prog X.w) X.A (comprehension (.ListComp elt [⟨tg, iter, ifs, 0⟩] scope pos) scope X.env pos' (newList []) false (eval iter X.env) use) Qf X.xe s := by
  refine wpAny_comprehension_free (use := use) rfl hs c.clos c.kind c.names (ez (hi pins s σ H _ I h) fun xv s1 h1 => ez h1 fun itv s2 h2 => ?_)
  obtain ⟨it, fp, tn, J, H2, e, I2, T, st2, f2, q⟩ := h2
  subst e
  have hn2 : H2 s2.heap.objs.size = none := I2.hok.fresh (Nat.le_refl _)
  obtain ⟨W, ⟨m0, w0⟩, turn⟩ := q _ hn2
  refine wpAny_newObj_type ?_ (by show 0 ≤ sizeLine; exact Nat.zero_le _)
  have I3 : aB X pins σ (upd H2 s2.heap.objs.size (.lst [])) { s2 with heap := s2.heap.push { cls := .type "list", data := .seq ([] : List Value).toArray } } := aB.lnew (t' := s2.toks) I2 .nil (Nat.zero_le _)
  have f3 : ∀ b ∈ fp, mJ X pins (upd H2 s2.heap.objs.size (.lst [])) b := fun b hb => by
    obtain ⟨o, ho, _⟩ := T.obj _ _ st2 b hb
    exact ⟨by rw [aV (Nat.ne_of_lt (Heap.lt_size ho))]; exact (f2 b hb).1, (f2 b hb).2⟩
  have o3 : ∀ b ∈ fp, ∃ o, (s2.heap.push { cls := .type "list", data := .seq ([] : List Value).toArray }).get? b = some o := fun b hb => by
    obtain ⟨o, ho, _⟩ := T.obj _ _ st2 b hb
    exact ⟨o, Heap.get?_push_of_some _ ho⟩
  have st3 : tn 0 (s2.heap.push { cls := .type "list", data := .seq ([] : List Value).toArray }) := T.keep _ _ _ st2 fun b _ o ho => Heap.get?_push_of_some _ ho
  generalize hs3 : ({ s2 with heap := s2.heap.push { cls := .type "list", data := .seq ([] : List Value).toArray } } : Shared) = s3 at I3
  have hs3h : s3.heap = s2.heap.push { cls := .type "list", data := .seq ([] : List Value).toArray } := by rw [← hs3]
  rw [← hs3h] at o3 st3
  show wpAny _ _ (newFunctionEnv scope X.env.globals (tO X cs) [] X.env.qual none .none (some X.env)) _ _ _
  refine wpAny_newFunctionEnv c.nocell (by intro y hy; cases hy) (fun h₁ hns hsb => ?_) c.kind
  have hns' : h₁.Ns s3.heap.objs.size fun _ => none := hns
  have ok := vG c I3 f3 o3 (ts ++ cs)
  have I4 := tN (ts := ts) (tk := s3.toks) c I3 f3 o3 hj hns' hsb
  have st4 : tn 0 h₁ := T.keep _ _ _ st3 fun b hb o ho => (hsb.2 b (Nat.ne_of_lt (Heap.lt_size ho))).trans (Heap.get?_push_of_some _ ho)
  have stat : ∀ {H' : Hp}, (∀ b ∈ fp, H' b = none) → ∀ b ∈ fp, mJ (b8 X scope cs (ts ++ cs) s3 (upd H2 s2.heap.objs.size (.lst [])) fp) [] H' b := fun hn b hb => ⟨hn b hb, (ok.exf b hb).1, ok.exfs b hb, .inl hb, (ok.exf b hb).2, fun p hp => by cases hp⟩
  show codeAny _ _ (.compStart (.ListComp elt [⟨tg, iter, ifs, 0⟩] scope pos) 0 (.ref it) (.ref s2.heap.objs.size) (b8 X scope cs (ts ++ cs) s3 (upd H2 s2.heap.objs.size (.lst [])) fp).env) (compPost (model X.prog X.w) X.A X.xe use Qf (.ref s2.heap.objs.size) s3.heap.objs.size) { s3 with heap := h₁, toks := s3.toks }
  have loop : codeAny (model X.prog X.w) X.A (.compLoop (.ListComp elt [⟨tg, iter, ifs, 0⟩] scope pos) 0 (.ref it) (.ref s2.heap.objs.size) (b8 X scope cs (ts ++ cs) s3 (upd H2 s2.heap.objs.size (.lst [])) fp).env) (compPost (model X.prog X.w) X.A X.xe use Qf (.ref s2.heap.objs.size) s3.heap.objs.size) { s3 with heap := h₁, toks := s3.toks } := by
    refine codeAny_loop rfl (fun n s' => ∃ i σ' H', aB (b8 X scope cs (ts ++ cs) s3 (upd H2 s2.heap.objs.size (.lst [])) fp) [] σ' H' s' ∧ tn i s'.heap ∧ (∀ b ∈ fp, H' b = none) ∧ W i n σ' H') (fun n s' hI => ?_) m0 ⟨0, _, _, I4, st4, fun b hb => (f3 b hb).1, w0⟩
    obtain ⟨i, σ', H', J', st', fr', w'⟩ := hI
    show wpAny _ _ ((compTurn (.ListComp elt [⟨tg, iter, ifs, 0⟩] scope pos) 0 (.ref it) (.ref s2.heap.objs.size) (b8 X scope cs (ts ++ cs) s3 (upd H2 s2.heap.objs.size (.lst [])) fp).env).onRaise (fun xx => do noteFrame xx (b8 X scope cs (ts ++ cs) s3 (upd H2 s2.heap.objs.size (.lst [])) fp).env; theTreesLotGoes xx)) _ _ s'
    refine wpAny_noted ?_
    rw [compTurn_list]
    refine wpAny_bind (wpAny_standAt (wpAny_bind ?_))
    rcases turn i n σ' H' w' with ⟨stop, qn⟩ | ⟨go, Nx, hN, step⟩
    · refine ez (T.done (b8 X scope cs (ts ++ cs) s3 (upd H2 s2.heap.objs.size (.lst [])) fp) rfl rfl rfl hc i [] s' σ' H' _ J' (stat fr') st' stop) fun r s4 ⟨hr, J4⟩ => ?_
      subst hr
      exact wpAny_pure (fin _ _ _ _ _ _ _ I3 f3 J4 qn)
    · refine ez (T.item (b8 X scope cs (ts ++ cs) s3 (upd H2 s2.heap.objs.size (.lst [])) fp) rfl rfl rfl hc i [] s' σ' H' _ J' (stat fr') st' go) fun r s4 ⟨u, hr, h4⟩ => ?_
      subst hr
      refine wpAny_bind (ez h4 fun _ s5 ⟨xv, H5, J5, r5, y5, st5, fr5⟩ => ?_)
      have J5' := J5.pinned (stat fr5) (T.obj _ _ st5)
      refine wpAny_bind (wpAny_mono (hg _ _ _ _ s5 σ' H5 xv u _ J5' r5 (step xv H5 y5)) (fun _ s6 ⟨σ6, H6, J6, q6⟩ => ?_) fun _ _ z => z.elim)
      have fin2 : ∀ {σ8 : St} {H8 : Hp} {s8 : Shared}, aB (b8 X scope cs (ts ++ cs) s3 (upd H2 s2.heap.objs.size (.lst [])) fp) ([] ++ pN fp s5.heap) σ8 H8 s8 → Nx σ8 H8 → ∃ m', m' < n ∧ ∃ i σ' H', aB (b8 X scope cs (ts ++ cs) s3 (upd H2 s2.heap.objs.size (.lst [])) fp) [] σ' H' s8 ∧ tn i s8.heap ∧ (∀ b ∈ fp, H' b = none) ∧ W i m' σ' H' := fun {σ8 H8 s8} J8 n8 => by
        obtain ⟨m', hm, w8⟩ := hN σ8 H8 n8
        refine ⟨m', hm, i + 1, σ8, H8, J8.unpinned, T.keep _ _ _ st5 fun b hb o e => (J8.pin (b, o) (List.mem_append_right _ (List.mem_append_right _ (kv hb e)))).1, fun b hb => ?_, w8⟩
        obtain ⟨o, e, d⟩ := T.obj _ _ st5 b hb
        exact (J8.pin (b, o) (List.mem_append_right _ (List.mem_append_right _ (kv hb e)))).2.1
      refine wpAny_bind (wpAny_mono (ht _ _ _ _ s6 σ6 H6 _ J6 q6) (fun kb s6' ⟨H6', J6', q6'⟩ => ?_) fun _ _ z => z.elim)
      cases kb with
      | false =>
        have n6 : Nx σ6 H6' := q6'
        exact wpAny_pure ⟨rfl, fin2 J6' n6⟩
      | true =>
        have q7 : te σ6 H6' _ := q6'
        refine wpAny_bind (wpAny_bind (wpAny_mono (he _ _ _ _ s6' σ6 H6' _ J6' q7) (fun v s7 ⟨vv, H7, J7, r7, ys, e7, l7, n7⟩ => ?_) fun _ _ z => z.elim))
        refine wpAny_bind (wpAny_mono (wj (X := (b8 X scope cs (ts ++ cs) s3 (upd H2 s2.heap.objs.size (.lst [])) fp)) _ s7 σ6 H7 (.ref s2.heap.objs.size) [vv] (.ref s2.heap.objs.size) [v] (fun _ H8 => Nx σ6 H8) J7 rfl (.cons r7 .nil) ⟨_, ys, vv, rfl, rfl, e7, l7, n7⟩) (fun _ s8 ⟨_, H8, J8, _, n8⟩ => ?_) fun _ _ z => z.elim)
        exact wpAny_pure (wpAny_pure ⟨rfl, fin2 J8 n8⟩)
  exact codeAny_compStart_list loop (T.self _ 0 _ _ _ st4 loop)
theorem xS {elt iter tg : Expr} {ifs : List Expr} {ts : List Str} {pos : Pos} {wi : TI} {js : List Nat} {g : TG} {tc : TT} {te : TE} (c : Az X scope cs) (hc : X.calm = true) (hj : js.map (fun j => X.N[j]?) = cs.map some) (hi : PI X tg iter wi)
    (hg : ∀ s₀ H₀ ex, PG (b8 X scope cs (ts ++ cs) s₀ H₀ ex) tg g) (he : ∀ s₀ H₀ ex, PE (b8 X scope cs (ts ++ cs) s₀ H₀ ex) elt te)
    (ht : ∀ s₀ H₀ ex, Ej (b8 X scope cs (ts ++ cs) s₀ H₀ ex) ifs tc)
    (hs : ∀ x, foldedSetIterable iter X.env x = pure x := by intro _; rfl) : PE X (.ListComp elt [⟨tg, iter, ifs, 0⟩] scope pos) (ua wi ts.length js g tc te) := by
  intro pins s σ H Q I h
  rw [eval_ListComp]
  refine wJ c hc hj hi hg he ht hs I (fun fp' s3 H3 acc σ' H' s4 I3 f3 J4 qn => ?_) h
  obtain ⟨m, hn, _⟩ := J4.loc
  exact ⟨m, hn, fun h' hs' => ⟨.ref acc, H', yH c I3 f3 J4 hs', rfl, qn⟩⟩
end
end L2
namespace L2
open PySem PySem.Spec PyProof.Rows
open HL (W SO Sh Sg OR DE DT DA DS Fn)
section
variable {X : Cx} {γ : Str → Addr} {a b c e : Expr} {da db dc de : DE} {pos : Pos}
theorem yi {n : Nat} (h : n < HL.hW) : n < sizeLine := by
  have : HL.hW = 100000 := rfl
  rw [sizeLine_eq]; omega
theorem vT {t : HL.It} {h : Sh} {o : SO} (st : t.stays h) : t.stays (h ++ [o]) := by
  have key : ∀ (i : Nat) (u : SO), h[i]? = some u → (h ++ [o])[i]? = some u := fun i u e => by
    rw [List.getElem?_append_left (List.getElem?_eq_some_iff.mp e).1]; exact e
  cases t with
  | fix xs => trivial
  | lst i xs =>
    have st' : HL.bE h (.ref i) = some xs := st
    show HL.bE _ (.ref i) = some xs
    unfold HL.bE at st' ⊢
    simp only at st' ⊢
    cases q : h[i]? with
    | none => rw [q] at st'; cases st'
    | some u => rw [key i u q]; rw [q] at st'; exact st'
  | tup i xs =>
    have st' : HL.iy h (.ref i) = some xs := st
    show HL.iy _ (.ref i) = some xs
    unfold HL.iy at st' ⊢
    simp only at st' ⊢
    cases q : h[i]? with
    | none => rw [q] at st'; cases st'
    | some u => rw [key i u q]; rw [q] at st'; exact st'
theorem vS {t : HL.It} {h : Sh} {k : Nat} {ys zs : List W} (st : t.stays h) (e : h[k]? = some (.lst ys)) (ne : ∀ i xs, t = .lst i xs → i ≠ k) : t.stays (h.set k (.lst zs)) := by
  cases t with
  | fix xs => trivial
  | lst i xs =>
    have st' : HL.bE h (.ref i) = some xs := st
    show HL.bE _ (.ref i) = some xs
    unfold HL.bE at st' ⊢
    simp only at st' ⊢
    rw [List.getElem?_set_ne (fun z => ne i xs rfl z.symm)]
    exact st'
  | tup i xs =>
    have st' : HL.iy h (.ref i) = some xs := st
    show HL.iy _ (.ref i) = some xs
    unfold HL.iy at st' ⊢
    have hne : k ≠ i := fun z => by
      subst z
      simp only [e] at st'
      cases st'
    simp only at st' ⊢
    rw [List.getElem?_set_ne hne]
    exact st'
theorem Ar {ρ : Nat → Addr} (n : Nat) (js : List Nat) (s : Sg) : uF n js (jg γ ρ s) = jg γ ρ (HL.sh n js s) := by
  unfold uF jg HL.sh
  rw [List.map_append, List.map_replicate, List.map_map]
  congr 1
  refine List.map_congr_left fun j _ => ?_
  simp only [Function.comp, List.getElem?_map]
  cases s[j]? with
  | none => rfl
  | some z => rfl
theorem w5 {m n : Nat} {js : List Nat} {s : Sg} (w : tW m s) : tW m (HL.sh n js s) := fun x hx => by
  unfold HL.sh at hx
  rcases List.mem_append.mp hx with z | z
  · cases (List.mem_replicate.mp z).2
  · obtain ⟨j, _, e⟩ := List.mem_map.mp z
    cases q : s[j]? with
    | none => rw [q] at e; cases e
    | some y =>
      rw [q] at e
      have e' : y = some x := e
      subst e'
      exact w x (List.mem_of_getElem? q)
theorem Ap {di : HL.DI} {g : HL.DG} {dt : DT} {n : Nat} {js : List Nat} (σ : St) (H : Hp) (Q : VK) (x : eE X.K γ (HL.j9 di n js g dt de) σ H Q) : ua (eI X.K γ di) n js (eG X.K γ g) (eT X.K γ dt) (eE X.K γ de) σ H Q := by
  obtain ⟨ρ, s, h, S, x⟩ := x
  unfold HL.j9 at x
  refine ⟨ρ, s, h, S, ?_⟩
  cases q : di s h with
  | ex => rw [q] at x; exact x.elim
  | er => rw [q] at x; exact x.elim
  | ok t h1 =>
    rw [q] at x
    simp only [HL.R.bind] at x
    intro ρ1 H1 J n1 S1 st ⟨wi, wl⟩ acc hacc
    have T1 := S.next n1 S1
    have S2 : cM X.K γ (put ρ1 h1.length acc) (h1 ++ [.lst []]) (upd H1 acc (.lst [])) := S1.push (o := .lst []) (fun y hy => by cases hy) (qy.upd _ hacc) hacc bK
    have n2 := eQ.push h1 ρ1 (.lst []) acc
    generalize hρ : put ρ1 h1.length acc = ρ2 at S2 n2
    have at2 : ρ2 h1.length = acc := by rw [← hρ]; exact gu _ _ _
    generalize hh : h1 ++ [.lst []] = h2 at S2 n2 x
    have lt2 : h1.length < h2.length := by rw [← hh]; simp
    have st2 : t.stays h2 := by rw [← hh]; exact vT st
    have x2 := bg.later x (n1.trans n2)
    have T2 : tT X.K γ ρ2 (HL.sh n js s) h2 (uF n js σ) (upd H1 acc (.lst [])) := ⟨S2, w5 ((S.ws.mono n1.le).mono n2.le), by rw [S.eq, Ar]; exact u4 (w5 S.ws) (n1.trans n2).ag⟩
    let St' : Nat → St → Hp → Prop := fun i σ' H' => i ≤ t.items.length ∧ ∃ ρ3 s3 h3, tT X.K γ ρ3 s3 h3 σ' H' ∧ eQ h2 ρ2 h3 ρ3 ∧ t.stays h3 ∧ nO X.K γ ρ3 h3 (HL.jA t g dt de h1.length (t.items.drop i) s3 h3) Q
    refine ⟨fun i m σ' H' => m = t.items.length - i ∧ St' i σ' H', ⟨_, rfl, Nat.zero_le _, ρ2, _, h2, T2, eQ.refl _ _, st2, x2⟩, ?_⟩
    rintro i m σ' H' ⟨rfl, hi, ρ3, s3, h3, T3, n3, st3, g3⟩
    obtain ⟨w1, w2⟩ := wl ρ3 h3 H' (n2.trans n3) T3.hp st3 i
    cases e : t.items[i]? with
    | none =>
      have hl : t.items.length ≤ i := List.getElem?_eq_none_iff.mp e
      rw [List.drop_eq_nil_of_le hl] at g3
      refine .inl ⟨w1 hl, ?_⟩
      have z := g3 ρ3 H' (eQ.refl _ _) T3.hp (Nat.lt_of_lt_of_le lt2 n3.le)
      rw [show aF γ ρ3 (.ref h1.length) = V.ref acc from congrArg V.ref ((n3.ag _ lt2).symm.trans at2)] at z
      exact z
    | some y =>
      obtain ⟨hlt, ey⟩ := List.getElem?_eq_some_iff.mp e
      obtain ⟨go, yl⟩ := w2 y e
      refine .inr ⟨go, St' (i + 1), fun σ3 H3 z => ⟨_, by omega, rfl, z⟩, fun v H3 hv => ?_⟩
      obtain ⟨rfl, rfl⟩ := yl v H3 hv
      rw [List.drop_eq_getElem_cons hlt, ey] at g3
      unfold HL.jA at g3
      have wy : wf h3.length y := ((wi y (List.mem_of_getElem? e)).mono n2.le).mono n3.le
      cases q3 : g y s3 h3 with
      | none => rw [q3] at g3; exact g3.elim
      | some s4 =>
        rw [q3] at g3
        simp only at g3
        refine ⟨ρ3, s3, h3, y, T3, rfl, wy, s4, q3, fun w4 => ?_⟩
        have T4 : tT X.K γ ρ3 s4 h3 (jg γ ρ3 s4) H3 := ⟨T3.hp, w4, rfl⟩
        refine ⟨ρ3, s4, h3, T4, bg.bind g3 fun kb h5 ρ5 H5 _ n5 S5 _ g5 => ?_⟩
        have T5 := T4.next n5 S5
        cases kb with
        | false =>
          simp only [Bool.false_eq_true, if_false] at g5 ⊢
          split at g5
          · rename_i st5
            exact ⟨hlt, ρ5, s4, h5, T5, n3.trans n5, st5, g5⟩
          · exact g5.elim
        | true =>
          simp only [if_true] at g5 ⊢
          refine ⟨ρ5, s4, h5, T5, bg.bind g5 fun v h6 ρ6 H6 _ n6 S6 w6 g6 => ?_⟩
          have T6 := T5.next n6 S6
          have at6 : ρ6 h1.length = acc := ((((n3.trans n5).trans n6).ag _ lt2).symm).trans at2
          cases q6 : h6[h1.length]? with
          | none => rw [q6] at g6; exact g6.elim
          | some ob =>
            rw [q6] at g6
            cases ob with
            | lst ys =>
              simp only at g6
              split at g6
              · rename_i cond
                have ob6 : H6 (ρ6 h1.length) = some (.lst (ys.map (aF γ ρ6))) := S6.ob _ _ q6
                rw [at6] at ob6
                refine ⟨_, ob6, by rw [List.length_map]; exact yi cond.1, ?_⟩
                have S7 := S6.chg (u := .lst (ys ++ [v])) (v := .lst ((ys ++ [v]).map (aF γ ρ6))) q6 rfl rfl (by
                  intro z hz
                  rcases List.mem_append.mp hz with z1 | z1
                  · exact S6.wf _ _ q6 z z1
                  · rw [List.mem_singleton.mp z1]; exact w6) bK
                rw [at6, List.map_append] at S7
                refine ⟨hlt, ρ6, s4, _, ⟨S7, by rw [List.length_set]; exact T6.ws, T6.eq⟩, ((n3.trans n5).trans n6).trans (eQ.chg _ _ _ _), ?_, bg.later g6 (eQ.chg _ _ _ _)⟩
                refine vS cond.2.1 q6 fun j xs ej z => ?_
                subst ej
                have st0 : HL.bE h1 (.ref j) = some xs := st
                rw [z] at st0
                unfold HL.bE at st0
                simp only [List.getElem?_eq_none_iff.mpr (Nat.le_refl h1.length)] at st0
                cases st0
              · exact g6.elim
            | _ => exact g6.elim
theorem o8 {X : Cx} {γ : Str → Addr} : Ej X [] (eT X.K γ HL.bQ) := fun pins s σ H Q I ⟨ρ, t, h, S, x⟩ => zA pins s σ H Q I (x ρ H (eQ.refl _ _) S.hp trivial)
theorem rA {elt iter tg : Expr} {ifs : List Expr} {scope : Scope} {cs ts : List Str} {js : List Nat} {di : HL.DI} {g : HL.DG} {dt : DT} (c : Az X scope cs) (hc : X.calm = true) (hj : js.map (fun j => X.N[j]?) = cs.map some) (hi : QI γ X tg iter di)
    (hg : ∀ s₀ H₀ ex, QG γ (b8 X scope cs (ts ++ cs) s₀ H₀ ex) tg g) (ht : ∀ s₀ H₀ ex, Ej (b8 X scope cs (ts ++ cs) s₀ H₀ ex) ifs (eT X.K γ dt)) (he : ∀ s₀ H₀ ex, QE γ (b8 X scope cs (ts ++ cs) s₀ H₀ ex) elt de)
    (hs : ∀ x, foldedSetIterable iter X.env x = pure x := by intro _; rfl) : QE γ X (.ListComp elt [⟨tg, iter, ifs, 0⟩] scope pos) (HL.j9 di ts.length js g dt de) :=
  (xS (ts := ts) c hc hj hi hg he ht hs).imp Ap
end
end L2
namespace L2
open PySem PySem.Spec PyProof.Rows
open HL (W SO Sh Sg OR DE DT DA DS Fn)
section
variable {X : Cx} {K : PySem.W.Frag} {γ : Str → Addr}
def FD (K : PySem.W.Frag) (γ : Str → Addr) (r : V → List V → Hp → VK → Prop) (f : W → List W → Sh → HL.R W) : Prop := ∀ ρ h H x xs Q, cM K γ ρ h H → wf h.length x → mH h.length xs → nO K γ ρ h (f x xs h) Q → r (aF γ ρ x) (xs.map (aF γ ρ)) H Q
def Fz (K : PySem.W.Frag) (γ : Str → Addr) (T : String) (t : W → Sh → Bool) : Prop := ∀ ρ h H x, cM K γ ρ h H → t x h = true → ED K T (aF γ ρ x) H
variable {e o : Expr} {es : List Expr} {d : DA} {de : DE} {name : Str} {apos cpos : Pos} {T id : String} {r : V → List V → Hp → VK → Prop} {f : W → List W → Sh → HL.R W} {t : W → Sh → Bool}
theorem DK (pa : PlainAttrs T) (slot : Slot T name id) (hty : typeOf (.builtin id) = pure (.type "method_descriptor")) (hm : En X id r) (ms : FD X.K γ r f) (ts : Fz X.K γ T t) (ho : QE γ X o de) (ha : QA γ X (e :: es) d)
    (hbase : attributeBase o name X.env (eval o X.env) = eval o X.env := by rfl)
    (hfew : ((backTo cpos (starEach (e :: es) X.env)).all (fun x => !x.1) && (backToKw cpos (keywordEach [] X.env)).all (fun x => x.1.isSome)
      && decide ((e :: es).length + ([] : List Keyword).length + (if ([] : List Keyword).isEmpty then 0 else 1) < 30)) = true := by rfl)
    (hline : (apos.endLine == cpos.line) = true := by rfl) (hs : starEach (e :: es) X.env = (false, eval e X.env) :: starEach es X.env := by rfl) (hplain : (backTo cpos (starEach es X.env)).any (·.1) = false := by rfl) :
    QE γ X (.Call (.Attribute o name apos) (e :: es) [] cpos) (HL.AZ t f de d) := (DR pa slot hty hm ho ha hbase hfew hline hs hplain).imp fun σ H Q x => by
  obtain ⟨ρ, s, h, S, x⟩ := x
  refine ⟨ρ, s, h, S, bg.bind x fun v h1 ρ1 H1 _ n1 S1 w1 x1 => ?_⟩
  split at x1
  · rename_i ht
    refine ⟨ts ρ1 h1 H1 v S1 ht, ρ1, s, h1, S.next n1 S1, bg.bind x1 fun us h2 ρ2 H2 _ n2 S2 w2 x2 => ?_⟩
    rw [fJ w1 n2.ag]
    exact ms ρ2 h2 H2 v us Q S2 (w1.mono n2.le) w2 x2
  · exact x1.elim
theorem t6 : Fz K γ "list" HL.jz := by
  intro ρ h H x S ht
  unfold HL.jz at ht
  cases q : HL.bE h x with
  | none => rw [q] at ht; cases ht
  | some xs =>
    obtain ⟨i, rfl, sq, _⟩ := mC S q
    exact .inl ⟨rfl, _, sq⟩
end
section
variable {X : Cx} {pins : List (Addr × Obj)} {σ : St} {H : Hp} {s : Shared}
theorem Ae {K : PySem.W.Frag} {a C : Addr} {ox : Obj} {od : Option Obj} (k : qR K C) : PySem.W.KitX K (.ref a) (.ref C) (fun h => PySem.W.InstAt h a ox C od) := {
    ty := fun _ _ _ I => I.type
    it := fun _ h KX _ => by
      obtain ⟨bm, N, nm, qn, bs, sn, sub, ab, col, dd, k0, k1, k2, k3, k5, hC, T', hcl⟩ := pd KX k.cl
      intro A' Q' E' s' kk q
      unfold isType loadHead
      exact wpAny_bind (wpAny_loadPart (kk _ _ hC) (wpAny_pure q))
    ne := fun h tp dd its n sl KX htp => by
      obtain ⟨bm, N, nm, qn, bs, sn, sub, ab, col, dd, k0, k1, k2, k3, k5, hC, T', hcl⟩ := pd KX k.cl
      refine Bool.eq_false_iff.mpr fun q => ?_
      have e : C = tp := Value.ref.inj (beq_iff_eq.mp q)
      subst e
      have z := Option.some.inj (hC.symm.trans htp)
      have z2 := congrArg Obj.cls z
      injection z2 with z3
      exact absurd z3 (by decide)
    ca := fun KX I' kk => wG k KX I' kk }
inductive CV (K : PySem.W.Frag) (H : Hp) : V → Value → Prop where
  | of {x t} : oZ K H x t → CV K H x t
  | lst {a xs} : ka K H a xs → CV K H (.ref a) (.type "list")
  | tup {a xs} : lq K H a xs → CV K H (.ref a) (.type "tuple")
  | exc {a C dx fs} : H a = some (.exc C dx fs) → qR K C → CV K H (.ref a) (.ref C)
theorem Cm {x : V} {u t : Value} (I : aB X pins σ H s) (r : bJ x u) (ty : CV X.K H x t) : ∃ P, PySem.W.KitX X.K u t P ∧ P s.heap ∧ u ≠ .builtin "__main__.__loader__#opaque" := by
  cases ty with
  | of ty =>
    cases ty with
    | non => cases r; exact ⟨_, PySem.W.kitx_none, True.intro, fun z => nomatch z⟩
    | bl y => cases r; exact ⟨_, PySem.W.kitx_bool, True.intro, fun z => nomatch z⟩
    | int i => obtain ⟨t, rfl⟩ := r; exact ⟨_, PySem.W.kitx_int, True.intro, fun z => nomatch z⟩
    | str y => obtain ⟨t, rfl⟩ := r; exact ⟨_, PySem.W.kitx_str, True.intro, fun z => nomatch z⟩
    | flt y => obtain ⟨t, rfl⟩ := r; exact ⟨_, PySem.W.kitx_float, True.intro, fun z => nomatch z⟩
    | @lst a xs ea =>
      cases r
      obtain ⟨_, _, n, _, h1⟩ := (show dJ X.prog X.w H s.heap a (.lst xs) from I.hok a _ ea)
      exact ⟨_, PySem.W.kitx_list, ⟨_, h1, rfl⟩, fun z => nomatch z⟩
    | @frz a ob xs ea =>
      cases r
      obtain ⟨_, _, _, n, _, h1⟩ := (show dJ X.prog X.w H s.heap a (.frz ob (.lst xs)) from I.hok a _ ea)
      exact ⟨_, PySem.W.kitx_list, ⟨_, h1, rfl⟩, fun z => nomatch z⟩
    | @tup a xs ea =>
      cases r
      obtain ⟨_, _, _, p⟩ := (show dJ X.prog X.w H s.heap a (.tup xs) from I.hok a _ ea)
      obtain ⟨o, h1, h2, _⟩ := p
      exact ⟨_, PySem.W.kitx_tuple, ⟨o, h1, h2⟩, fun z => nomatch z⟩
    | @dK a kvs ea =>
      cases r
      obtain ⟨_, _, vs, _, p⟩ := (show dJ X.prog X.w H s.heap a (.dK kvs) from I.hok a _ ea)
      obtain ⟨o, es, ep, h1, h2, _⟩ := p
      exact ⟨_, PySem.W.kitx_dict, ⟨o, h1, h2.1⟩, fun z => nomatch z⟩
    | @dT a kvs ea =>
      cases r
      obtain ⟨_, _, xs, _, o, es, ep, h1, h2, _⟩ := (show dJ X.prog X.w H s.heap a (.dT kvs) from I.hok a _ ea)
      exact ⟨_, PySem.W.kitx_dict, ⟨o, h1, h2.1⟩, fun z => nomatch z⟩
    | @ins a C dx fs ea cl ha hn htk hm =>
      cases r
      obtain ⟨mA, O, _⟩ := nG I.hok ea
      obtain ⟨od, J, _⟩ := O.look
      exact ⟨_, PySem.W.kitx_own (cl.get _) cl.hd ha hn htk hm, J, fun z => nomatch z⟩
  | lst hq =>
    cases r
    obtain ⟨its, _, p, _⟩ := I.list hq
    obtain ⟨o, n, e, c, _⟩ := p
    exact ⟨_, PySem.W.kitx_list, ⟨o, e, c⟩, fun z => nomatch z⟩
  | tup hq =>
    cases r
    obtain ⟨its, _, p, _⟩ := I.tuple hq
    obtain ⟨o, h1, h2, _⟩ := p
    exact ⟨_, PySem.W.kitx_tuple, ⟨o, h1, h2⟩, fun z => nomatch z⟩
  | exc e k =>
    cases r
    obtain ⟨ox, od, J, _⟩ := tJ I e
    exact ⟨_, Ae k, J, fun z => nomatch z⟩
theorem sG : ∀ {cs : List V} {us : List Value}, aM cs us → cs.all C4 = true → us = cs.map qO
  | _, _, .nil, _ => rfl
  | c :: cs, u :: us, .cons r t, h => by
    rw [List.all_cons, Bool.and_eq_true] at h
    rw [List.map_cons, ← sG t h.2, r.cls h.1]
def AG (K : PySem.W.Frag) : List V → Hp → VK → Prop := fun xs H Q => ∃ x c t b, xs = [x, c] ∧ CV K H x t ∧ Q (.bl b) H ∧
  ((C4 c = true ∧ PySem.W.kitOne K t (qO c) = some b) ∨ ∃ a cs, c = .ref a ∧ lq K H a cs ∧ cs.all C4 = true ∧ PySem.W.kitAny K t (cs.map qO) = some b)
theorem wM : mT X (.builtin "isinstance") (AG X.K) := by
  intro pins s σ H xs us Q I r h
  obtain ⟨x, c, t, b, rfl, ty, q, h⟩ := h
  obtain ⟨u, w', rfl, rx, rc'⟩ := AA r
  obtain ⟨P, Z, p, ne⟩ := Cm I rx ty
  rcases h with ⟨hc, e⟩ | ⟨a, cs, rfl, ha, hcs, e⟩
  · rw [rc'.cls hc]
    exact PySem.W.kia_one Z I.kIn p e ne fun tk => ⟨.bl b, H, I.tok _, rfl, q⟩
  · cases rc'
    obtain ⟨its, rv, ⟨o, ho, hc, n, hd⟩, _⟩ := I.tuple ha
    obtain ⟨oc, od, odt, osl⟩ := o
    cases hc
    cases hd
    rw [← sG rv hcs] at e
    exact PySem.W.kia_tup Z I.kIn p ho e ne fun tk => ⟨.bl b, H, I.tok _, rfl, q⟩
end
structure oJ (K : PySem.W.Frag) (γ : Str → Addr) (T : HL.CT) : Prop where
  cls : ∀ c l, T.lookup c = some l → (l.contains (.ty "ValueError") = false → vL K (γ c)) ∧ (l.contains (.ty "ValueError") = true → qR K (γ c))
  ins : ∀ c l, T.lookup c = some l → ∀ x m, T.lookup x = some m → PySem.W.kitOne K (.ref (γ c)) (.ref (γ x)) = some (l.contains (.gl x))
  bi : ∀ c l, T.lookup c = some l → ∀ b ∈ HL.tX, PySem.W.kitOne K (.ref (γ c)) (.type b) = some (l.contains (.ty b))
  no : ∀ x m, T.lookup x = some m → ∀ a ∈ "NoneType" :: HL.tX, PySem.W.kitOne K (.type a) (.ref (γ x)) = some false
theorem Cn (K : PySem.W.Frag) : ∀ a ∈ "NoneType" :: HL.tX, ∀ b ∈ HL.tX, PySem.W.kitOne K (.type a) (.type b) = some (HL.Dt a b) := by
  intro a ha b hb
  simp only [HL.tX, List.mem_cons, List.not_mem_nil, or_false] at ha hb
  rcases ha with rfl | rfl | rfl | rfl | rfl | rfl | rfl | rfl <;> rcases hb with rfl | rfl | rfl | rfl | rfl | rfl | rfl <;> rfl
section
variable {K : PySem.W.Frag} {γ : Str → Addr} {ρ : Nat → Addr} {h : Sh} {H : Hp} {T : HL.CT}
def EW (γ : Str → Addr) : HL.Ty → Value
  | .bi n => .type n
  | .own _ c => .ref (γ c)
def Bg (T : HL.CT) : HL.Ty → Prop
  | .bi n => n ∈ "NoneType" :: HL.tX
  | .own k c => ∃ l, T.lookup c = some l ∧ l.contains (.ty "ValueError") = k
theorem Bf {x : W} {n : String} (e : HL.uS h x = some (.bi n)) : n ∈ "NoneType" :: HL.tX := by
  unfold HL.uS at e
  cases x with
  | ref j =>
    simp only at e
    cases q : h[j]? with
    | none => rw [q] at e; cases e
    | some o => rw [q] at e; cases o <;> cases e <;> decide
  | ty _ => cases e
  | gl _ => cases e
  | _ => cases e; decide
theorem w9 {x : W} {t : HL.Ty} (O : oJ K γ T) (S : cM K γ ρ h H) (e : HL.uS h x = some t) (i : Bg T t) : CV K H (aF γ ρ x) (EW γ t) := by
  cases x with
  | non => cases e; exact .of .non
  | bl b => cases e; exact .of (.bl b)
  | int j => cases e; exact .of (.int j)
  | str y => cases e; exact .of (.str y)
  | ref j =>
    unfold HL.uS at e
    simp only at e
    cases q : h[j]? with
    | none => rw [q] at e; cases e
    | some o =>
      rw [q] at e
      have ob := S.ob j o q
      cases o with
      | lst xs => cases e; exact .lst (ka.of ob)
      | rol xs => cases e; exact .lst (show uK _ _ _ _ from ob).sq
      | tup xs => cases e; exact .tup ob
      | ins c fs =>
        cases e
        obtain ⟨dx, hd⟩ := ob
        obtain ⟨l, hl, hk⟩ := i
        have k := (O.cls c l hl).1 hk
        exact .of (.ins hd k.cl k.ha k.hn k.htk k.hm)
      | exc c fs =>
        cases e
        obtain ⟨dx, hd⟩ := ob
        obtain ⟨l, hl, hk⟩ := i
        exact .exc hd ((O.cls c l hl).2 hk)
  | _ => cases e
theorem vt {t : HL.Ty} {c : W} {b : Bool} (O : oJ K γ T) (e : HL.lI T t c = some b) (bi : ∀ n, t = .bi n → n ∈ "NoneType" :: HL.tX) : Bg T t ∧ C4 (aF γ ρ c) = true ∧ PySem.W.kitOne K (EW γ t) (qO (aF γ ρ c)) = some b := by
  unfold HL.lI at e
  split at e
  · rename_i a b' 
    split at e
    · rename_i hb
      cases e
      have ha := bi a rfl
      exact ⟨ha, rfl, Cn K a ha b' (List.contains_iff_mem.mp hb)⟩
    · cases e
  · rename_i a x
    split at e
    · rename_i hx
      cases e
      have ha := bi a rfl
      cases q : T.lookup x with
      | none => rw [q] at hx; cases hx
      | some m => exact ⟨ha, rfl, O.no x m q a ha⟩
    · cases e
  · rename_i k a
    split at e
    · rename_i l hl
      split at e
      · rename_i hk
        split at e
        · rename_i b'
          split at e
          · rename_i hb; cases e; exact ⟨⟨l, hl, hk⟩, rfl, O.bi a l hl b' (List.contains_iff_mem.mp hb)⟩
          · cases e
        · rename_i x
          split at e
          · rename_i hx
            cases e
            cases q : T.lookup x with
            | none => rw [q] at hx; cases hx
            | some m => exact ⟨⟨l, hl, hk⟩, rfl, O.ins a l hl x m q⟩
          · cases e
        · cases e
      · cases e
    · cases e
  · cases e
theorem vq {t : HL.Ty} (O : oJ K γ T) (bi : ∀ n, t = .bi n → n ∈ "NoneType" :: HL.tX) : ∀ (cs : List W) (b : Bool), HL.zY T t cs = some b → cs ≠ [] → Bg T t ∧ (∀ c ∈ (cs.map (aF γ ρ)).take 1, C4 c = true) ∧ PySem.W.kitAny K (EW γ t) ((cs.map (aF γ ρ)).map qO) = some b
  | [], _, _, ne => absurd rfl ne
  | c :: cs, b, e, _ => by
    unfold HL.zY at e
    cases q : HL.lI T t c with
    | none => rw [q] at e; cases e
    | some k =>
      rw [q] at e
      obtain ⟨ti, ic, kk⟩ := vt (ρ := ρ) O q bi
      refine ⟨ti, ?_, ?_⟩
      · intro c' hc'
        rw [List.map_cons, List.take_succ_cons, List.take_zero] at hc'
        rw [List.mem_singleton.mp hc']; exact ic
      · rw [List.map_cons, List.map_cons]
        unfold PySem.W.kitAny
        rw [kk]
        cases k with
        | true => cases e; rfl
        | false =>
          simp only at e ⊢
          cases cs with
          | nil => cases e; rfl
          | cons c2 r => exact (vq O bi (c2 :: r) b e (fun z => nomatch z)).2.2
theorem CM (O : oJ K γ T) : A9 K γ (AG K) (HL.iY T) := by
  intro ρ h H xs Q S w q
  unfold HL.iY at q
  split at q
  · rename_i x c
    split at q
    · rename_i b e
      have qq := q trivial
      unfold HL.isi at e
      cases q1 : HL.uS h x with
      | none => rw [q1] at e; cases e
      | some t =>
        rw [q1] at e
        have bi : ∀ n, t = .bi n → n ∈ "NoneType" :: HL.tX := fun n z => by subst z; exact Bf q1
        simp only at e
        split at e
        · rename_i i
          split at e
          · rename_i cs q2
            split at e
            · rename_i hcs
              obtain ⟨h1, h2⟩ := (Bool.and_eq_true _ _).mp hcs
              have ne : cs ≠ [] := fun z => by rw [z] at h2; cases h2
              obtain ⟨ti, _, kk⟩ := vq (ρ := ρ) O bi cs b e ne
              refine ⟨_, _, _, b, rfl, w9 O S q1 ti, qq, .inr ⟨_, _, rfl, S.ob i _ q2, ?_, kk⟩⟩
              rw [List.all_map]
              refine List.all_eq_true.mpr fun c hc => ?_
              have := List.all_eq_true.mp h1 c hc
              cases c <;> first | rfl | cases this
            · cases e
          · cases e
        · obtain ⟨ti, ic, kk⟩ := vt (ρ := ρ) O e bi
          exact ⟨_, _, _, b, rfl, w9 O S q1 ti, qq, .inl ⟨ic, kk⟩⟩
    · exact q.elim
  · exact q.elim
theorem Ce (x : List W) (h : Sh) : kW (HL.iY T x h) = true := by
  unfold HL.iY; split
  · split <;> rfl
  · rfl
end
end L2
namespace L2
open PySem PySem.Spec PyProof.Rows
open HL (W SO Sh Sg OR DE DT DA DS Fn)
def uX (K : PySem.W.Frag) : Sp := fun vs H Q _ => match vs with
  | [x] => ∃ (a : Addr) (ns : List Int), x = .ref a ∧ uK K H a (ns.map V.int) ∧ ns.length ≤ 63 ∧ ∀ H', Q (.bl true) H'
  | _ => False
def yR (P : Program) (w : World) (K : PySem.W.Frag) (mg : Str → Option Value) (k : Nat) : Prop := ∃ f fd, mg "law" = some (.ref f) ∧ (∀ (s : Shared) (u : Value), BindsTo s fd ⟨[u], []⟩ [("_law_script", u)]) ∧ ∀ base : Heap, m5 P w K mg base sA k f fd ["_law_script"] (uX K)
theorem vN {l : PySem.W.OpenLaw} {k : Nat} {q : Program} {loose : List Str} {XP : (Str → Option Value) → Heap → Prop} {YP : World → Heap → Prop} {d : DefRec} {K : Params → PySem.W.Frag} (hn : l.most = some 63) (hdf : d.params.defaults = []) (hr : b6 k callerA)
    (hY : ∀ (w : World) (h : Heap), YP w h → (K w.params).In h) (hd : d.name = "law")
    (hF : ∀ (w : World) (mg : Str → Option Value) (h : Heap), (K w.params).In h → h.Ns mainGlobals mg → yR l.prog w (K w.params) mg k) :
    PySem.W.WalkO q loose XP YP l.row.toRowW d [] (fun f vs => PySem.call f vs) :=
  L2.uQ (n := 63) (k := k) (x := "_law_script") (CX := fun _ => sA) (sp := fun w => uX (K w.params)) hn (by decide) hdf hr hY (fun w mg fa h KX G hm => by
    rw [hd] at hm
    obtain ⟨f, fd, m, b, ok⟩ := hF w mg h KX G
    rw [m] at hm
    cases hm
    exact ⟨fd, b, fun base _ _ => ok base⟩) (fun w H a ns hl hO hS => ⟨a, ns, rfl, by
      rcases hS with (h | h) | h
      · rcases hO a with z | ⟨o, xs, z⟩
        · rw [h] at z; cases z
        · rw [h] at z; cases z
      · exact .inl h
      · exact .inr h, hl, fun _ => rfl⟩) fun _ _ _ _ _ z => z
structure m8 (K : PySem.W.Frag) (γ : Str → Addr) (ρ : Nat → Addr) (cs : List SO) : Prop where
  ob : ∀ (i : Nat) (o : SO), cs[i]? = some o → ∀ H, uM γ ρ K H (ρ i) o
  mu : ∀ o ∈ cs, oX o = false
  wf : ∀ o ∈ cs, y6 cs.length o
theorem m8.nil {K : PySem.W.Frag} {γ : Str → Addr} {ρ : Nat → Addr} : m8 K γ ρ [] := ⟨(fun i o e => by simp at e), (fun o h => by cases h), (fun o h => by cases h)⟩
theorem wq {K : PySem.W.Frag} {γ : Str → Addr} {ρ : Nat → Addr} {cs : List SO} {H : Hp} {a : Addr} {ns : List Int} (c : m8 K γ ρ cs) (r : uK K H a (ns.map V.int)) : cM K γ (put ρ cs.length a) (cs ++ [.rol (ns.map W.int)]) H where
  ob := fun i o e => by
    rw [getElem?_snoc] at e
    by_cases h1 : i < cs.length
    · rw [if_pos h1] at e
      rw [← ib ρ cs.length a i h1]
      exact (c.ob i o e H).ren (c.wf o (List.mem_of_getElem? e)) (ib _ _ _)
    · rw [if_neg h1] at e
      by_cases h2 : i = cs.length
      · rw [if_pos h2] at e
        cases e
        rw [h2, gu]
        show uK K H a _
        rw [List.map_map]
        exact r
      · rw [if_neg h2] at e; cases e
  inj := fun i j o u e1 e2 m1 m2 q => by
    have mu : ∀ i o, (cs ++ [SO.rol (ns.map W.int)])[i]? = some o → oX o = false := fun i o e => by
      rcases List.mem_append.mp (List.mem_of_getElem? e) with z | z
      · exact c.mu o z
      · rw [List.mem_singleton.mp z]; rfl
    rw [mu i o e1] at m1; cases m1
  wf := fun i o e => by
    rcases List.mem_append.mp (List.mem_of_getElem? e) with z | z
    · exact (c.wf o z).mono (by simp)
    · rw [List.mem_singleton.mp z]
      intro x hx
      obtain ⟨n, _, rfl⟩ := List.mem_map.mp hx
      trivial
theorem aQ.qlaw {P : Program} {w : World} {K : PySem.W.Frag} {mg : Str → Option Value} {γ : Str → Addr} {ρ : Nat → Addr} {cs : List SO} {st : Stmt} {N : List Str} {k n : Nat} {bd : DS} (F : aQ K mg "law" st) (S : aD N ["_law_script"] (aq st)) (hn : N.length = n) (c : m8 K γ ρ cs)
    (hb : ∀ (kV doc pm : Value) (an : Option Addr) (cdv ct : Value) (us : List Value), us.length = 1 → bindArgs (PySem.W.fnOf "law" "law" (cO st) (bC st) (aq st) .none kV doc pm an cdv ct) ⟨us, []⟩ = pure ((["_law_script"] : List Str).zip us))
    (hbody : ∀ (base : Heap) (f : Addr) (cdv : Value) (A : Around) (outer : List Env) (s : Shared) (H : Hp) (E : XK), b6 k (A.deeper (envOfC "law" (aq st) s.heap.objs.size f cdv)) →
      sx γ (oh sA P w K mg base N "law" (aq st) f cdv A outer s H E).nox (bC st) bd)
    (good : ∀ ns : List Int, ns.length ≤ 63 → ∃ h', HL.fnOf 1 n bd [.ref cs.length] (cs ++ [.rol (ns.map W.int)]) = .ok (.bl true) h') : yR P w K mg (k + 1) := by
  subst hn
  obtain ⟨f, fd, F, m⟩ := F.ex
  refine ⟨f, fd, m, fun s u => ?_, fun base => F.ok S (fun vs H Q E h => ?_) fun cdv A outer s H vs Q E hr h => ?_⟩
  · obtain ⟨oc, od, kV, doc, pm, an, cdv, ct, osl, rfl, lk, hcd⟩ := F.ex
    exact .of_eq (hb kV doc pm an cdv ct [u] rfl)
  · match vs, h with
    | [x], _ => rfl
  · match vs, h with
    | [x], ⟨a, ns, e, r, hl, q⟩ =>
      refine ⟨_, hbody base f cdv A outer s H E hr, ?_⟩
      subst e
      have S0 := wq c r
      obtain ⟨h', e⟩ := good ns hl
      have := o9 (N := N) (us := [.ref cs.length]) (bd := bd) (Q := Q) (p := 1) S0 (fun x hx => by rw [List.mem_singleton.mp hx]; show cs.length < (cs ++ [_]).length; simp) (by
        rw [e]
        exact fun _ H1 _ _ _ => q H1)
      rw [show ([W.ref cs.length].map (aF γ (put ρ cs.length a))) = [V.ref a] by simp [aF, gu]] at this
      exact this
section
variable {X : Cx} {γ : Str → Addr} {a : Expr} {da : DE} {pos p2 : Pos}
end
end L2
namespace L2
open PySem PySem.Spec PyProof.Rows
open HL (W SO Sh Sg OR DE DT DA DS Fn)
section
variable {X : Cx} {γ : Str → Addr} {a b c e o : Expr} {da db dc de d1 : DE} {pos pos' apos : Pos}
theorem xI {x : Str} {i : Int} {u : Value} (hg : Gl X x) (hm : X.mg x = some u) (r : bJ (.int i) u) (hd : (x == ("__debug__" : Str)) = false := by decide) : QE γ X (.Name x pos) (HL.dC (.int i)) :=
  (vh hg hm r hd).imp fun σ H Q ⟨ρ, s, h, S, x⟩ => x ρ H (eQ.refl _ _) S.hp trivial
theorem kx {ρ : Nat → Addr} (f : Str) : ∀ fs : List (Str × W), (lF γ ρ fs).lookup f = (fs.lookup f).map (aF γ ρ)
  | [] => rfl
  | (g, x) :: r => by
    unfold lF
    rw [List.map_cons]
    by_cases e : f = g
    · subst e; simp only [List.lookup, beq_self_eq_true, Option.map_some]
    · have : (f == g) = false := by simpa using e
      simp only [List.lookup, this]
      exact kx f r
theorem pT {f : Str} {v : W} : ∀ {fs : List (Str × W)}, fs.lookup f = some v → ∃ p ∈ fs, p.2 = v
  | (g, x) :: r, e => by
    by_cases q : f = g
    · subst q
      simp only [List.lookup, beq_self_eq_true, Option.some.injEq] at e
      exact ⟨(f, x), List.mem_cons_self, e⟩
    · have z : (f == g) = false := by simpa using q
      simp only [List.lookup, z] at e
      obtain ⟨p, hp, hv⟩ := pT e
      exact ⟨p, List.mem_cons_of_mem _ hp, hv⟩
theorem vd {ρ : Nat → Addr} (f : Str) (v : W) : ∀ fs : List (Str × W), lF γ ρ (HL.pM f v fs) = j3 f (aF γ ρ v) (lF γ ρ fs)
  | [] => rfl
  | (g, x) :: r => by
    unfold HL.pM
    by_cases e : g = f
    · rw [if_pos e]; simp only [lF, List.map_cons, j3, if_pos e]
    · rw [if_neg e]
      have ih := vd (ρ := ρ) f v r
      simp only [lF, List.map_cons, j3, if_neg e] at ih ⊢
      rw [ih]
theorem uP {n : Nat} {f : Str} {v : W} (wv : wf n v) : ∀ {fs : List (Str × W)}, (∀ p ∈ fs, wf n p.2) → ∀ p ∈ HL.pM f v fs, wf n p.2
  | [], _, p, hp => by
    unfold HL.pM at hp
    rw [List.mem_singleton.mp hp]; exact wv
  | (g, x) :: r, w, p, hp => by
    unfold HL.pM at hp
    by_cases e : g = f
    · rw [if_pos e] at hp
      rcases List.mem_cons.mp hp with z | z
      · rw [z]; exact wv
      · exact w p (List.mem_cons_of_mem _ z)
    · rw [if_neg e] at hp
      rcases List.mem_cons.mp hp with z | z
      · rw [z]; exact w (g, x) List.mem_cons_self
      · exact uP wv (fun q hq => w q (List.mem_cons_of_mem _ hq)) p z
def lR (K : PySem.W.Frag) (γ : Str → Addr) (cs : List Str) (f : Str) : Prop := ∀ c ∈ cs, pj K (γ c) ∧ dZ K (γ c) f
theorem cw {cs : List Str} {f : Str} (k : lR X.K γ cs f) (he : QE γ X e de) (hb : attributeBase e f X.env (eval e X.env) = eval e X.env := by rfl) : QE γ X (.Attribute e f pos) (HL.bA cs f de) :=
  (BM he hb).imp fun σ H Q ⟨ρ, s, h, S, x⟩ => by
    unfold HL.bA at x
    refine ⟨ρ, s, h, S, bg.bind x fun v h1 ρ1 H1 _ n1 S1 w1 x1 => ?_⟩
    cases v with
    | ref i =>
      simp only [HL.eF] at x1
      cases q : h1[i]? with
      | none => rw [q] at x1; exact x1.elim
      | some ob =>
        rw [q] at x1
        cases ob with
        | ins c fs =>
          simp only at x1
          split at x1
          · rename_i v e1
            split at e1
            · rename_i hc
              obtain ⟨dx, ea⟩ := S1.ob i _ q
              have k1 := k c (by simpa using hc)
              refine ⟨ρ1 i, γ c, dx, lF γ ρ1 fs, aF γ ρ1 v, rfl, ea, k1.1, k1.2, by rw [kx, e1]; rfl, ?_⟩
              obtain ⟨p, hp, rfl⟩ := pT e1
              exact x1 ρ1 H1 (eQ.refl _ _) S1 (S1.wf i _ q p hp)
            · cases e1
          · exact x1.elim
        | _ => exact x1.elim
    | _ => exact x1.elim
theorem gr {cs : List Str} {f : Str} (k : lR X.K γ cs f) (ho : QE γ X o d1) (he : QE γ X e de) (hs : swapsWith e (some (.Attribute o f pos')) pos.line X.env = pure false := by rfl) : QS γ X (.Assign [.Attribute o f pos'] e pos) (HL.cB cs f d1 de) :=
  (BA ho he hs).imp fun D σ H ⟨ρ, s, h, S, x⟩ => by
    unfold HL.cB at x
    refine ⟨ρ, s, h, S, ?_⟩
    cases q1 : de s h with
    | ok v h1 =>
      rw [q1] at x
      intro ρ1 H1 n1 S1 w1
      have T1 := S.next n1 S1
      refine ⟨ρ1, s, h1, T1, ?_⟩
      simp only [HL.R.bind] at x
      cases q2 : d1 s h1 with
      | ok xo h2 =>
        rw [q2] at x
        intro ρ2 H2 n2 S2 w2
        have T2 := T1.next n2 S2
        simp only at x
        cases xo with
        | ref i =>
          simp only [HL.mI] at x
          cases q : h2[i]? with
          | none => rw [q] at x; exact x.elim
          | some ob =>
            rw [q] at x
            cases ob with
            | ins c fs =>
              simp only at x
              by_cases hc : cs.contains c = true ∧ fs.length < 1000
              · rw [if_pos hc] at x
                obtain ⟨dx, ea⟩ := S2.ob i _ q
                have k1 := k c (by simpa using hc.1)
                have wv := w1.mono n2.le
                refine ⟨ρ2 i, γ c, dx, lF γ ρ2 fs, rfl, ea, k1.1, k1.2, by simp only [lF, List.length_map]; exact hc.2, ?_⟩
                have S3 : cM X.K γ ρ2 (h2.set i (.ins c (HL.pM f v fs))) (upd H2 (ρ2 i) (.ins (γ c) dx (j3 f (aF γ ρ2 v) (lF γ ρ2 fs)))) :=
                  S2.chg q rfl rfl (uP wv (S2.wf i _ q)) ⟨dx, by rw [bK, vd]⟩
                have z := x ρ2 _ ((n1.trans n2).trans (eQ.chg _ _ i _)) S3 (by rw [List.length_set]; exact T2.ws)
                rw [fJ w1 n2.ag, T2.eq]
                exact z
              · rw [if_neg hc] at x; exact x.elim
            | _ => exact x.elim
        | _ => exact x.elim
      | ex => rw [q2] at x; exact x.elim
      | er => rw [q2] at x; exact x.elim
    | ex => rw [q1] at x; exact x.elim
    | er => rw [q1] at x; exact x.elim
def t8 (G : Addr → Sp → Prop) (m : Str) (ta : TE) (t : TA) : TE := fun σ H Q => ta σ H fun x H1 => ∃ a C dx fs sp, x = .ref a ∧ H1 a = some (.ins C dx fs) ∧ fs.lookup m = none ∧ G C sp ∧
  t σ H1 fun vs H2 => sp (x :: vs) H2 Q E0
variable {G : Addr → Sp → Prop} {m : Str} {es : List Expr} {ta : TE} {t : TA}
theorem xR {pl : Sem Bool} (hG : ∀ C sp, G C sp → pj X.K C ∧ ∃ k ps, aS X.prog X.w X.K X.mg X.base k C m ps sp ∧ b6 k X.A) (he : PE X o ta) (ha : PA X (e :: es) t)
    (hst : starEach (e :: es) X.env = (false, eval e X.env) :: starEach es X.env := by rfl) (hpl : (backTo pos (starEach es X.env)).any (·.1) = false := by rfl)
    (ht : eval (.Call (.Attribute o m apos) (e :: es) [] pos) X.env = (do
      let ov ← eval o X.env
      standAt apos.atName
      let (f, first) ← holding [ov] (getMethod ov m pl)
      callWith pos f first (backTo pos (starEach (e :: es) X.env)) (backToKw pos (keywordEach [] X.env))) := by rfl) :
    PE X (.Call (.Attribute o m apos) (e :: es) [] pos) (t8 G m ta t) := by
  intro pins s σ H Q I h
  refine PySem.W.methodCall_KW (pl := pl) (ez (he pins s σ H _ I h) fun u s1 ⟨x, H1, I1, rx, a, C, dx, fs, sp, ex, ea, l, g, q⟩ => ?_) ht
  subst ex
  obtain rfl : u = Value.ref a := rx
  obtain ⟨c, k, ps, D, hr⟩ := hG C sp g
  obtain ⟨f, fd, F, fa, n, kp, b⟩ := D.ex
  refine m4 I1 ea c ⟨fa, n, kp⟩ l ?_
  refine PySem.W.callWith_K (first := [.ref a]) (h₀ := X.base) I.ok.mod.kin kp (ez (ha pos pins s1 σ H1 _ I1 q) fun us s2 ⟨vs, H2, I2, r, q2⟩ => ⟨I2.kIn, ?_⟩) hst hpl
  exact rp (us := .ref a :: us) (vs := .ref a :: vs) (dvs := []) (ds := []) F hr b .nil sW I2 (.cons rfl r) (by rw [List.append_nil]; exact q2)
theorem v5 {pl : Sem Bool} (hG : ∀ C sp, G C sp → pj X.K C ∧ ∃ k ps, aS X.prog X.w X.K X.mg X.base k C m ps sp ∧ b6 k X.A) (he : PE X o ta)
    (ht : eval (.Call (.Attribute o m apos) [] [] pos) X.env = (do
      let ov ← eval o X.env
      standAt apos.atName
      let (f, first) ← holding [ov] (getMethod ov m pl)
      callWith pos f first (backTo pos (starEach [] X.env)) (backToKw pos (keywordEach [] X.env))) := by rfl) :
    PE X (.Call (.Attribute o m apos) [] [] pos) (t8 G m ta Dj) := by
  intro pins s σ H Q I h
  refine PySem.W.methodCall_KW (pl := pl) (ez (he pins s σ H _ I h) fun u s1 ⟨x, H1, I1, rx, a, C, dx, fs, sp, ex, ea, l, g, q⟩ => ?_) ht
  subst ex
  obtain rfl : u = Value.ref a := rx
  obtain ⟨c, k, ps, D, hr⟩ := hG C sp g
  obtain ⟨f, fd, F, fa, n, kp, b⟩ := D.ex
  refine m4 I1 ea c ⟨fa, n, kp⟩ l ?_
  exact PySem.W.callWith_K0 (first := [.ref a]) I1.kIn kp (rp (us := [.ref a]) (vs := [.ref a]) (dvs := []) (ds := []) F hr b .nil sW I1 (.cons rfl .nil) q)
def aK (X : Cx) (γ : Str → Addr) (m : Str) (tb : List (Str × Fn)) : Prop := ∀ c f, tb.lookup c = some f → pj X.K (γ c) ∧ ∃ k p n bd ps, f = HL.fnOf p n bd ∧ aS X.prog X.w X.K X.mg X.base k (γ c) m ps (bF X.K γ p f) ∧ b6 k X.A
theorem aK.nil : aK X γ m [] := fun c f e => by cases e
theorem aK.cons {tb : List (Str × Fn)} {c : Str} {k p n : Nat} {bd : DS} {ps : List Str} (h : pj X.K (γ c)) (D : aS X.prog X.w X.K X.mg X.base k (γ c) m ps (bF X.K γ p (HL.fnOf p n bd))) (hr : b6 k X.A) (r : aK X γ m tb) : aK X γ m ((c, HL.fnOf p n bd) :: tb) := fun c' f e => by
  by_cases q : c' = c
  · subst q
    simp only [List.lookup, beq_self_eq_true, Option.some.injEq] at e
    subst e
    exact ⟨h, k, p, n, bd, ps, rfl, D, hr⟩
  · have z : (c' == c) = false := by simpa using q
    simp only [List.lookup, z] at e
    exact r c' f e
def Eo (X : Cx) (γ : Str → Addr) (m : Str) (tb : List (Str × Fn)) (C : Addr) (sp : Sp) : Prop := ∃ c f p n bd k ps, C = γ c ∧ tb.lookup c = some f ∧ f = HL.fnOf p n bd ∧ sp = bF X.K γ p f ∧ pj X.K (γ c) ∧ aS X.prog X.w X.K X.mg X.base k (γ c) m ps (bF X.K γ p f) ∧ b6 k X.A
theorem Eo.ok {tb : List (Str × Fn)} : ∀ C sp, Eo X γ m tb C sp → pj X.K C ∧ ∃ k ps, aS X.prog X.w X.K X.mg X.base k C m ps sp ∧ b6 k X.A := by
  rintro C sp ⟨c, f, p, n, bd, k, ps, rfl, e, rfl, rfl, h, D, hr⟩
  exact ⟨h, k, ps, D, hr⟩
theorem xj {K : PySem.W.Frag} {f : Fn} {p n : Nat} {bd : DS} {ρ : Nat → Addr} {h : Sh} {H : Hp} {us : List W} {Q : VK} {E : XK} (e : f = HL.fnOf p n bd) (S : cM K γ ρ h H) (w : mH h.length us) (x : nO K γ ρ h (f us h) Q) : bF K γ p f (us.map (aF γ ρ)) H Q E := by
  refine ⟨?_, ρ, h, us, S, w, rfl, x⟩
  rw [List.length_map]
  cases q : f us h with
  | ok v h' => rw [e] at q; exact p4 q
  | ex => rw [q] at x; exact x.elim
  | er => rw [q] at x; exact x.elim
theorem vk {tb : List (Str × Fn)} {d : DA} (k : aK X γ m tb) (σ : St) (H : Hp) (Q : VK) (x : eE X.K γ (HL.aw tb m d1 d) σ H Q) : t8 (Eo X γ m tb) m (eE X.K γ d1) (eA X.K γ d) σ H Q := by
  obtain ⟨ρ, s, h, S, x⟩ := x
  unfold HL.aw at x
  refine ⟨ρ, s, h, S, bg.bind x fun v h1 ρ1 H1 _ n1 S1 w1 x1 => ?_⟩
  split at x1
  · rename_i f e1
    cases v with
    | ref i =>
      simp only [HL.bH] at e1
      split at e1
      · rename_i c fs q
        split at e1
        · rename_i hl
          obtain ⟨dx, ea⟩ := S1.ob i _ q
          obtain ⟨hc, kk, p, n, bd, ps, ef, D, hr⟩ := k c f e1
          refine ⟨ρ1 i, γ c, dx, lF γ ρ1 fs, _, rfl, ea, by rw [kx, hl]; rfl, ⟨c, f, p, n, bd, kk, ps, rfl, e1, ef, rfl, hc, D, hr⟩, ?_⟩
          refine ⟨ρ1, s, h1, S.next n1 S1, bg.bind x1 fun us h2 ρ2 H2 _ n2 S2 w2 x2 => ?_⟩
          have wi : wf h2.length (.ref i) := w1.mono n2.le
          have z := xj (E := E0) (us := .ref i :: us) ef S2 (fun y hy => by
            rcases List.mem_cons.mp hy with r | r
            · rw [r]; exact wi
            · exact w2 y r) x2
          rw [List.map_cons] at z
          have e3 : aF γ ρ2 (.ref i) = aF γ ρ1 (.ref i) := (fJ w1 n2.ag).symm
          rw [e3] at z
          exact z
        · cases e1
      · cases e1
    | _ => cases e1
  · exact x1.elim
theorem bj {tb : List (Str × Fn)} {d : DA} {pl : Sem Bool} (k : aK X γ m tb) (he : QE γ X o d1) (ha : QA γ X (e :: es) d)
    (hst : starEach (e :: es) X.env = (false, eval e X.env) :: starEach es X.env := by rfl) (hpl : (backTo pos (starEach es X.env)).any (·.1) = false := by rfl)
    (ht : eval (.Call (.Attribute o m apos) (e :: es) [] pos) X.env = (do
      let ov ← eval o X.env
      standAt apos.atName
      let (f, first) ← holding [ov] (getMethod ov m pl)
      callWith pos f first (backTo pos (starEach (e :: es) X.env)) (backToKw pos (keywordEach [] X.env))) := by rfl) :
    QE γ X (.Call (.Attribute o m apos) (e :: es) [] pos) (HL.aw tb m d1 d) := (xR (pl := pl) Eo.ok he ha hst hpl ht).imp (vk k)
theorem eZ {tb : List (Str × Fn)} {pl : Sem Bool} (k : aK X γ m tb) (he : QE γ X o d1)
    (ht : eval (.Call (.Attribute o m apos) [] [] pos) X.env = (do
      let ov ← eval o X.env
      standAt apos.atName
      let (f, first) ← holding [ov] (getMethod ov m pl)
      callWith pos f first (backTo pos (starEach [] X.env)) (backToKw pos (keywordEach [] X.env))) := by rfl) :
    QE γ X (.Call (.Attribute o m apos) [] [] pos) (HL.aw tb m d1 HL.aj) := (v5 (pl := pl) Eo.ok he ht).imp fun σ H Q x => by
  obtain ⟨ρ, s, h, S, x⟩ := vk k σ H Q x
  refine ⟨ρ, s, h, S, ?_⟩
  cases q : d1 s h with
  | ok v h1 =>
    rw [q] at x
    intro ρ1 H1 n1 S1 w1
    obtain ⟨a, C, dx, fs, sp, e1, e2, e3, e4, x⟩ := x ρ1 H1 n1 S1 w1
    obtain ⟨ρ2, s2, h2, S2, x⟩ := x
    exact ⟨a, C, dx, fs, sp, e1, e2, e3, e4, x ρ2 H1 (eQ.refl _ _) S2.hp fun _ z => by cases z⟩
  | ex => rw [q] at x; exact x.elim
  | er => rw [q] at x; exact x.elim
structure A7 (X : Cx) (γ : Str → Addr) (x : Str) (p : Nat) (f : Fn) (vs : List W) : Prop where
  at_ : X.mg x = some (.ref (γ x))
  ex : ∃ k g fd ps ds n bd, f = HL.fnOf p n bd ∧ Mk X.K (γ x) g ∧ m5 X.prog X.w X.K X.mg X.base sA k g fd ps (bF X.K γ p f) ∧ b6 (k + 1) X.A ∧ gg X.K fd ps ds ∧ (∀ ρ, aM (vs.map (aF γ ρ)) ds) ∧ ∀ n, mH n vs
theorem sO {vs : List W} (h : ∀ n, mH n vs) (ρ ρ' : Nat → Addr) : vs.map (aF γ ρ) = vs.map (aF γ ρ') := my (h 0) fun i hi => absurd hi (Nat.not_lt_zero _)
theorem Cg {C : Str} {f : Fn} {p n : Nat} {bd : DS} {vs : List W} {d : DA} {ρ0 : Nat → Addr} (ef : f = HL.fnOf p n bd) (wv : ∀ n, mH n vs) (σ : St) (H : Hp) (Q : VK) (x : eE X.K γ (HL.cV C f vs d) σ H Q) : AD (γ C) (bF X.K γ p f) (vs.map (aF γ ρ0)) E0 (eA X.K γ d) σ H Q := by
  obtain ⟨ρ, s, h, S, x⟩ := x
  unfold HL.cV at x
  refine ⟨ρ, s, h, S, bg.bind x fun us h1 ρ1 H1 _ n1 S1 w1 x1 => ?_⟩
  intro y dx hy hdx ne
  have hdx' : upd H1 dx (.own y) y = none := by rw [aV ne.symm]; exact hy
  have E1 : qy H1 (upd (upd H1 dx (.own y)) y (.ins (γ C) dx [])) := (qy.upd _ hdx).trans (qy.upd _ hdx')
  have S2 := S1.push (p := y) (o := .ins C []) (fun q hq => by cases hq) E1 hy ⟨dx, bK⟩
  have w2 : mH (h1 ++ [SO.ins C []]).length (.ref h1.length :: (us ++ vs)) := fun q hq => by
    rcases List.mem_cons.mp hq with r | r
    · rw [r]; show h1.length < (h1 ++ [_]).length; simp
    · rcases List.mem_append.mp r with r | r
      · exact (w1 q r).mono (by simp)
      · exact wv _ q r
  have n2 := eQ.push h1 ρ1 (.ins C []) y
  have z := xj (E := E0) ef S2 w2 (Q := fun v H2 => v = .non ∧ Q (.ref y) H2) (bg.bind (x1.later n2) fun v h3 ρ3 H3 _ n3 S3 w3 x3 => by
    by_cases hv : v = .non
    · rw [if_pos hv] at x3
      subst hv
      refine ⟨rfl, ?_⟩
      have q := x3 ρ3 H3 (eQ.refl _ _) S3 (Nat.lt_of_lt_of_le (by simp) n3.le)
      rw [show aF γ ρ3 (.ref h1.length) = V.ref y from congrArg V.ref (by rw [← n3.ag h1.length (by simp), gu])] at q
      exact q
    · rw [if_neg hv] at x3; exact x3.elim)
  rw [List.map_cons, List.map_append] at z
  rw [show aF γ (put ρ1 h1.length y) (.ref h1.length) = V.ref y from congrArg V.ref (gu _ _ _), ← my w1 (ib _ _ _), sO wv _ ρ0] at z
  exact z
theorem vb {x : Str} {p : Nat} {f : Fn} {vs : List W} {pp : Pos} {d : DA} (k : A7 X γ x p f vs) (hg : Gl X x) (ha : QA γ X (e :: es) d) (hdb : (x == ("__debug__" : Str)) = false := by decide)
    (he : starEach (e :: es) X.env = (false, eval e X.env) :: starEach es X.env := by rfl) (hpl : (backTo pos (starEach es X.env)).any (·.1) = false := by rfl) : QE γ X (.Call (.Name x pp) (e :: es) [] pos) (HL.cV x f vs d) := by
  obtain ⟨kk, g, fd, ps, ds, n, bd, ef, M, F, hr, hb, hv, wv⟩ := k.ex
  exact (vg M F hr hg k.at_ hb (hv fun _ => 0) sW ha hdb he hpl).imp (Cg ef wv)
end
end L2
namespace L2
open PySem PySem.Spec PyProof.Rows
open HL (W SO Sh Sg OR DE DT DA DS Fn)
section
variable {K : PySem.W.Frag} {γ : Str → Addr}
theorem BR : ph K γ (AH fun i j => .int (i - j)) HL.eN := fun ρ h H x y Q S wx wy q => by
  obtain ⟨i, j, e1, e2, _, q⟩ := rF (K := K) (γ := γ) (c := fun _ _ => true) (C := fun _ _ => True) (f := fun i j => i - j) (fun _ _ _ => trivial) ρ h H x y Q S wx wy q
  exact ⟨i, j, e1, e2, q⟩
theorem BV : ph K γ (rI (fun _ j => 0 < j) fun i j => .int (i % j)) HL.bp := rF fun _ _ h => of_decide_eq_true h
theorem BX : ph K γ (rI EB fun i j => .int (i / j)) HL.ck := rF fun _ _ h => by
  obtain ⟨a, b⟩ := (Bool.and_eq_true _ _).mp h
  exact ⟨of_decide_eq_true a, of_decide_eq_true b⟩
theorem Am {i j : Int} (h : (decide (0 ≤ j) && decide (j ≤ 1000000) && decide (i.natAbs < 2 ^ 64)) = true) : C0 i j := by
  obtain ⟨a, b⟩ := (Bool.and_eq_true _ _).mp h
  obtain ⟨a, c⟩ := (Bool.and_eq_true _ _).mp a
  exact ⟨of_decide_eq_true a, of_decide_eq_true c, of_decide_eq_true b⟩
theorem BS : ph K γ (rI C0 fun i j => .int (i ^ j.toNat)) HL.rX := rF fun _ _ h => Am h
end
section
variable {X : Cx} {γ : Str → Addr} {a b c e : Expr} {da db dc de : DE} {pos : Pos}
theorem v (i : Nat) {x : Str} (hN : X.N[i]? = some x := by rfl) (hv : EM X.env.scope x := by first | exact Or.inl rfl | exact Or.inr (Or.inl rfl) | exact Or.inr (Or.inr rfl)) (hd : (x == ("__debug__" : Str)) = false := by decide)
    (hcd : (x == ("__classdict__" : Str)) = false := by decide) : QE γ X (.Name x pos) (HL.af i) := DF hN hv hd hcd
theorem fB (i : Nat) {x : Str} {pos' : Pos} (hN : X.N.Nodup) (he : QE γ X e de) (hi : X.N[i]? = some x := by rfl) (hx : wU X.env.scope x := by first | exact Or.inl rfl | exact Or.inr rfl) (hs : swapsWith e (some (.Name x pos')) pos.line X.env = pure false := by rfl) (hf : X.fn x = true ∨ X.env.scope.names.lookup x = some .local := by first | exact .inl rfl | exact .inr rfl | assumption) :
    QS γ X (.Assign [.Name x pos'] e pos) (HL.aT i de) := Br hN hi hx he hs hf
theorem gn (i : Nat) {x : Str} (hN : X.N.Nodup) (hi : X.N[i]? = some x := by rfl) (hx : wU X.env.scope x := by first | exact Or.inl rfl | exact Or.inr rfl) (hf : X.fn x = true ∨ X.env.scope.names.lookup x = some .local := by first | exact .inl rfl | exact .inr rfl | assumption) : QG γ X (.Name x pos) (HL.bD i) := zx hN hi hx hf
theorem pn (i : Nat) {x : Str} (hN : X.N.Nodup) (hi : X.N[i]? = some x := by rfl) (hx : wU X.env.scope x := by first | exact Or.inl rfl | exact Or.inr rfl) (hf : X.fn x = true ∨ X.env.scope.names.lookup x = some .local := by first | exact .inl rfl | exact .inr rfl | assumption) : PG X (.Name x pos) (bD i) := vf hN hi hx hf
theorem fu (ha : QE γ X a da) (hb : QE γ X b db) : QE γ X (.BinOp a .Add b pos) (HL.aE HL.bu da db) := vX zQ BY Cf ha hb
theorem tR (ha : QE γ X a da) (hb : QE γ X b db) : QE γ X (.BinOp a .Sub b pos) (HL.aE HL.eN da db) := vX BZ BR rY ha hb
theorem ik (ha : QE γ X a da) (hb : QE γ X b db) : QE γ X (.BinOp a .Mult b pos) (HL.aE HL.cj da db) := vX zN BU Cc ha hb
theorem cG (ha : QE γ X a da) (hb : QE γ X b db) : QE γ X (.BinOp a .Mod b pos) (HL.aE HL.bp da db) := vX B4 BV rY ha hb
theorem aZ (ha : QE γ X a da) (hb : QE γ X b db) : QE γ X (.BinOp a .FloorDiv b pos) (HL.aE HL.ck da db) := vX zO BX rY ha hb
theorem A3 (ha : QE γ X a da) (hb : QE γ X b db) : QE γ X (.BinOp a .Pow b pos) (HL.aE HL.rX da db) := vX B1 BS rY ha hb
theorem CO (hu : X.A.units + 64 < cLine) (ha : QE γ X a da) (hb : QE γ X b db) (hm : behindInMarks .Eq b = false := by rfl) : QE γ X (.Compare a [.Eq] [b] pos) (HL.aE HL.jf da db) := AL (xZ hu) AN yM.nw ha hb hm
theorem nQ (hu : X.A.units + 64 < cLine) (ha : QE γ X a da) (hb : QE γ X b db) (hm : behindInMarks .Eq b = false := by rfl) : QT γ X (.Compare a [.Eq] [b] pos) (HL.dT (HL.aE HL.jf da db)) := pG (xZ hu) AN yM.nw yM ha hb hm
theorem qV (hu : X.A.units + 64 < cLine) (ha : QE γ X a da) (hb : QE γ X b db) (hm : behindInMarks .NotEq b = false := by rfl) : QT γ X (.Compare a [.NotEq] [b] pos) (HL.dT (HL.aE HL.td da db)) := pG (B2 hu) DV A1.nw A1 ha hb hm
theorem EZ (ha : QE γ X a da) (hb : QE γ X b db) (hm : behindInMarks .Is b = false := by rfl) : QT γ X (.Compare a [.Is] [b] pos) (HL.dT (HL.aE HL.AR da db)) := pG B5 BW A2.nw A2 ha hb hm
theorem uW (ha : QE γ X a da) (hb : QE γ X b db) (hm : behindInMarks .IsNot b = false := by rfl) : QT γ X (.Compare a [.IsNot] [b] pos) (HL.dT (HL.aE HL.gv da db)) := pG zM zL tQ.nw tQ ha hb hm
theorem Fw (ha : QE γ X a da) (hb : QE γ X b db) (hm : behindInMarks .In b = false := by rfl) : QE γ X (.Compare a [.In] [b] pos) (HL.aE HL.zS da db) := AL v9 DX Eh.nw ha hb hm
theorem qU (ha : QE γ X a da) (hb : QE γ X b db) (hm : behindInMarks .NotIn b = false := by rfl) : QT γ X (.Compare a [.NotIn] [b] pos) (HL.dT (HL.aE HL.jP da db)) := pG rG xX tP.nw tP ha hb hm
theorem wN (ha : QE γ X a da) (hb : QE γ X b db) (hc : QE γ X c dc) (hm : lastMarks [.LtE, .LtE] [b, c] = false := by with_unfolding_all rfl) : QE γ X (.Compare a [.LtE, .LtE] [b, c] pos) (HL.bW HL.oz HL.oz da db dc) := zy AO xY uH.nw uH AO xY uH.nw ha hb hc hm
theorem sH (ha : QE γ X a da) : QE γ X (.UnaryOp .USub a pos) (HL.mF HL.dP da) := Fg Be Bd Cb ha
theorem ix (ha : QE γ X a da) (hb : QE γ X b db) (hp : su b := by exact fun _ _ => rfl) : QE γ X (.Subscript a b pos) (HL.aE HL.gW da db) := Fi Cv DW D3 ha hb hp
theorem p5 {p : Pos} {es : List Expr} {d : DA} (hg : Gl X "len") (hm : X.mg "len" = none) (ha : QA γ X (e :: es) d) (he : starEach (e :: es) X.env = (false, eval e X.env) :: starEach es X.env := by rfl) (hpl : (backTo pos (starEach es X.env)).any (·.1) = false := by rfl) : QE γ X (.Call (.Name "len" p) (e :: es) [] pos) (HL.dB HL.gi d) := rC yL CL Cd hg hm PySem.boot_len ha (by decide) (by decide) he hpl
theorem Ed (hc : X.calm = true) {p : Pos} {es : List Expr} {d : DA} (hg : Gl X "min") (hm : X.mg "min" = none) (ha : QA γ X (e :: es) d) (he : starEach (e :: es) X.env = (false, eval e X.env) :: starEach es X.env := by rfl) (hpl : (backTo pos (starEach es X.env)).any (·.1) = false := by rfl) : QE γ X (.Call (.Name "min" p) (e :: es) [] pos) (HL.dB HL.mS d) := rC (uG hc) Ak zT hg hm PyProof.Rows.boot_min ha (by decide) (by decide) he hpl
theorem uz {p : Pos} {es : List Expr} {d : DA} (hg : Gl X "list") (hm : X.mg "list" = none) (ha : QA γ X (e :: es) d) (he : starEach (e :: es) X.env = (false, eval e X.env) :: starEach es X.env := by rfl) (hpl : (backTo pos (starEach es X.env)).any (·.1) = false := by rfl) : QE γ X (.Call (.Name "list" p) (e :: es) [] pos) (HL.dB HL.lP d) := sQ si Al yb hg hm PyProof.Rows.boot_list ha (by decide) (by decide) he hpl
theorem pb {p : Pos} {es : List Expr} {d : DA} (hg : Gl X "tuple") (hm : X.mg "tuple" = none) (ha : QA γ X (e :: es) d) (he : starEach (e :: es) X.env = (false, eval e X.env) :: starEach es X.env := by rfl) (hpl : (backTo pos (starEach es X.env)).any (·.1) = false := by rfl) : QE γ X (.Call (.Name "tuple" p) (e :: es) [] pos) (HL.dB HL.gD d) := sQ qx yG wd hg hm PyProof.Rows.boot_tuple ha (by decide) (by decide) he hpl
theorem nH {T : HL.CT} (O : oJ X.K γ T) {p : Pos} {es : List Expr} {d : DA} (hg : Gl X "isinstance") (hm : X.mg "isinstance" = none) (ha : QA γ X (e :: es) d) (he : starEach (e :: es) X.env = (false, eval e X.env) :: starEach es X.env := by rfl) (hpl : (backTo pos (starEach es X.env)).any (·.1) = false := by rfl) : QE γ X (.Call (.Name "isinstance" p) (e :: es) [] pos) (HL.dB (HL.iY T) d) := rC wM (CM O) Ce hg hm PyProof.Rows.boot_isinstance ha (by decide) (by decide) he hpl
end
end L2
namespace L2
open PySem PySem.Spec PyProof.Rows
open HL (W SO Sh Sg OR DE DT DA DS Fn)
structure aG (K : PySem.W.Frag) (C : Addr) (m qual : Str) (st : Stmt) (ps : List Str) : Prop where
  ex : ∃ (f : Addr) (oc : Value) (od : Option Addr) (dV kV doc pm : Value) (an : Option Addr) (cdv ct : Value) (osl : Array (Option Value)),
    K.lookup f = some ⟨oc, od, .func (PySem.W.fnOf m qual (cO st) (bC st) (aq st) dV kV doc pm an cdv ct), osl⟩ ∧ PySem.W.codeIn K cdv qual = true ∧ PySem.W.keepIn K (.ref f) = true ∧ PySem.W.findIn K (.ref C) m = some (some (.ref f)) ∧ PySem.W.isFn K (.ref f) = true ∧
    gg K (PySem.W.fnOf m qual (cO st) (bC st) (aq st) dV kV doc pm an cdv ct) ps []
theorem bb {K : PySem.W.Frag} {C : Addr} {m qual : Str} {st : Stmt} {ps : List Str} {f : Addr} {oc : Value} {od an : Option Addr} {osl : Array (Option Value)} {dV kV doc pm cdv ct : Value}
    (a : PySem.W.findIn K (.ref C) m = some (some (.ref f))) (l : K.lookup f = some ⟨oc, od, .func (PySem.W.fnOf m qual (cO st) (bC st) (aq st) dV kV doc pm an cdv ct), osl⟩)
    (c : PySem.W.codeIn K cdv qual = true) (k : PySem.W.keepIn K (.ref f) = true) (n : PySem.W.isFn K (.ref f) = true) (b : gg K (PySem.W.fnOf m qual (cO st) (bC st) (aq st) dV kV doc pm an cdv ct) ps []) : aG K C m qual st ps := ⟨f, oc, od, dV, kV, doc, pm, an, cdv, ct, osl, l, c, k, a, n, b⟩
section
variable {P : Program} {w : World} {K : PySem.W.Frag} {mg : Str → Option Value} {base : Heap} {γ : Str → Addr}
theorem aG.qdef {C : Addr} {m qual : Str} {st : Stmt} {N ps : List Str} {k p n : Nat} {bd : DS} (F : aG K C m qual st ps) (S : aD N ps (aq st)) (hp : ps.length = p) (hn : N.length = n)
    (hbody : ∀ (f : Addr) (cdv : Value) (A : Around) (outer : List Env) (s : Shared) (H : Hp) (E : XK), b6 k (A.deeper (envOfC qual (aq st) s.heap.objs.size f cdv)) →
      sx γ (oh sA P w K mg base N qual (aq st) f cdv A outer s H E).nox (bC st) bd) : aS P w K mg base (k + 1) C m ps (bF K γ p (HL.fnOf p n bd)) := by
  obtain ⟨f, oc, od, dV, kV, doc, pm, an, cdv, ct, osl, lk, hcd, kp, fi, isf, hb⟩ := F.ex
  refine ⟨f, _, yw lk hcd S (fun vs H Q E h => h.1.trans hp.symm) fun A outer s H vs Q E hr hsp => ⟨_, (hbody f cdv A outer s H E hr).nox, ?_⟩, fi, isf, kp, hb⟩
  obtain ⟨_, ρ, hh, us, S, wu, e, x⟩ := hsp
  rw [e]
  subst hn
  exact o9 S wu x
structure A8 (K : PySem.W.Frag) (mg : Str → Option Value) (x : Str) (C : Addr) : Prop where
  at_ : mg x = some (.ref C)
  makes : PySem.W.makesIn K C = true
  kp : PySem.W.keepIn K (.ref C) = true
end
theorem nB {X : Cx} {γ : Str → Addr} {x : Str} {k p n : Nat} {bd : DS} {ps : List Str} (M : A8 X.K X.mg x (γ x)) (D : aS X.prog X.w X.K X.mg X.base k (γ x) "__init__" ps (bF X.K γ p (HL.fnOf p n bd))) (hr : b6 (k + 1) X.A) : A7 X γ x p (HL.fnOf p n bd) [] where
  at_ := M.at_
  ex := by
    obtain ⟨f, fd, F, a, nf, kp, b⟩ := D.ex
    exact ⟨k, f, fd, ps, [], n, bd, rfl, ⟨M.makes, a, nf, M.kp⟩, F, hr, b, fun _ => .nil, fun _ y hy => by cases hy⟩
end L2
namespace L2
open PySem PySem.Spec PyProof.Rows
open HL (W SO Sh Sg OR DE DT DA DS Fn)
structure F2 (K : PySem.W.Frag) (C : Addr) (m qual : Str) (st : Stmt) (ps : List Str) (vs : List W) : Prop where
  ex : ∃ (f : Addr) (oc : Value) (od : Option Addr) (dV kV doc pm : Value) (an : Option Addr) (cdv ct : Value) (osl : Array (Option Value)),
    K.lookup f = some ⟨oc, od, .func (PySem.W.fnOf m qual (cO st) (bC st) (aq st) dV kV doc pm an cdv ct), osl⟩ ∧ PySem.W.codeIn K cdv qual = true ∧ PySem.W.keepIn K (.ref f) = true ∧ PySem.W.findIn K (.ref C) m = some (some (.ref f)) ∧ PySem.W.isFn K (.ref f) = true ∧
    ∃ ds, gg K (PySem.W.fnOf m qual (cO st) (bC st) (aq st) dV kV doc pm an cdv ct) ps ds ∧ ∀ (γ : Str → Addr) (ρ : Nat → Addr), aM (vs.map (aF γ ρ)) ds
structure Gk (P : Program) (w : World) (K : PySem.W.Frag) (mg : Str → Option Value) (base : Heap) (k : Nat) (C : Addr) (m : Str) (ps : List Str) (vs : List W) (sp : Sp) : Prop where
  ex : ∃ f fd ds, m5 P w K mg base sA k f fd ps sp ∧ PySem.W.findIn K (.ref C) m = some (some (.ref f)) ∧ PySem.W.isFn K (.ref f) = true ∧ PySem.W.keepIn K (.ref f) = true ∧ gg K fd ps ds ∧ ∀ (γ : Str → Addr) (ρ : Nat → Addr), aM (vs.map (aF γ ρ)) ds
section
variable {P : Program} {w : World} {K : PySem.W.Frag} {mg : Str → Option Value} {base : Heap} {γ : Str → Addr}
end
end L2
namespace L2
open PySem
end L2
namespace HL
open PySem (Str)
inductive P where
  | non | bl (b : Bool) | int (i : Int) | str (s : Str) | ty (n : String) | gl (x : Str)
  | lst (xs : List P) | rol (xs : List P) | tup (xs : List P) | ins (c : Str) (fs : List (Str × P))
  deriving Inhabited
mutual
def Dn (T : Nat → Prop) (h : Sh) : P → W → Prop
  | .non, w => w = .non
  | .bl b, w => w = .bl b
  | .int i, w => w = .int i
  | .str s, w => w = .str s
  | .ty n, w => w = .ty n
  | .gl x, w => w = .gl x
  | .lst ps, w => ∃ i us, w = .ref i ∧ ¬ T i ∧ h[i]? = some (.lst us) ∧ Dns T h ps us
  | .rol ps, w => ∃ i us, w = .ref i ∧ ¬ T i ∧ h[i]? = some (.rol us) ∧ Dns T h ps us
  | .tup ps, w => ∃ i us, w = .ref i ∧ ¬ T i ∧ h[i]? = some (.tup us) ∧ Dns T h ps us
  | .ins c fs, w => ∃ i gs, w = .ref i ∧ ¬ T i ∧ h[i]? = some (.ins c gs) ∧ Dnf T h fs gs
def Dns (T : Nat → Prop) (h : Sh) : List P → List W → Prop
  | [], us => us = []
  | p :: ps, us => ∃ u r, us = u :: r ∧ Dn T h p u ∧ Dns T h ps r
def Dnf (T : Nat → Prop) (h : Sh) : List (Str × P) → List (Str × W) → Prop
  | [], us => us = []
  | p :: ps, us => ∃ u r, us = (p.1, u) :: r ∧ Dn T h p.2 u ∧ Dnf T h ps r
end
mutual
theorem Dn.mono {T T' : Nat → Prop} {h h' : Sh} (k : ∀ (i : Nat) (o : SO), ¬ T i → h[i]? = some o → h'[i]? = some o ∧ ¬ T' i) : ∀ (p : P) (w : W), Dn T h p w → Dn T' h' p w
  | .non, w, x => by simpa only [Dn] using x
  | .bl _, w, x => by simpa only [Dn] using x
  | .int _, w, x => by simpa only [Dn] using x
  | .str _, w, x => by simpa only [Dn] using x
  | .ty _, w, x => by simpa only [Dn] using x
  | .gl _, w, x => by simpa only [Dn] using x
  | .lst ps, w, x => by
    simp only [Dn] at x ⊢
    obtain ⟨i, us, e, t, g, d⟩ := x
    exact ⟨i, us, e, (k i _ t g).2, (k i _ t g).1, Dns.mono k ps us d⟩
  | .rol ps, w, x => by
    simp only [Dn] at x ⊢
    obtain ⟨i, us, e, t, g, d⟩ := x
    exact ⟨i, us, e, (k i _ t g).2, (k i _ t g).1, Dns.mono k ps us d⟩
  | .tup ps, w, x => by
    simp only [Dn] at x ⊢
    obtain ⟨i, us, e, t, g, d⟩ := x
    exact ⟨i, us, e, (k i _ t g).2, (k i _ t g).1, Dns.mono k ps us d⟩
  | .ins c fs, w, x => by
    simp only [Dn] at x ⊢
    obtain ⟨i, us, e, t, g, d⟩ := x
    exact ⟨i, us, e, (k i _ t g).2, (k i _ t g).1, Dnf.mono k fs us d⟩
theorem Dns.mono {T T' : Nat → Prop} {h h' : Sh} (k : ∀ (i : Nat) (o : SO), ¬ T i → h[i]? = some o → h'[i]? = some o ∧ ¬ T' i) : ∀ (ps : List P) (us : List W), Dns T h ps us → Dns T' h' ps us
  | [], us, x => by simpa only [Dns] using x
  | p :: ps, us, x => by
    simp only [Dns] at x ⊢
    obtain ⟨u, r, e, d, ds⟩ := x
    exact ⟨u, r, e, Dn.mono k p u d, Dns.mono k ps r ds⟩
theorem Dnf.mono {T T' : Nat → Prop} {h h' : Sh} (k : ∀ (i : Nat) (o : SO), ¬ T i → h[i]? = some o → h'[i]? = some o ∧ ¬ T' i) : ∀ (ps : List (Str × P)) (us : List (Str × W)), Dnf T h ps us → Dnf T' h' ps us
  | [], us, x => by simpa only [Dnf] using x
  | p :: ps, us, x => by
    simp only [Dnf] at x ⊢
    obtain ⟨u, r, e, d, ds⟩ := x
    exact ⟨u, r, e, Dn.mono k p.2 u d, Dnf.mono k ps r ds⟩
end
section
variable {T : Nat → Prop} {h l : Sh}
theorem sm {i : Nat} {o : SO} (e : h[i]? = some o) : (h ++ l)[i]? = some o := by
  rw [List.getElem?_append_left (List.getElem?_eq_some_iff.mp e).1]; exact e
theorem Dns.get : ∀ {ps : List P} {us : List W} {i : Nat} {p : P}, Dns T h ps us → ps[i]? = some p → ∃ u, us[i]? = some u ∧ Dn T h p u
  | [], us, i, p, x, e => by simp at e
  | q :: ps, us, 0, p, x, e => by
    simp only [Dns] at x
    obtain ⟨u, r, e1, d, ds⟩ := x
    simp at e; subst e
    exact ⟨u, by rw [e1]; rfl, d⟩
  | q :: ps, us, i + 1, p, x, e => by
    simp only [Dns] at x
    obtain ⟨u, r, e1, d, ds⟩ := x
    obtain ⟨v, a, b⟩ := Dns.get (i := i) ds (by simpa using e)
    exact ⟨v, by rw [e1]; simpa using a, b⟩
end
inductive Fv where
  | val (p : P) | own (xs : List P)
  deriving Inhabited
inductive Sl where
  | no | val (p : P) | own (xs : List P) | obj (c : Str) (fs : List (Str × Fv))
  deriving Inhabited
abbrev Dl := List Sl
inductive RS where
  | nx (d : Dl) | rt (p : P) | rx (p : P) (d : Dl) | ro (xs : List P) | bk (d : Dl) | ct (d : Dl) | er
inductive RF where
  | v (p : P) | o (xs : List P)
def RF.val : RF → P
  | .v p => p
  | .o xs => .lst xs
abbrev PE := Dl → Option P
abbrev PT := Dl → Option Bool
abbrev PA := Dl → Option (List P)
abbrev PS := Dl → RS
abbrev PF := List P → Option RF
def d8 (T : Nat → Prop) (h : Sh) : List (Str × Fv) → List (Str × W) → List Nat → Prop
  | [], gs, o => gs = [] ∧ o = []
  | (f, .val p) :: fs, gs, o => ∃ u r, gs = (f, u) :: r ∧ Dn T h p u ∧ d8 T h fs r o
  | (f, .own xs) :: fs, gs, o => ∃ a us r o', gs = (f, .ref a) :: r ∧ o = a :: o' ∧ h[a]? = some (.lst us) ∧ Dns T h xs us ∧ d8 T h fs r o'
def yX (T : Nat → Prop) (h : Sh) (w : Option W) (o : List Nat) : Sl → Prop
  | .no => o = []
  | .val p => o = [] ∧ ∃ u, w = some u ∧ Dn T h p u
  | .own xs => ∃ a us, o = [a] ∧ w = some (.ref a) ∧ h[a]? = some (.lst us) ∧ Dns T h xs us
  | .obj c fs => ∃ a gs o', o = a :: o' ∧ o.Nodup ∧ w = some (.ref a) ∧ h[a]? = some (.ins c gs) ∧ d8 T h fs gs o'
def Ow (O : List (List Nat)) (a : Nat) : Prop := ∃ l ∈ O, a ∈ l
theorem Ow.of {O : List (List Nat)} {i a : Nat} {l : List Nat} (e : O[i]? = some l) (m : a ∈ l) : Ow O a := ⟨l, List.mem_of_getElem? e, m⟩
theorem Ow.one {O : List (List Nat)} {i a : Nat} (e : O[i]? = some [a]) : Ow O a := Ow.of e List.mem_cons_self
theorem Ow.at_ {O : List (List Nat)} {a : Nat} (x : Ow O a) : ∃ (i : Nat) (l : List Nat), O[i]? = some l ∧ a ∈ l := by
  obtain ⟨l, m, h⟩ := x
  obtain ⟨i, e⟩ := List.mem_iff_getElem?.mp m
  exact ⟨i, l, e, h⟩
theorem Ow.set {O : List (List Nat)} {i a : Nat} {l : List Nat} (x : Ow (O.set i l) a) : Ow O a ∨ a ∈ l := by
  obtain ⟨k, m, z⟩ := x
  rcases List.mem_or_eq_of_mem_set m with q | q
  · exact .inl ⟨k, q, z⟩
  · subst q; exact .inr z
theorem Ow.none {m a : Nat} (x : Ow (List.replicate m []) a) : False := by
  obtain ⟨l, q, z⟩ := x
  rw [(List.mem_replicate.mp q).2] at z; cases z
theorem tD {O : List (List Nat)} {i : Nat} {a : Nat} {l : List Nat} (o : (O[i]?).getD [] = a :: l) : O[i]? = some (a :: l) := by
  cases q : O[i]? with
  | none => rw [q] at o; cases o
  | some z => rw [q] at o; exact congrArg some o
def Tb (B : Nat → Prop) (O : List (List Nat)) : Nat → Prop := fun i => B i ∨ Ow O i
structure Lo where
  at_ : Nat
  lent : Nat → Prop
  me : Option W
structure Env (n : Lo) (B : Nat → Prop) (O : List (List Nat)) (s : Sg) (h : Sh) (δ : Dl) : Prop where
  le : n.at_ ≤ h.length
  old : ∀ i, B i → i < n.at_ ∧ ¬ n.lent i
  ls : s.length = δ.length
  lo : O.length = δ.length
  one : ∀ (i j a : Nat) (l m : List Nat), O[i]? = some l → O[j]? = some m → a ∈ l → a ∈ m → i = j
  new : ∀ a, Ow O a → (n.at_ ≤ a ∨ n.lent a) ∧ a < h.length
  at_ : ∀ (i : Nat) (sl : Sl), δ[i]? = some sl → yX (Tb B O) h ((s[i]?).getD none) ((O[i]?).getD []) sl
  self : ∀ c fs w, δ[0]? = some (.obj c fs) → n.me = some w → s[0]? = some (some w)
section
variable {n : Lo} {B : Nat → Prop} {O : List (List Nat)} {s : Sg} {h l : Sh} {δ : Dl}
theorem d8.mv {T T' : Nat → Prop} {h h' : Sh} (k : ∀ (i : Nat) (u : SO), ¬ T i → h[i]? = some u → h'[i]? = some u ∧ ¬ T' i) : ∀ (fs : List (Str × Fv)) (gs : List (Str × W)) (o : List Nat), (∀ a ∈ o, ∀ u, h[a]? = some u → h'[a]? = some u) → d8 T h fs gs o → d8 T' h' fs gs o
  | [], gs, o, ko, x => by simpa only [d8] using x
  | (f, .val p) :: fs, gs, o, ko, x => by
    simp only [d8] at x ⊢
    obtain ⟨u, r, e, d, y⟩ := x
    exact ⟨u, r, e, Dn.mono k p u d, d8.mv k fs r o ko y⟩
  | (f, .own xs) :: fs, gs, o, ko, x => by
    simp only [d8] at x ⊢
    obtain ⟨a, us, r, o', e1, e2, g, d, y⟩ := x
    subst e2
    exact ⟨a, us, r, o', e1, rfl, ko a List.mem_cons_self _ g, Dns.mono k xs us d, d8.mv k fs r o' (fun b hb => ko b (List.mem_cons_of_mem _ hb)) y⟩
theorem yX.mv {T T' : Nat → Prop} {h h' : Sh} {w : Option W} {o : List Nat} {sl : Sl} (x : yX T h w o sl) (k : ∀ (i : Nat) (u : SO), ¬ T i → h[i]? = some u → h'[i]? = some u ∧ ¬ T' i) (ko : ∀ a ∈ o, ∀ u, h[a]? = some u → h'[a]? = some u) : yX T' h' w o sl := by
  cases sl with
  | no => exact x
  | val p => obtain ⟨a, u, b, d⟩ := x; exact ⟨a, u, b, Dn.mono k p u d⟩
  | own xs => obtain ⟨a, us, b, c, d, e⟩ := x; exact ⟨a, us, b, c, ko a (by rw [b]; exact List.mem_cons_self) _ d, Dns.mono k xs us e⟩
  | obj c fs =>
    obtain ⟨a, gs, o', e1, nd, e2, g, y⟩ := x
    exact ⟨a, gs, o', e1, nd, e2, ko a (by rw [e1]; exact List.mem_cons_self) _ g, d8.mv k fs gs o' (fun b hb => ko b (by rw [e1]; exact List.mem_cons_of_mem _ hb)) y⟩
theorem yX.app {T : Nat → Prop} {w : Option W} {o : List Nat} {sl : Sl} (x : yX T h w o sl) : yX T (h ++ l) w o sl := x.mv (fun _ _ t e => ⟨sm e, t⟩) fun _ _ _ e => sm e
theorem Env.app (E : Env n B O s h δ) : Env n B O s (h ++ l) δ :=
  ⟨by rw [List.length_append]; have := E.le; omega, E.old, E.ls, E.lo, E.one, fun a ha => ⟨(E.new a ha).1, by rw [List.length_append]; have := (E.new a ha).2; omega⟩, fun i sl e => (E.at_ i sl e).app, E.self⟩
theorem xl (E : Env n B O s h δ) (i : Nat) {x : Sl} {v : Option W} (hx : ∀ c fs, x ≠ .obj c fs) : ∀ c fs w, (δ.set i x)[0]? = some (.obj c fs) → n.me = some w → (s.set i v)[0]? = some (some w) := fun c fs w e m => by
  by_cases hi : i = 0
  · subst hi
    rw [List.getElem?_set] at e
    simp only [if_true] at e
    split at e
    · cases e; exact absurd rfl (hx c fs)
    · cases e
  · rw [List.getElem?_set_ne hi] at e ⊢; exact E.self c fs w e m
theorem xn (E : Env n B O s h δ) (i : Nat) {x : Sl} (hx : ∀ c fs, x ≠ .obj c fs) : ∀ c fs w, (δ.set i x)[0]? = some (.obj c fs) → n.me = some w → s[0]? = some (some w) := fun c fs w e m => by
  by_cases hi : i = 0
  · subst hi
    rw [List.getElem?_set] at e
    simp only [if_true] at e
    split at e
    · cases e; exact absurd rfl (hx c fs)
    · cases e
  · rw [List.getElem?_set_ne hi] at e; exact E.self c fs w e m
def Pe (d : DE) (p : PE) : Prop := ∀ n B O s h δ r, Env n B O s h δ → p δ = some r → ∃ w l, d s h = .ok w (h ++ l) ∧ Dn (Tb B O) (h ++ l) r w
def qz (T : Nat → Prop) (h : Sh) (p : P) (w : W) : Prop := Dn T h p w ∨ ∃ xs a us, p = .lst xs ∧ w = .ref a ∧ h[a]? = some (.lst us) ∧ Dns T h xs us
def Pb (d : DE) (p : PE) : Prop := ∀ n B O s h δ r, Env n B O s h δ → p δ = some r → ∃ w l, d s h = .ok w (h ++ l) ∧ qz (Tb B O) (h ++ l) r w
theorem Pe.b {d : DE} {p : PE} (x : Pe d p) : Pb d p := fun n B O s h δ r E e => by
  obtain ⟨w, l, a, b⟩ := x n B O s h δ r E e
  exact ⟨w, l, a, .inl b⟩
def Po (d : DE) (p : Dl → Option (List P)) : Prop := ∀ n B O s h δ r, Env n B O s h δ → p δ = some r → ∃ a l us, d s h = .ok (.ref a) (h ++ l) ∧ h.length ≤ a ∧ (h ++ l)[a]? = some (.lst us) ∧ Dns (fun i => Tb B O i ∨ i = a) (h ++ l) r us
theorem Dns.weak {T T' : Nat → Prop} {ps : List P} {us : List W} (x : Dns T h ps us) (k : ∀ i, T' i → T i) : Dns T' h ps us := Dns.mono (fun i o t e => ⟨e, fun z => t (k i z)⟩) ps us x
theorem Dn.weak {T T' : Nat → Prop} {p : P} {u : W} (x : Dn T h p u) (k : ∀ i, T' i → T i) : Dn T' h p u := Dn.mono (fun i o t e => ⟨e, fun z => t (k i z)⟩) p u x
theorem Tb.lt (E : Env n B O s h δ) {i : Nat} (t : Tb B O i) : i < h.length := by
  rcases t with t | t
  · exact Nat.lt_of_lt_of_le (E.old i t).1 E.le
  · exact (E.new i t).2
theorem Po.e {d : DE} {p : Dl → Option (List P)} (x : Po d p) : Pe d (fun δ => (p δ).map .lst) := fun n B O s h δ r E e => by
  have e : (p δ).map P.lst = some r := e
  cases q : p δ with
  | none => rw [q] at e; cases e
  | some xs =>
    rw [q] at e; cases e
    obtain ⟨a, l, us, e1, ge, g, ds⟩ := x n B O s h δ xs E q
    refine ⟨_, l, e1, ?_⟩
    simp only [Dn]
    exact ⟨a, us, rfl, fun t => absurd (Tb.lt E t) (by omega), g, ds.weak fun i t => .inl t⟩
def Pt (d : DT) (p : PT) : Prop := ∀ n B O s h δ r, Env n B O s h δ → p δ = some r → ∃ l, d s h = .ok r (h ++ l)
theorem qz.int {T : Nat → Prop} {i : Int} {w : W} (x : qz T h (.int i) w) : w = .int i := by
  rcases x with x | ⟨xs, a, us, e, _⟩
  · simpa only [Dn] using x
  · cases e
theorem qz.str {T : Nat → Prop} {i : Str} {w : W} (x : qz T h (.str i) w) : w = .str i := by
  rcases x with x | ⟨xs, a, us, e, _⟩
  · simpa only [Dn] using x
  · cases e
theorem qz.bl {T : Nat → Prop} {i : Bool} {w : W} (x : qz T h (.bl i) w) : w = .bl i := by
  rcases x with x | ⟨xs, a, us, e, _⟩
  · simpa only [Dn] using x
  · cases e
theorem qz.non {T : Nat → Prop} {w : W} (x : qz T h .non w) : w = .non := by
  rcases x with x | ⟨xs, a, us, e, _⟩
  · simpa only [Dn] using x
  · cases e
theorem qz.lst {T : Nat → Prop} {xs : List P} {w : W} (x : qz T h (.lst xs) w) : ∃ a us, w = .ref a ∧ h[a]? = some (.lst us) ∧ Dns T h xs us := by
  rcases x with x | ⟨ys, a, us, e, e2, g, d⟩
  · simp only [Dn] at x
    obtain ⟨i, us, e, _, g, d⟩ := x
    exact ⟨i, us, e, g, d⟩
  · cases e; exact ⟨a, us, e2, g, d⟩
theorem qz.rol {T : Nat → Prop} {xs : List P} {w : W} (x : qz T h (.rol xs) w) : ∃ a us, w = .ref a ∧ h[a]? = some (.rol us) ∧ Dns T h xs us := by
  rcases x with x | ⟨ys, a, us, e, e2, g, d⟩
  · simp only [Dn] at x
    obtain ⟨i, us, e, _, g, d⟩ := x
    exact ⟨i, us, e, g, d⟩
  · cases e
theorem qz.tup {T : Nat → Prop} {xs : List P} {w : W} (x : qz T h (.tup xs) w) : ∃ a us, w = .ref a ∧ ¬ T a ∧ h[a]? = some (.tup us) ∧ Dns T h xs us := by
  rcases x with x | ⟨ys, a, us, e, e2, g, d⟩
  · simp only [Dn] at x
    obtain ⟨i, us, e, t, g, d⟩ := x
    exact ⟨i, us, e, t, g, d⟩
  · cases e
def Fd : P → Option (List P)
  | .lst xs => some xs
  | .rol xs => some xs
  | .tup xs => some xs
  | _ => none
theorem qz.seq {T : Nat → Prop} {p : P} {xs : List P} {w : W} (x : qz T h p w) (e : Fd p = some xs) : ∃ us, cy h w = some us ∧ Dns T h xs us := by
  cases p with
  | lst ys => cases e; obtain ⟨a, us, rfl, g, d⟩ := x.lst; exact ⟨us, by simp [cy, bE, iy, g], d⟩
  | rol ys => cases e; obtain ⟨a, us, rfl, g, d⟩ := x.rol; exact ⟨us, by simp [cy, bE, iy, g], d⟩
  | tup ys => cases e; obtain ⟨a, us, rfl, _, g, d⟩ := x.tup; exact ⟨us, by simp [cy, bE, iy, g], d⟩
  | _ => cases e
end
end HL
namespace HL
open PySem (Str)
section
variable {n : Lo} {B : Nat → Prop} {O : List (List Nat)} {s : Sg} {h l : Sh} {δ : Dl}
def yT (T : Nat → Prop) (h : Sh) : List P → List W → Prop
  | [], us => us = []
  | p :: ps, us => ∃ u r, us = u :: r ∧ qz T h p u ∧ yT T h ps r
theorem yT.one {T : Nat → Prop} {p : P} {us : List W} (x : yT T h [p] us) : ∃ u, us = [u] ∧ qz T h p u := by
  obtain ⟨u, r, e, d, dr⟩ := x
  have : r = [] := dr
  subst this
  exact ⟨u, e, d⟩
theorem yT.two {T : Nat → Prop} {p q : P} {us : List W} (x : yT T h [p, q] us) : ∃ u v, us = [u, v] ∧ qz T h p u ∧ qz T h q v := by
  obtain ⟨u, r, e, d, dr⟩ := x
  obtain ⟨v, rfl, dv⟩ := dr.one
  exact ⟨u, v, e, d, dv⟩
end
end HL
namespace HL
open PySem (Str)
section
variable {n : Lo} {B : Nat → Prop} {O : List (List Nat)} {s : Sg} {h l : Sh} {δ : Dl}
abbrev PO := Dl → Option (Option Int)
def FC (T : Nat → Prop) (m : Nat) (h : Sh) (w : W) : RF → Prop
  | .v p => Dn T h p w
  | .o xs => ∃ a us, w = .ref a ∧ m ≤ a ∧ h[a]? = some (.lst us) ∧ Dns (fun i => T i ∨ i = a) h xs us
def Pf (f : Fn) (g : PF) : Prop := ∀ T h ws ps r, (∀ i, T i → i < h.length) → Dns T h ps ws → g ps = some r → ∃ w l, f ws h = .ok w (h ++ l) ∧ FC T h.length (h ++ l) w r
end
end HL
namespace HL
open PySem (Str)
section
variable {n : Lo} {B : Nat → Prop} {O O' O2 : List (List Nat)} {s : Sg} {h h' h2 l : Sh} {δ : Dl}
structure lj (O : List (List Nat)) (h : Sh) (O' : List (List Nat)) (h' : Sh) : Prop where
  le : h.length ≤ h'.length
  at_ : ∀ (i : Nat) (o : SO), h[i]? = some o → ¬ Ow O i → h'[i]? = some o ∧ ¬ Ow O' i
theorem lj.refl : lj O h O h := ⟨Nat.le_refl _, fun _ _ e m => ⟨e, m⟩⟩
theorem lj.app : lj O h O (h ++ l) := ⟨by simp, fun i o e m => ⟨sm e, m⟩⟩
def Kp (n : Lo) (h h' : Sh) : Prop := n.at_ ≤ h'.length ∧ ∀ (i : Nat) (o : SO), i < n.at_ → ¬ n.lent i → h[i]? = some o → h'[i]? = some o
theorem lj.kp (k : lj O h O' h') (E : Env n B O s h δ) : Kp n h h' := ⟨Nat.le_trans E.le k.le, fun i o hi hl e => (k.at_ i o e fun m => (E.new i m).1.elim (fun z => absurd z (by omega)) hl).1⟩
theorem eD {O : List (List Nat)} {i a : Nat} (m : Ow (O.set i []) a) : Ow O a := m.set.elim id fun z => by cases z
theorem tB {α : Type} {l : List (Option α)} {i j : Nat} {x : Option α} (ne : i ≠ j) : ((l.set i x)[j]?).getD none = (l[j]?).getD none := by rw [List.getElem?_set_ne ne]
theorem lK {O : List (List Nat)} {i j : Nat} {x : List Nat} (ne : i ≠ j) : ((O.set i x)[j]?).getD [] = (O[j]?).getD [] := by rw [List.getElem?_set_ne ne]
theorem yX.weak {T T' : Nat → Prop} {w : Option W} {o : List Nat} {sl : Sl} (x : yX T h w o sl) (k : ∀ (i : Nat) (u : SO), h[i]? = some u → T' i → T i) : yX T' h w o sl := x.mv (fun i o t e => ⟨e, fun z => t (k i o e z)⟩) fun _ _ _ e => e
theorem vi (E : Env n B O s h δ) (i : Nat) {m : List Nat} (hm : ∀ a ∈ m, ¬ Ow O a) : ∀ (j k a : Nat) (l l' : List Nat), (O.set i m)[j]? = some l → (O.set i m)[k]? = some l' → a ∈ l → a ∈ l' → j = k := fun j k a l l' e1 e2 m1 m2 => by
  rw [List.getElem?_set] at e1 e2
  split at e1
  · rename_i hj
    split at e1
    · cases e1
      split at e2
      · rename_i hk; rw [← hj, ← hk]
      · exact absurd (Ow.of e2 m2) (hm a m1)
    · cases e1
  · split at e2
    · split at e2
      · cases e2; exact absurd (Ow.of e1 m1) (hm a m2)
      · cases e2
    · exact E.one j k a l l' e1 e2 m1 m2
theorem lj.drop {i : Nat} : lj O h (O.set i []) h := ⟨Nat.le_refl _, fun j o e m => ⟨e, fun z => m (eD z)⟩⟩
theorem Env.own (E : Env n B O s h δ) (i : Nat) {a : Nat} {us : List W} {xs : List P} (ge : h.length ≤ a) (g : (h ++ l)[a]? = some (.lst us)) (d : Dns (fun j => Tb B O j ∨ j = a) (h ++ l) xs us) (hi : i < δ.length) :
    Env n B (O.set i [a]) (s.set i (some (.ref a))) (h ++ l) (δ.set i (.own xs)) where
  le := by rw [List.length_append]; have := E.le; omega
  old := E.old
  ls := by rw [List.length_set, List.length_set]; exact E.ls
  lo := by rw [List.length_set, List.length_set]; exact E.lo
  one := vi E i fun b z t => by rw [List.mem_singleton.mp z] at t; exact absurd (E.new a t).2 (by omega)
  new := fun b m => by
    rcases m.set with z | z
    · exact ⟨(E.new b z).1, by rw [List.length_append]; have := (E.new b z).2; omega⟩
    · rw [List.mem_singleton.mp z]; exact ⟨.inl (Nat.le_trans E.le ge), (List.getElem?_eq_some_iff.mp g).1⟩
  self := xl E i fun _ _ z => by cases z
  at_ := fun j sl e => by
    have tt : ∀ k, Tb B (O.set i [a]) k → Tb B O k ∨ k = a := fun k t => t.elim (fun z => .inl (.inl z)) fun m => by
      rcases m.set with z | z
      · exact .inl (.inr z)
      · exact .inr (List.mem_singleton.mp z)
    by_cases hj : i = j
    · subst hj
      rw [List.getElem?_set_self hi] at e
      cases e
      refine ⟨a, us, ?_, ?_, g, d.weak fun k t => tt k t⟩
      · rw [List.getElem?_set_self (by rw [E.lo]; exact hi)]; rfl
      · rw [List.getElem?_set_self (by rw [E.ls]; exact hi)]; rfl
    · rw [List.getElem?_set_ne hj] at e
      rw [tB hj, lK hj]
      exact ((E.at_ j sl e).weak (T' := Tb B (O.set i [a])) (fun k u ek t => by
        rcases tt k t with z | z
        · exact z
        · have := (List.getElem?_eq_some_iff.mp ek).1; omega)).app
theorem lj.owned {i a : Nat} (ge : h.length ≤ a) : lj O h (O.set i [a]) (h ++ l) := ⟨by simp, fun j o e m => ⟨sm e, fun z => by
  rcases z.set with q | q
  · exact m q
  · rw [List.mem_singleton.mp q] at e; have := (List.getElem?_eq_some_iff.mp e).1; omega⟩⟩
def frz (i : Nat) (δ : Dl) : Dl := match δ[i]? with
  | some (.own xs) => δ.set i (.val (.lst xs))
  | _ => δ
theorem vj {i a : Nat} (w : (s[i]?).getD none = some (.ref a)) : s[i]? = some (some (.ref a)) := by
  cases q2 : s[i]? with
  | none => rw [q2] at w; cases w
  | some z => rw [q2] at w; exact congrArg some w
theorem Env.frz (E : Env n B O s h δ) (i : Nat) : ∃ O', Env n B O' s h (frz i δ) ∧ lj O h O' h := by
  unfold HL.frz
  split
  · rename_i xs q
    refine ⟨O.set i [], ?_, lj.drop⟩
    obtain ⟨a, us, o, w, g, d⟩ := E.at_ i _ q
    have hi : i < δ.length := (List.getElem?_eq_some_iff.mp q).1
    have hoa := tD o
    have hsw := vj w
    have nt : ∀ k, Tb B (O.set i []) k → Tb B O k := fun k t => t.elim .inl fun m => .inr (eD m)
    have na : ¬ Tb B (O.set i []) a := fun t => by
      rcases t with t | t
      · have z1 := E.old a t
        rcases (E.new a (Ow.one hoa)).1 with z | z
        · omega
        · exact z1.2 z
      · obtain ⟨j, l, hj, ml⟩ := t.at_
        rw [List.getElem?_set] at hj
        split at hj
        · split at hj
          · cases hj; cases ml
          · cases hj
        · rename_i ne; exact ne (E.one i j a _ _ hoa hj List.mem_cons_self ml)
    exact {
      le := E.le
      old := E.old
      ls := by rw [List.length_set]; exact E.ls
      lo := by rw [List.length_set, List.length_set]; exact E.lo
      one := vi E i fun _ z => by cases z
      new := fun b m => E.new b (eD m)
      self := xn E i fun _ _ z => by cases z
      at_ := fun j sl e => by
        by_cases hj : i = j
        · subst hj
          rw [List.getElem?_set_self hi] at e
          cases e
          refine ⟨by rw [List.getElem?_set_self (by rw [E.lo]; exact hi)]; rfl, .ref a, by rw [hsw]; rfl, ?_⟩
          simp only [Dn]
          exact ⟨a, us, rfl, na, g, d.weak nt⟩
        · rw [List.getElem?_set_ne hj] at e
          rw [lK hj]
          exact (E.at_ j sl e).weak fun k _ _ t => nt k t }
  · exact ⟨O, E, lj.refl⟩
end
end HL
namespace HL
open PySem (Str)
section
variable {n : Lo} {B : Nat → Prop} {O O' O2 : List (List Nat)} {s : Sg} {h h' h2 l : Sh} {δ : Dl}
theorem j1 {a : Nat} {o u : SO} {k : Nat} (e : h[k]? = some u) (ne : a ≠ k) : (h.set a o)[k]? = some u := by rw [List.getElem?_set_ne ne]; exact e
abbrev PG := P → Dl → Option Dl
abbrev PI := Dl → Option (List P)
end
end HL
namespace HL
open PySem (Str)
section
variable {n : Lo} {B : Nat → Prop} {O O' : List (List Nat)} {s : Sg} {h h' h2 l : Sh} {δ : Dl}
def lent : List P → List W → Nat → Prop
  | _ :: ps, w :: ws, i => w = .ref i ∨ lent ps ws i
  | _, _, _ => False
end
end HL
namespace HL
open PySem (Str)
abbrev Gx (i j : Int) : Bool := decide (i < j)
abbrev Gy (i j : Int) : Bool := decide (i ≤ j)
abbrev Gz (i j : Int) : Bool := decide (j < i)
abbrev GA (i j : Int) : Bool := decide (j ≤ i)
section
variable {h l : Sh}
end
end HL
namespace HL
open PySem (Str)
end HL
namespace HL
mutual
theorem D.eq_rfl : ∀ d : D, D.eq d d = true
  | .non => by simp only [D.eq]
  | .bl b => by simp only [D.eq, beq_self_eq_true]
  | .int i => by simp only [D.eq, beq_self_eq_true]
  | .str s => by simp only [D.eq, beq_self_eq_true]
  | .lst xs => by simp only [D.eq]; exact D.eqs_rfl xs
  | .tup xs => by simp only [D.eq]; exact D.eqs_rfl xs
theorem D.eqs_rfl : ∀ xs : List D, D.eqs xs xs = true
  | [] => by simp only [D.eqs, List.isEmpty_nil]
  | x :: xs => by simp only [D.eqs, D.eq_rfl x, D.eqs_rfl xs, Bool.and_self]
end
end HL
namespace HL
open PySem (Str)
section
variable {n : Lo} {B : Nat → Prop} {O O' O2 : List (List Nat)} {s : Sg} {h h' h2 l : Sh} {δ : Dl}
theorem Dnf.get {T : Nat → Prop} {f : Str} {p : P} : ∀ {fs : List (Str × P)} {gs : List (Str × W)}, Dnf T h fs gs → fs.lookup f = some p → ∃ w, gs.lookup f = some w ∧ Dn T h p w
  | [], gs, x, e => by cases e
  | (g, q) :: fs, gs, x, e => by
    simp only [Dnf] at x
    obtain ⟨u, r, rfl, d, ds⟩ := x
    by_cases z : f = g
    · subst z
      simp only [List.lookup, beq_self_eq_true, Option.some.injEq] at e
      subst e
      exact ⟨u, by simp only [List.lookup, beq_self_eq_true], d⟩
    · have zb : (f == g) = false := by simpa using z
      simp only [List.lookup, zb] at e
      obtain ⟨w, a, b⟩ := Dnf.get ds e
      exact ⟨w, by simp only [List.lookup, zb]; exact a, b⟩
def FX (tb : List (Str × Fn)) (pt : List (Str × PF)) : Prop := ∀ c g, pt.lookup c = some g → ∃ f, tb.lookup c = some f ∧ Pf f g
theorem FX.nil : FX [] [] := fun c g e => by cases e
theorem Dnf.zip {T : Nat → Prop} : ∀ (ns : List Str) (xs : List P) (us : List W), Dns T h xs us → Dnf T h (ns.zip xs) (ns.zip us)
  | [], xs, us, d => by simp only [List.zip_nil_left, Dnf]
  | f :: ns, [], us, d => by simp only [Dns] at d; rw [d]; simp only [List.zip_nil_right, Dnf]
  | f :: ns, x :: xs, us, d => by
    simp only [Dns] at d
    obtain ⟨u, r, rfl, d1, d2⟩ := d
    simp only [List.zip_cons_cons, Dnf]
    exact ⟨u, _, rfl, d1, Dnf.zip ns xs r d2⟩
end
end HL
namespace HL
open PySem (Str)
section
variable {n : Lo} {B : Nat → Prop} {O O' : List (List Nat)} {s : Sg} {h h' h2 l : Sh} {δ : Dl}
abbrev PX := Dl → Option (P × Dl)
def Px (d : DE) (p : PX) : Prop := ∀ n B O s h δ r δ', Env n B O s h δ → p δ = some (r, δ') → ∃ w O' h', d s h = .ok w h' ∧ Env n B O' s h' δ' ∧ lj O h O' h' ∧ Dn (Tb B O') h' r w
def FT (p : PE) : PX := fun δ => (p δ).map fun r => (r, δ)
theorem Pe.x {d : DE} {p : PE} (x : Pe d p) : Px d (FT p) := fun n B O s h δ r δ' E e => by
  unfold FT at e
  cases e1 : p δ with
  | none => rw [e1] at e; cases e
  | some q =>
    rw [e1] at e; cases e
    obtain ⟨w, l, c, d⟩ := x n B O s h δ _ E e1
    exact ⟨w, O, h ++ l, c, E.app, lj.app, d⟩
abbrev FY := Dl → Option (Bool × Dl)
def Gj (d : DT) (p : FY) : Prop := ∀ n B O s h δ r δ', Env n B O s h δ → p δ = some (r, δ') → ∃ O' h', d s h = .ok r h' ∧ Env n B O' s h' δ' ∧ lj O h O' h'
def FR (p : PT) : FY := fun δ => (p δ).map fun r => (r, δ)
theorem Pt.x {d : DT} {p : PT} (x : Pt d p) : Gj d (FR p) := fun n B O s h δ r δ' E e => by
  unfold FR at e
  cases e1 : p δ with
  | none => rw [e1] at e; cases e
  | some q =>
    rw [e1] at e; cases e
    obtain ⟨l, c⟩ := x n B O s h δ _ E e1
    exact ⟨O, h ++ l, c, E.app, lj.app⟩
end
end HL
namespace HL
open PySem (Str)
section
variable {n : Lo} {B : Nat → Prop} {O O' : List (List Nat)} {s : Sg} {h h' h2 l : Sh} {δ : Dl}
abbrev PM := List (Str × Fv) → List P → Option (P × List (Str × Fv))
def Ad (T : Nat → Prop) (o : List Nat) : Nat → Prop := fun i => T i ∨ i ∈ o
theorem d8.lt {T : Nat → Prop} : ∀ {fs : List (Str × Fv)} {gs : List (Str × W)} {o : List Nat}, d8 T h fs gs o → ∀ i ∈ o, i < h.length
  | [], gs, o, x, i, hi => by simp only [d8] at x; rw [x.2] at hi; cases hi
  | (f, .val p) :: fs, gs, o, x, i, hi => by
    simp only [d8] at x
    obtain ⟨u, r, e, d, y⟩ := x
    exact d8.lt y i hi
  | (f, .own xs) :: fs, gs, o, x, i, hi => by
    simp only [d8] at x
    obtain ⟨a, us, r, o', e1, e2, g, d, y⟩ := x
    subst e2
    rcases List.mem_cons.mp hi with z | z
    · rw [z]; exact (List.getElem?_eq_some_iff.mp g).1
    · exact d8.lt y i z
theorem d8.weak {T T' : Nat → Prop} {fs : List (Str × Fv)} {gs : List (Str × W)} {o : List Nat} (x : d8 T h fs gs o) (k : ∀ i, T' i → T i) : d8 T' h fs gs o := d8.mv (fun i u t e => ⟨e, fun z => t (k i z)⟩) fs gs o (fun _ _ _ e => e) x
theorem d8.no {T : Nat → Prop} {f : Str} : ∀ {fs : List (Str × Fv)} {gs : List (Str × W)} {o : List Nat}, d8 T h fs gs o → fs.lookup f = none → gs.lookup f = none
  | [], gs, o, x, e => by simp only [d8] at x; rw [x.1]; rfl
  | (g, .val q) :: fs, gs, o, x, e => by
    simp only [d8] at x
    obtain ⟨u, r, rfl, d, ds⟩ := x
    by_cases z : f = g
    · subst z; simp only [List.lookup, beq_self_eq_true, reduceCtorEq] at e
    · have zb : (f == g) = false := by simpa using z
      simp only [List.lookup, zb] at e ⊢
      exact d8.no ds e
  | (g, .own q) :: fs, gs, o, x, e => by
    simp only [d8] at x
    obtain ⟨a, us, r, o', rfl, _, _, d, ds⟩ := x
    by_cases z : f = g
    · subst z; simp only [List.lookup, beq_self_eq_true, reduceCtorEq] at e
    · have zb : (f == g) = false := by simpa using z
      simp only [List.lookup, zb] at e ⊢
      exact d8.no ds e
theorem Env.at_obj (E : Env n B O s h δ) {i : Nat} {c : Str} {fs : List (Str × Fv)} (q : δ[i]? = some (.obj c fs)) : ∃ a gs o, O[i]? = some (a :: o) ∧ (a :: o).Nodup ∧ s[i]? = some (some (.ref a)) ∧ h[a]? = some (.ins c gs) ∧ d8 (Tb B O) h fs gs o := by
  obtain ⟨a, gs, o, e, nd, w, g, d⟩ := E.at_ i _ q
  rw [e] at nd
  exact ⟨a, gs, o, tD e, nd, vj w, g, d⟩
theorem Env.obj (E : Env n B O s h δ) {i a : Nat} {c : Str} {fs fs' : List (Str × Fv)} {o o' : List Nat} {gs' : List (Str × W)} (q : δ[i]? = some (.obj c fs)) (hoa : O[i]? = some (a :: o)) (hsw : s[i]? = some (some (.ref a)))
    (le : h.length ≤ h'.length) (fr : ∀ (k : Nat) (u : SO), k ∉ a :: o → h[k]? = some u → h'[k]? = some u) (g : h'[a]? = some (.ins c gs')) (nd : (a :: o').Nodup) (nw : ∀ k ∈ o', k ∈ o ∨ h.length ≤ k)
    (d : d8 (Ad (fun k => B k ∨ Ow (O.set i []) k) (a :: o')) h' fs' gs' o') : Env n B (O.set i (a :: o')) s h' (δ.set i (.obj c fs')) ∧ lj O h (O.set i (a :: o')) h' ∧ ∀ k, Tb B (O.set i (a :: o')) k → Ad (fun k => B k ∨ Ow (O.set i []) k) (a :: o') k := by
  have hi : i < δ.length := (List.getElem?_eq_some_iff.mp q).1
  have es : O.set i (a :: o') = (O.set i []).set i (a :: o') := by rw [List.set_set]
  have tb : ∀ k, Tb B (O.set i (a :: o')) k → Ad (fun k => B k ∨ Ow (O.set i []) k) (a :: o') k := fun k t => by
    rcases t with t | t
    · exact .inl (.inl t)
    · rw [es] at t
      rcases t.set with z | z
      · exact .inl (.inr z)
      · exact .inr z
  have oa : Ow O a := Ow.of hoa List.mem_cons_self
  have nk : ∀ (k : Nat) (u : SO), ¬ Ow O k → h[k]? = some u → ¬ Ow (O.set i (a :: o')) k := fun k u t e z => by
    rw [es] at z
    rcases z.set with z | z
    · exact t (eD z)
    · rcases List.mem_cons.mp z with z | z
      · rw [z] at t; exact t oa
      · rcases nw k z with z | z
        · exact t (Ow.of hoa (List.mem_cons_of_mem _ z))
        · have := (List.getElem?_eq_some_iff.mp e).1; omega
  have nm : ∀ k, ¬ Ow O k → k ∉ a :: o := fun k t z => t (Ow.of hoa z)
  refine ⟨?_, ⟨le, fun k u e t => ⟨fr k u (nm k t) e, nk k u t e⟩⟩, tb⟩
  exact {
    le := Nat.le_trans E.le le
    old := E.old
    ls := by rw [List.length_set]; exact E.ls
    lo := by rw [List.length_set, List.length_set]; exact E.lo
    one := fun j k b l m e1 e2 m1 m2 => by
      have key : ∀ (k : Nat) (l : List Nat), i ≠ k → (O.set i (a :: o'))[k]? = some l → ∀ b ∈ l, b ∉ a :: o' := fun k l ne e b hb z => by
        rw [List.getElem?_set_ne ne] at e
        rcases List.mem_cons.mp z with z | z
        · exact ne (E.one i k a _ _ hoa e List.mem_cons_self (z ▸ hb))
        · rcases nw b z with z | z
          · exact ne (E.one i k b _ _ hoa e (List.mem_cons_of_mem _ z) hb)
          · have := (E.new b (Ow.of e hb)).2; omega
      have self : ∀ (l : List Nat), (O.set i (a :: o'))[i]? = some l → l = a :: o' := fun l e => by
        rw [List.getElem?_set_self (by rw [E.lo]; exact hi)] at e; cases e; rfl
      by_cases hj : i = j
      · by_cases hk : i = k
        · rw [← hj, ← hk]
        · subst hj
          rw [self l e1] at m1
          exact absurd m1 (key k m hk e2 b m2)
      · by_cases hk : i = k
        · subst hk
          rw [self m e2] at m2
          exact absurd m2 (key j l hj e1 b m1)
        · rw [List.getElem?_set_ne hj] at e1
          rw [List.getElem?_set_ne hk] at e2
          exact E.one j k b l m e1 e2 m1 m2
    new := fun b m => by
      rw [es] at m
      rcases m.set with z | z
      · have := E.new b (eD z); exact ⟨this.1, by omega⟩
      · rcases List.mem_cons.mp z with z | z
        · rw [z]; have := E.new a oa; exact ⟨this.1, by omega⟩
        · refine ⟨?_, d.lt b z⟩
          rcases nw b z with z | z
          · exact (E.new b (Ow.of hoa (List.mem_cons_of_mem _ z))).1
          · exact .inl (Nat.le_trans E.le z)
    self := fun c2 f2 w e m => by
      by_cases hi0 : i = 0
      · subst hi0; exact E.self c fs w q m
      · rw [List.getElem?_set_ne hi0] at e; exact E.self c2 f2 w e m
    at_ := fun j sl e => by
      by_cases hj : i = j
      · subst hj
        rw [List.getElem?_set_self hi] at e
        cases e
        refine ⟨a, gs', o', ?_, ?_, by rw [hsw]; rfl, g, d.weak tb⟩
        · rw [List.getElem?_set_self (by rw [E.lo]; exact hi)]; rfl
        · rw [List.getElem?_set_self (by rw [E.lo]; exact hi)]; exact nd
      · rw [List.getElem?_set_ne hj] at e
        rw [lK hj]
        refine (E.at_ j sl e).mv (fun k u t ek => ⟨fr k u (nm k fun z => t (.inr z)) ek, fun z => z.elim (fun z => t (.inl z)) fun z => nk k u (fun z => t (.inr z)) ek z⟩) fun b hb u eb => fr b u (fun z => ?_) eb
        cases q2 : O[j]? with
        | none => rw [q2] at hb; cases hb
        | some y => rw [q2] at hb; exact hj (E.one i j b _ _ hoa q2 z hb) }
end
end HL
namespace HL
open PySem (Str)
section
variable {n : Lo} {B : Nat → Prop} {O O' : List (List Nat)} {s : Sg} {h h' h2 l : Sh} {δ : Dl}
end
end HL
namespace HL
open PySem (Str)
section
variable {n : Lo} {B : Nat → Prop} {O O' : List (List Nat)} {s : Sg} {h h' h2 l : Sh} {δ : Dl} {T : Nat → Prop}
theorem d8.val {f : Str} {p : P} : ∀ {fs : List (Str × Fv)} {gs : List (Str × W)} {o : List Nat}, d8 T h fs gs o → fs.lookup f = some (.val p) → ∃ w, gs.lookup f = some w ∧ Dn T h p w
  | [], gs, o, x, e => by cases e
  | (g, .val q) :: fs, gs, o, x, e => by
    simp only [d8] at x
    obtain ⟨u, r, rfl, d, ds⟩ := x
    by_cases z : f = g
    · subst z
      simp only [List.lookup, beq_self_eq_true, Option.some.injEq, Fv.val.injEq] at e ⊢
      subst e; exact ⟨u, rfl, d⟩
    · have zb : (f == g) = false := by simpa using z
      simp only [List.lookup, zb] at e ⊢
      exact d8.val ds e
  | (g, .own q) :: fs, gs, o, x, e => by
    simp only [d8] at x
    obtain ⟨a, us, r, o', rfl, _, _, d, ds⟩ := x
    by_cases z : f = g
    · subst z
      simp only [List.lookup, beq_self_eq_true, Option.some.injEq, reduceCtorEq] at e
    · have zb : (f == g) = false := by simpa using z
      simp only [List.lookup, zb] at e ⊢
      exact d8.val ds e
def sT (f : Str) (v : Fv) : List (Str × Fv) → List (Str × Fv)
  | [] => [(f, v)]
  | (g, x) :: r => if g = f then (g, v) :: r else (g, x) :: sT f v r
theorem d8.own {f : Str} {xs : List P} : ∀ {fs : List (Str × Fv)} {gs : List (Str × W)} {o : List Nat}, d8 T h fs gs o → fs.lookup f = some (.own xs) → ∃ b us, gs.lookup f = some (.ref b) ∧ b ∈ o ∧ h[b]? = some (.lst us) ∧ Dns T h xs us ∧
      ∀ ys vs, Dns T h ys vs → T b → o.Nodup → d8 T (h.set b (.lst vs)) (sT f (.own ys) fs) gs o
  | [], gs, o, x, e => by cases e
  | (g, .val q) :: fs, gs, o, x, e => by
    simp only [d8] at x
    obtain ⟨u, r, rfl, d, ds⟩ := x
    by_cases z : f = g
    · subst z
      simp only [List.lookup, beq_self_eq_true, Option.some.injEq, reduceCtorEq] at e
    · have zb : (f == g) = false := by simpa using z
      simp only [List.lookup, zb] at e ⊢
      obtain ⟨b, us, e1, mb, gb, db, k⟩ := d8.own ds e
      refine ⟨b, us, e1, mb, gb, db, fun ys vs dy tb nd => ?_⟩
      unfold sT
      rw [if_neg (fun q => z q.symm)]
      simp only [d8]
      exact ⟨u, r, rfl, Dn.mono (fun i o t e => ⟨j1 e (fun q => t (q ▸ tb)), t⟩) q u d, k ys vs dy tb nd⟩
  | (g, .own q) :: fs, gs, o, x, e => by
    simp only [d8] at x
    obtain ⟨a, us, r, o', rfl, rfl, ga, d, ds⟩ := x
    by_cases z : f = g
    · subst z
      simp only [List.lookup, beq_self_eq_true, Option.some.injEq, Fv.own.injEq] at e ⊢
      subst e
      refine ⟨a, us, rfl, List.mem_cons_self, ga, d, fun ys vs dy tb nd => ?_⟩
      unfold sT
      rw [if_pos rfl]
      simp only [d8]
      have mv : ∀ (i : Nat) (o : SO), ¬ T i → h[i]? = some o → (h.set a (.lst vs))[i]? = some o ∧ ¬ T i := fun i o t e => ⟨j1 e (fun q => t (q ▸ tb)), t⟩
      exact ⟨a, vs, r, o', rfl, rfl, List.getElem?_set_self (List.getElem?_eq_some_iff.mp ga).1, Dns.mono mv ys vs dy, d8.mv mv fs r o' (fun i hi u e => j1 e (fun q => (List.nodup_cons.mp nd).1 (q ▸ hi))) ds⟩
    · have zb : (f == g) = false := by simpa using z
      simp only [List.lookup, zb] at e ⊢
      obtain ⟨b, us2, e1, mb, gb, db, k⟩ := d8.own ds e
      refine ⟨b, us2, e1, List.mem_cons_of_mem _ mb, gb, db, fun ys vs dy tb nd => ?_⟩
      unfold sT
      rw [if_neg (fun q => z q.symm)]
      simp only [d8]
      have nd' := List.nodup_cons.mp nd
      exact ⟨a, us, r, o', rfl, rfl, j1 ga (fun q => nd'.1 (q ▸ mb)), Dns.mono (fun i o t e => ⟨j1 e (fun q => t (q ▸ tb)), t⟩) q us d, k ys vs dy tb nd'.2⟩
theorem d8.len : ∀ {fs : List (Str × Fv)} {gs : List (Str × W)} {o : List Nat}, d8 T h fs gs o → gs.length = fs.length
  | [], gs, o, x => by simp only [d8] at x; rw [x.1]; rfl
  | (g, .val q) :: fs, gs, o, x => by
    simp only [d8] at x
    obtain ⟨u, r, rfl, d, ds⟩ := x
    rw [List.length_cons, List.length_cons, d8.len ds]
  | (g, .own q) :: fs, gs, o, x => by
    simp only [d8] at x
    obtain ⟨a, us, r, o', rfl, rfl, ga, d, ds⟩ := x
    rw [List.length_cons, List.length_cons, d8.len ds]
end
end HL
namespace HL
open PySem (Str)
section
variable {n : Lo} {B : Nat → Prop} {O O' : List (List Nat)} {s : Sg} {h h' h2 l : Sh} {δ : Dl} {T : Nat → Prop}
end
end HL
namespace HL
open PySem (Str)
section
variable {n : Lo} {B : Nat → Prop} {O O' : List (List Nat)} {s : Sg} {h h' h2 l : Sh} {δ : Dl} {T : Nat → Prop}
def FU : Fv → P
  | .val p => p
  | .own xs => .lst xs
def yn (fs : List (Str × Fv)) : List (Str × P) := fs.map fun x => (x.1, FU x.2)
theorem d8.look {T' : Nat → Prop} (sub : ∀ k, T' k → T k) : ∀ {fs : List (Str × Fv)} {gs : List (Str × W)} {o : List Nat}, d8 T h fs gs o → (∀ k ∈ o, ¬ T' k) → Dnf T' h (yn fs) gs
  | [], gs, o, x, no => by simp only [d8] at x; rw [x.1]; simp only [yn, List.map_nil, Dnf]
  | (f, .val p) :: fs, gs, o, x, no => by
    simp only [d8] at x
    obtain ⟨u, r, rfl, d, y⟩ := x
    simp only [yn, List.map_cons, Dnf]
    exact ⟨u, r, rfl, d.weak sub, d8.look sub y no⟩
  | (f, .own xs) :: fs, gs, o, x, no => by
    simp only [d8] at x
    obtain ⟨a, us, r, o', rfl, rfl, g, d, y⟩ := x
    simp only [yn, List.map_cons, Dnf]
    refine ⟨.ref a, r, rfl, ?_, d8.look sub y fun k hk => no k (List.mem_cons_of_mem _ hk)⟩
    simp only [FU, Dn]
    exact ⟨a, us, rfl, no a List.mem_cons_self, g, d.weak sub⟩
theorem Env.apart (E : Env n B O s h δ) {i : Nat} {m : List Nat} (hoa : O[i]? = some m) : ∀ k ∈ m, ¬ (B k ∨ Ow (O.set i []) k) := fun k hk t => by
  rcases t with t | t
  · have z1 := E.old k t
    rcases (E.new k (Ow.of hoa hk)).1 with z | z
    · omega
    · exact z1.2 z
  · obtain ⟨j, l, hj, ml⟩ := t.at_
    rw [List.getElem?_set] at hj
    split at hj
    · split at hj
      · cases hj; cases ml
      · cases hj
    · rename_i ne; exact ne (E.one i j k _ _ hoa hj hk ml)
theorem Env.look (E : Env n B O s h δ) {i : Nat} {c : Str} {fs : List (Str × Fv)} (q : δ[i]? = some (.obj c fs)) : ∃ a, s[i]? = some (some (.ref a)) ∧ (∃ gs, h[a]? = some (.ins c gs) ∧ (∀ m, fs.lookup m = none → gs.lookup m = none)) ∧ Dn (fun k => B k ∨ Ow (O.set i []) k) h (.ins c (yn fs)) (.ref a) := by
  obtain ⟨a, gs, o, hoa, nd, hsw, g, d⟩ := E.at_obj q
  have ap := E.apart hoa
  refine ⟨a, hsw, ⟨gs, g, fun m e => d.no e⟩, ?_⟩
  simp only [Dn]
  exact ⟨a, gs, rfl, ap a List.mem_cons_self, g, d.look (fun k t => t.imp id eD) fun k hk => ap k (List.mem_cons_of_mem _ hk)⟩
def tu : Fv → Bool
  | .own _ => true
  | .val _ => false
def shape (fs : List (Str × Fv)) : List Bool := fs.map fun x => tu x.2
theorem d8.same {T' : Nat → Prop} : ∀ {fs fs' : List (Str × Fv)} {gs : List (Str × W)} {o o' : List Nat}, d8 T h fs gs o → d8 T' h' fs' gs o' → shape fs' = shape fs → o' = o
  | [], [], gs, o, o', x, y, e => by simp only [d8] at x y; rw [x.2, y.2]
  | [], _ :: _, gs, o, o', x, y, e => by simp [shape] at e
  | _ :: _, [], gs, o, o', x, y, e => by simp [shape] at e
  | (f, .val p) :: fs, (f', .val p') :: fs', gs, o, o', x, y, e => by
    simp only [d8] at x y
    obtain ⟨u, r, rfl, d, x⟩ := x
    obtain ⟨u', r', e1, d', y⟩ := y
    cases e1
    exact d8.same x y (by simpa [shape, tu] using e)
  | (f, .own p) :: fs, (f', .own p') :: fs', gs, o, o', x, y, e => by
    simp only [d8] at x y
    obtain ⟨a, us, r, o1, rfl, rfl, g, d, x⟩ := x
    obtain ⟨a', us', r', o1', e1, rfl, g', d', y⟩ := y
    cases e1
    rw [d8.same x y (by simpa [shape, tu] using e)]
  | (f, .val p) :: fs, (f', .own p') :: fs', gs, o, o', x, y, e => by simp [shape, tu] at e
  | (f, .own p) :: fs, (f', .val p') :: fs', gs, o, o', x, y, e => by simp [shape, tu] at e
end
end HL
namespace HL
open PySem (Str)
section
variable {n : Lo} {B : Nat → Prop} {O O' O2 : List (List Nat)} {s : Sg} {h h' h2 l : Sh} {δ : Dl}
end
end HL
namespace L2
open PySem PySem.Spec PyProof.Rows
open HL (W SO Sh Sg OR DE DT DA DS Fn)
structure GC (K : PySem.W.Frag) (mg : Str → Option Value) (x : Str) (C : Addr) : Prop where
  at_ : mg x = some (.ref C)
  makes : PySem.W.makesIn K C = true
  init : PySem.W.findIn K (.ref C) "__init__" = some (some (.builtin "object.__init__"))
  kp : PySem.W.keepIn K (.ref C) = true
section
variable {X : Cx} {γ : Str → Addr} {a b c e o f : Expr} {es : List Expr} {da db dc de d1 d2 : DE} {pos pos' apos cpos : Pos}
def Ez : List (Str × Int) → List DictEntry → Prop
  | [], [] => True
  | (k, i) :: r, e :: es => (∃ t, e.key = .str k t) ∧ (∃ t, e.val = .int i t) ∧ Ez r es
  | _, _ => False
structure Gr (K : PySem.W.Frag) (mg : Str → Option Value) (w : World) (x : Str) (tb : List (Str × Int)) : Prop where
  ex : ∃ D es n, mg x = some (.ref D) ∧ K.lookup D = some { cls := .type "dict", data := .dict es n } ∧ PySem.W.KeysLit w.params es.toList ∧ (D == sysModules) = false ∧ Ez tb es.toList
end
def gm (mg : Str → Option Value) (x : Str) : Addr := match mg x with
  | some (.ref a) => a
  | _ => 0
theorem aP {mg : Str → Option Value} {x : Str} {C : Addr} (h : mg x = some (.ref C)) : gm mg x = C := by unfold gm; rw [h]
def D8 (K : PySem.W.Frag) (cs : List (Str × Addr × List W)) : Bool :=
  (cs.all fun p => cs.all fun q => PySem.W.kitOne K (.ref p.2.1) (.ref q.2.1) == some (p.2.2.contains (.gl q.1))) &&
  (cs.all fun p => HL.tX.all fun b => PySem.W.kitOne K (.ref p.2.1) (.type b) == some (p.2.2.contains (.ty b))) &&
  (cs.all fun q => ("NoneType" :: HL.tX).all fun a => PySem.W.kitOne K (.type a) (.ref q.2.1) == some false) &&
  cs.all fun p => !(p.2.2.contains (.ty "ValueError"))
theorem pU {α : Type} {c : Str} {l : α} : ∀ {T : List (Str × α)}, T.lookup c = some l → (c, l) ∈ T
  | [], e => by cases e
  | (d, m) :: T, e => by
    by_cases z : c = d
    · subst z
      simp only [List.lookup, beq_self_eq_true, Option.some.injEq] at e
      subst e; exact List.mem_cons_self
    · have zb : (c == d) = false := by simpa using z
      simp only [List.lookup, zb] at e
      exact List.mem_cons_of_mem _ (pU e)
theorem D7 {K : PySem.W.Frag} {γ : Str → Addr} {cs : List (Str × Addr × List W)} (hγ : ∀ p ∈ cs, γ p.1 = p.2.1) (hi : ∀ p ∈ cs, vL K p.2.1) (hb : D8 K cs = true) : oJ K γ (cs.map fun p => (p.1, p.2.2)) := by
  unfold D8 at hb
  simp only [Bool.and_eq_true] at hb
  obtain ⟨⟨⟨h1, h2⟩, h3⟩, h4⟩ := hb
  have mem : ∀ c l, (cs.map fun p => (p.1, p.2.2)).lookup c = some l → ∃ a, (c, a, l) ∈ cs ∧ γ c = a := fun c l e => by
    obtain ⟨p, hp, q⟩ := List.mem_map.mp (pU e)
    obtain ⟨x, a, m⟩ := p
    cases q
    exact ⟨a, hp, hγ _ hp⟩
  refine ⟨?_, ?_, ?_, ?_⟩
  · intro c l e
    obtain ⟨a, hp, ga⟩ := mem c l e
    rw [ga]
    have hv := List.all_eq_true.mp h4 _ hp
    simp only [Bool.not_eq_true'] at hv
    exact ⟨fun _ => hi _ hp, fun z => by rw [hv] at z; cases z⟩
  · intro c l e x m e2
    obtain ⟨a, hp, ga⟩ := mem c l e
    obtain ⟨b, hq, gb⟩ := mem x m e2
    rw [ga, gb]
    exact beq_iff_eq.mp (List.all_eq_true.mp (List.all_eq_true.mp h1 _ hp) _ hq)
  · intro c l e b hb
    obtain ⟨a, hp, ga⟩ := mem c l e
    rw [ga]
    exact beq_iff_eq.mp (List.all_eq_true.mp (List.all_eq_true.mp h2 _ hp) b hb)
  · intro x m e a ha
    obtain ⟨b, hq, gb⟩ := mem x m e
    rw [gb]
    exact beq_iff_eq.mp (List.all_eq_true.mp (List.all_eq_true.mp h3 _ hq) a ha)
theorem D5 {P : Params} : PySem.W.KeysLit P [] := trivial
theorem C2 {P : Params} {e : DictEntry} {r : List DictEntry} (h : ∃ x t, e.key = Value.str x t ∧ e.hash = PyData.keyHash P x) (k : PySem.W.KeysLit P r) : PySem.W.KeysLit P (e :: r) := ⟨h, k⟩
theorem EK : Ez [] [] := trivial
theorem Ef {k : Str} {i : Int} {r : List (Str × Int)} {e : DictEntry} {es : List DictEntry} (h1 : ∃ t, e.key = .str k t) (h2 : ∃ t, e.val = .int i t) (h : Ez r es) : Ez ((k, i) :: r) (e :: es) := ⟨h1, h2, h⟩
end L2
namespace L2
open PySem
theorem ub (c : Const) (j : Nat) (p : Pos) (es : List Expr) (env : Env) : starEach (.Constant c j p :: es) env = (false, eval (.Constant c j p) env) :: starEach es env := rfl
end L2
namespace L2
open PySem PySem.Spec PyProof.Rows
end L2
namespace HL
open PySem (Str)
end HL
namespace L2
open PySem PySem.Spec PyProof.Rows
open HL (W SO Sh Sg OR DE DT DA DS Fn)
section
variable {X : Cx} {K : PySem.W.Frag} {γ : Str → Addr} {a b c e o f i : Expr} {es : List Expr} {da db dc de d1 d2 di : DE} {d : DA} {pos pos' apos cpos p1 p2 : Pos}
def yU (mg : Str → Option Value) : List (Str × Str) → List DictEntry → Prop
  | [], [] => True
  | (k, g) :: r, e :: es => (∃ t, e.key = .str k t) ∧ mg g = some e.val ∧ yU mg r es
  | _, _ => False
theorem Eg {mg : Str → Option Value} : yU mg [] [] := trivial
theorem C5 {mg : Str → Option Value} {k g : Str} {r : List (Str × Str)} {e : DictEntry} {es : List DictEntry} (h1 : ∃ t, e.key = .str k t) (h2 : mg g = some e.val) (h : yU mg r es) : yU mg ((k, g) :: r) (e :: es) := ⟨h1, h2, h⟩
structure Gq (K : PySem.W.Frag) (mg : Str → Option Value) (w : World) (x : Str) (tn : List (Str × Str)) : Prop where
  ex : ∃ D es n, mg x = some (.ref D) ∧ K.lookup D = some { cls := .type "dict", data := .dict es n } ∧ PySem.W.KeysLit w.params es.toList ∧ (D == sysModules) = false ∧ yU mg tn es.toList
def Ex (X : Cx) (γ : Str → Addr) (tn : List (Str × Str)) (tb : List (Str × Fn)) : Prop := ∀ k f, tb.lookup k = some f → ∃ g kk p n bd ps, tn.lookup k = some g ∧ f = HL.fnOf p n bd ∧ kZ X.prog X.w X.K X.mg X.base kk g ps (bF X.K γ p f) ∧ b6 kk X.A
theorem Ex.nil : Ex X γ [] [] := fun k f e => by cases e
end
end L2
namespace HL
open PySem (Str)
def uC (T : W → Sh → Bool) (f : W → Sh → R W) (o : DE) : DE := fun s h => (o s h).bind fun x h => if T x h = true then f x h else .er
def uo : W → Sh → R W := fun x h => match x with
  | .ref i => (match h[i]? with
    | some (.lst ys) => (match ys[ys.length - 1]? with
      | some y => .ok y (h.set i (.lst ys.dropLast))
      | none => .er)
    | _ => .er)
  | _ => .er
def mB : W → List W → Sh → R W := fun x xs h => match x, xs with
  | .ref i, [.int 0, y] => (match h[i]? with
    | some (.lst ys) => if ys.length < hW then .ok .non (h.set i (.lst (y :: ys))) else .er
    | _ => .er)
  | _, _ => .er
end HL
namespace L2
open PySem PySem.Spec PyProof.Rows
open HL (W SO Sh Sg OR DE DT DA DS Fn)
section
variable {X : Cx} {K : PySem.W.Frag} {γ : Str → Addr} {a b c e o f i : Expr} {es : List Expr} {da db dc de d1 d2 di : DE} {d : DA} {pos pos' apos cpos p1 p2 : Pos} {name : Str} {T id : String}
def Ep (K : PySem.W.Frag) (γ : Str → Addr) (r : V → List V → Hp → VK → Prop) (f : W → Sh → HL.R W) : Prop := ∀ ρ h H x Q, cM K γ ρ h H → wf h.length x → nO K γ ρ h (f x h) Q → r (aF γ ρ x) [] H Q
theorem DJ {r : V → List V → Hp → VK → Prop} {f : W → Sh → HL.R W} {t : W → Sh → Bool} (pa : PlainAttrs T) (slot : Slot T name id) (hty : typeOf (.builtin id) = pure (.type "method_descriptor")) (hm : En X id r) (ms : Ep X.K γ r f) (ts : Fz X.K γ T t) (ho : QE γ X o de)
    (hbase : attributeBase o name X.env (eval o X.env) = eval o X.env := by rfl) (hline : (apos.endLine == cpos.line) = true := by rfl) : QE γ X (.Call (.Attribute o name apos) [] [] cpos) (HL.uC t f de) :=
  (BO pa slot hty hm ho hbase hline).imp fun σ H Q z => by
    obtain ⟨ρ, s, h, S, z⟩ := z
    unfold HL.uC at z
    refine ⟨ρ, s, h, S, bg.bind z fun v h1 ρ1 H1 _ n1 S1 w1 x1 => ?_⟩
    split at x1
    · rename_i ht
      exact ⟨ts ρ1 h1 H1 v S1 ht, ms ρ1 h1 H1 v Q S1 w1 x1⟩
    · exact x1.elim
theorem Cj : Ep K γ Dy HL.uo := by
  intro ρ h H x Q S wx q
  unfold HL.uo at q
  split at q
  · rename_i i
    split at q
    · rename_i ys e
      split at q
      · rename_i y ey
        refine ⟨ρ i, ys.map (aF γ ρ), aF γ ρ y, rfl, rfl, S.ob i _ e, by rw [List.length_map, List.getElem?_map, ey]; rfl, ?_⟩
        have S2 := S.chg (u := .lst ys.dropLast) (v := .lst (ys.dropLast.map (aF γ ρ))) e rfl rfl (fun z hz => S.wf _ _ e z (List.dropLast_subset _ hz)) bK
        have := q ρ _ (eQ.chg _ _ _ _) S2 (by
          have w1 := S.wf _ _ e y (List.mem_of_getElem? ey)
          rw [List.length_set]; exact w1)
        rw [List.map_dropLast] at this
        exact this
      · exact q.elim
    · exact q.elim
  · exact q.elim
theorem DH (ho : QE γ X o de) (hbase : attributeBase o "pop" X.env (eval o X.env) = eval o X.env := by rfl) (hline : (apos.endLine == cpos.line) = true := by rfl) : QE γ X (.Call (.Attribute o "pop" apos) [] [] cpos) (HL.uC HL.jz HL.uo de) :=
  DJ PySem.F.plainAttrs_list PySem.F.slot_list_pop PySem.F.type_list_pop Ci Cj t6 ho hbase hline
def u7 : V → List V → Hp → VK → Prop := fun x vs H Q => ∃ l xs y, x = .ref l ∧ vs = [.int 0, y] ∧ H l = some (.lst xs) ∧ xs.length < sizeLine ∧ Q .non (upd H l (.lst (y :: xs)))
theorem wg : ET X "list.insert" u7 := by
  intro pins s σ H x vs v us Q I rx rv h
  obtain ⟨l, xs, y, rfl, rfl, hH, hz, q⟩ := h
  cases rx
  cases rv with
  | cons r0 rv =>
    obtain ⟨u, rfl, ru⟩ := uR rv
    obtain ⟨t, rfl⟩ := r0
    obtain ⟨z, its, n, r, hl, e⟩ := I.lstM hH
    refine call_meets F.slot_list_insert ⟨_, e, rfl⟩ F.entry_list_insert (F.args_list_insert_3 _ _ _) (AutoSeq1.list_insert_list_int_val_1 l its.toArray n 0 t u (by decide) (by rw [List.size_toArray]; omega)) ⟨e, ?_⟩
    refine ⟨.non, _, I.lset (its' := u :: its) hH e ?_ (.cons ru r) ?_, rfl, q⟩
    · simp
    · rw [List.length_cons]; omega
theorem wm : FD K γ u7 HL.mB := by
  intro ρ h H x xs Q S wx wxs q
  unfold HL.mB at q
  split at q
  · rename_i i y
    split at q
    · rename_i ys e
      split at q
      · rename_i hl
        refine ⟨ρ i, ys.map (aF γ ρ), aF γ ρ y, rfl, rfl, S.ob i _ e, by rw [List.length_map]; exact yi hl, ?_⟩
        have S2 := S.chg (u := .lst (y :: ys)) (v := .lst ((y :: ys).map (aF γ ρ))) e rfl rfl (by
          intro z hz
          rcases List.mem_cons.mp hz with z1 | z1
          · rw [z1]; exact wxs y (List.mem_cons_of_mem _ List.mem_cons_self)
          · exact S.wf _ _ e z z1) bK
        exact q ρ _ (eQ.chg _ _ _ _) S2 trivial
      · exact q.elim
    · exact q.elim
  · exact q.elim
theorem xH (ho : QE γ X o de) (ha : QE γ X e da) (hb : QE γ X f db)
    (hbase : attributeBase o "insert" X.env (eval o X.env) = eval o X.env := by rfl)
    (hfew : ((backTo cpos (starEach [e, f] X.env)).all (fun x => !x.1) && (backToKw cpos (keywordEach [] X.env)).all (fun x => x.1.isSome)
      && decide ([e, f].length + ([] : List Keyword).length + (if ([] : List Keyword).isEmpty then 0 else 1) < 30)) = true := by rfl)
    (hline : (apos.endLine == cpos.line) = true := by rfl) (hs : starEach [e, f] X.env = (false, eval e X.env) :: starEach [f] X.env := by rfl) (hs2 : starEach [f] X.env = (false, eval f X.env) :: starEach [] X.env := by rfl) (hplain : (backTo cpos (starEach [f] X.env)).any (·.1) = false := by rfl) :
    QE γ X (.Call (.Attribute o "insert" apos) [e, f] [] cpos) (HL.AZ HL.jz HL.mB de (HL.aa da (HL.aa db HL.aj))) :=
  DK PySem.F.plainAttrs_list PySem.F.slot_list_insert PySem.F.type_list_insert wg wm t6 ho (ae ha (ae hb ak hs2) hs) hbase hfew hline hs hplain
end
end L2
namespace HL
open PySem (Str)
def yk (c : Str) (h : Sh) (x : W) : Bool := match x with
  | .ref i => (match h[i]? with
    | some (.ins d _) => d == c
    | _ => false)
  | _ => false
def nF (c : Str) : W → List W → Sh → R W := fun x xs h => match x, xs with
  | .ref i, [y] => (match h[i]? with
    | some (.lst ys) => if ys.all (yk c h) = true ∧ y ∈ ys then .ok .non (h.set i (.lst (ys.erase y))) else .er
    | _ => .er)
  | _, _ => .er
def uy (p : Nat) (all : List W) (is : List Nat) (b : DS) : Nat → List W → DS
  | _, [], s, h => .nx s h
  | k, x :: xs, s, h => match qw is (.ref h.length) s (h ++ [.tup [.int (k : Int), x]]) with
    | none => .er
    | some s1 => match b s1 (h ++ [.tup [.int (k : Int), x]]) with
      | .nx s2 h2 => if h2[p]? = some (.lst all) then uy p all is b (k + 1) xs s2 h2 else .er
      | .ct s2 h2 => if h2[p]? = some (.lst all) then uy p all is b (k + 1) xs s2 h2 else .er
      | .bk s2 h2 => .nx s2 h2
      | c => c
def sN (a : DE) (is : List Nat) (b : DS) : DS := fun s h => match a s h with
  | .ok (.ref i) h => (match h[i]? with
    | some (.lst xs) => uy i xs is b 0 xs s h
    | _ => .er)
  | _ => .er
end HL
namespace L2
open PySem PySem.Spec PyProof.Rows
open HL (W SO Sh Sg OR DE DT DA DS Fn)
section
variable {X : Cx} {pins : List (Addr × Obj)} {σ : St} {H : Hp} {s : Shared} {h' : Heap}
theorem aB.turnT {t' : Nat} {e it a : Addr} {o : HO} (I : aB X pins σ H s) (fe : mJ X pins H e) (fi : mJ X pins H it) (k : ∀ b u, b ≠ e → b ≠ it → s.heap.get? b = some u → h'.get? b = some u) (hp : s.heap.objs.size ≤ a) (new : dJ X.prog X.w (upd H a o) h' a o) :
    aB X pins σ (upd H a o) { s with heap := h', toks := t' } := by
  have hn := I.hok.fresh hp
  obtain ⟨e0, e1, e2, e3, e4, e5⟩ := fe
  obtain ⟨i0, i1, i2, i3, i4, i5⟩ := fi
  have nc : ∀ {b : Addr}, b ∉ [e, it] → b ≠ e ∧ b ≠ it := fun {b} hb => ⟨fun z => hb (by simp [z]), fun z => hb (by simp [z])⟩
  have na : ∀ {b : Addr} {u : Obj}, s.heap.get? b = some u → b ≠ a := fun {b u} q z => absurd (Nat.lt_of_lt_of_le (Heap.lt_size q) (by rw [z]; exact hp)) (Nat.lt_irrefl _)
  have nb : ∀ {b : Addr} {u : HO}, H b = some u → b ≠ a := fun {b u} q z => by rw [z, hn] at q; cases q
  refine I.step (g' := s.gens) (d' := s.drawn) (ch := [e, it]) (fun b hb => ?_) (fun b u _ _ hc q _ => k b u (nc hc).1 (nc hc).2 q) (fun b u _ _ hc q _ => ⟨u.slots, k b u (nc hc).1 (nc hc).2 q⟩) (fun b u _ q n => by rw [aV (na q)]; exact n)
    (fun b u hc q => ⟨u, k b u (nc hc).1 (nc hc).2 q⟩) (fun b xs q => by rw [aV (nb q)]; exact q) (fun b u v q => by rw [aV (nb q)]; exact q) (fun b ps q => ⟨#[], by rw [aV (nb q), q]; simp⟩) (fun m hm => ?_) (fun b u q => ?_) I.bare
  · rcases List.mem_cons.mp hb with z | z
    · subst z; exact ⟨e3, e1, e4, e5⟩
    · have z := List.mem_singleton.mp z
      subst z; exact ⟨i3, i1, i4, i5⟩
  · obtain ⟨u, es, ep, ho, r⟩ := hm
    exact ⟨u, es, ep, k _ u (Ne.symm e1) (Ne.symm i1) ho, r⟩
  · by_cases z : b = a
    · subst z; rw [bK] at q; cases q; exact new
    · rw [aV z] at q
      have ne : ∀ {c : Addr} {v : HO}, H c = some v → c ≠ e ∧ c ≠ it := fun {c v} p => ⟨(fun z => by rw [z, e0] at p; cases p), (fun z => by rw [z, i0] at p; cases p)⟩
      refine (I.hok b u q).stay (fun c v hc p => ?_) (fun c p => by rw [aV (nb p)]; exact p) fun c xs p => by rw [aV (nb p)]; exact p
      rcases hc with hc | hc
      · rw [hc] at p ⊢; exact k b v (ne q).1 (ne q).2 p
      · exact k c v (ne hc).1 (ne hc).2 p
theorem aB.turn2 {t' : Nat} {e it : Addr} (I : aB X pins σ H s) (fe : mJ X pins H e) (fi : mJ X pins H it) (k : ∀ b u, b ≠ e → b ≠ it → s.heap.get? b = some u → h'.get? b = some u) : aB X pins σ H { s with heap := h', toks := t' } := by
  obtain ⟨e0, e1, e2, e3, e4, e5⟩ := fe
  obtain ⟨i0, i1, i2, i3, i4, i5⟩ := fi
  have nc : ∀ {b : Addr}, b ∉ [e, it] → b ≠ e ∧ b ≠ it := fun {b} hb => ⟨fun z => hb (by simp [z]), fun z => hb (by simp [z])⟩
  refine I.step (g' := s.gens) (d' := s.drawn) (ch := [e, it]) (fun b hb => ?_) (fun b u _ _ hc q _ => k b u (nc hc).1 (nc hc).2 q) (fun b u _ _ hc q _ => ⟨u.slots, k b u (nc hc).1 (nc hc).2 q⟩) (fun b u _ q n => n)
    (fun b u hc q => ⟨u, k b u (nc hc).1 (nc hc).2 q⟩) (fun b xs q => q) (fun b u v q => q) (fun b ps q => ⟨#[], by rw [q]; simp⟩) (fun m hm => ?_) (fun b u q => ?_) I.bare
  · rcases List.mem_cons.mp hb with z | z
    · subst z; exact ⟨e3, e1, e4, e5⟩
    · have z := List.mem_singleton.mp z
      subst z; exact ⟨i3, i1, i4, i5⟩
  · obtain ⟨u, es, ep, ho, r⟩ := hm
    exact ⟨u, es, ep, k _ u (Ne.symm e1) (Ne.symm i1) ho, r⟩
  · have ne : ∀ {c : Addr} {v : HO}, H c = some v → c ≠ e ∧ c ≠ it := fun {c v} p => ⟨(fun z => by rw [z, e0] at p; cases p), (fun z => by rw [z, i0] at p; cases p)⟩
    refine (I.hok b u q).stay (fun c v hc p => ?_) (fun c p => p) fun c xs p => p
    rcases hc with hc | hc
    · rw [hc] at p ⊢; exact k b v (ne q).1 (ne q).2 p
    · exact k c v (ne hc).1 (ne hc).2 p
end
def F6 (a : Addr) : It :=
  ⟨fun i H => ∃ xs x, H a = some (.lst xs) ∧ xs[i]? = some x, fun i H v H' => ∃ T x, v = .ref T ∧ H T = none ∧ H' = upd H T (.tup [.int (i : Int), x]) ∧ ∀ xs, H a = some (.lst xs) → xs[i]? = some x, fun i H => ∃ xs, H a = some (.lst xs) ∧ xs.length ≤ i⟩
theorem vP {P : Program} {w : World} {K : PySem.W.Frag} {elts : List Expr} {ctx : Nat} {tp : Pos} (a it e : Addr) (hei : e ≠ it) : yQ P w K (.Tuple elts ctx tp) (F6 a) [e, it] e (fun i h => (∃ old, IsEnum h e it i old) ∧ h.IsListIter it a i) where
  mem := by simp
  obj := fun i h st b hb => by
    obtain ⟨⟨old, he⟩, hi⟩ := st
    rcases List.mem_cons.mp hb with z | z
    · subst z
      exact ⟨_, he, fun v z => by have z' : Data.fields _ = Data.cell v := z; cases z'⟩
    · have z := List.mem_singleton.mp z
      subst z
      obtain ⟨o, q, c, d⟩ := hi
      exact ⟨o, q, fun v z => by rw [d] at z; cases z⟩
  keep := fun i h h' st k => ⟨⟨_, k e (by simp) _ st.1.choose_spec⟩, st.2.at fun o q => k it (by simp) o q⟩
  item := by
    intro X hP hw hK hc i pins s σ H E I hf st hg
    subst hP hw hK
    obtain ⟨⟨old, he⟩, hit⟩ := st
    obtain ⟨xs, x, hH, hx⟩ := hg
    obtain ⟨z, its, n, rv, hl, q⟩ := I.lstM hH
    obtain ⟨u, hu, ru⟩ := rv.get hx
    have fe := hf e (by simp)
    have fi := hf it (by simp)
    have isl : s.heap.IsList a its.toArray := ⟨_, q, rfl, n, rfl⟩
    refine wpAny_pyNext_enum_item he hit isl (x := u) (by simpa using hu) hei fun h' ho hit' hT hsz hk => ?_
    have hel : e < s.heap.objs.size := Heap.lt_size he
    refine ⟨_, rfl, wpAny_letOwnedTupleGo_enum ho fun h2 he2 hs2 => ?_⟩
    have hT2 : h2.get? s.heap.objs.size = some { cls := .type "tuple", data := .seq #[.int i s.toks, u] } := (hs2.2 _ (Nat.ne_of_gt hel)).trans hT
    have fr := I.hok.fresh (Nat.le_refl s.heap.objs.size)
    have I2 : aB X pins σ (upd H s.heap.objs.size (.tup [.int (i : Int), x])) { s with heap := h2, toks := s.toks + 1 } := by
      refine I.turnT (t' := s.toks + 1) fe fi (fun b u hb hb2 z => ?_) (Nat.le_refl _) ?_
      · exact (hs2.2 b hb).trans (hk b u hb hb2 z)
      · exact ⟨by show 2 ≤ sizeLine; decide, [.int i s.toks, u], .cons ⟨_, rfl⟩ (.cons ru .nil), ⟨_, hT2, rfl, _, rfl⟩⟩
    refine ⟨.ref s.heap.objs.size, _, I2, rfl, ⟨_, x, rfl, fr, rfl, fun ys hy => ?_⟩, ⟨⟨_, he2⟩, hit'.at fun o z => (hs2.2 it hei.symm).trans z⟩, fun b hb => ?_⟩
    · rw [hH] at hy; cases hy; exact hx
    · have hb' : b ≠ s.heap.objs.size := by
        have : b < s.heap.objs.size := by
          rcases List.mem_cons.mp hb with z | z
          · rw [z]; exact hel
          · rw [List.mem_singleton.mp z]
            obtain ⟨o, q, _⟩ := hit
            exact Heap.lt_size q
        exact Nat.ne_of_lt this
      rw [aV hb']
      exact (hf b hb).1
  done := by
    intro X hP hw hK hc i pins s σ H E I hf st hg
    subst hP hw hK
    obtain ⟨⟨old, he⟩, hit⟩ := st
    obtain ⟨xs, hH, hx⟩ := hg
    obtain ⟨z, its, n, rv, hl, q⟩ := I.lstM hH
    have isl : s.heap.IsList a its.toArray := ⟨_, q, rfl, n, rfl⟩
    exact wpAny_pyNext_enum_end (I.ok.hd hc) he hit isl (by simp; omega) fun h' eb => ⟨rfl, I.turn2 (t' := s.toks) (hf e (by simp)) (hf it (by simp)) fun b u _ hb2 z => eb b u hb2 z⟩
  self := fun _ _ _ _ _ st h => wpAny_pyIter_enum st.1.choose_spec h
section
variable {X : Cx} {γ : Str → Addr} {a : Expr} {da : DE} {pos : Pos}
def Ea (ta : TA) : TI := fun σ H R => ta σ H fun vs H1 => ∃ l xs, vs = [.ref l] ∧ H1 l = some (.lst xs) ∧ R (F6 l) H1
theorem zD {elts : List Expr} {ctx : Nat} {tp p : Pos} {ta : TA} (hg : Gl X "enumerate") (hm : X.mg "enumerate" = none) (ha : PA X [a] ta) (hs : starEach [a] X.env = [(false, eval a X.env)] := by rfl) : PI X (.Tuple elts ctx tp) (.Call (.Name "enumerate" p) [a] [] pos) (Ea ta) := by
  intro pins s σ H R I h
  refine Call_ (pW I hg hm PyProof.Rows.boot_enumerate (PyProof.Rows.callWith_type1 (ez (ha pos pins s σ H _ I h) fun us s1 ⟨vs, H1, I1, r1, q1⟩ => ?_) hs rfl))
  obtain ⟨l, xs, e, hH, q⟩ := q1
  subst e
  cases r1 with
  | cons r rr =>
    cases rr
    cases r
    obtain ⟨z, its, n, rv, hl, ql⟩ := I1.lstM hH
    refine call_enumerate_1 ql fun h' he hit hsz hk => ?_
    refine wpAny_pyIter_enum he ?_
    refine ⟨s1.heap.objs.size + 1, [s1.heap.objs.size + 1, s1.heap.objs.size], _, _, H1, rfl, I1.kept (t' := s1.toks) hk, vP l s1.heap.objs.size (s1.heap.objs.size + 1) (Nat.succ_ne_self _), ⟨⟨_, he⟩, hit⟩, fun b hb => ?_, q⟩
    have hb' : s1.heap.objs.size ≤ b := by
      rcases List.mem_cons.mp hb with z | z
      · rw [z]; exact Nat.le_succ _
      · rw [List.mem_singleton.mp z]; exact Nat.le_refl _
    exact I1.fpOk hb' (I1.hok.fresh hb')
theorem Ab {is : List Nat} {bd : DS} (D : o4) (σ : St) (H : Hp) (x : eS X.K γ (HL.sN da is bd) D σ H) : Bk (Ea (eA X.K γ (HL.aa da HL.aj))) (eG X.K γ (HL.qw is)) (eS X.K γ bd) D σ H := by
  obtain ⟨ρ, s, h, S, x⟩ := x
  unfold HL.sN at x
  refine ⟨ρ, s, h, S, ?_⟩
  unfold HL.aa HL.aj
  cases q : da s h with
  | ex => rw [q] at x; exact x.elim
  | er => rw [q] at x; exact x.elim
  | ok v h1 =>
    rw [q] at x
    simp only [HL.R.bind]
    intro ρ1 H1 n1 S1 w1
    have T1 := S.next n1 S1
    cases v with
    | ref p =>
      simp only at x
      cases q1 : h1[p]? with
      | none => rw [q1] at x; exact x.elim
      | some ob =>
        rw [q1] at x
        cases ob with
        | lst ys =>
          simp only at x
          have wp : p < h1.length := w1 _ (List.mem_cons_self ..)
          refine ⟨ρ1 p, ys.map (aF γ ρ1), rfl, S1.ob p _ q1, ?_⟩
          let St' : Nat → St → Hp → Prop := fun i σ' H' => i ≤ ys.length ∧ ∃ ρ2 s2 h2, tT X.K γ ρ2 s2 h2 σ' H' ∧ eQ h1 ρ1 h2 ρ2 ∧ h2[p]? = some (.lst ys) ∧ f7 X.K γ ρ2 h2 (HL.uy p ys is bd i (ys.drop i) s2 h2) D
          refine ⟨fun i m σ' H' => m = ys.length - i ∧ St' i σ' H', ⟨_, rfl, Nat.zero_le _, ρ1, s, h1, T1, eQ.refl _ _, q1, f7.later x n1⟩, ?_⟩
          rintro i m σ' H' ⟨rfl, hi, ρ2, s2, h2, T2, n2, st2, g2⟩
          have oH := T2.hp.ob p _ st2
          rw [← n2.ag p wp] at oH
          have oH : H' (ρ1 p) = some (.lst (ys.map (aF γ ρ2))) := oH
          cases e : ys[i]? with
          | none =>
            have hl : ys.length ≤ i := List.getElem?_eq_none_iff.mp e
            rw [List.drop_eq_nil_of_le hl] at g2
            refine .inl ⟨⟨_, oH, by rw [List.length_map]; exact hl⟩, ?_⟩
            have z := g2 ρ2 H' (eQ.refl _ _) T2.hp T2.ws
            rw [T2.eq]; exact z
          | some y =>
            obtain ⟨hlt, ey⟩ := List.getElem?_eq_some_iff.mp e
            have e2 : (ys.map (aF γ ρ2))[i]? = some (aF γ ρ2 y) := by rw [List.getElem?_map, e]; rfl
            refine .inr ⟨⟨_, _, oH, e2⟩, St' (i + 1), fun σ3 H3 z => ⟨_, by omega, rfl, z⟩, fun v H3 hv => ?_⟩
            obtain ⟨T, xv, rfl, hT, rfl, hx⟩ := hv
            have ex : xv = aF γ ρ2 y := Option.some.inj ((hx _ oH).symm.trans e2)
            subst ex
            have wy : wf h2.length y := T2.hp.wf p _ st2 y (List.mem_of_getElem? e)
            have wt : y6 h2.length (.tup [.int (i : Int), y]) := by
              intro z hz
              rcases List.mem_cons.mp hz with z1 | z1
              · rw [z1]; trivial
              · rw [List.mem_singleton.mp z1]; exact wy
            have S3 : cM X.K γ (put ρ2 h2.length T) (h2 ++ [.tup [.int (i : Int), y]]) (upd H' T (.tup [.int (i : Int), aF γ ρ2 y])) := T2.hp.push wt (qy.upd _ hT) hT (.inl (.inl bK))
            have n3 := eQ.push h2 ρ2 (.tup [.int (i : Int), y]) T
            have T3 := T2.next n3 S3
            rw [List.drop_eq_getElem_cons hlt, ey] at g2
            unfold HL.uy at g2
            cases q3 : HL.qw is (.ref h2.length) s2 (h2 ++ [.tup [.int (i : Int), y]]) with
            | none => rw [q3] at g2; exact g2.elim
            | some s3 =>
              rw [q3] at g2
              simp only at g2
              refine ⟨put ρ2 h2.length T, s2, _, .ref h2.length, T3, (congrArg V.ref (gu _ _ _)).symm, (show h2.length < (h2 ++ [_]).length by simp), s3, q3, fun w3 => ⟨put ρ2 h2.length T, s3, _, ⟨S3, w3, rfl⟩, ?_⟩⟩
              have n23 := n2.trans n3
              cases q4 : bd s3 (h2 ++ [.tup [.int (i : Int), y]]) with
              | nx s4 h4 =>
                rw [q4] at g2
                simp only at g2
                split at g2
                · rename_i st4
                  exact fun ρ4 H4 n4 S4 w4 => ⟨hlt, ρ4, s4, h4, ⟨S4, w4, rfl⟩, n23.trans n4, st4, f7.later (f7.later g2 n3) n4⟩
                · exact g2.elim
              | ct s4 h4 =>
                rw [q4] at g2
                simp only at g2
                split at g2
                · rename_i st4
                  exact fun ρ4 H4 n4 S4 w4 => ⟨hlt, ρ4, s4, h4, ⟨S4, w4, rfl⟩, n23.trans n4, st4, f7.later (f7.later g2 n3) n4⟩
                · exact g2.elim
              | bk s4 h4 => rw [q4] at g2; exact f7.later (c := .bk s4 h4) (D := { D with bk := D.nx }) g2 n3
              | rt v4 h4 => rw [q4] at g2; exact f7.later (c := .rt v4 h4) g2 n3
              | ex => rw [q4] at g2; exact g2.elim
              | er => rw [q4] at g2; exact g2.elim
        | _ => exact x.elim
    | _ => exact x.elim
theorem zw {elts : List Expr} {ctx : Nat} {tp p cpos : Pos} {body : List Stmt} {is : List Nat} {bd : DS} (hp : PassesOwn (model X.prog X.w) X.A X.env X.xe) (hc : X.calm = true) (hg : Gl X "enumerate") (hm : X.mg "enumerate" = none) (ha : QE γ X a da) (ht : QG γ X (.Tuple elts ctx tp) (HL.qw is)) (hb : sx γ X body bd)
    (hs : ∀ x, foldedSetIterable (.Call (.Name "enumerate" p) [a] [] cpos) X.env x = pure x := by intro _; rfl) (h1 : starEach [a] X.env = [(false, eval a X.env)] := by rfl) : QS γ X (.For (.Tuple elts ctx tp) (.Call (.Name "enumerate" p) [a] [] cpos) body [] pos) (HL.sN da is bd) :=
  (xO hp hc (zD hg hm (ae ha ak h1) h1) ht hb hs).imp Ab
end
end L2
namespace L2
open PySem PySem.Spec PyProof.Rows PySem.W
structure sv (K : PySem.W.Frag) (C : Addr) : Prop where
  eq : findIn K (.ref C) "__eq__" = some (some (.builtin "object.__eq__"))
  ob : subIn K (.ref C) (.type "object") = some true
section
variable {prog : Program} {w : World} {A : Around} {E : Value → Shared → Prop} {s : Shared} {K : PySem.W.Frag} {x y C : Addr} {ox oy : Obj} {odx ody : Option Obj}
theorem wK {M : Model} (X : K.In s.heap) (e : sv K C) (Ix : InstAt s.heap x ox C odx) {Q : Unit → Shared → Prop} (hq : Q () s) : wpAny M A (checkBuiltinCall "object.__eq__" ⟨[.ref x, .ref y], []⟩) Q E s := by
  simp only [checkBuiltinCall, F.cmpKind_eq, F.cmpSplit_eq]
  refine wpAny_bind ?_
  unfold isInstance
  refine wpAny_bind (Ix.type.here ?_)
  refine (looks_subIn X e.ob).here ?_
  have ar := F.cmpArgs_eq (.ref x) (.ref y)
  cases hsig : Manifest.signature? "object.__eq__" with
  | none => exact wpAny_pure hq
  | some sig =>
    simp only [argsOk, hsig] at ar
    have h2 : Bind.checkArgs "object.__eq__" sig ⟨[.ref x, .ref y], []⟩ = pure () := ar
    show wpAny M A (Bind.checkArgs "object.__eq__" sig ⟨[.ref x, .ref y], []⟩) Q E s
    rw [h2]
    exact wpAny_pure hq
theorem yK (X : K.In s.heap) (e : sv K C) (Ix : InstAt s.heap x ox C odx) (gx : s.heap.get? x = some ox) (gy : s.heap.get? y = some oy) (nt : ox.cls ≠ .type "tuple") (ne : x ≠ y) {Q : Value → Shared → Prop} (hq : Q .notImplemented s) :
    wpAny (model prog w) A (call (.builtin "object.__eq__") [.ref x, .ref y]) Q E s :=
  wpAny_call (codeAny_call_builtin F.cmp_object.eq.plain F.cmpEntry_eq (wK X e Ix (objEq_entry_other ne gx gy nt hq)))
theorem uU (X : K.In s.heap) (e : sv K C) (Ix : InstAt s.heap x ox C odx) (gx : s.heap.get? x = some ox) (gy : s.heap.get? y = some oy) (nt : ox.cls ≠ .type "tuple") (ne : x ≠ y) {Q : Option Value → Shared → Prop} (hq : Q none s) :
    wpAny (model prog w) A (tryCompare (.ref x) "__eq__" (.ref y)) Q E s := by
  unfold tryCompare
  refine wpAny_bind ?_
  simp only [callSpecialIfBound?, bindSpecialIfBound?]
  refine wpAny_holding (wpAny_bind (wpAny_bind (wpAny_bind (Ix.type.here ((looks_findIn X e.eq).here ?_)))))
  have fin : wpAny (model prog w) A (call (.builtin "object.__eq__") ([.ref x] ++ [.ref y]) >>= fun v => pure (some v)) (fun r s' => wpAny (model prog w) A (match r with | some .notImplemented | none => pure none | some v => pure (some v)) Q E s') E s :=
    wpAny_bind (yK X e Ix gx gy nt ne (wpAny_pure (wpAny_pure hq)))
  simp only [F.cmp_object.eq.bind]
  refine wpAny_bind (wpAny_askSetting (wpAny_ite ?_))
  split
  · exact wpAny_bind (wpAny_pure (wpAny_pure fin))
  · exact wpAny_tryCatch (wpAny_bind (wpAny_pure (wpAny_pure fin)))
theorem xB (hu : A.units < cLine) (X : K.In s.heap) (e : sv K C) (Ix : InstAt s.heap x ox C odx) (Iy : InstAt s.heap y oy C ody) (gx : s.heap.get? x = some ox) (gy : s.heap.get? y = some oy) (nx : ox.cls ≠ .type "tuple") (ny : oy.cls ≠ .type "tuple") (ne : x ≠ y) {Q : Value → Shared → Prop} (hq : Q (.bool false) s) :
    wpAny (model prog w) A (richCompare .Eq (.ref x) (.ref y)) Q E s := by
  unfold richCompare
  simp only [oneThing_ref, cmpInfo_Eq]
  refine wpAny_holding (wpAny_bind (wpAny_cRoomFor hu ?_))
  refine wpAny_bind (Ix.type.here (wpAny_bind (Iy.type.here ?_)))
  split
  · rename_i q; simp at q
  · refine wpAny_bind (wpAny_pure ?_)
    simp only [Bool.false_eq_true, if_false]
    refine wpAny_bind (uU X e Ix gx gy nx ne ?_)
    simp only [Bool.not_false, if_true]
    refine wpAny_bind (uU X e Iy gy gx ny (Ne.symm ne) ?_)
    refine wpAny_bind (wpAny_rule ?_)
    refine wpAny_bind (wpAny_isSame_ref_other ne gx gy nx ?_)
    exact wpAny_pure hq
theorem wH (hu : A.units < cLine) (X : K.In s.heap) (e : sv K C) (Ix : InstAt s.heap x ox C odx) (Iy : InstAt s.heap y oy C ody) (gx : s.heap.get? x = some ox) (gy : s.heap.get? y = some oy) (nx : ox.cls ≠ .type "tuple") (ny : oy.cls ≠ .type "tuple") (ne : x ≠ y) {Q : Bool → Shared → Prop} (hq : Q false s) :
    wpAny (model prog w) A (eqBool (.ref x) (.ref y)) Q E s := by
  unfold eqBool
  refine wpAny_holding ?_
  show wpAny _ _ (if (Value.ref x == Value.ref y) = true then _ else _) Q E s
  rw [if_neg (by simpa using ne)]
  exact wpAny_bind (xB hu X e Ix Iy gx gy nx ny ne (wpAny_truthy_bool hq))
theorem yz {Q : Bool → Shared → Prop} {M : Model} (hq : Q true s) : wpAny M A (eqBool (.ref x) (.ref x)) Q E s := by
  unfold eqBool
  refine wpAny_holding ?_
  show wpAny _ _ (if (Value.ref x == Value.ref x) = true then _ else _) Q E s
  rw [if_pos (by simp)]
  exact wpAny_bind (wpAny_rule (wpAny_pure hq))
end
section
open AutoSeq1 (wpAny_loadPart')
theorem zq (l : Addr) (its : Array Value) (n : Nat) (v : Value) (e : Value → Bool) (j : Nat) (hj : j < its.size) (hit : e its[j] = true) (hno : ∀ (q : Nat) (hq : q < its.size), q < j → e its[q] = false) (hz : its.size ≤ sizeLine) (d : Nat) : ∀ i : Nat, i + d = j →
    Meets (Builtin.«list.remove.loop» ⟨[.ref l, v, rawInt i], []⟩) (fun A R s => s.heap.get? l = some { cls := .type "list", dict := none, data := .seq its n, slots := #[] } ∧ (∀ y, y ∈ its → SeqAt.EqAt A.in1 s y v (e y)) ∧ R (.ok (.ret .none)) { s with heap := s.heap.update l (Obj.mapSeq fun xs => xs.eraseIdxIfInBounds j) }) := by
  induction d with
  | zero =>
    intro i ij prog w A R s z
    obtain ⟨hp, g, dr, tk, os⟩ := s
    obtain ⟨gl, he, hR⟩ := z
    have ij : i = j := ij
    subst ij
    wp_walk using wpAny_loadPart' gl
    rw [show its[((i : Nat) : Int).toNat]? = some its[i] by simp [hj]]
    refine wpAny_bind (he _ (Array.getElem_mem hj) prog w _ _ ?_)
    rw [hit]
    have z2 : (its.eraseIdxIfInBounds i).size ≤ sizeLine + 1 := Nat.le_trans (MeetsSeq.size_erased its i) (Nat.le_succ_of_le hz)
    wp_walk using (wpAny_updateSeq gl rfl (hz := hz) (_hz' := z2)), wpAny_loadPart' gl
    simpa using hR
  | succ d ih =>
    intro i ij prog w A R s z
    obtain ⟨hp, g, dr, tk, os⟩ := s
    obtain ⟨gl, he, hR⟩ := z
    have lt : i < its.size := by omega
    wp_walk using wpAny_loadPart' gl
    rw [show its[((i : Nat) : Int).toNat]? = some its[i] by simp [lt]]
    refine wpAny_bind (he _ (Array.getElem_mem lt) prog w _ _ ?_)
    rw [hno i lt (by omega)]
    wp_walk
    rw [show ((i : Int) + 1) = ((i + 1 : Nat) : Int) by push_cast; rfl]
    exact ⟨plainId_quiet MeetsSeq.plain_remove_loop _, codeAny_builtin MeetsSeq.entry_remove_loop (by
      rw [Around.under_plainId MeetsSeq.plain_remove_loop _]
      exact ih (i + 1) (by omega) prog w A R _ ⟨gl, he, hR⟩)⟩
theorem xA (l : Addr) (its : Array Value) (n : Nat) (v : Value) (e : Value → Bool) (j : Nat) (hj : j < its.size) (hit : e its[j] = true) (hno : ∀ (q : Nat) (hq : q < its.size), q < j → e its[q] = false) (hz : its.size ≤ sizeLine) :
    Meets (Builtin.«list.remove» ⟨[.ref l, v], []⟩) (fun A R s => s.heap.get? l = some { cls := .type "list", dict := none, data := .seq its n, slots := #[] } ∧ (∀ y, y ∈ its → SeqAt.EqAt A.in1 s y v (e y)) ∧ R (.ok (.ret .none)) { s with heap := s.heap.update l (Obj.mapSeq fun xs => xs.eraseIdxIfInBounds j) }) := by
  intro prog w A R s z
  obtain ⟨hp, g, dr, tk, os⟩ := s
  obtain ⟨gl, he, hR⟩ := z
  wp_walk using wpAny_loadPart' gl
  exact ⟨plainId_quiet MeetsSeq.plain_remove_loop _, codeAny_builtin MeetsSeq.entry_remove_loop (by
    rw [Around.under_plainId MeetsSeq.plain_remove_loop _]
    exact zq l its n v e j hj hit hno hz j 0 (Nat.zero_add _) prog w A R _ ⟨gl, he, hR⟩)⟩
end
section
variable {X : Cx} {γ : Str → Addr} {a b c e o f i : Expr} {da db dc de d1 d2 di : HL.DE} {pos pos' apos cpos p1 p2 : Pos}
def u6 (C : Addr) : V → List V → Hp → VK → Prop := fun x vs H Q => ∃ l xs p j, x = .ref l ∧ vs = [.ref p] ∧ H l = some (.lst xs) ∧ (∀ z ∈ xs, ∃ a dx fs, z = .ref a ∧ H a = some (.ins C dx fs)) ∧ xs[j]? = some (.ref p) ∧ (∀ q, q < j → xs[q]? ≠ some (.ref p)) ∧ Q .non (upd H l (.lst (xs.eraseIdx j)))
theorem we {C : Addr} (hu : X.A.units + 64 < cLine) (ec : sv X.K C) : ET X "list.remove" (u6 C) := by
  intro pins s σ H x vs v us Q I rx rv h
  obtain ⟨l, xs, p, j, rfl, rfl, hH, hall, hj, hno, q⟩ := h
  cases rx
  obtain ⟨u, rfl, ru⟩ := rv.one
  cases ru
  obtain ⟨z, its, n, r, hl, g⟩ := I.lstM hH
  obtain ⟨w', hw, rw'⟩ := r.get hj
  cases rw'
  have jl : j < its.length := (List.getElem?_eq_some_iff.mp hw).1
  have ej : its[j] = .ref p := (List.getElem?_eq_some_iff.mp hw).2
  have look : ∀ {a dx : Addr} {fs : List (Str × V)}, H a = some (.ins C dx fs) → ∃ od, InstAt s.heap a (instObj C dx) C (some od) ∧ s.heap.get? a = some (instObj C dx) := by
    intro a dx fs ha
    obtain ⟨mA, om, _⟩ := nG I.hok ha
    obtain ⟨od, io, _⟩ := om.look
    obtain ⟨_, _, _, g, _⟩ := (show dJ X.prog X.w H s.heap a (.ins C dx fs) from I.hok a _ ha)
    exact ⟨od, io, g⟩
  have hp : ∃ dx fs, H p = some (.ins C dx fs) := by
    obtain ⟨a, dx, fs, e1, e2⟩ := hall _ (List.mem_of_getElem? hj)
    cases e1
    exact ⟨dx, fs, e2⟩
  obtain ⟨dxp, fsp, hp⟩ := hp
  obtain ⟨odp, ip, gp⟩ := look hp
  refine call_meets F.slot_list_remove ⟨_, g, rfl⟩ F.entry_list_remove (F.args_list_remove_2 _ _)
    (xA l its.toArray n (.ref p) (fun y => y == .ref p) j (by rw [List.size_toArray]; exact jl) (by show (its.toArray[j] == Value.ref p) = true; rw [List.getElem_toArray, ej]; simp) (fun k hk hkj => ?_) (by rw [List.size_toArray]; omega)) ⟨g, fun y hy => ?_, ?_⟩
  · rw [List.size_toArray] at hk
    have hk' : k < xs.length := by omega
    obtain ⟨u, hu', ru⟩ := r.get (List.getElem?_eq_getElem hk')
    obtain ⟨a, dx, fs, e1, e2⟩ := hall _ (List.getElem_mem hk')
    rw [e1] at ru
    cases ru
    have eu : its[k] = .ref a := (List.getElem?_eq_some_iff.mp hu').2
    show (its.toArray[k] == Value.ref p) = false
    rw [List.getElem_toArray, eu]
    have : a ≠ p := fun z => hno k hkj (by rw [List.getElem?_eq_getElem hk', e1, z])
    simpa using this
  · have hy : y ∈ its := by simpa using hy
    obtain ⟨k, hk, ek⟩ := List.getElem_of_mem hy
    have hk' : k < xs.length := by omega
    obtain ⟨u, hu', ru⟩ := r.get (List.getElem?_eq_getElem hk')
    obtain ⟨a, dx, fs, e1, e2⟩ := hall _ (List.getElem_mem hk')
    rw [e1] at ru
    cases ru
    have eu : its[k] = .ref a := (List.getElem?_eq_some_iff.mp hu').2
    have ey : y = .ref a := ek.symm.trans eu
    subst ey
    intro prog w E Q' hq
    by_cases ha : a = p
    · subst ha
      have t : (Value.ref a == Value.ref a) = true := by simp
      rw [t] at hq
      exact yz hq
    · have t : (Value.ref a == Value.ref p) = false := by simpa using ha
      rw [t] at hq
      obtain ⟨oda, ia, ga⟩ := look e2
      exact wH (show X.A.units + 1 < cLine by omega) I.kIn ec ia ip ga gp (by intro z; cases z) (by intro z; cases z) ha hq
  · refine ⟨.non, _, I.lset (its' := its.eraseIdx j) hH g ?_ (r.eraseIdx j) ?_, rfl, q⟩
    · show its.toArray.eraseIdxIfInBounds j = (its.eraseIdx j).toArray
      rw [List.eraseIdxIfInBounds_toArray]
    · have := qI xs j
      omega
end
section
variable {X : Cx} {K : PySem.W.Frag} {γ : Str → Addr} {a b c e o f i : Expr} {da db dc de d1 d2 di : HL.DE} {pos pos' apos cpos p1 p2 : Pos}
theorem pZ {c : Str} {h : HL.Sh} {x : HL.W} (q : HL.yk c h x = true) : ∃ k fs, x = .ref k ∧ h[k]? = some (.ins c fs) := by
  unfold HL.yk at q
  split at q
  · rename_i k
    split at q
    · rename_i d fs e
      have : d = c := eq_of_beq q
      subst this
      exact ⟨k, fs, rfl, e⟩
    · cases q
  · cases q
theorem oE {y : HL.W} : ∀ {xs : List HL.W}, y ∈ xs → ∃ j, xs[j]? = some y ∧ (∀ m, m < j → xs[m]? ≠ some y) ∧ xs.erase y = xs.eraseIdx j
  | [], h => nomatch h
  | x :: xs, h => by
    by_cases e : x = y
    · subst e
      exact ⟨0, rfl, fun m hm => by omega, by rw [List.erase_cons_head]; rfl⟩
    · obtain ⟨j, h1, h2, h3⟩ := oE (xs := xs) ((List.mem_cons.mp h).resolve_left fun z => e z.symm)
      refine ⟨j + 1, h1, fun m hm => ?_, ?_⟩
      · cases m with
        | zero => intro z; exact e (Option.some.inj z)
        | succ m => exact h2 m (by omega)
      · rw [List.erase_cons_tail (by simpa using e), h3]; rfl
theorem qN {α β : Type} (g : α → β) : ∀ (xs : List α) (j : Nat), (xs.map g).eraseIdx j = (xs.eraseIdx j).map g
  | [], _ => rfl
  | _ :: _, 0 => rfl
  | x :: xs, j + 1 => by simp only [List.map_cons, List.eraseIdx_cons_succ, qN g xs j]
theorem wk (c : Str) : FD K γ (u6 (γ c)) (HL.nF c) := by
  intro ρ h H x xs Q S wx wxs q
  unfold HL.nF at q
  split at q
  · rename_i i y
    split at q
    · rename_i ys e
      split at q
      · rename_i hc
        obtain ⟨hall, hy⟩ := hc
        rw [List.all_eq_true] at hall
        obtain ⟨k, fs, rfl, ek⟩ := pZ (hall y hy)
        obtain ⟨j, ej, fj, rj⟩ := oE hy
        refine ⟨ρ i, ys.map (aF γ ρ), ρ k, j, rfl, rfl, S.ob i _ e, ?_, ?_, ?_, ?_⟩
        · intro z hz
          obtain ⟨u, hu, rfl⟩ := List.mem_map.mp hz
          obtain ⟨k', fs', rfl, ek'⟩ := pZ (hall u hu)
          obtain ⟨dx, hd⟩ := S.ob k' _ ek'
          exact ⟨ρ k', dx, lF γ ρ fs', rfl, hd⟩
        · rw [List.getElem?_map, ej]; rfl
        · intro m hm em
          rw [List.getElem?_map] at em
          cases eu : ys[m]? with
          | none => rw [eu] at em; cases em
          | some u =>
            rw [eu] at em
            obtain ⟨k', fs', rfl, ek'⟩ := pZ (hall u (List.mem_of_getElem? eu))
            have er : ρ k' = ρ k := by
              injection em with em
              injection em
            have := S.inj k' k _ _ ek' ek rfl rfl er
            subst this
            exact fj m hm eu
        · have S2 := S.chg (u := .lst (ys.erase (.ref k))) (v := .lst ((ys.erase (.ref k)).map (aF γ ρ))) e rfl rfl (fun z hz => S.wf _ _ e z (List.mem_of_mem_erase hz)) bK
          have := q ρ _ (eQ.chg _ _ _ _) S2 trivial
          rw [rj, ← qN] at this
          exact this
      · exact q.elim
    · exact q.elim
  · exact q.elim
theorem xG {c : Str} (hu : X.A.units + 64 < cLine) (ec : sv X.K (γ c)) (ho : QE γ X o de) (ha : QE γ X e db)
    (hbase : attributeBase o "remove" X.env (eval o X.env) = eval o X.env := by rfl)
    (hfew : ((backTo cpos (starEach [e] X.env)).all (fun x => !x.1) && (backToKw cpos (keywordEach [] X.env)).all (fun x => x.1.isSome)
      && decide ([e].length + ([] : List Keyword).length + (if ([] : List Keyword).isEmpty then 0 else 1) < 30)) = true := by rfl)
    (hline : (apos.endLine == cpos.line) = true := by rfl) (hs : starEach [e] X.env = (false, eval e X.env) :: starEach [] X.env := by rfl) (hplain : (backTo cpos (starEach [] X.env)).any (·.1) = false := by rfl) :
    QE γ X (.Call (.Attribute o "remove" apos) [e] [] cpos) (HL.AZ HL.jz (HL.nF c) de (HL.aa db HL.aj)) :=
  DK PySem.F.plainAttrs_list PySem.F.slot_list_remove PySem.F.type_list_remove (we hu ec) (wk c) t6 ho (ae ha ak hs) hbase hfew hline hs hplain
end
end L2
namespace HL
end HL
namespace L2
open PySem PySem.Spec PyProof.Rows
open HL (W SO Sh Sg OR DE DT DA DS Fn)
section
variable {X : Cx} {K : PySem.W.Frag} {γ : Str → Addr} {a b e : Expr} {da db : DE} {pos p1 p2 pos2 : Pos}
theorem cM.ext {ρ : Nat → Addr} {h : Sh} {H H' : Hp} (S : cM K γ ρ h H) (E : qy H H') : cM K γ ρ h H' where
  ob := fun i u e => (S.ob i u e).at fun z => E _ (by cases q : H (ρ i) with | none => exact absurd q z | some _ => rfl)
  inj := S.inj
  wf := S.wf
end
end L2
namespace L2
open PySem PySem.Spec PyProof.Rows
section
variable {X : Cx} {pins : List (Addr × Obj)} {σ : St} {H : Hp} {s : Shared} {h' : Heap} {a : Addr}
theorem aB.slots {ch : List Addr} {t' : Nat} (I : aB X pins σ H s)
    (hch : ∀ c ∈ ch, X.s₀.heap.get? c = none ∧ (∀ p ∈ X.pn ++ pins, p.1 ≠ c) ∧ c ≠ X.env.locals ∧ ∀ y d, X.env.cells.lookup y = some d → d ≠ c)
    (k : ∀ b o, s.heap.get? b = some o → b ∉ tE X.stack → b ∉ ch → h'.get? b = some o)
    (sl : ∀ b o, s.heap.get? b = some o → b ∈ tE X.stack → ∃ l, h'.get? b = some { o with slots := l })
    (th : ∀ c ∈ ch, (∃ o, s.heap.get? c = some o) → ∃ o', h'.get? c = some o')
    (ok : mG X.prog X.w H h') : aB X pins σ H { s with heap := h', toks := t' } := by
  have any : ∀ b o, s.heap.get? b = some o → b ∉ ch → ∃ l, h'.get? b = some { o with slots := l } := fun b o e n => by
    by_cases z : b ∈ tE X.stack
    · exact sl b o e z
    · exact ⟨o.slots, k b o e z n⟩
  have cel : ∀ c v, c ∉ ch → s.heap.IsCell c v → h'.IsCell c v := fun c v n ⟨o, e, d⟩ => by
    obtain ⟨l, e'⟩ := any c o e n
    exact ⟨_, e', d⟩
  have nch : X.env.locals ∉ ch := fun z => (hch _ z).2.2.1 rfl
  have nce : ∀ y d, X.env.cells.lookup y = some d → d ∉ ch := fun y d e z => (hch d z).2.2.2 y d e rfl
  have old : ∀ b o, X.s₀.heap.get? b = some o → b ∉ ch := fun b o e z => by have := (hch b z).1; rw [e] at this; cases this
  refine ⟨I.ok, I.os, I.bare, ⟨?_, ?_, I.base.free, ?_, I.base.tups, I.base.frzs, I.base.tbls⟩, ?_, ?_, I.free, I.freeC, ?_, ok, I.len⟩
  · intro b o e n hf hx
    refine k b o (I.base.keep b o e n hf hx) (fun z => ?_) (old b o e)
    rcases List.mem_cons.mp (I.stkSub b z) with q | q
    · exact Nat.lt_irrefl _ (Nat.lt_of_lt_of_le (q ▸ Heap.lt_size e) I.ok.above)
    · exact hf q
  · intro b o e n hf hx
    obtain ⟨l, e1⟩ := I.base.slot b o e n hf hx
    obtain ⟨l2, e2⟩ := any b _ e1 (old b o e)
    exact ⟨l2, e2⟩
  · intro b o e hx
    obtain ⟨o1, e1⟩ := I.base.there b o e hx
    obtain ⟨l2, e2⟩ := any b o1 e1 (old b o e)
    exact ⟨_, e2⟩
  · obtain ⟨m, ⟨o, es, ep, e, hd, hk, hn⟩, hl⟩ := I.loc
    obtain ⟨l, e'⟩ := any _ o e nch
    refine ⟨m, ⟨_, es, ep, e', hd, hk, hn⟩, fun i x v e1 e2 vis => ?_⟩
    obtain ⟨u, r, lk⟩ := hl i x v e1 e2 vis
    refine ⟨u, r, ?_⟩
    rcases lk with ⟨q1, q2⟩ | ⟨q1, c, q2, q3⟩
    · exact .inl ⟨q1, q2⟩
    · exact .inr ⟨q1, c, q2, cel c _ (nce x c q2) q3⟩
  · intro x c e
    obtain ⟨v, q⟩ := I.cell x c e
    exact ⟨v, cel c v (nce x c e) q⟩
  · intro p hp
    obtain ⟨e, n, n1, n2, n3⟩ := I.pin p hp
    refine ⟨k _ _ e (fun z => ?_) (fun z => (hch _ z).2.1 p hp rfl), n, n1, n2, n3⟩
    rcases List.mem_cons.mp (I.stkSub _ z) with q | q
    · exact n1 q
    · exact n2 q
theorem mG.excChg {P : Program} {w : World} {h : Heap} {C : Addr} {dx : Option Addr} {fs : List (Str × V)} {o : Obj} {vs' : Array Value} (x : mG P w H h) (e : H a = some (.exc C dx fs)) (k : ∀ b u, b ≠ a → H b ≠ none → h.get? b = some u → h'.get? b = some u)
    (ho : h.get? a = some o) (ha : h'.get? a = some { o with data := .fields vs' }) : mG P w H h' := fun b u q => by
  by_cases hb : b = a
  · subst hb
    rw [e] at q
    cases q
    obtain ⟨o1, vs, e1, c1, d1, f1, l1, w1, mA, n1, r1, i1⟩ := x b _ e
    rw [ho] at e1
    cases e1
    refine ⟨_, vs', ha, c1, d1, rfl, l1, w1, mA, ?_, r1, i1⟩
    cases dx with
    | none => exact n1
    | some d =>
      obtain ⟨od, es, ep, q1, q2⟩ := n1
      obtain ⟨hd, hne⟩ := w1 d rfl
      exact ⟨od, es, ep, k d od hne (by rw [hd]; exact fun z => by cases z) q1, q2⟩
  · refine (x b u q).stay (fun c v z q1 => ?_) (fun _ z => z) fun _ _ z => z
    rcases z with z | z
    · subst z
      exact k c v hb (by rw [q]; exact fun z => by cases z) q1
    · by_cases hc : c = a
      · subst hc; rw [e] at z; cases z
      · exact k c v hc (by rw [z]; exact fun z => by cases z) q1
def yW (X : Cx) (pins : List (Addr × Obj)) (H : Hp) (h : Heap) (a : Addr) : Prop := X.s₀.heap.get? a = none ∧ ∃ o vs, h.get? a = some o ∧ o.data = .fields vs ∧ 1 < vs.size ∧
  (vs[1]? = some .none ∨ ∃ T oT ts, vs[1]? = some (.ref T) ∧ X.s₀.heap.get? T = none ∧ T ≠ a ∧ (∀ p ∈ X.pn ++ pins, p.1 ≠ T) ∧ H T = none ∧ h.get? T = some oT ∧ oT.data = .fields ts ∧ 3 < ts.size)
theorem aB.notFld (I : aB X pins σ H s) {T : Addr} {oT : Obj} {ts : Array Value} (e : s.heap.get? T = some oT) (d : oT.data = .fields ts) : T ≠ X.env.locals ∧ (∀ y c, X.env.cells.lookup y = some c → c ≠ T) ∧ T ∉ tE X.stack := by
  refine ⟨fun z => ?_, fun y c q z => ?_, fun z => ?_⟩
  · obtain ⟨m, ⟨o, es, ep, e2, hd, _⟩, _⟩ := I.loc
    rw [← z, e] at e2; cases e2
    rw [d] at hd; cases hd
  · obtain ⟨v, o, e2, hd⟩ := I.cell y c q
    rw [z, e] at e2; cases e2
    rw [d] at hd; cases hd
  · obtain ⟨_, o, e2, hd⟩ := I.stack.mem z
    rw [e] at e2; cases e2
    exact hd _ d
theorem ly {M : Model} {A : Around} {E : Value → Shared → Prop} {s : Shared} {a : Addr} {o : Obj} {vs : Array Value} {i : Nat} {x : Value} {Q : Unit → Shared → Prop} (e : s.heap.get? a = some o) (d : o.data = .fields vs) (hi : i < vs.size)
    (h : ∀ h', (∀ b, b ≠ a → h'.get? b = s.heap.get? b) → h'.get? a = some { o with data := .fields (vs.setIfInBounds i x) } → Q () { s with heap := h' }) : wpAny M A (setField (.ref a) i x) Q E s := by
  unfold setField updateField
  refine wpAny_bind (wpAny_load e ?_)
  rw [d]
  show wpAny M A (if i < vs.size then _ else _) _ _ _
  rw [if_pos hi]
  refine wpAny_update e (h _ (fun b hb => Heap.get?_update_other _ _ (Ne.symm hb)) ?_)
  have e2 : Obj.mapFields (fun x_1 => x_1.setIfInBounds i x) o = { o with data := .fields (vs.setIfInBounds i x) } := by
    obtain ⟨c, dd, da, sl⟩ := o
    cases d
    rfl
  rw [Heap.get?_update_self _ e (by rw [e2]; rfl), e2]
theorem lA {M : Model} {A : Around} {E : Value → Shared → Prop} {s : Shared} {a : Addr} {o : Obj} {vs : Array Value} {i : Nat} {x : Value} {Q : Value → Shared → Prop} (e : s.heap.get? a = some o) (d : o.data = .fields vs) (hx : vs[i]? = some x) (h : Q x s) : wpAny M A (field (.ref a) i) Q E s := by
  unfold field
  refine wpAny_bind (wpAny_fieldsOf e d ?_)
  rw [hx]
  exact wpAny_pure h
theorem aB.entry {A : Around} {E : Value → Shared → Prop} {Q : Unit → Shared → Prop} {M : Model} {C : Addr} {dx : Option Addr} {fs : List (Str × V)} {o : Obj} {vs : Array Value} {head : Value} {hn : Bool} (I : aB X pins σ H s) (hA : A.frames = some X.stack) (hst : X.stack = X.env :: X.outer ∧ X.env.frame = some X.env.locals)
    (e : H a = some (.exc C dx fs)) (ha : X.s₀.heap.get? a = none) (eo : s.heap.get? a = some o) (d : o.data = .fields vs) (hs : 1 < vs.size)
    (h : ∀ s', aB X pins σ H s' → yW X pins H s'.heap a → Q () s') :
    wpAny M A (do
      let fr ← frameOf X.env
      let pl ← entryPlaceOf X.env.locals hn
      let x ← EntryCells.newEntry head fr .none (rawInt X.env.locals) .none pl
      setField (.ref a) 1 x) Q E s := by
  have hf : s.heap.FunFrames X.base (X.env :: X.outer) := hst.1 ▸ I.stack
  have na := I.notFld eo d
  refine wpAny_bind (wpAny_frameOf_fun (hst.1 ▸ hA) hf hst.2 fun h1 so => ?_)
  refine wpAny_bind (wpAny_entryPlaceOf fun pl hp => ?_)
  unfold EntryCells.newEntry newFields
  generalize hl : ([head, .ref X.env.locals, .none, rawInt X.env.locals, .none] ++ if pl.isEmpty = true then List.replicate 6 Value.none else pl) = l
  have ln : l.length = 11 := by
    rw [← hl]
    rcases hp with rfl | ⟨_, _, _, _, _, _, _, rfl⟩ <;> rfl
  have es : h1.get? a = some o := by rw [so.2.1 a (by rw [hst.1] at na; exact na.2.2), eo]
  refine wpAny_bind (wpAny_newObj_type ?_ (by show l.toArray.size ≤ sizeLine + 2; rw [List.size_toArray, ln, sizeLine_eq]; decide))
  refine ly (o := o) (vs := vs) (Heap.get?_push_of_some _ es) d hs fun h3 k3 e3 => ?_
  have kk : ∀ b u, s.heap.get? b = some u → b ∉ tE X.stack → b ≠ a → h3.get? b = some u := fun b u q n1 n2 => by
    rw [k3 b n2]
    exact Heap.get?_push_of_some _ (by rw [so.2.1 b (by rw [hst.1] at n1; exact n1), q])
  have lt : ∀ b u, s.heap.get? b = some u → b ≠ h1.objs.size := fun b u q z => by
    have := Heap.lt_size q
    rw [← so.1, ← z] at this
    exact Nat.lt_irrefl _ this
  refine h { s with heap := h3 } (I.slots (t' := s.toks) (ch := [a]) ?_ (fun b u q n1 n2 => kk b u q n1 fun z => n2 (List.mem_singleton.mpr z)) ?_ ?_ ?_) ⟨ha, _, _, e3, rfl, by rw [Array.size_setIfInBounds]; exact hs, .inr ⟨h1.objs.size, { cls := .type "traceback", data := .fields l.toArray }, l.toArray, ?_, ?_, ?_, ?_, ?_, ?_, rfl, ?_⟩⟩
  · intro c hc
    rw [List.mem_singleton.mp hc]
    refine ⟨ha, ?_, na.1, na.2.1⟩
    intro p hp z
    have := (I.pin p hp).2.1
    rw [z, e] at this; cases this
  · intro b u q z
    obtain ⟨sl, q2⟩ := so.2.2 b u q
    refine ⟨sl, ?_⟩
    rw [k3 b (fun y => na.2.2 (y ▸ z))]
    exact Heap.get?_push_of_some _ q2
  · intro c hc _
    rw [List.mem_singleton.mp hc]
    exact ⟨_, e3⟩
  · exact I.hok.excChg e (fun b u n1 n2 q => kk b u q (fun z => n2 (I.stkFree b z)) n1) eo e3
  · rw [Array.getElem?_setIfInBounds]; simp [hs]
  · exact Heap.get?_none_of_le (by rw [so.1]; exact I.sz)
  · exact fun z => lt a o eo z.symm
  · exact fun p hp z => lt _ _ (I.pin p hp).1 z
  · exact I.hok.fresh (Nat.le_of_eq so.1.symm)
  · rw [k3 _ (fun z => lt a o eo z.symm)]
    exact Heap.get?_push_size _ rfl
  · rw [List.size_toArray, ln]; decide
theorem aB.record {T : Addr} {oT : Obj} {ts : Array Value} {x : Value} (I : aB X pins σ H s) (hT : X.s₀.heap.get? T = none) (hp : ∀ p ∈ X.pn ++ pins, p.1 ≠ T) (hn : H T = none) (eT : s.heap.get? T = some oT) (dT : oT.data = .fields ts)
    (k : ∀ b, b ≠ T → h'.get? b = s.heap.get? b) (e' : h'.get? T = some { oT with data := .fields (ts.setIfInBounds 3 x) }) : aB X pins σ H { s with heap := h' } := by
  have nT := I.notFld eT dT
  refine I.slots (t' := s.toks) (ch := [T]) ?_ (fun b u q n1 n2 => by rw [k b fun z => n2 (List.mem_singleton.mpr z)]; exact q) (fun b u q z => ⟨u.slots, by rw [k b fun y => nT.2.2 (y ▸ z)]; exact q⟩) (fun c hc _ => by rw [List.mem_singleton.mp hc]; exact ⟨_, e'⟩) ?_
  · intro c hc
    rw [List.mem_singleton.mp hc]
    exact ⟨hT, hp, nT.1, nT.2.1⟩
  · intro b u q
    refine (I.hok b u q).stay (fun c v z q1 => ?_) (fun _ z => z) fun _ _ z => z
    have : c ≠ T := by
      rintro rfl
      rcases z with z | z
      · subst z; rw [hn] at q; cases q
      · rw [hn] at z; cases z
    rw [k c this]; exact q1
theorem yW.record {T : Addr} {oT : Obj} {ts : Array Value} {x : Value} {h : Heap} (t : yW X pins H h a) (hTa : T ≠ a) (eT : h.get? T = some oT) (dT : oT.data = .fields ts)
    (k : ∀ b, b ≠ T → h'.get? b = h.get? b) (e' : h'.get? T = some { oT with data := .fields (ts.setIfInBounds 3 x) }) : yW X pins H h' a := by
  obtain ⟨ha, o, vs, eo, d, hs, z⟩ := t
  refine ⟨ha, o, vs, by rw [k a fun y => hTa y.symm]; exact eo, d, hs, ?_⟩
  rcases z with z | ⟨T', oT', ts', z1, z2, z3, z4, z5, z6, z7, z8⟩
  · exact .inl z
  · by_cases y : T' = T
    · subst y
      exact .inr ⟨T', _, _, z1, z2, z3, z4, z5, e', rfl, by rw [eT] at z6; cases z6; rw [dT] at z7; cases z7; rw [Array.size_setIfInBounds]; exact z8⟩
    · exact .inr ⟨T', oT', ts', z1, z2, z3, z4, z5, by rw [k T' y]; exact z6, z7, z8⟩
theorem aB.flight {A : Around} {E : Value → Shared → Prop} {Q : Unit → Shared → Prop} {M : Model} {fr : Option Addr} (I : aB X pins σ H s) (t : yW X pins H s.heap a) (h : ∀ s', aB X pins σ H s' → yW X pins H s'.heap a → Q () s') : wpAny M A (setFlight (.ref a) fr) Q E s := by
  obtain ⟨ha, o, vs, eo, d, hs, z⟩ := id t
  unfold setFlight
  rcases z with z | ⟨T, oT, ts, z1, z2, z3, z4, z5, z6, z7, z8⟩
  · refine wpAny_bind (lA eo d z ?_)
    exact wpAny_pure (h s I t)
  · refine wpAny_bind (lA eo d z1 ?_)
    refine ly z6 z7 z8 fun h3 k3 e3 => h _ (I.record z2 z4 z5 z6 z7 k3 e3) (t.record z3 z6 z7 k3 e3)
theorem aB.noted {A : Around} {E : Value → Shared → Prop} {Q : Unit → Shared → Prop} {M : Model} {C : Addr} {dx : Option Addr} {fs : List (Str × V)} (I : aB X pins σ H s) (hA : A.frames = some X.stack) (hst : X.stack = X.env :: X.outer ∧ X.env.frame = some X.env.locals) (e : H a = some (.exc C dx fs)) (t : yW X pins H s.heap a)
    (h : ∀ s', aB X pins σ H s' → yW X pins H s'.heap a → Q () s') : wpAny M A (noteFrame (.ref a) X.env) Q E s := by
  obtain ⟨ha, o, vs, eo, d, hs, z⟩ := id t
  unfold noteFrame
  rw [hst.2]
  simp only
  rcases z with z | ⟨T, oT, ts, z1, z2, z3, z4, z5, z6, z7, z8⟩
  · refine wpAny_bind (lA eo d z ?_)
    exact I.entry hA hst e ha eo d hs h
  · refine wpAny_bind (lA eo d z1 ?_)
    obtain ⟨x3, q3⟩ : ∃ x3, ts[3]? = some x3 := ⟨_, Array.getElem?_eq_getElem z8⟩
    show wpAny M A (do let f3 ← field (.ref T) 3; if (f3 == rawInt ↑X.env.locals) = true then pure () else _) Q E s
    refine wpAny_bind (lA z6 z7 q3 ?_)
    split
    · exact wpAny_pure (h s I t)
    · refine wpAny_bind (ly z6 z7 z8 fun h3 k3 e3 => ?_)
      exact (I.record z2 z4 z5 z6 z7 k3 e3).entry hA hst e ha (by show h3.get? a = _; rw [k3 a fun y => z3 y.symm]; exact eo) d hs h
end
end L2
namespace L2
open PySem PySem.Spec PySem.W PyProof.Rows
section
variable {X : Cx} {pins : List (Addr × Obj)} {σ : St} {H : Hp} {s : Shared} {h' : Heap} {a : Addr}
theorem aB.gone (I : aB X pins σ H s) (hx : X.ex = []) {b : Addr} (n : s.heap.get? b = none) : X.s₀.heap.get? b = none := by
  cases e : X.s₀.heap.get? b with
  | none => rfl
  | some o =>
    obtain ⟨o', q⟩ := I.base.there b o e (by rw [hx]; exact List.not_mem_nil)
    rw [n] at q; cases q
def wR (X : Cx) (Ψ : V → Hp → Prop) : Prop := ∀ (pins : List (Addr × Obj)) (σ : St) (H : Hp) (s : Shared) (a C : Addr) (dx : Option Addr) (fs : List (Str × V)), aB X pins σ H s → H a = some (.exc C dx fs) → yW X pins H s.heap a → Ψ (.ref a) H → X.xe (.ref a) s
def EA (P : Program) (w : World) : tV := fun outer H s E e s' => ∃ (a C : Addr) (dx : Option Addr) (fs : List (Str × V)) (H' : Hp), e = .ref a ∧ s'.os = s.os ∧ AllBare s'.gens ∧ Un (tE outer) [] H H' s.heap s'.heap ∧ mG P w H' s'.heap ∧ H' a = some (.exc C dx fs) ∧
  (s.heap.get? a = none ∧ ∃ o vs, s'.heap.get? a = some o ∧ o.data = .fields vs ∧ 1 < vs.size ∧ (vs[1]? = some .none ∨ ∃ T oT ts, vs[1]? = some (.ref T) ∧ s.heap.get? T = none ∧ T ≠ a ∧ H' T = none ∧ s'.heap.get? T = some oT ∧ oT.data = .fields ts ∧ 3 < ts.size)) ∧ E (.ref a) none H'
def CU (Ψ : V → Hp → Prop) : XK := fun e _ H' => ∃ a, e = .ref a ∧ Ψ (.ref a) H'
theorem wR.passes {Ψ : V → Hp → Prop} (T : wR X Ψ) (hx : X.ex = []) : kD (EA X.prog X.w) X (CU Ψ) := by
  rintro pins σ H s e s' I ⟨a, C, dx, fs, H', rfl, os, ba, un, ok, ea, ⟨ha, o, vs, eo, d, hs, z⟩, a', e', hΨ⟩
  cases e'
  obtain ⟨v, H'', I', _, rfl⟩ := I.after (Q := fun _ H'' => H'' = H') (u := .none) (s' := s') ⟨.non, H', os, ba, un, ok, rfl, rfl⟩
  have up : ∀ b, s.heap.get? b = none → X.s₀.heap.get? b = none := fun b n => I.gone hx n
  refine T pins σ _ s' a C dx fs I' ea ⟨up a ha, o, vs, eo, d, hs, ?_⟩ hΨ
  rcases z with z | ⟨T, oT, ts, z1, z2, z3, z4, z5, z6, z7⟩
  · exact .inl z
  · refine .inr ⟨T, oT, ts, z1, up T z2, z3, fun p hp q => ?_, z4, z5, z6, z7⟩
    have := (I.pin p hp).1
    rw [q, z2] at this; cases this
theorem xc {h : Heap} {bmB l : List Value} {v : Value} (T : OwnTail h bmB l) (hv : bmB.contains v = true) : l.contains v = true := by
  induction T with
  | base => exact hv
  | own _ _ _ _ ih => rw [List.contains_cons, ih]; simp
def zf (C : Addr) (Ψ : V → Hp → Prop) (t : TA) : TS := fun _ σ H => t σ H fun vs H1 => vs.length ≤ sizeLine ∧ ∀ e, H1 e = none → Ψ (.ref e) (upd H1 e (.exc C none []))
theorem vY {Ψ : V → Hp → Prop} {C : Addr} {x : Str} {p cpos pos : Pos} {e : Expr} {es : List Expr} {t : TA} (O : wO X.K X.mg x C) (hg : Gl X x) (hc : X.calm = true) (hx : X.ex = []) (T : wR X Ψ) (ha : PA X (e :: es) t) (hdb : (x == ("__debug__" : Str)) = false := by decide)
    (he : starEach (e :: es) X.env = (false, eval e X.env) :: starEach es X.env := by rfl) (hpl : (backTo cpos (starEach es X.env)).any (·.1) = false := by rfl) : PS X (.Raise (some (.Call (.Name x p) (e :: es) [] cpos)) none pos) (zf C Ψ t) := by
  intro pins s σ H D I h
  rw [arm_exec_Raise]
  obtain ⟨bm, N, nm, qn, bs, hdct, sn, sub, ab, col, dd, k0, k1, k2, k3, k5, mN, hC, hN, hni, Tl⟩ := tL I.ok.mod.kin O.ex
  refine wpAny_bind (wpAny_standAt ?_)
  refine wpAny_raiseStmt_made_sub (C := C) (nm := nm) (q := qn) (N := N) (bs := bs) (bm := bm) (hdct := hdct) (sn := sn) (sub := sub) (ab := ab) (col := col) (dd := dd) (k0 := k0) (k1 := k1) (k2 := k2) (k3 := k3) (k5 := k5) (newId := "ValueError.__new__") (xc Tl (by decide)) (I.ok.hd hc) ?_
  show wpAny _ _ (do let v ← eval (.Call (.Name x p) (e :: es) [] cpos) X.env; standAt pos; pure v) _ _ _
  refine wpAny_bind ?_
  refine wpAny_Call_Name_kw (mD I hg O.at_ ?_ hdb)
  refine PySem.W.callWith_K (h₀ := X.base) I.ok.mod.kin O.kp (ez (ha cpos pins s σ H _ I h) fun us s1 ⟨vs, H1, I1, r, hl, q⟩ => ⟨I1.kIn, ?_⟩) he hpl
  obtain ⟨bm', N', nm', qn', bs', hdct', sn', sub', ab', col', dd', k0', k1', k2', k3', k5', mN', hC', hN', hni', T'⟩ := tL I1.kIn O.ex
  have I1' := I1
  obtain ⟨hp, g, d, tk, os⟩ := s1
  refine wpAny_call_exc_subT PySem.F.excBase_ValueError T' hC' hN' hni' (fun h' ea m => ?_) (by show us.length ≤ sizeLine; rw [← r.length]; exact hl)
  obtain ⟨hn, I2⟩ := I1'.excMade m
  obtain ⟨tt, e1, e2, e3⟩ := m.there
  refine wpAny_bind (wpAny_standAt (wpAny_pure ⟨ea, tt, rfl, ?_, e1, ?_⟩))
  · exact I2.bk _ _ hC
  · exact T pins σ _ _ ea C none [] I2 bK ⟨I1'.gone hx m.new, _, _, e1, rfl, Nat.le_of_ble_eq_true rfl, .inl rfl⟩ (q ea hn)
end
end L2
namespace L2
open PySem PySem.Spec PySem.W PyProof.Rows
section
variable {X : Cx} {pins : List (Addr × Obj)} {σ : St} {H : Hp} {s : Shared} {h' : Heap} {a : Addr}
abbrev Cx.pinned (X : Cx) (E : Value → Shared → Prop) (pn : List (Addr × Obj)) : Cx := { X with xe := E, pn := pn }
abbrev Cx.marked (X : Cx) (v : Value) : Cx := { X with A := X.A.mark (some v), calm := false, xe := fun _ _ => False }
theorem aB.pin2 {E : Value → Shared → Prop} (I : aB X pins σ H s) : aB (X.pinned E (X.pn ++ pins)) [] σ H s :=
  ⟨⟨I.ok.mod, I.ok.kind, I.ok.glob, I.ok.blt, I.ok.above, I.ok.inj, I.ok.has, I.ok.cab, I.ok.hd, I.ok.frames, I.ok.stk, I.ok.exf, I.ok.bs, I.ok.bsz, I.ok.noex, I.ok.exfs, I.ok.funs, I.ok.frf⟩, I.os, I.bare, I.base, I.loc, I.cell, I.free, I.freeC, fun p hp => I.pin p (by rw [List.append_nil] at hp; exact hp), I.hok, I.len⟩
theorem aB.unpin {E : Value → Shared → Prop} {ps : List (Addr × Obj)} (I : aB (X.pinned E (X.pn ++ pins)) ps σ H s) : aB X pins σ H s :=
  ⟨⟨I.ok.mod, I.ok.kind, I.ok.glob, I.ok.blt, I.ok.above, I.ok.inj, I.ok.has, I.ok.cab, I.ok.hd, I.ok.frames, I.ok.stk, I.ok.exf, I.ok.bs, I.ok.bsz, I.ok.noex, I.ok.exfs, I.ok.funs, I.ok.frf⟩, I.os, I.bare, I.base, I.loc, I.cell, I.free, I.freeC, fun p hp => I.pin p (List.mem_append_left _ hp), I.hok, I.len⟩
theorem SP.unpin {E : Value → Shared → Prop} {D : o4} {f : Flow} {s' : Shared} (h : SP (X.pinned E (X.pn ++ pins)) [] D f s') : SP X pins D f s' := by
  cases f with
  | next => obtain ⟨σ', H', I, q⟩ := h; exact ⟨σ', H', I.unpin, q⟩
  | brk => obtain ⟨σ', H', I, q⟩ := h; exact ⟨σ', H', I.unpin, q⟩
  | cont => obtain ⟨σ', H', I, q⟩ := h; exact ⟨σ', H', I.unpin, q⟩
  | ret u => obtain ⟨v, σ', H', I, r, q⟩ := h; exact ⟨v, σ', H', I.unpin, r, q⟩
theorem aB.forget (I : aB X pins σ H s) : aB X pins (List.replicate X.N.length none) H s := by
  refine ⟨I.ok, I.os, I.bare, I.base, ?_, I.cell, I.free, I.freeC, I.pin, I.hok, List.length_replicate⟩
  obtain ⟨m, hn, _⟩ := I.loc
  refine ⟨m, hn, fun i x v _ e => ?_⟩
  rw [List.getElem?_replicate] at e
  split at e <;> cases e
theorem aB.mark {v : Value} (I : aB X pins σ H s) : aB (X.marked v) pins σ H s :=
  ⟨⟨I.ok.mod, I.ok.kind, I.ok.glob, I.ok.blt, I.ok.above, I.ok.inj, I.ok.has, I.ok.cab, (fun z => by cases z), I.ok.frames, I.ok.stk, I.ok.exf, I.ok.bs, I.ok.bsz, I.ok.noex, I.ok.exfs, I.ok.funs, I.ok.frf⟩, I.os, I.bare, I.base, I.loc, I.cell, I.free, I.freeC, I.pin, I.hok, I.len⟩
theorem aB.unmark {v : Value} (ok : X.Ok) (I : aB (X.marked v) pins σ H s) : aB X pins σ H s := ⟨ok, I.os, I.bare, I.base, I.loc, I.cell, I.free, I.freeC, I.pin, I.hok, I.len⟩
theorem aB.nameGoes {M : Model} {A : Around} {E : Value → Shared → Prop} {n : Str} {pos : Pos} {Q : Unit → Shared → Prop} (I : aB X pins σ H s) (hk : X.env.kindOf n = some .local) (h : ∀ s', aB X pins (List.replicate X.N.length none) H s' → Q () s') : wpAny M A (do bindName X.env n .none; unbindBehindTheSuite X.env n pos) Q E s := by
  obtain ⟨m, hn, _⟩ := id I.loc
  obtain ⟨ol, es, ep, el, hd, _⟩ := id hn
  have nc : ∀ c v, s.heap.IsCell c v → c ≠ X.env.locals := fun c v ⟨o, e, d⟩ z => by
    rw [z, el] at e; cases e
    rw [hd] at d; cases d
  refine wpAny_nameGoes_keeps hk hn (by rw [I.ok.kind]; rfl) fun h2 v n2 sb => h _ ?_
  have k : ∀ b o, b ≠ X.env.locals → s.heap.get? b = some o → h2.get? b = some o := fun b o z e => by rw [sb.2 b z]; exact e
  refine ⟨I.ok, I.os, I.bare, ⟨fun b o e n f x => ?_, fun b o e n f x => ?_, I.base.free, fun b o e x => ?_, I.base.tups, I.base.frzs, I.base.tbls⟩, ⟨_, n2, fun i x v _ e => ?_⟩, fun x c e => ?_, I.free, I.freeC, fun p hp => ?_, ?_, List.length_replicate⟩
  · exact k b o (fun z => Nat.lt_irrefl _ (Nat.lt_of_lt_of_le (z ▸ Heap.lt_size e) I.ok.above)) (I.base.keep b o e n f x)
  · obtain ⟨sl, q⟩ := I.base.slot b o e n f x
    exact ⟨sl, k b _ (fun z => Nat.lt_irrefl _ (Nat.lt_of_lt_of_le (z ▸ Heap.lt_size e) I.ok.above)) q⟩
  · obtain ⟨o', q⟩ := I.base.there b o e x
    exact ⟨o', k b _ (fun z => Nat.lt_irrefl _ (Nat.lt_of_lt_of_le (z ▸ Heap.lt_size e) I.ok.above)) q⟩
  · rw [List.getElem?_replicate] at e
    split at e <;> cases e
  · obtain ⟨v, q⟩ := I.cell x c e
    obtain ⟨o, e1, d1⟩ := id q
    exact ⟨v, o, k c o (nc c v q) e1, d1⟩
  · obtain ⟨e, n, n1, n2, n3⟩ := I.pin p hp
    exact ⟨k _ _ n1 e, n, n1, n2, n3⟩
  · intro b u q
    refine (I.hok b u q).stay (fun c v z q1 => k c v ?_ q1) (fun _ z => z) fun _ _ z => z
    rintro rfl
    have fr := I.free
    rcases z with z | z
    · rw [z, q] at fr; cases fr
    · rw [z] at fr; cases fr
def hΨ (X : Cx) (B : Addr) (i : Nat) (th : TS) (D : o4) : V → Hp → Prop := fun v H' => ∃ a C dx fs, v = .ref a ∧ H' a = some (.exc C dx fs) ∧ exmOne X.K (.ref C) (.ref B) = some true ∧ th { nx := fun _ _ => False, rt := D.rt } ((List.replicate X.N.length none).set i (some v)) H'
theorem xM {body suite : List Stmt} {b0 : Stmt} {cx n : Str} {np hpos pos : Pos} {i : Nat} {B : Addr} {tb : (V → Hp → Prop) → TS} {th : TS} (hst : X.stack = X.env :: X.outer ∧ X.env.frame = some X.env.locals) (hg : Gl X cx) (hB : X.mg cx = some (.ref B)) (hN : X.N.Nodup) (hi : X.N[i]? = some n)
    (hk : X.env.kindOf n = some .local) (hl : wU X.env.scope n) (hf : X.fn n = true ∨ X.env.scope.names.lookup n = some .local)
    (hb : ∀ E' pn' Ψ, wR (X.pinned E' pn') Ψ → oI (X.pinned E' pn') body (tb Ψ)) (hh : ∀ a : Addr, oI (X.marked (.ref a)) (b0 :: suite) th) (hdb : (cx == ("__debug__" : Str)) = false := by decide) :
    PS X (.Try body [.ExceptHandler (some (.Name cx np)) (some n) (b0 :: suite) hpos] [] [] pos) (fun D σ H => tb (hΨ X B i th D) D σ H) := by
  intro pins s σ H D I h
  refine wpAny_Try_except ?_
  let E' : Value → Shared → Prop := fun e s₁ => wpAny (model X.prog X.w) X.A (noteFrame e X.env) (fun _ s₂ => wpAny (model X.prog X.w) X.A (setFlight e none) (fun _ s₃ => wpAny (model X.prog X.w) X.A (handleBy e X.env [.ExceptHandler (some (.Name cx np)) (some n) (b0 :: suite) hpos]) (SP X pins D) X.xe s₃) X.xe s₂) X.xe s₁
  have thr : wR (X.pinned E' (X.pn ++ pins)) (hΨ X B i th D) := by
    rintro ps σ1 H1 s1 a C dx fs I1 e1 t1 ⟨a', C', dx', fs', ea, e1', hm, hth⟩
    cases ea
    rw [e1] at e1'; cases e1'
    refine I1.noted I1.ok.frames hst e1 t1 fun s2 I2 t2 => I2.flight t2 fun s3 I3 t3 => ?_
    have J : aB X pins (List.replicate X.N.length none) H1 s3 := I3.unpin.forget
    refine wpAny_handleBy_cons ?_ (by intro z; cases z)
    have J' : aB (X.marked (.ref a)) pins (List.replicate X.N.length none) H1 s3 := J.mark
    refine codeAny_handlers_test (mD J' hg hB ?_ hdb)
    obtain ⟨ox, od, Ja, _⟩ := tJ J' e1
    refine exm_one J'.kIn Ja.type hm _ _ _ s3 (fun b o q => q) ?_
    show codeAny _ _ _ _ s3
    have t3' : yW (X.marked (.ref a)) pins H1 s3.heap a := by
      obtain ⟨ha, o, vs, eo, d, hs, z⟩ := t3
      refine ⟨ha, o, vs, eo, d, hs, ?_⟩
      rcases z with z | ⟨T, oT, ts, z1, z2, z3, zp, z4, z5, z6, z7⟩
      · exact .inl z
      · exact .inr ⟨T, oT, ts, z1, z2, z3, fun p hp => zp p (List.mem_append_left _ hp), z4, z5, z6, z7⟩
    refine codeAny_handlers_suite_as (J'.flight t3' fun s4 J4 t4 => ?_)
    refine pv (X := X.marked (.ref a)) (v := .ref a) J4 hN hi hl rfl (fun s5 J5 => ?_) hf
    refine wpAny_mono (hh a pins s5 _ H1 _ J5 hth) (fun f s6 q => ?_) fun _ _ z => z.elim
    cases f with
    | ret u =>
      obtain ⟨v, σ', H', J6, r, q⟩ := q
      exact (aB.unmark J.ok J6).nameGoes hk fun s7 J7 => ⟨v, _, H', J7, r, q⟩
    | next => obtain ⟨_, _, _, z⟩ := q; exact z.elim
    | brk => obtain ⟨_, _, _, z⟩ := q; exact z.elim
    | cont => obtain ⟨_, _, _, z⟩ := q; exact z.elim
  refine wpAny_mono (hb E' _ _ thr [] s σ H D I.pin2 h) (fun f s1 q => ?_) fun e s1 z => z
  have q := q.unpin
  cases f with
  | next =>
    obtain ⟨σ', H', J, q⟩ := q
    exact ve pins s1 σ' H' D J q
  | brk => exact q
  | cont => exact q
  | ret u => exact q
end
end L2
namespace HL
open PySem (Str)
def mX (c : Str) (as : DA) : DS := fun s h => match as s h with
  | .ok vs h1 => if vs.length ≤ hW then .ex h1.length (h1 ++ [.exc c []]) else .er
  | _ => .er
def lb (d : DS) : DS := fun s h => match d s h with
  | .ex _ _ => .er
  | c => c
def kS (d : DT) : DT := fun s h => match d s h with
  | .ex _ _ => .er
  | c => c
def jJ (d : DA) : DA := fun s h => match d s h with
  | .ex _ _ => .er
  | c => c
def zm (e0 : DE) (body : DS) (n i : Nat) (cs : List Str) (hd : DS) : DS := fun s h => match e0 s h with
  | .ok _ _ => lb body s h
  | .ex a h1 => (match h1[a]? with
    | some (.exc c _) => if cs.contains c = true then (match hd ((List.replicate n none).set i (some (.ref a))) h1 with
      | .rt v h2 => .rt v h2
      | _ => .er) else .er
    | _ => .er)
  | .er => .er
end HL
namespace L2
open PySem PySem.Spec PySem.W PyProof.Rows
open HL (W SO Sh Sg OR DE DT DA DS Fn)
def XQ (K : PySem.W.Frag) (γ : Str → Addr) (ρ : Nat → Addr) (h : Sh) (a : Nat) (h1 : Sh) (Ψ : V → Hp → Prop) : Prop := ∀ ρ' H', eQ h ρ h1 ρ' → cM K γ ρ' h1 H' → a < h1.length → Ψ (.ref (ρ' a)) H'
def eX (K : PySem.W.Frag) (γ : Str → Addr) (d : DE) (Ψ : V → Hp → Prop) (σ : St) (H : Hp) : Prop := ∃ ρ s h a h1, tT K γ ρ s h σ H ∧ d s h = .ex a h1 ∧ XQ K γ ρ h a h1 Ψ
def EJ (K : PySem.W.Frag) (γ : Str → Addr) (d : DS) (Ψ : V → Hp → Prop) (σ : St) (H : Hp) : Prop := ∃ ρ s h a h1, tT K γ ρ s h σ H ∧ d s h = .ex a h1 ∧ XQ K γ ρ h a h1 Ψ
abbrev QX (γ : Str → Addr) (X : Cx) (Ψ : V → Hp → Prop) (e : Expr) (d : DE) : Prop := PE X e (fun σ H _ => eX X.K γ d Ψ σ H)
abbrev Ax (γ : Str → Addr) (X : Cx) (Ψ : V → Hp → Prop) (b : List Stmt) (d : DS) : Prop := oI X b (fun _ σ H => EJ X.K γ d Ψ σ H)
abbrev Ei (γ : Str → Addr) (X : Cx) (Ψ : V → Hp → Prop) (b : Stmt) (d : DS) : Prop := PS X b (fun _ σ H => EJ X.K γ d Ψ σ H)
section
variable {X : Cx} {γ : Str → Addr} {Ψ : V → Hp → Prop} {e : Expr} {es : List Expr} {d : DA} {da db : DS} {pos : Pos}
theorem XQ.later {K : PySem.W.Frag} {ρ ρ1 : Nat → Addr} {h h1 h2 : Sh} {a : Nat} (x : XQ K γ ρ h a h2 Ψ) (n : eQ h ρ h1 ρ1) : XQ K γ ρ1 h1 a h2 Ψ := fun ρ' H' n' => x ρ' H' (n.trans n')
theorem wV : Ax γ X Ψ [] HL.gq := fun pins s σ H D I ⟨ρ, t, h, a, h1, S, e, x⟩ => by cases e
theorem sD {b : List Stmt} : Ax γ X Ψ b (HL.lb da) := fun pins s σ H D I ⟨ρ, t, h, a, h1, S, e, x⟩ => by
  unfold HL.lb at e
  split at e
  · cases e
  · rename_i c z
    exact absurd e (z _ _)
theorem pH {b : List Stmt} (h : sx γ X b da) : sx γ X b (HL.lb da) := fun pins s σ H D I ⟨ρ, t, hh, S, x⟩ => h pins s σ H D I ⟨ρ, t, hh, S, by
  unfold HL.lb at x
  split at x
  · exact x.elim
  · exact x⟩
theorem jN {b : Stmt} (h : Ei γ X Ψ b da) : Ax γ X Ψ [b] da := rD h
theorem ng {b : Stmt} {r : List Stmt} (hn : QS γ X b da) (h1 : Ei γ X Ψ b da) (h2 : Ax γ X Ψ r db) : Ax γ X Ψ (b :: r) (HL.aI da db) := by
  have c : PS X b (fun D σ H => eS X.K γ da D σ H ∨ EJ X.K γ da Ψ σ H) := fun pins s σ H D I z => z.elim (hn pins s σ H D I) (h1 pins s σ H D I)
  intro pins s σ H D I ⟨ρ, t, h, a, hh, S, e, x⟩
  refine sU c h2 pins s σ H D I ?_
  unfold HL.aI at e
  cases q : da t h with
  | nx s1 h1 =>
    rw [q] at e
    refine .inl ⟨ρ, t, h, S, ?_⟩
    rw [q]
    exact fun ρ1 H1 n1 S1 w1 => ⟨ρ1, s1, h1, a, hh, ⟨S1, w1, rfl⟩, e, x.later n1⟩
  | ex a1 h1 => rw [q] at e; cases e; exact .inr ⟨ρ, t, h, a, hh, S, q, x⟩
  | rt => rw [q] at e; cases e
  | bk => rw [q] at e; cases e
  | ct => rw [q] at e; cases e
  | er => rw [q] at e; cases e
theorem qF {c : Expr} {dc : DT} (h : QT γ X c dc) : QT γ X c (HL.kS dc) := fun pins s σ H Q I ⟨ρ, t, hh, S, x⟩ => h pins s σ H Q I ⟨ρ, t, hh, S, by
  unfold HL.kS at x
  split at x
  · exact x.elim
  · exact x⟩
theorem wW {c : Expr} {a b : List Stmt} {dc : DT} (hc : QT γ X c dc) (ha : Ax γ X Ψ a da) (hb : Ax γ X Ψ b db) : Ei γ X Ψ (.If c a b pos) (HL.et (HL.kS dc) da db) := by
  intro pins s σ H D I ⟨ρ, t, h, a1, hh, S, e, x⟩
  refine AM hc ha hb pins s σ H D I ?_
  unfold HL.et HL.kS at e
  refine ⟨ρ, t, h, S, ?_⟩
  cases q : dc t h with
  | ok k h1 =>
    rw [q] at e
    intro ρ1 H1 n1 S1 _
    have T1 := S.next n1 S1
    cases k with
    | true => exact ⟨ρ1, t, h1, a1, hh, T1, e, x.later n1⟩
    | false => exact ⟨ρ1, t, h1, a1, hh, T1, e, x.later n1⟩
  | ex => rw [q] at e; cases e
  | er => rw [q] at e; cases e
theorem uO {x : Str} {p cpos : Pos} (O : wO X.K X.mg x (γ x)) (hg : Gl X x) (hc : X.calm = true) (hx : X.ex = []) (T : wR X Ψ) (ha : QA γ X (e :: es) d) (hdb : (x == ("__debug__" : Str)) = false := by decide)
    (he : starEach (e :: es) X.env = (false, eval e X.env) :: starEach es X.env := by rfl) (hpl : (backTo cpos (starEach es X.env)).any (·.1) = false := by rfl) : Ei γ X Ψ (.Raise (some (.Call (.Name x p) (e :: es) [] cpos)) none pos) (HL.mX x d) := by
  intro pins s σ H D I ⟨ρ, t, h, a1, hh, S, ee, xx⟩
  refine vY O hg hc hx T ha hdb he hpl pins s σ H D I ⟨ρ, t, h, S, ?_⟩
  unfold HL.mX at ee
  cases q : d t h with
  | ok vs h1 =>
    rw [q] at ee
    simp only at ee
    split at ee
    · rename_i hl
      cases ee
      intro ρ1 H1 n1 S1 w1
      refine ⟨by rw [List.length_map]; exact fM hl, fun ea hn => ?_⟩
      have S2 : cM X.K γ (put ρ1 h1.length ea) (h1 ++ [.exc x []]) (upd H1 ea (.exc (γ x) none [])) := S1.push (o := .exc x []) (fun q hq => by cases hq) (qy.upd _ hn) hn ⟨none, bK⟩
      have z := xx _ _ (n1.trans (eQ.push h1 ρ1 (.exc x []) ea)) S2 (by simp)
      rw [gu] at z
      exact z
    · cases ee
  | ex => rw [q] at ee; cases ee
  | er => rw [q] at ee; cases ee
theorem pI {x : Option Expr} {c : Str} : QS γ X (.Raise x none pos) (HL.mX c d) := fun pins s σ H D I ⟨ρ, t, h, S, z⟩ => by
  unfold HL.mX at z
  split at z
  · split at z <;> exact z.elim
  · exact z.elim
def p9 (K : PySem.W.Frag) (γ : Str → Addr) (p : Nat) (f : Fn) : Sp := fun vs H _ E => vs.length = p ∧ ∃ ρ h us a h1, cM K γ ρ h H ∧ mH h.length us ∧ vs = us.map (aF γ ρ) ∧ f us h = .ex a h1 ∧ XQ K γ ρ h a h1 fun v H' => ∃ b, v = .ref b ∧ E (.ref b) none H'
structure ji (P : Program) (w : World) (K : PySem.W.Frag) (mg : Str → Option Value) (base : Heap) (k : Nat) (C : Addr) (m : Str) (ps : List Str) (sp : Sp) : Prop where
  ex : ∃ f fd, m5 P w K mg base (EA P w) k f fd ps sp ∧ findIn K (.ref C) m = some (some (.ref f)) ∧ isFn K (.ref f) = true ∧ keepIn K (.ref f) = true ∧ gg K fd ps []
theorem C7 {P : Program} {w : World} {K : PySem.W.Frag} {mg : Str → Option Value} {base : Heap} {N : List Str} {qual : Str} {scope : Scope} {f : Addr} {cd : Value} {A : Around} {outer : List Env} {s0 : Shared} {H0 : Hp} {E : XK} : wR (oh (EA P w) P w K mg base N qual scope f cd A outer s0 H0 E) (fun v H' => ∃ b, v = .ref b ∧ E (.ref b) none H') := by
  rintro pins σ H s a C dx fs I e t ⟨b, eb, hΨ⟩
  cases eb
  show wpAny _ _ (leaving _ (.ref a)) _ _ s
  unfold leaving
  refine wpAny_bind (I.noted I.ok.frames ⟨rfl, rfl⟩ e t fun s1 I1 t1 => I1.flight t1 fun s2 I2 t2 => ?_)
  obtain ⟨ha, o, vs, eo, d, hs, z⟩ := t2
  refine ⟨a, C, dx, fs, H, rfl, I2.os, I2.bare, I2.base, I2.hok, e, ⟨ha, o, vs, eo, d, hs, ?_⟩, hΨ⟩
  rcases z with z | ⟨T, oT, ts, z1, z2, z3, _, z4, z5, z6, z7⟩
  · exact .inl z
  · exact .inr ⟨T, oT, ts, z1, z2, z3, z4, z5, z6, z7⟩
theorem aG.xdef {P : Program} {w : World} {K : PySem.W.Frag} {mg : Str → Option Value} {base : Heap} {γ : Str → Addr} {C : Addr} {m qual : Str} {st : Stmt} {N ps : List Str} {k p n : Nat} {bd : DS} (F : aG K C m qual st ps) (S : aD N ps (aq st)) (hp : ps.length = p) (hn : N.length = n)
    (hbody : ∀ (f : Addr) (cdv : Value) (A : Around) (outer : List Env) (s : Shared) (H : Hp) (E : XK) (Ψ : V → Hp → Prop), b6 k (A.deeper (envOfC qual (aq st) s.heap.objs.size f cdv)) → wR (oh (EA P w) P w K mg base N qual (aq st) f cdv A outer s H E) Ψ →
      Ax γ (oh (EA P w) P w K mg base N qual (aq st) f cdv A outer s H E) Ψ (bC st) bd) : ji P w K mg base (k + 1) C m ps (p9 K γ p (HL.fnOf p n bd)) := by
  obtain ⟨f, oc, od, dV, kV, doc, pm, an, cdv, ct, osl, lk, hcd, kp, fi, isf, hb⟩ := F.ex
  refine ⟨f, _, yw lk hcd S (fun vs H Q E h => h.1.trans hp.symm) fun A outer s H vs Q E hr hsp => ⟨_, hbody f cdv A outer s H E _ hr C7, ?_⟩, fi, isf, kp, hb⟩
  obtain ⟨_, ρ, hh, us, a, h1, S, wu, e, ex, x⟩ := hsp
  rw [e]
  subst hn
  unfold HL.fnOf at ex
  split at ex
  · refine ⟨ρ, HL.aH N.length us, hh, a, h1, ⟨S, sE wu, pD N us⟩, ?_, x⟩
    cases q : bd (HL.aH N.length us) hh with
    | nx => rw [q] at ex; cases ex
    | rt => rw [q] at ex; cases ex
    | bk => rw [q] at ex; cases ex
    | ct => rw [q] at ex; cases ex
    | ex => rw [q] at ex; cases ex; rfl
    | er => rw [q] at ex; cases ex
  · cases ex
theorem C6 {x : Str} {k p n : Nat} {bd : DS} {ps : List Str} {pp : Pos} (M : A8 X.K X.mg x (γ x)) (F : ji X.prog X.w X.K X.mg X.base k (γ x) "__init__" ps (p9 X.K γ p (HL.fnOf p n bd))) (hr : b6 (k + 1) X.A) (hx : X.ex = []) (T : wR X Ψ) (hp : ps.length = p) (hg : Gl X x) (ha : QA γ X (e :: es) d) (hdb : (x == ("__debug__" : Str)) = false := by decide)
    (he : starEach (e :: es) X.env = (false, eval e X.env) :: starEach es X.env := by rfl) (hpl : (backTo pos (starEach es X.env)).any (·.1) = false := by rfl) : QX γ X Ψ (.Call (.Name x pp) (e :: es) [] pos) (HL.cV x (HL.fnOf p n bd) [] (HL.jJ d)) := by
  obtain ⟨g, fd, F, a, nf, kp, b⟩ := F.ex
  refine (vg (E := CU Ψ) ⟨M.makes, a, nf, M.kp⟩ F hr hg M.at_ b .nil (T.passes hx) ha hdb he hpl).imp fun σ H Q z => ?_
  obtain ⟨ρ, s, h, ea, hh, S, ee, xx⟩ := z
  unfold HL.cV HL.jJ at ee
  refine ⟨ρ, s, h, S, ?_⟩
  cases q : d s h with
  | ok us h1 =>
    rw [q] at ee
    simp only [HL.R.bind] at ee
    intro ρ1 H1 n1 S1 w1 y dx hy hdx ne
    have hdx' : upd H1 dx (.own y) y = none := by rw [aV ne.symm]; exact hy
    have E1 : qy H1 (upd (upd H1 dx (.own y)) y (.ins (γ x) dx [])) := (qy.upd _ hdx).trans (qy.upd _ hdx')
    have S2 := S1.push (p := y) (o := .ins x []) (fun q hq => by cases hq) E1 hy ⟨dx, bK⟩
    have w2 : mH (h1 ++ [SO.ins x []]).length (.ref h1.length :: (us ++ [])) := fun q hq => by
      rcases List.mem_cons.mp hq with r | r
      · rw [r]; show h1.length < (h1 ++ [_]).length; simp
      · rw [List.append_nil] at r
        exact (w1 q r).mono (by simp)
    have n2 := eQ.push h1 ρ1 (.ins x []) y
    have fx : HL.fnOf p n bd (.ref h1.length :: (us ++ [])) (h1 ++ [.ins x []]) = .ex ea hh := by
      cases q2 : HL.fnOf p n bd (.ref h1.length :: (us ++ [])) (h1 ++ [.ins x []]) with
      | ok v h2 =>
        rw [q2] at ee
        simp only at ee
        split at ee <;> cases ee
      | ex => rw [q2] at ee; cases ee; rfl
      | er => rw [q2] at ee; cases ee
    have lp : (.ref h1.length :: (us ++ []) : List W).length = p := by
      unfold HL.fnOf at fx
      split at fx
      · assumption
      · cases fx
    refine ⟨?_, put ρ1 h1.length y, _, _, ea, hh, S2, w2, ?_, fx, fun ρ' H' n' S' la => ⟨ρ' ea, rfl, ρ' ea, rfl, xx ρ' H' (n1.trans (n2.trans n')) S' la⟩⟩
    · rw [← lp]; simp
    · rw [List.map_cons, List.map_append, show aF γ (put ρ1 h1.length y) (.ref h1.length) = V.ref y from congrArg V.ref (gu _ _ _), ← my w1 (ib _ _ _)]
      rfl
  | ex a2 h2 => rw [q] at ee; cases ee
  | er => rw [q] at ee; cases ee
theorem Bb {de : DE} (h : QX γ X Ψ e de) (hs : swapsWith e none pos.line X.env = pure false := by rfl) : oI X [.Expr e pos] (fun _ σ H => eX X.K γ de Ψ σ H) := rD (rE h hs)
theorem Bq {body suite : List Stmt} {b0 : Stmt} {cx n : Str} {np hpos : Pos} {i : Nat} {B : Addr} {cs : List Str} {e0 : DE} {db hd : DS} (hst : X.stack = X.env :: X.outer ∧ X.env.frame = some X.env.locals) (hg : Gl X cx) (hB : X.mg cx = some (.ref B)) (hN : X.N.Nodup) (hi : X.N[i]? = some n)
    (hk : X.env.kindOf n = some .local) (hl : wU X.env.scope n) (hf : X.fn n = true ∨ X.env.scope.names.lookup n = some .local)
    (hbN : ∀ pn', sx γ (X.pinned (fun _ _ => False) pn') body db) (hbR : ∀ E' pn' Ψ, wR (X.pinned E' pn') Ψ → oI (X.pinned E' pn') body (fun _ σ H => eX X.K γ e0 Ψ σ H)) (hh : ∀ a : Addr, sx γ (X.marked (.ref a)) (b0 :: suite) hd)
    (hm : ∀ c, cs.contains c = true → exmOne X.K (.ref (γ c)) (.ref B) = some true) (hdb : (cx == ("__debug__" : Str)) = false := by decide) :
    QS γ X (.Try body [.ExceptHandler (some (.Name cx np)) (some n) (b0 :: suite) hpos] [] [] pos) (HL.zm e0 db X.N.length i cs hd) := by
  refine (xM (tb := fun Ψ D σ H => eS X.K γ db D σ H ∨ eX X.K γ e0 Ψ σ H) (th := eS X.K γ hd) hst hg hB hN hi hk hl hf (fun E' pn' Ψ T pins s σ H D I z => z.elim ((hbN pn').nox pins s σ H D I) (hbR E' pn' Ψ T pins s σ H D I)) hh hdb).imp fun D σ H z => ?_
  obtain ⟨ρ, s, h, S, z⟩ := z
  unfold HL.zm at z
  cases q : e0 s h with
  | ok v h1 =>
    rw [q] at z
    refine .inl ⟨ρ, s, h, S, ?_⟩
    simp only at z
    unfold HL.lb at z
    split at z
    · exact z.elim
    · exact z
  | ex a h1 =>
    rw [q] at z
    simp only at z
    refine .inr ⟨ρ, s, h, a, h1, S, q, fun ρ' H' n' S' la => ?_⟩
    cases q1 : h1[a]? with
    | none => rw [q1] at z; exact z.elim
    | some o =>
      rw [q1] at z
      cases o with
      | exc c fs =>
        simp only at z
        split at z
        · rename_i hc
          obtain ⟨dx, ob⟩ := S'.ob a _ q1
          refine ⟨ρ' a, γ c, dx, _, rfl, ob, hm c hc, ρ', (List.replicate X.N.length none).set i (some (.ref a)), h1, ⟨S', ?_, ?_⟩, ?_⟩
          · exact pk (fun y hy => by cases (List.mem_replicate.mp hy).2) la
          · rw [lE]
            unfold jg
            rw [List.map_replicate]
            rfl
          · cases q2 : hd ((List.replicate X.N.length none).set i (some (.ref a))) h1 with
            | rt v h2 =>
              rw [q2] at z
              exact fun ρ2 H2 n2 => z ρ2 H2 (n'.trans n2)
            | _ => rw [q2] at z; exact z.elim
        · exact z.elim
      | _ => exact z.elim
  | er => rw [q] at z; exact z.elim
end
end L2
namespace L2
open PySem PySem.Spec PySem.W PyProof.Rows
open HL (W)
def Cy (K : PySem.W.Frag) (cs : List (Str × Addr × List W)) : Bool :=
  (cs.all fun p => cs.all fun q => PySem.W.kitOne K (.ref p.2.1) (.ref q.2.1) == some (p.2.2.contains (.gl q.1))) &&
  (cs.all fun p => HL.tX.all fun b => PySem.W.kitOne K (.ref p.2.1) (.type b) == some (p.2.2.contains (.ty b))) &&
  (cs.all fun q => ("NoneType" :: HL.tX).all fun a => PySem.W.kitOne K (.type a) (.ref q.2.1) == some false)
theorem wA {K : PySem.W.Frag} {γ : Str → Addr} {cs : List (Str × Addr × List W)} (hγ : ∀ p ∈ cs, γ p.1 = p.2.1) (hi : ∀ p ∈ cs, p.2.2.contains (.ty "ValueError") = false → vL K p.2.1) (hx : ∀ p ∈ cs, p.2.2.contains (.ty "ValueError") = true → qR K p.2.1) (hb : Cy K cs = true) : oJ K γ (cs.map fun p => (p.1, p.2.2)) := by
  unfold Cy at hb
  simp only [Bool.and_eq_true] at hb
  obtain ⟨⟨h1, h2⟩, h3⟩ := hb
  have mem : ∀ c l, (cs.map fun p => (p.1, p.2.2)).lookup c = some l → ∃ a, (c, a, l) ∈ cs ∧ γ c = a := fun c l e => by
    obtain ⟨p, hp, q⟩ := List.mem_map.mp (pU e)
    obtain ⟨x, a, m⟩ := p
    cases q
    exact ⟨a, hp, hγ _ hp⟩
  refine ⟨?_, ?_, ?_, ?_⟩
  · intro c l e
    obtain ⟨a, hp, ga⟩ := mem c l e
    rw [ga]
    exact ⟨fun z => hi _ hp z, fun z => hx _ hp z⟩
  · intro c l e x m e2
    obtain ⟨a, hp, ga⟩ := mem c l e
    obtain ⟨b, hq, gb⟩ := mem x m e2
    rw [ga, gb]
    exact beq_iff_eq.mp (List.all_eq_true.mp (List.all_eq_true.mp h1 _ hp) _ hq)
  · intro c l e b hb
    obtain ⟨a, hp, ga⟩ := mem c l e
    rw [ga]
    exact beq_iff_eq.mp (List.all_eq_true.mp (List.all_eq_true.mp h2 _ hp) b hb)
  · intro x m e a ha
    obtain ⟨b, hq, gb⟩ := mem x m e
    rw [gb]
    exact beq_iff_eq.mp (List.all_eq_true.mp (List.all_eq_true.mp h3 _ hq) a ha)
end L2
namespace HL
open PySem (Str)
def u1 (body : DS) (n i : Nat) (cs : List Str) (hd : DS) : DS := fun s h => match body s h with
  | .ex a h1 => (match h1[a]? with
    | some (.exc c _) => if cs.contains c = true then (match hd ((List.replicate n none).set i (some (.ref a))) h1 with
      | .rt v h2 => .rt v h2
      | _ => .er) else .er
    | _ => .er)
  | c => c
def Em (d : DE) : Prop := ∀ s h a h', d s h ≠ .ex a h'
theorem gY (i : Nat) : Em (af i) := fun s h a h' e => by
  unfold af at e
  split at e <;> cases e
end HL
namespace L2
open PySem PySem.Spec PyProof.Rows
open HL (W SO Sh Sg OR DE DT DA DS Fn)
structure fZ (k : Nat) (A : Around) : Prop where
  dp : A.depth + 3 * k + 5 < recursionLimit
  un : A.units + 16 * k + 200 < cLine
theorem fZ.deeper {k : Nat} {A : Around} (r : fZ (k + 1) A) (env : Env) : fZ k (A.deeper env) :=
  ⟨by have := r.dp; show A.depth + 1 + 3 * k + 5 < _; omega, by have := r.un; show A.units + 3 + 16 * k + 200 < _; omega⟩
theorem fZ.depth {k : Nat} {A : Around} (r : fZ k A) : A.depth < recursionLimit := by have := r.dp; omega
theorem fZ.units {k : Nat} {A : Around} (r : fZ k A) : A.units + 64 < cLine := by have := r.un; omega
structure tU (P : Program) (w : World) (K : PySem.W.Frag) (mg : Str → Option Value) (base : Heap) (CX : tV) (k : Nat) (f : Addr) (fd : FuncData) (ps : List Str) (sp : Sp) : Prop where
  len : ∀ vs H Q E, sp vs H Q E → vs.length = ps.length
  run : ∀ (A : Around) (outer : List Env) (s : Shared) (H : Hp) (args : Args) (us : List Value) (vs : List V) (Q : VK) (E : XK), fZ k A → o2 P w K mg base A outer s H → BindsTo s fd args (ps.zip us) → aM vs us → sp vs H Q E →
    codeAny (model P w) A (.call (.ref f) args) (CR CX outer P w H s Q E) s
section
variable {X : Cx} {CX : tV} {k : Nat} {f C : Addr} {fd : FuncData} {ps : List Str} {sp : Sp} {dvs : List V} {ds : List Value} {E : XK} {x m : Str} {p pos apos : Pos} {e o : Expr} {es : List Expr} {ta : TE} {t : TA}
theorem zo {pins : List (Addr × Obj)} {σ : St} {H : Hp} {s : Shared} {Q : VK} {us : List Value} {vs : List V} (F : tU X.prog X.w X.K X.mg X.base CX k f fd ps sp) (hr : fZ k X.A) (hb : gg X.K fd ps ds) (hd : aM dvs ds) (hx : kD CX X E)
    (I : aB X pins σ H s) (r : aM vs us) (h : sp (vs ++ dvs) H Q E) : wpAny (model X.prog X.w) X.A (call (.ref f) us) (EP X pins σ Q) X.xe s := by
  have r2 : aM (vs ++ dvs) (us ++ ds) := r.append hd
  have hl : (us ++ ds).length = ps.length := by rw [← r2.length]; exact F.len _ _ _ _ h
  refine wpAny_call (codeAny_mono (F.run X.A X.stack s H ⟨us, []⟩ (us ++ ds) (vs ++ dvs) Q E hr I.env0 (hb s us I.kIn hl) r2 h) fun r s' hq => ?_)
  cases r with
  | error e => exact hx pins σ H s e s' I hq
  | ok fl =>
    cases fl with
    | ret u => exact I.after hq
    | next => exact False.elim hq
    | brk => exact False.elim hq
    | cont => exact False.elim hq
theorem xU (F : tU X.prog X.w X.K X.mg X.base CX k f fd ps sp) (hr : fZ k X.A) (hg : Gl X x) (hm : X.mg x = some (.ref f)) (hk : PySem.W.keepIn X.K (.ref f) = true) (hb : gg X.K fd ps ds) (hd : aM dvs ds) (hx : kD CX X E)
    (ha : PA X (e :: es) t) (hdb : (x == ("__debug__" : Str)) = false := by decide) (he : starEach (e :: es) X.env = (false, eval e X.env) :: starEach es X.env := by rfl) (hpl : (backTo pos (starEach es X.env)).any (·.1) = false := by rfl) :
    PE X (.Call (.Name x p) (e :: es) [] pos) (sJ sp dvs E t) := by
  intro pins s σ H Q I h
  refine wpAny_Call_Name_kw (mD I hg hm ?_ hdb)
  refine PySem.W.callWith_K (h₀ := X.base) I.ok.mod.kin hk (ez (ha pos pins s σ H _ I h) fun us s1 ⟨vs, H1, I1, r, q⟩ => ⟨I1.kIn, ?_⟩) he hpl
  exact zo F hr hb hd hx I1 r q
end
def oF (CX : tV) (P : Program) (w : World) (K : PySem.W.Frag) (mg : Str → Option Value) (base : Heap) (N : List Str) (qual : Str) (scope : Scope) (f : Addr) (cd : Value) (A : Around) (outer : List Env) (s : Shared) (H : Hp) (E : XK) : Cx where
  prog := P
  w := w
  K := K
  mg := mg
  base := base
  A := A.deeper (envOfC qual scope s.heap.objs.size f cd)
  N := N
  s₀ := s
  H₀ := H
  env := envOfC qual scope s.heap.objs.size f cd
  outer := outer
  stack := envOfC qual scope s.heap.objs.size f cd :: outer
  ex := []
  calm := false
  fn := fun _ => true
  pn := []
  xe := fun e s' => wpAny (model P w) (A.deeper (envOfC qual scope s.heap.objs.size f cd)) (leaving (envOfC qual scope s.heap.objs.size f cd) e) (fun _ s'' => CX outer H s E e s'') (fun e' s'' => CX outer H s E e' s'') s'
theorem ur {CX : tV} {P : Program} {w : World} {K : PySem.W.Frag} {mg : Str → Option Value} {base : Heap} {N ps : List Str} {qual : Str} {scope : Scope} {f : Addr} {cd : Value} {A : Around} {outer : List Env} {s s1 : Shared} {H : Hp} {E : XK} {us : List Value} {vs : List V}
    (S : aD N ps scope) (e0 : o2 P w K mg base A outer s H) (hl : vs.length = ps.length) (r : aM vs us)
    (x : InCallC s s.heap.objs.size (bindL (envOfC qual scope s.heap.objs.size f cd).kindOf (ps.zip us) fun _ => none) (cellsFrom (s.heap.objs.size + 1) scope.names []) (bindC (envOfC qual scope s.heap.objs.size f cd).kindOf (ps.zip us) fun _ => none) s1) :
    aB (oF CX P w K mg base N qual scope f cd A outer s H E) [] (aH N vs) H s1 := by
  have hpl : ps.length ≤ N.length := by have := congrArg List.length S.pre; rw [List.length_take] at this; omega
  obtain ⟨h1, tk, rfl, hk⟩ := x.done
  have noA : ∀ b : Addr, b ∉ (oF CX P w K mg base N qual scope f cd A outer s H E).ex := fun b z => absurd (show b ∈ ([] : List Addr) from z) (by simp)
  refine ⟨⟨e0.mod, S.kind, rfl, rfl, Nat.le_refl _, fun y z c h1 h2 => ?_, fun y hy => ?_, fun y c _ h => ?_, (fun z => by cases z), Around.frames_deeper e0.frames, .inr ⟨rfl, rfl⟩, fun b z => absurd z (noA b), e0.bs, e0.bsz, fun b _ _ => noA b, fun b z => absurd z (noA b), e0.funs, e0.frf⟩,
    rfl, e0.bare, Un.kept hk, ⟨_, x.toInCall.ns, fun i y v h1 h2 h3 => ?_⟩, fun y c h => ⟨_, x.cell y c h⟩, e0.hok.fresh (Nat.le_refl _), fun y c h => ?_, fun p hp => absurd (show p ∈ ([] : List (Addr × Obj)) from hp) (by simp), e0.hok.kept hk, ?_⟩
  · exact name_of_addr x.apart (PySem.mem_of_lookup h1) (PySem.mem_of_lookup h2)
  · have hy : scope.names.lookup y = some .cell ∨ scope.names.lookup y = some .free := hy
    rcases hy with hy | hy
    · exact nL hy
    · exact absurd rfl (S.nofree _ (PySem.mem_of_lookup hy))
  · exact Nat.le_of_lt (x.above y c (PySem.mem_of_lookup h))
  · have hi : i < vs.length := by
      unfold aH at h2
      by_cases hi : i < vs.length
      · exact hi
      · rw [List.getElem?_append_right (by simpa using hi)] at h2
        rw [List.getElem?_replicate] at h2
        split at h2 <;> cases h2
    have ha : vs[i]? = some v := by
      unfold aH at h2
      rw [List.getElem?_append_left (by simpa using hi), List.getElem?_map] at h2
      cases e : vs[i]? with
      | none => rw [e] at h2; cases h2
      | some a => rw [e] at h2; cases h2; rfl
    obtain ⟨u, hu, rv⟩ := r.get ha
    have hp : ps[i]? = some y := by
      rw [← S.pre, List.getElem?_take_of_lt (by omega)]; exact h1
    have ndP : ps.Nodup := by rw [← S.pre]; exact S.nd.sublist (List.take_sublist _ _)
    refine ⟨u, rv, ?_⟩
    rcases S.par y (List.mem_of_getElem? hp) with k | k
    · exact .inl ⟨k, oi ndP hp hu k⟩
    · obtain ⟨c, e⟩ := nL (n := s.heap.objs.size + 1) k
      refine .inr ⟨.inl k, c, e, ?_⟩
      have q := x.cell y c e
      rw [oj ndP hp hu (by show scope.names.lookup y ≠ _; rw [k]; decide)] at q
      exact q
  · exact e0.hok.fresh (Nat.le_of_lt (x.above y c (PySem.mem_of_lookup h)))
  · unfold aH
    show _ = N.length
    rw [List.length_append, List.length_map, List.length_replicate]
    omega
theorem CC {CX : tV} {P : Program} {w : World} {K : PySem.W.Frag} {mg : Str → Option Value} {base : Heap} {k : Nat} {f : Addr} {name qual : Str} {params : Arguments} {body : List Stmt} {scope : Scope} {dV kV doc pm cdv ct oc : Value} {an od : Option Addr}
    {osl : Array (Option Value)} {N ps : List Str} {sp : Sp} (lk : K.lookup f = some ⟨oc, od, .func (PySem.W.fnOf name qual params body scope dV kV doc pm an cdv ct), osl⟩) (hcd : PySem.W.codeIn K cdv qual = true) (S : aD N ps scope)
    (len : ∀ vs H Q E, sp vs H Q E → vs.length = ps.length)
    (hbody : ∀ (A : Around) (outer : List Env) (s : Shared) (H : Hp) (vs : List V) (Q : VK) (E : XK), fZ k (A.deeper (envOfC qual scope s.heap.objs.size f cdv)) → sp vs H Q E →
      ∃ t, oI (oF CX P w K mg base N qual scope f cdv A outer s H E) body t ∧ t { nx := fun _ H' => Q .non H', rt := Q } (aH N vs) H) :
    tU P w K mg base CX (k + 1) f (PySem.W.fnOf name qual params body scope dV kV doc pm an cdv ct) ps sp := by
  refine ⟨len, fun A outer s H args us vs Q E hr e0 hb r hsp => ?_⟩
  have hl := len _ _ _ _ hsp
  have KX : K.In s.heap := e0.mod.kin.keeps fun b o e => (e0.bs b o e).1
  have lim : s.heap.NoLimit := e0.mod.nolimit.keeps fun b o e => (e0.bs b o e).1
  have hkind : ∀ y ∈ ps.zip us, scope.names.lookup y.1 = some .local ∨ (scope.names.lookup y.1 = some .cell ∧ ((cellsFrom (s.heap.objs.size + 1) scope.names []).lookup y.1).isSome = true) := fun ⟨n, v⟩ hy => by
    rcases S.par n (List.of_mem_zip hy).1 with q | q
    · exact .inl q
    · exact .inr ⟨q, PySem.W.cellsFrom_some _ _ _ (.inl q)⟩
  refine codeAny_call_function hr.depth (KX _ _ lk) rfl S.co S.gen rfl (PySem.W.codeRec_of KX hcd) (hb _ _ _ _ ?_)
  refine wpAny_newFunctionEnv_cells S.kind hkind fun env he s1 x => ?_
  subst he
  refine ⟨lim.keeps x.toInCall.keep, codeAny_func ?_⟩
  obtain ⟨t, ht, hq⟩ := hbody A outer s H vs Q E (hr.deeper _) hsp
  have I : aB (oF CX P w K mg base N qual scope f cdv A outer s H E) [] (aH N vs) H s1 := ur S e0 hl r x
  refine wpAny_mono (ht [] s1 (aH N vs) H _ I hq) (fun fl s' hs => ?_) fun e s' hs => hs
  have fin : ∀ {σ' : St} {H' : Hp} {v : V} {u : Value}, aB (oF CX P w K mg base N qual scope f cdv A outer s H E) [] σ' H' s' → bJ v u → Q v H' → CE outer P w H s Q u s' :=
    fun {σ' H' v u} J rv q => ⟨v, H', J.os, J.bare, J.base, J.hok, rv, q⟩
  cases fl with
  | ret u =>
    obtain ⟨v, σ', H', J, rv, q⟩ := hs
    exact fin J rv q
  | next =>
    obtain ⟨σ', H', J, q⟩ := hs
    exact fin (v := V.non) (u := Value.none) J rfl q
  | brk =>
    obtain ⟨_, _, _, q⟩ := hs
    exact False.elim q
  | cont =>
    obtain ⟨_, _, _, q⟩ := hs
    exact False.elim q
section
variable {P : Program} {w : World} {K : PySem.W.Frag} {mg : Str → Option Value} {base : Heap}
theorem Ay.okQ {x qual : Str} {st : Stmt} {f : Addr} {fd : FuncData} {N ps : List Str} {k : Nat} {sp : Sp} (F : Ay K x qual st f fd) (S : aD N ps (aq st)) (len : ∀ vs H Q E, sp vs H Q E → vs.length = ps.length)
    (hbody : ∀ (cdv : Value) (A : Around) (outer : List Env) (s : Shared) (H : Hp) (vs : List V) (Q : VK) (E : XK), fZ k (A.deeper (envOfC qual (aq st) s.heap.objs.size f cdv)) → sp vs H Q E →
      ∃ t, oI (oF sA P w K mg base N qual (aq st) f cdv A outer s H E).nox (bC st) t ∧ t { nx := fun _ H' => Q .non H', rt := Q } (aH N vs) H) : tU P w K mg base sA (k + 1) f fd ps sp := by
  obtain ⟨oc, od, kV, doc, pm, an, cdv, ct, osl, rfl, lk, hcd⟩ := F.ex
  refine CC lk hcd S len fun A outer s H vs Q E hr hsp => ?_
  obtain ⟨t, h, q⟩ := hbody cdv A outer s H vs Q E hr hsp
  exact ⟨t, h.nox, q⟩
structure uN (P : Program) (w : World) (K : PySem.W.Frag) (mg : Str → Option Value) (base : Heap) (k : Nat) (x : Str) (ps : List Str) (sp : Sp) : Prop where
  ex : ∃ f fd, tU P w K mg base sA k f fd ps sp ∧ mg x = some (.ref f) ∧ PySem.W.keepIn K (.ref f) = true ∧ gg K fd ps []
theorem aQ.mk_defQ {x : Str} {st : Stmt} {N ps : List Str} {k : Nat} {sp : Sp} (F : aQ K mg x st) (S : aD N ps (aq st))
    (hb : ∀ (kV doc pm : Value) (an : Option Addr) (cdv ct : Value) (us : List Value), us.length = ps.length → bindArgs (PySem.W.fnOf x x (cO st) (bC st) (aq st) .none kV doc pm an cdv ct) ⟨us, []⟩ = pure (ps.zip us))
    (len : ∀ vs H Q E, sp vs H Q E → vs.length = ps.length)
    (hbody : ∀ (f : Addr) (cdv : Value) (A : Around) (outer : List Env) (s : Shared) (H : Hp) (vs : List V) (Q : VK) (E : XK), fZ k (A.deeper (envOfC x (aq st) s.heap.objs.size f cdv)) → sp vs H Q E →
      ∃ t, oI (oF sA P w K mg base N x (aq st) f cdv A outer s H E).nox (bC st) t ∧ t { nx := fun _ H' => Q .non H', rt := Q } (aH N vs) H) : uN P w K mg base (k + 1) x ps sp := by
  obtain ⟨f, fd, F, m⟩ := F.ex
  exact ⟨f, fd, F.okQ S len (hbody f), m, F.kp, F.binds hb⟩
end
theorem zG {X : Cx} {k : Nat} {x : Str} {ps : List Str} {sp : Sp} {p pos : Pos} {e : Expr} {es : List Expr} {t : TA} (D : uN X.prog X.w X.K X.mg X.base k x ps sp) (hr : fZ k X.A) (hg : Gl X x) (ha : PA X (e :: es) t) (hdb : (x == ("__debug__" : Str)) = false := by decide)
    (he : starEach (e :: es) X.env = (false, eval e X.env) :: starEach es X.env := by rfl) (hpl : (backTo pos (starEach es X.env)).any (·.1) = false := by rfl) : PE X (.Call (.Name x p) (e :: es) [] pos) (sJ sp [] E0 t) := by
  obtain ⟨f, fd, F, m, kp, b⟩ := D.ex
  exact xU F hr hg m kp b .nil sW ha hdb he hpl
section
variable {X : Cx} {γ : Str → Addr} {a b c e : Expr} {da db dc de : DE} {pos : Pos}
theorem vc {x : Str} {k p n : Nat} {bd : DS} {ps : List Str} {pp : Pos} {es : List Expr} {d : DA} (D : uN X.prog X.w X.K X.mg X.base k x ps (bF X.K γ p (HL.fnOf p n bd))) (hr : fZ k X.A) (hg : Gl X x) (ha : QA γ X (e :: es) d) (hdb : (x == ("__debug__" : Str)) = false := by decide)
    (he : starEach (e :: es) X.env = (false, eval e X.env) :: starEach es X.env := by rfl) (hpl : (backTo pos (starEach es X.env)).any (·.1) = false := by rfl) : QE γ X (.Call (.Name x pp) (e :: es) [] pos) (HL.aC (HL.fnOf p n bd) d) :=
  (zG D hr hg ha hdb he hpl).imp (vJ fun _ _ _ _ => p4)
end
section
variable {P : Program} {w : World} {K : PySem.W.Frag} {mg : Str → Option Value} {base : Heap} {γ : Str → Addr}
theorem aQ.qdefQ {x : Str} {st : Stmt} {N ps : List Str} {k p n : Nat} {bd : DS} (F : aQ K mg x st) (S : aD N ps (aq st)) (hp : ps.length = p) (hn : N.length = n)
    (hb : ∀ (kV doc pm : Value) (an : Option Addr) (cdv ct : Value) (us : List Value), us.length = ps.length → bindArgs (PySem.W.fnOf x x (cO st) (bC st) (aq st) .none kV doc pm an cdv ct) ⟨us, []⟩ = pure (ps.zip us))
    (hbody : ∀ (f : Addr) (cdv : Value) (A : Around) (outer : List Env) (s : Shared) (H : Hp) (E : XK), fZ k (A.deeper (envOfC x (aq st) s.heap.objs.size f cdv)) →
      sx γ (oF sA P w K mg base N x (aq st) f cdv A outer s H E).nox (bC st) bd) : uN P w K mg base (k + 1) x ps (bF K γ p (HL.fnOf p n bd)) :=
  F.mk_defQ S hb (fun vs H Q E h => h.1.trans hp.symm) fun f cdv A outer s H vs Q E hr h => ⟨_, hbody f cdv A outer s H E hr, by
    obtain ⟨_, ρ, hh, us, S, wu, e, x⟩ := h
    rw [e]
    subst hn
    exact o9 S wu x⟩
end
theorem b6.q {k : Nat} {A : Around} (r : b6 k A) : fZ k A := ⟨r.dp, r.un⟩
end L2
namespace L2
open PySem PySem.Spec PySem.W PyProof.Rows
open HL (W SO Sh Sg OR DE DT DA DS Fn)
theorem b6.marked {k : Nat} {A : Around} {v : Option Value} (r : b6 k A) : fZ k (A.mark v) := ⟨r.dp, r.un⟩
theorem u3 {A : Around} {k : Nat} (h : fZ k A) : A.units + 64 < cLine := h.units
section
variable {X : Cx} {γ : Str → Addr} {Ψ : V → Hp → Prop} {e o : Expr} {es : List Expr} {d : DA} {d1 : DE} {da db : DS} {pos apos : Pos} {m : Str}
theorem kU (h : QA γ X es d) : QA γ X es (HL.jJ d) := fun p pins s σ H Q I ⟨ρ, t, hh, S, x⟩ => h p pins s σ H Q I ⟨ρ, t, hh, S, by
  unfold HL.jJ at x
  split at x
  · exact x.elim
  · exact x⟩
theorem lx {de : DE} (h : QX γ X Ψ e de) (hs : swapsWith e none pos.line X.env = pure false := by rfl) : Ei γ X Ψ (.Expr e pos) (HL.aR de) := (rE h hs).imp fun D σ H ⟨ρ, s, hh, a, h1, S, ee, x⟩ => by
  refine ⟨ρ, s, hh, a, h1, S, ?_, x⟩
  unfold HL.aR at ee
  cases q : de s hh with
  | ok v h2 => rw [q] at ee; cases ee
  | ex => rw [q] at ee; cases ee; rfl
  | er => rw [q] at ee; cases ee
theorem lu {c : Str} {k p n : Nat} {bd : DS} {ps : List Str} {pl : Sem Bool} (hc : pj X.K (γ c)) (F : ji X.prog X.w X.K X.mg X.base k (γ c) m ps (p9 X.K γ p (HL.fnOf p n bd))) (hr : b6 k X.A) (hx : X.ex = []) (T : wR X Ψ) (n1 : HL.Em d1) (he : QE γ X o d1) (ha : QA γ X (e :: es) d)
    (hst : starEach (e :: es) X.env = (false, eval e X.env) :: starEach es X.env := by rfl) (hpl : (backTo pos (starEach es X.env)).any (·.1) = false := by rfl)
    (ht : eval (.Call (.Attribute o m apos) (e :: es) [] pos) X.env = (do
      let ov ← eval o X.env
      standAt apos.atName
      let (f, first) ← holding [ov] (getMethod ov m pl)
      callWith pos f first (backTo pos (starEach (e :: es) X.env)) (backToKw pos (keywordEach [] X.env))) := by rfl) :
    QX γ X Ψ (.Call (.Attribute o m apos) (e :: es) [] pos) (HL.aw [(c, HL.fnOf p n bd)] m d1 (HL.jJ d)) := by
  obtain ⟨g, fd, F, a, nf, kp, b⟩ := F.ex
  refine (zF (E := CU Ψ) (pl := pl) he hc ⟨a, nf, kp⟩ F hr b .nil (T.passes hx) ha hst hpl ht).imp fun σ H Q z => ?_
  obtain ⟨ρ, s, h, ea, hh, S, ee, xx⟩ := z
  unfold HL.aw HL.jJ at ee
  refine ⟨ρ, s, h, S, ?_⟩
  cases q : d1 s h with
  | ok v h1 =>
    rw [q] at ee
    simp only [HL.R.bind] at ee
    intro ρ1 H1 m1 S1 w1
    split at ee
    · rename_i f ef
      cases v with
      | ref i =>
        simp only [HL.bH] at ef
        split at ef
        · rename_i c' fs qo
          split at ef
          · rename_i hl
            by_cases z : c' = c
            · subst z
              simp only [List.lookup, beq_self_eq_true, Option.some.injEq] at ef
              subst ef
              obtain ⟨dx, ob⟩ := S1.ob i _ qo
              refine ⟨ρ1 i, dx, lF γ ρ1 fs, rfl, ob, by rw [kx, hl]; rfl, ρ1, s, h1, S.next m1 S1, ?_⟩
              cases q2 : d s h1 with
              | ok us h2 =>
                rw [q2] at ee
                simp only at ee
                intro ρ2 H2 m2 S2 w2
                have wi : wf h2.length (.ref i) := w1.mono m2.le
                have lp : (.ref i :: us : List W).length = p := by
                  unfold HL.fnOf at ee
                  split at ee
                  · assumption
                  · cases ee
                refine ⟨?_, ρ2, h2, .ref i :: us, ea, hh, S2, ?_, ?_, ee, fun ρ' H' n' S' la => ⟨ρ' ea, rfl, ρ' ea, rfl, xx ρ' H' ((m1.trans m2).trans n') S' la⟩⟩
                · rw [← lp]; simp
                · intro y hy
                  rcases List.mem_cons.mp hy with r | r
                  · rw [r]; exact wi
                  · exact w2 y r
                · rw [List.map_cons, List.append_nil, show aF γ ρ2 (.ref i) = aF γ ρ1 (.ref i) from (fJ w1 m2.ag).symm]
              | ex a2 h2 => rw [q2] at ee; cases ee
              | er => rw [q2] at ee; cases ee
            · have z' : (c' == c) = false := by simpa using z
              simp only [List.lookup, z'] at ef
              cases ef
          · cases ef
        · cases ef
      | _ => cases ef
    · cases ee
  | ex a2 h2 => exact absurd q (n1 s h a2 h2)
  | er => rw [q] at ee; cases ee
theorem zv {body suite : List Stmt} {b0 : Stmt} {cx n : Str} {np hpos : Pos} {i : Nat} {B : Addr} {cs : List Str} {hd : DS} (hst : X.stack = X.env :: X.outer ∧ X.env.frame = some X.env.locals) (hg : Gl X cx) (hB : X.mg cx = some (.ref B)) (hN : X.N.Nodup) (hi : X.N[i]? = some n)
    (hk : X.env.kindOf n = some .local) (hl : wU X.env.scope n) (hf : X.fn n = true ∨ X.env.scope.names.lookup n = some .local)
    (hbN : ∀ pn', sx γ (X.pinned (fun _ _ => False) pn') body db) (hbR : ∀ E' pn' Ψ, wR (X.pinned E' pn') Ψ → Ax γ (X.pinned E' pn') Ψ body db) (hh : ∀ a : Addr, sx γ (X.marked (.ref a)) (b0 :: suite) hd)
    (hm : ∀ c, cs.contains c = true → exmOne X.K (.ref (γ c)) (.ref B) = some true) (hdb : (cx == ("__debug__" : Str)) = false := by decide) :
    QS γ X (.Try body [.ExceptHandler (some (.Name cx np)) (some n) (b0 :: suite) hpos] [] [] pos) (HL.u1 db X.N.length i cs hd) := by
  refine (xM (tb := fun Ψ D σ H => eS X.K γ db D σ H ∨ EJ X.K γ db Ψ σ H) (th := eS X.K γ hd) hst hg hB hN hi hk hl hf (fun E' pn' Ψ T pins s σ H D I z => z.elim ((hbN pn').nox pins s σ H D I) (hbR E' pn' Ψ T pins s σ H D I)) hh hdb).imp fun D σ H z => ?_
  obtain ⟨ρ, s, h, S, z⟩ := z
  unfold HL.u1 at z
  cases q : db s h with
  | ex a h1 =>
    rw [q] at z
    simp only at z
    refine .inr ⟨ρ, s, h, a, h1, S, q, fun ρ' H' n' S' la => ?_⟩
    cases q1 : h1[a]? with
    | none => rw [q1] at z; exact z.elim
    | some o =>
      rw [q1] at z
      cases o with
      | exc c fs =>
        simp only at z
        split at z
        · rename_i hc
          obtain ⟨dx, ob⟩ := S'.ob a _ q1
          refine ⟨ρ' a, γ c, dx, _, rfl, ob, hm c hc, ρ', (List.replicate X.N.length none).set i (some (.ref a)), h1, ⟨S', ?_, ?_⟩, ?_⟩
          · exact pk (fun y hy => by cases (List.mem_replicate.mp hy).2) la
          · rw [lE]
            unfold jg
            rw [List.map_replicate]
            rfl
          · cases q2 : hd ((List.replicate X.N.length none).set i (some (.ref a))) h1 with
            | rt v h2 =>
              rw [q2] at z
              exact fun ρ2 H2 n2 => z ρ2 H2 (n'.trans n2)
            | _ => rw [q2] at z; exact z.elim
        · exact z.elim
      | _ => exact z.elim
  | _ => rw [q] at z; exact .inl ⟨ρ, s, h, S, by rw [q]; exact z⟩
end
end L2
namespace HL
open PySem (Str)
end HL
namespace L2
open PySem PySem.Spec PyProof.Rows
open HL (W SO Sh Sg OR DE DT DA DS Fn)
section
variable {X : Cx} {γ : Str → Addr} {a b c e : Expr} {ta tb : TE} {da db dc de : DE} {pos : Pos} {dE : List Expr}
end
end L2
namespace K47
open HL
open PySem (Str)
def gG : CT := [("Line", [.gl "Line"]), ("MillError", [.gl "MillError", .ty "ValueError"]), ("Near", [.gl "Near"]), ("NoLine", [.gl "NoLine", .gl "MillError", .ty "ValueError"]), ("NoPlace", [.gl "NoPlace", .gl "MillError", .ty "ValueError"]), ("NoSets", [.gl "NoSets", .gl "MillError", .ty "ValueError"]), ("Slow", [.gl "Slow"])]
def lM : List SO := []
def jD : DS := (aI (aT 2 (aE bu (aE cj (dC (.int 7919)) (af 1)) (dC (.int 11))))
    (aI (et (dT (aE td (af 0) (dB cW aj))) (aI (aT 2 (aE bu (aE bu (af 2) (aE cj (aE gW (af 0) (aE bp (af 1) (dB gi (aa (af 0) aj)))) (dC (.int 48271)))) (aE cj (dC (.int 96810)) (af 1))))
    (aT 2 (aE bu (af 2) (aE cj (aE ck (af 1) (dB gi (aa (af 0) aj))) (dC (.int 7919)))))) gq)
    (aI (aT 3 (aE bp (af 2) (dC (.int 2147483647))))
    (aI (aT 3 (aE bp (aE cj (af 3) (af 3)) (dC (.int 2147483629))))
    (aU (aE bp (aE bu (aE bu (aE cj (af 3) (af 3)) (aE cj (dC (.int 69621)) (af 3))) (af 1)) (dC (.int 2147483587))))))))
abbrev aL : Fn := fnOf 2 4 jD
def jC : DS := (aU (aE gW (dB cW (aa (aE bp (af 0) (dC (.int 65536))) (aa (dC (.int 65535)) (aa (dC (.int 0)) aj)))) (aE ck (aE bp (aE ck (af 0) (dC (.int 65536))) (dC (.int 9))) (dC (.int 4)))))
abbrev gZ : Fn := fnOf 1 1 jC
def iJ : DS := (aU (j9 (dI (af 2)) 1 [0, 1] (bD 0) bQ (aC gZ (aa (aC aL (aa (af 1) (aa (aE bu (af 2) (af 0)) aj))) aj))))
abbrev fP : Fn := fnOf 3 3 iJ
def jF : DS := (aI (cB ["Slow"] "cells" (af 0) (dB lP (aa (af 1) aj)))
    (aI (cB ["Slow"] "lines_told" (af 0) (dC (.int 0)))
    (cB ["Slow"] "lines_put" (af 0) (dC (.int 0)))))
abbrev g7 : Fn := fnOf 2 2 jF
def jB : DS := (aU (fg (dB (iY gG) (aa (af 0) (aa (dC (.ty "int")) aj))) (ig (dB (iY gG) (aa (af 0) (aa (dC (.ty "bool")) aj))))))
abbrev cf : Fn := fnOf 1 1 jB
def ft : DS := (aI (et (kS (lC (cP (dT (aC cf (aa (af 2) aj)))) (dT (aE jP (af 2) (dB hV (aa (dC (.int 1)) (aa (dC (.int 2)) (aa (dC (.int 4)) aj)))))))) (mX "NoSets" (aa (dC (.str "there are 1, 2 or 4 sets")) aj)) gq)
    (lb (aI (cB ["Near"] "slow" (af 0) (af 1))
    (aI (cB ["Near"] "sets" (af 0) (af 2))
    (cB ["Near"] "rooms" (af 0) (j9 (dI (af 2)) 1 [] (bD 0) bQ (dB cW aj)))))))
abbrev bO : Fn := fnOf 3 3 ft
def fU : DS := (aI (et (lC (cP (dT (dB (iY gG) (aa (af 0) (aa (dC (.gl "MillError")) aj))))) (cP (dT (dB (iY gG) (aa (af 0) (aa (dC (.ty "ValueError")) aj)))))) (aU (dB cW aj)) gq)
    (aU (dB cW (aa (dB (iY gG) (aa (af 0) (aa (dC (.gl "NoSets")) aj))) (aa (dB (iY gG) (aa (af 0) (aa (dC (.gl "NoPlace")) aj))) (aa (dB (iY gG) (aa (af 0) (aa (dC (.gl "NoLine")) aj))) aj))))))
abbrev bV : Fn := fnOf 1 1 fU
def fS : DS := (aI (zm (cV "Near" bO [] (jJ (aa (af 0) (aa (af 1) aj)))) (aR (cV "Near" bO [] (aa (af 0) (aa (af 1) aj)))) 3 2 ["NoLine", "NoSets", "NoPlace"] (aU (aE jf (aC bV (aa (af 2) aj)) (dB cW (aa (dC (.bl true)) (aa (dC (.bl false)) (aa (dC (.bl false)) aj)))))))
    (aU (dC (.bl false))))
abbrev cR : Fn := fnOf 2 3 fS
def hU : DS := (aU (fg (aC cf (aa (af 0) aj)) (bW oz oz (af 1) (af 0) (af 2))))
abbrev cE : Fn := fnOf 3 3 hU
def jE : DS := (aU (dB gi (aa (bA ["Slow"] "cells" (af 0)) aj)))
abbrev dS : Fn := fnOf 1 1 jE
def o6 : List (Str × Fn) := [("Slow", dS)]
def bq : DS := (et (kS (cP (dT (aC cE (aa (af 1) (aa (dC (.int 0)) (aa (aE eN (aw o6 "size" (bA ["Near"] "slow" (af 0)) aj) (dC (.int 1))) aj))))))) (mX "NoPlace" (aa (dC (.str "there is no such address")) aj)) gq)
abbrev ah : Fn := fnOf 2 2 bq
def fX : DS := (aU (aE gW (bA ["Near"] "rooms" (af 0)) (aE bp (af 1) (bA ["Near"] "sets" (af 0)))))
abbrev bc : Fn := fnOf 2 2 fX
def dN : List (Str × Fn) := [("Near", bc)]
def fY : DS := (aI (lg (lJ (aw dN "room_of" (af 0) (aa (af 1) aj))) (bD 2) (et (dT (aE jf (bA ["Line"] "number" (af 2)) (af 1))) (aU (af 2)) gq))
    (aU (dC .non)))
abbrev bB : Fn := fnOf 2 3 fY
def gR : List (Str × Fn) := [("Near", bB)]
def cv : DS := (et (cP (dT (aC cE (aa (af 1) (aa (dC (.int 0)) (aa (aE eN (aE ck (dB gi (aa (bA ["Slow"] "cells" (af 0)) aj)) (dC (.int 4))) (dC (.int 1))) aj)))))) xt gq)
abbrev aY : Fn := fnOf 2 2 cv
def dG : List (Str × Fn) := [("Slow", aY)]
def fc : DS := (aI (aR (aw dG "refuse_no_line" (af 0) (aa (af 1) aj)))
    (aI (cB ["Slow"] "lines_put" (af 0) (aE bu (bA ["Slow"] "lines_put" (af 0)) (dC (.int 1))))
    (sN (af 2) [3, 4] (gk (bA ["Slow"] "cells" (af 0)) (aE bu (aE cj (dC (.int 4)) (af 1)) (af 3)) (af 4)))))
abbrev dq : Fn := fnOf 3 5 fc
def ot : List (Str × Fn) := [("Slow", dq)]
def cF : DS := (et (dT (bA ["Line"] "changed" (af 1))) (aI (aR (aw ot "put_four" (bA ["Near"] "slow" (af 0)) (aa (bA ["Line"] "number" (af 1)) (aa (bA ["Line"] "words" (af 1)) aj))))
    (cB ["Line"] "changed" (af 1) (dC (.bl false)))) gq)
abbrev bt : Fn := fnOf 2 2 cF
def cJ : List (Str × Fn) := [("Near", bt)]
def jI : DS := (aI (cB ["Line"] "number" (af 0) (af 1))
    (aI (cB ["Line"] "words" (af 0) (dB lP (aa (af 2) aj)))
    (cB ["Line"] "changed" (af 0) (af 3))))
abbrev dU : Fn := fnOf 4 4 jI
def jG : DS := (aI (aR (aw dG "refuse_no_line" (af 0) (aa (af 1) aj)))
    (aI (cB ["Slow"] "lines_told" (af 0) (aE bu (bA ["Slow"] "lines_told" (af 0)) (dC (.int 1))))
    (aU (dB gD (aa (Fu (bA ["Slow"] "cells" (af 0)) (vD (aE cj (dC (.int 4)) (af 1))) (vD (aE bu (aE cj (dC (.int 4)) (af 1)) (dC (.int 4))))) aj)))))
abbrev g8 : Fn := fnOf 2 2 jG
def nh : List (Str × Fn) := [("Slow", g8)]
def eH : DS := (aI (aT 2 (aw dN "room_of" (af 0) (aa (af 1) aj)))
    (aI (aT 3 (aw gR "found" (af 0) (aa (af 1) aj)))
    (aI (et (dT (aE gv (af 3) (dC .non))) (aR (AZ jz (nF "Line") (af 2) (aa (af 3) aj))) (aI (et (dT (aE jf (dB gi (aa (af 2) aj)) (dC (.int 2)))) (aR (aw cJ "write_back" (af 0) (aa (uC jz uo (af 2)) aj))) gq)
    (aT 3 (cV "Line" dU [] (aa (af 1) (aa (aw nh "four" (bA ["Near"] "slow" (af 0)) (aa (af 1) aj)) (aa (dC (.bl false)) aj)))))))
    (aI (aR (AZ jz mB (af 2) (aa (dC (.int 0)) (aa (af 3) aj))))
    (aU (af 3))))))
abbrev bT : Fn := fnOf 2 4 eH
def ni : List (Str × Fn) := [("Near", bT)]
def gC : DS := (aI (aR (aw [("Near", ah)] "refuse_no_place" (af 0) (jJ (aa (af 1) aj))))
    (lb (aU (aE gW (bA ["Line"] "words" (aw ni "asked" (af 0) (aa (aE ck (af 1) (dC (.int 4))) aj))) (aE bp (af 1) (dC (.int 4)))))))
abbrev b4 : Fn := fnOf 2 2 gC
def mV : List (Str × Fn) := [("Near", b4)]
def gB : DS := (aI (aR (aw [("Near", ah)] "refuse_no_place" (af 0) (jJ (aa (af 1) aj))))
    (lb (aI (aT 3 (aw ni "asked" (af 0) (aa (aE ck (af 1) (dC (.int 4))) aj)))
    (aI (gk (bA ["Line"] "words" (af 3)) (aE bp (af 1) (dC (.int 4))) (af 2))
    (cB ["Line"] "changed" (af 3) (dC (.bl true)))))))
abbrev cL : Fn := fnOf 3 4 gB
def xb : List (Str × Fn) := [("Near", cL)]
def df : DS := (aI (aR (aw [("Near", ah)] "refuse_no_place" (af 0) (jJ (aa (af 1) aj))))
    (lb (aI (aT 2 (aE ck (af 1) (dC (.int 4))))
    (aI (et (dT (aE gv (aw gR "found" (af 0) (aa (af 2) aj)) (dC .non))) (aU (dC (.int 1))) gq)
    (aI (aT 3 (aw dN "room_of" (af 0) (aa (af 2) aj)))
    (aI (et (gh (dT (aE jf (dB gi (aa (af 3) aj)) (dC (.int 2)))) (dT (bA ["Line"] "changed" (aE gW (af 3) (mF dP (dC (.int 1))))))) (aU (dC (.int 9))) gq)
    (aU (dC (.int 5)))))))))
abbrev bP : Fn := fnOf 2 4 df
def kf : List (Str × Fn) := [("Near", bP)]
def fW : DS := (aU (aE gW (bA ["Slow"] "cells" (af 0)) (af 1)))
abbrev cT : Fn := fnOf 2 2 fW
def pq : List (Str × Fn) := [("Slow", cT)]
def dY : DS := (aI (aR (aw [("Near", ah)] "refuse_no_place" (af 0) (jJ (aa (af 1) aj))))
    (lb (aI (aT 2 (aw gR "found" (af 0) (aa (aE ck (af 1) (dC (.int 4))) aj)))
    (aI (et (dT (aE AR (af 2) (dC .non))) (aU (aw pq "word_at" (bA ["Near"] "slow" (af 0)) (aa (af 1) aj))) gq)
    (aU (aE gW (bA ["Line"] "words" (af 2)) (aE bp (af 1) (dC (.int 4)))))))))
abbrev bN : Fn := fnOf 2 3 dY
def kd : List (Str × Fn) := [("Near", bN)]
def jT : DS := (lg (lJ (bA ["Near"] "rooms" (af 0))) (bD 1) (lg (lJ (af 1)) (bD 2) (aR (aw cJ "write_back" (af 0) (aa (af 2) aj)))))
abbrev eR : Fn := fnOf 1 3 jT
def qE : List (Str × Fn) := [("Near", eR)]
def dX : DS := (aI (et (dT (aE jf (aE gW (af 1) (dC (.int 0))) (dC (.str "get")))) (aU (aw mV "get" (af 0) (aa (aE gW (af 1) (dC (.int 1))) aj))) gq)
    (aI (et (dT (aE jf (aE gW (af 1) (dC (.int 0))) (dC (.str "put")))) (aU (aw xb "put" (af 0) (aa (aE gW (af 1) (dC (.int 1))) (aa (aE gW (af 1) (dC (.int 2))) aj)))) gq)
    (aI (et (dT (aE jf (aE gW (af 1) (dC (.int 0))) (dC (.str "cost")))) (aU (aw kf "cost" (af 0) (aa (aE gW (af 1) (dC (.int 1))) aj))) gq)
    (aI (et (dT (aE jf (aE gW (af 1) (dC (.int 0))) (dC (.str "look")))) (aU (aw kd "look" (af 0) (aa (aE gW (af 1) (dC (.int 1))) aj))) gq)
    (aU (aw qE "settle" (af 0) aj))))))
abbrev iU : Fn := fnOf 2 2 dX
def fV : DS := (aI (aT 3 (aC aL (aa (af 0) (aa (af 1) aj))))
    (aI (aT 4 (aE bp (aC aL (aa (af 0) (aa (aE bu (dC (.int 3)) (aE bp (aE ck (af 3) (dC (.int 6))) (dC (.int 4)))) aj))) (af 2)))
    (aI (aT 5 (aE gW (dB cW (aa (dC (.int 4)) (aa (dC (.int 8)) (aa (dC (.int 16)) (aa (dC (.int 1)) (aa (dC (.int 2)) aj)))))) (aE bp (aC aL (aa (af 0) (aa (dC (.int 7)) aj))) (dC (.int 5)))))
    (aI (aT 6 (aE bp (aE bu (aC aL (aa (af 0) (aa (dC (.int 3)) aj))) (aE cj (af 5) (aE bp (aE ck (af 3) (dC (.int 24))) (dC (.int 5))))) (af 2)))
    (aU (aE gW (dB cW (aa (af 4) (aa (af 4) (aa (af 6) (aa (af 6) (aa (af 6) (aa (aE bp (aE ck (af 3) (dC (.int 24))) (af 2)) aj))))))) (aE bp (af 3) (dC (.int 6)))))))))
abbrev dR : Fn := fnOf 3 7 fV
def fT : DS := (aI (aT 3 (aC aL (aa (af 0) (aa (aE bu (dC (.int 40)) (af 1)) aj))))
    (aI (aT 4 (aE gW (dB cW (aa (aE bp (aE ck (af 3) (dC (.int 11))) (dC (.int 65536))) (aa (aE bp (aE ck (af 3) (dC (.int 11))) (dC (.int 3))) aj))) (aE bp (aE ck (af 3) (dC (.int 7))) (dC (.int 2)))))
    (aI (aT 5 (dB cW (aa (dC (.str "get")) (aa (dC (.str "get")) (aa (dC (.str "get")) (aa (dC (.str "put")) (aa (dC (.str "put")) (aa (dC (.str "put")) (aa (dC (.str "put")) (aa (dC (.str "cost")) (aa (dC (.str "look")) (aa (dC (.str "look")) (aa (dC (.str "settle")) aj)))))))))))))
    (aU (dB hV (aa (aE gW (af 5) (aE bp (af 3) (dC (.int 11)))) (aa (aC dR (aa (af 0) (aa (aE bu (dC (.int 100)) (af 1)) (aa (af 2) aj)))) (aa (af 4) aj))))))))
abbrev cS : Fn := fnOf 3 6 fT
def jH : DS := (aU (dB hV (aa (bA ["Line"] "number" (af 0)) (aa (dB gD (aa (bA ["Line"] "words" (af 0)) aj)) (aa (bA ["Line"] "changed" (af 0)) aj)))))
abbrev hE : Fn := fnOf 1 1 jH
def qT : List (Str × Fn) := [("Line", hE)]
def kB : DS := (aU (dB gD (aa (j9 (lJ (af 0)) 1 [] (bD 0) bQ (aw qT "told" (af 0) aj)) aj)))
abbrev fO : Fn := fnOf 1 1 kB
def lO : DS := (aU (dB gD (aa (j9 (lJ (bA ["Near"] "rooms" (af 0))) 1 [] (bD 0) bQ (aC fO (aa (af 0) aj))) aj)))
abbrev g9 : Fn := fnOf 1 1 lO
def ke : List (Str × Fn) := [("Near", g9)]
def iM : DS := (aU (bA ["Slow"] "lines_told" (af 0)))
abbrev iI : Fn := fnOf 1 1 iM
def gQ : List (Str × Fn) := [("Slow", iI)]
def gN : DS := (aU (bA ["Slow"] "lines_put" (af 0)))
abbrev gL : Fn := fnOf 1 1 gN
def fh : List (Str × Fn) := [("Slow", gL)]
def iL : DS := (aU (dB lP (aa (bA ["Slow"] "cells" (af 0)) aj)))
abbrev iH : Fn := fnOf 1 1 iL
def gP : List (Str × Fn) := [("Slow", iH)]
def fb : DS := (aI (u1 (et (kS (dT (aE jf (af 1) (dC (.int 0))))) (aR (aw [("Near", b4)] "get" (af 0) (jJ (aa (af 2) aj)))) (et (kS (dT (aE jf (af 1) (dC (.int 1))))) (aR (aw [("Near", cL)] "put" (af 0) (jJ (aa (af 2) (aa (dC (.int 7)) aj))))) (et (kS (dT (aE jf (af 1) (dC (.int 2))))) (aR (aw [("Near", bP)] "cost" (af 0) (jJ (aa (af 2) aj)))) (aR (aw [("Near", bN)] "look" (af 0) (jJ (aa (af 2) aj))))))) 4 3 ["NoLine", "NoSets", "NoPlace"] (aU (aE jf (aC bV (aa (af 3) aj)) (dB cW (aa (dC (.bl false)) (aa (dC (.bl true)) (aa (dC (.bl false)) aj)))))))
    (aU (dC (.bl false))))
abbrev cA : Fn := fnOf 3 4 fb
def kC : DS := (aI (aT 2 (dB cW (aa (af 1) (aa (aE bu (af 1) (aE bp (aE ck (af 0) (dC (.int 60))) (dC (.int 300)))) (aa (mF dP (dC (.int 1))) (aa (aE eN (mF dP (dC (.int 1))) (aE bp (aE ck (af 0) (dC (.int 60))) (dC (.int 64)))) (aa (dC (.bl true)) (aa (dC (.bl false)) (aa (dC .non) (aa (dC (.str "0")) (aa (dC (.str "")) (aa (dB hV (aa (dC (.int 1)) aj)) (aa (dB cW (aa (dC (.int 0)) aj)) (aa (aE rX (dC (.int 10)) (dC (.int 20))) aj))))))))))))))
    (aU (aE gW (aE bu (af 2) (dB cW (aa (mF dP (aE rX (dC (.int 10)) (dC (.int 20)))) aj))) (aE bp (aE ck (af 0) (dC (.int 4))) (dC (.int 13))))))
abbrev dQ : Fn := fnOf 2 3 kC
def iK : DS := (aU (fg (dB (iY gG) (aa (af 0) (aa (dC (.ty "int")) aj))) (fg (ig (dB (iY gG) (aa (af 0) (aa (dC (.ty "bool")) aj)))) (aE jf (af 0) (af 1)))))
abbrev fQ : Fn := fnOf 2 2 iK
def vK : DS := (aI (aT 1 (aE bu (dC (.int 4)) (aE cj (dC (.int 4)) (aE bp (aC aL (aa (af 0) (aa (dC (.int 1)) aj))) (dC (.int 16))))))
    (aI (aT 2 (aC fP (aa (af 0) (aa (dC (.int 200)) (aa (af 1) aj)))))
    (aI (aT 3 (cV "Slow" g7 [] (aa (af 2) aj)))
    (aI (aT 4 (aC aL (aa (af 0) (aa (dC (.int 9)) aj))))
    (aI (aT 5 (aE gW (dB cW (aa (dC (.int 0)) (aa (dC (.int 3)) (aa (dC (.int 5)) (aa (dC (.int 8)) (aa (mF dP (dC (.int 1))) (aa (dC (.bl true)) (aa (dC (.bl false)) (aa (dC .non) (aa (dC (.str "2")) (aa (dB hV (aa (dC (.int 2)) aj)) (aa (aE bu (dC (.int 6)) (aE bp (aE ck (af 4) (dC (.int 11))) (dC (.int 99)))) aj)))))))))))) (aE bp (af 4) (dC (.int 11)))))
    (aI (et (cP (dT (aC cR (aa (af 3) (aa (af 5) aj))))) (aU (dC (.bl false))) gq)
    (aI (aT 6 (cV "Near" bO [] (aa (af 3) (aa (aE gW (dB cW (aa (dC (.int 1)) (aa (dC (.int 2)) (aa (dC (.int 4)) aj)))) (aE bp (aC aL (aa (af 0) (aa (dC (.int 2)) aj))) (dC (.int 3)))) aj))))
    (aI (lg (dI (dB mS (aa (dB gi (aa (af 0) aj)) (aa (dC (.int 12)) aj)))) (bD 7) (aR (aC iU (aa (af 6) (aa (aC cS (aa (af 0) (aa (af 7) (aa (af 1) aj)))) aj)))))
    (aI (aT 8 (aw ke "held" (af 6) aj))
    (aI (aT 9 (dB hV (aa (aw gQ "reads" (af 3) aj) (aa (aw fh "writes" (af 3) aj) (aa (aw gP "whole" (af 3) aj) aj)))))
    (aI (lg (dI (dC (.int 6))) (bD 7) (aI (aT 10 (aC aL (aa (af 0) (aa (aE bu (dC (.int 20)) (af 7)) aj))))
    (aI (et (cP (dT (aC cA (aa (af 6) (aa (aE bp (af 10) (dC (.int 4))) (aa (aC dQ (aa (af 10) (aa (af 1) aj))) aj)))))) (aU (dC (.bl false))) gq)
    (et (lC (dT (aE td (aw ke "held" (af 6) aj) (af 8))) (dT (aE td (dB hV (aa (aw gQ "reads" (af 3) aj) (aa (aw fh "writes" (af 3) aj) (aa (aw gP "whole" (af 3) aj) aj)))) (af 9)))) (aU (dC (.bl false))) gq))))
    (aU (fg (aE zS (aw kf "cost" (af 6) (aa (aE eN (af 1) (dC (.int 1))) aj)) (dB hV (aa (dC (.int 1)) (aa (dC (.int 5)) (aa (dC (.int 9)) aj))))) (aC fQ (aa (aw kd "look" (af 6) (aa (dC (.int 0)) aj)) (aa (aw mV "get" (af 6) (aa (dC (.int 0)) aj)) aj))))))))))))))))
abbrev vx : Fn := fnOf 1 11 vK
end K47
namespace K47
open PySem L2
seal PS PE PA oI PT PI PG PW PO
def kR (i : Nat) : Stmt := PySem.Challenge.pw_rowmill_k47_near_refused.main.body.getD i (.Pass ⟨0, 0, 0, 0⟩)
abbrev jq : Stmt := kR 16
theorem eC : aD ["_law_script", "_law_k", "_law_cell_here", "_law_more"] ["_law_script", "_law_k"] (aq jq) := ⟨rfl, rfl, rfl, by decide +kernel, rfl, by decide +kernel, by decide +kernel⟩
abbrev jo : Stmt := kR 17
theorem q8 : aD ["_law_cell_here"] ["_law_cell_here"] (aq jo) := ⟨rfl, rfl, rfl, by decide +kernel, rfl, by decide +kernel, by decide +kernel⟩
abbrev iB : Stmt := kR 18
theorem qe : aD ["_law_script", "_law_k", "_law_many"] ["_law_script", "_law_k", "_law_many"] (aq iB) := ⟨rfl, rfl, rfl, by decide +kernel, rfl, by decide +kernel, by decide +kernel⟩
abbrev jt : Stmt := bM (kR 14) 0
theorem rd : aD ["self", "words"] ["self", "words"] (aq jt) := ⟨rfl, rfl, rfl, by decide +kernel, rfl, by decide +kernel, by decide +kernel⟩
abbrev jn : Stmt := kR 6
theorem q0 : aD ["thing"] ["thing"] (aq jn) := ⟨rfl, rfl, rfl, by decide +kernel, rfl, by decide +kernel, by decide +kernel⟩
abbrev gT : Stmt := bM (kR 11) 0
theorem nu : aD ["self", "slow", "sets"] ["self", "slow", "sets"] (aq gT) := ⟨rfl, rfl, rfl, by decide +kernel, rfl, by decide +kernel, by decide +kernel⟩
abbrev fF : Stmt := kR 23
theorem oM : aD ["_law_e"] ["_law_e"] (aq fF) := ⟨rfl, rfl, rfl, by decide +kernel, rfl, by decide +kernel, by decide +kernel⟩
abbrev fD : Stmt := kR 24
theorem kT : aD ["_law_slow", "_law_thing", "_law_e"] ["_law_slow", "_law_thing"] (aq fD) := ⟨rfl, rfl, rfl, by decide +kernel, rfl, by decide +kernel, by decide +kernel⟩
abbrev jm : Stmt := kR 7
theorem qZ : aD ["thing", "low", "high"] ["thing", "low", "high"] (aq jm) := ⟨rfl, rfl, rfl, by decide +kernel, rfl, by decide +kernel, by decide +kernel⟩
abbrev jr : Stmt := bM (kR 14) 8
theorem rb : aD ["self"] ["self"] (aq jr) := ⟨rfl, rfl, rfl, by decide +kernel, rfl, by decide +kernel, by decide +kernel⟩
abbrev bL : Stmt := bM (kR 11) 1
theorem fk : aD ["self", "address"] ["self", "address"] (aq bL) := ⟨rfl, rfl, rfl, by decide +kernel, rfl, by decide +kernel, by decide +kernel⟩
abbrev fI : Stmt := bM (kR 11) 2
theorem oO : aD ["self", "number"] ["self", "number"] (aq fI) := ⟨rfl, rfl, rfl, by decide +kernel, rfl, by decide +kernel, by decide +kernel⟩
abbrev iF : Stmt := bM (kR 11) 3
theorem mL : aD ["self", "number", "line"] ["self", "number"] (aq iF) := ⟨rfl, rfl, rfl, by decide +kernel, rfl, by decide +kernel, by decide +kernel⟩
abbrev cu : Stmt := bM (kR 14) 1
theorem kg : aD ["self", "k"] ["self", "k"] (aq cu) := ⟨rfl, rfl, rfl, by decide +kernel, rfl, by decide +kernel, by decide +kernel⟩
abbrev eY : Stmt := bM (kR 14) 3
theorem gj : aD ["self", "k", "words", "offset", "word"] ["self", "k", "words"] (aq eY) := ⟨rfl, rfl, rfl, by decide +kernel, rfl, by decide +kernel, by decide +kernel⟩
abbrev dH : Stmt := bM (kR 11) 4
theorem mW : aD ["self", "line"] ["self", "line"] (aq dH) := ⟨rfl, rfl, rfl, by decide +kernel, rfl, by decide +kernel, by decide +kernel⟩
abbrev jx : Stmt := bM (kR 10) 0
theorem rk : aD ["self", "number", "words", "changed"] ["self", "number", "words", "changed"] (aq jx) := ⟨rfl, rfl, rfl, by decide +kernel, rfl, by decide +kernel, by decide +kernel⟩
abbrev ju : Stmt := bM (kR 14) 2
theorem rf : aD ["self", "k"] ["self", "k"] (aq ju) := ⟨rfl, rfl, rfl, by decide +kernel, rfl, by decide +kernel, by decide +kernel⟩
abbrev iG : Stmt := bM (kR 11) 5
theorem gH : aD ["self", "number", "room", "line"] ["self", "number"] (aq iG) := ⟨rfl, rfl, rfl, by decide +kernel, rfl, by decide +kernel, by decide +kernel⟩
abbrev iR : Stmt := bM (kR 11) 6
theorem ow : aD ["self", "address"] ["self", "address"] (aq iR) := ⟨rfl, rfl, rfl, by decide +kernel, rfl, by decide +kernel, by decide +kernel⟩
abbrev iQ : Stmt := bM (kR 11) 7
theorem lD : aD ["self", "address", "word", "line"] ["self", "address", "word"] (aq iQ) := ⟨rfl, rfl, rfl, by decide +kernel, rfl, by decide +kernel, by decide +kernel⟩
abbrev gU : Stmt := bM (kR 11) 8
theorem iz : aD ["self", "address", "number", "room"] ["self", "address"] (aq gU) := ⟨rfl, rfl, rfl, by decide +kernel, rfl, by decide +kernel, by decide +kernel⟩
abbrev fH : Stmt := bM (kR 14) 4
theorem oN : aD ["self", "address"] ["self", "address"] (aq fH) := ⟨rfl, rfl, rfl, by decide +kernel, rfl, by decide +kernel, by decide +kernel⟩
abbrev gS : Stmt := bM (kR 11) 9
theorem kh : aD ["self", "address", "line"] ["self", "address"] (aq gS) := ⟨rfl, rfl, rfl, by decide +kernel, rfl, by decide +kernel, by decide +kernel⟩
abbrev gJ : Stmt := bM (kR 11) 10
theorem iP : aD ["self", "room", "line"] ["self"] (aq gJ) := ⟨rfl, rfl, rfl, by decide +kernel, rfl, by decide +kernel, by decide +kernel⟩
abbrev kj : Stmt := kR 21
theorem sM : aD ["_law_near", "_law_deed"] ["_law_near", "_law_deed"] (aq kj) := ⟨rfl, rfl, rfl, by decide +kernel, rfl, by decide +kernel, by decide +kernel⟩
abbrev fG : Stmt := kR 19
theorem dn : aD ["_law_script", "_law_k", "_law_many", "_law_cell_here", "_law_spot", "_law_stride", "_law_far"] ["_law_script", "_law_k", "_law_many"] (aq fG) := ⟨rfl, rfl, rfl, by decide +kernel, rfl, by decide +kernel, by decide +kernel⟩
abbrev fE : Stmt := kR 20
theorem eV : aD ["_law_script", "_law_k", "_law_many", "_law_cell_here", "_law_word_here", "_law_some"] ["_law_script", "_law_k", "_law_many"] (aq fE) := ⟨rfl, rfl, rfl, by decide +kernel, rfl, by decide +kernel, by decide +kernel⟩
abbrev jw : Stmt := bM (kR 10) 1
theorem rh : aD ["self"] ["self"] (aq jw) := ⟨rfl, rfl, rfl, by decide +kernel, rfl, by decide +kernel, by decide +kernel⟩
abbrev iA : Stmt := kR 12
theorem qd : aD ["room"] ["room"] (aq iA) := ⟨rfl, rfl, rfl, by decide +kernel, rfl, by decide +kernel, by decide +kernel⟩
abbrev jv : Stmt := bM (kR 11) 11
theorem rg : aD ["self"] ["self"] (aq jv) := ⟨rfl, rfl, rfl, by decide +kernel, rfl, by decide +kernel, by decide +kernel⟩
abbrev iE : Stmt := bM (kR 14) 5
theorem qh : aD ["self"] ["self"] (aq iE) := ⟨rfl, rfl, rfl, by decide +kernel, rfl, by decide +kernel, by decide +kernel⟩
abbrev gI : Stmt := bM (kR 14) 6
theorem pB : aD ["self"] ["self"] (aq gI) := ⟨rfl, rfl, rfl, by decide +kernel, rfl, by decide +kernel, by decide +kernel⟩
abbrev iD : Stmt := bM (kR 14) 7
theorem qg : aD ["self"] ["self"] (aq iD) := ⟨rfl, rfl, rfl, by decide +kernel, rfl, by decide +kernel, by decide +kernel⟩
abbrev eW : Stmt := kR 25
theorem j2 : aD ["_law_near", "_law_way", "_law_thing", "_law_e"] ["_law_near", "_law_way", "_law_thing"] (aq eW) := ⟨rfl, rfl, rfl, by decide +kernel, rfl, by decide +kernel, by decide +kernel⟩
abbrev ki : Stmt := kR 26
theorem ou : aD ["_law_cell_here", "_law_many", "_law_some"] ["_law_cell_here", "_law_many"] (aq ki) := ⟨rfl, rfl, rfl, by decide +kernel, rfl, by decide +kernel, by decide +kernel⟩
abbrev iC : Stmt := kR 22
theorem qf : aD ["_law_found", "_law_due"] ["_law_found", "_law_due"] (aq iC) := ⟨rfl, rfl, rfl, by decide +kernel, rfl, by decide +kernel, by decide +kernel⟩
abbrev u0 : Stmt := kR 27
theorem h8 : aD ["_law_script", "_law_many", "_law_words_here", "_law_slow", "_law_cell_here", "_law_bad", "_law_near", "_law_k", "_law_held", "_law_counts", "_law_more"] ["_law_script"] (aq u0) := ⟨rfl, rfl, rfl, by decide +kernel, rfl, by decide +kernel, by decide +kernel⟩
structure Txt (w : World) (K : PySem.W.Frag) (γ : Str → Addr) (mg : Str → Option Value) : Prop where
  fA : mg "ValueError" = none
  nP : mg "bool" = none
  gO : mg "enumerate" = none
  qA : mg "int" = none
  bh : mg "isinstance" = none
  lr : mg "len" = none
  mU : mg "list" = none
  sC : mg "min" = none
  jk : mg "range" = none
  jj : mg "tuple" = none
  isi : oJ K γ gG
  bI : pj K (γ "Slow")
  nC : A8 K mg "Slow" (γ "Slow")
  aA : pj K (γ "Near")
  ku : A8 K mg "Near" (γ "Near")
  hJ : pj K (γ "Line")
  nD : A8 K mg "Line" (γ "Line")
  nI : sv K (γ "Line")
  lH : mg "MillError" = some (.ref (γ "MillError"))
  yh : mg "NoLine" = some (.ref (γ "NoLine"))
  wo : mg "NoPlace" = some (.ref (γ "NoPlace"))
  yg : mg "NoSets" = some (.ref (γ "NoSets"))
  gz : lR K γ ["Slow"] "cells"
  fo : lR K γ ["Line"] "changed"
  gK : lR K γ ["Slow"] "lines_put"
  fN : lR K γ ["Slow"] "lines_told"
  kA : lR K γ ["Line"] "number"
  mE : lR K γ ["Near"] "rooms"
  tH : lR K γ ["Near"] "sets"
  j7 : lR K γ ["Near"] "slow"
  iN : lR K γ ["Line"] "words"
  lN : ∃ u, mg "ROOM" = some u ∧ bJ (.int 2) u
  mR : ∀ c, List.contains (["NoLine", "NoSets", "NoPlace"] : List Str) c = true → PySem.W.exmOne K (.ref (γ c)) (.ref (γ "MillError")) = some true
  j0 : wO K mg "NoSets" (γ "NoSets")
  iO : wO K mg "NoPlace" (γ "NoPlace")
section
variable {P : Program} {w : World} {K : PySem.W.Frag} {mg : Str → Option Value} {base : Heap} {γ : Str → Addr}
theorem rM (T : Txt w K γ mg)  (F : aQ K mg "_law_cell" jq) : kZ P w K mg base 1 "_law_cell" ["_law_script", "_law_k"] (bF K γ 2 aL) := by
  refine F.qdef (k := 0) eC rfl rfl (fun _ _ _ _ _ _ us hl => match us, hl with | [_, _], _ => rfl) (bd := jD) fun f cdv A outer s H E hr => ?_
  unfold jD
  exact (ax (fB 2 eC.nd (fu (ik av (v 1)) av))
    (ax (dO (qV (dD hr) (v 0) (iu ak)) (ax (fB 2 eC.nd (fu (fu (v 2) (ik (ix (v 0) (cG (v 1) (p5 rfl T.lr (ae (v 0) ak)))) av)) (ik av (v 1))))
    (az (fB 2 eC.nd (fu (v 2) (ik (aZ (v 1) (p5 rfl T.lr (ae (v 0) ak))) av))))) dk)
    (ax (fB 3 eC.nd (cG (v 2) av))
    (ax (fB 3 eC.nd (cG (ik (v 3) (v 3)) av))
    (az (aO (cG (fu (fu (ik (v 3) (v 3)) (ik av (v 3))) (v 1)) av)))))))
theorem rL (T : Txt w K γ mg)  (F : aQ K mg "_law_word" jo) : kZ P w K mg base 1 "_law_word" ["_law_cell_here"] (bF K γ 1 gZ) := by
  refine F.qdef (k := 0) q8 rfl rfl (fun _ _ _ _ _ _ us hl => match us, hl with | [_], _ => rfl) (bd := jC) fun f cdv A outer s H E hr => ?_
  unfold jC
  exact (az (aO (ix (iu (ae (cG (v 0) av) (ae av (ae av ak)))) (aZ (cG (aZ (v 0) av) av) av))))
theorem qj (T : Txt w K γ mg) (mf : kZ P w K mg base 1 "_law_word" ["_law_cell_here"] (bF K γ 1 gZ)) (aN : kZ P w K mg base 1 "_law_cell" ["_law_script", "_law_k"] (bF K γ 2 aL)) (F : aQ K mg "_law_words" iB) : kZ P w K mg base 2 "_law_words" ["_law_script", "_law_k", "_law_many"] (bF K γ 3 fP) := by
  refine F.qdef (k := 1) qe rfl rfl (fun _ _ _ _ _ _ us hl => match us, hl with | [_, _, _], _ => rfl) (bd := iJ) fun f cdv A outer s H E hr => ?_
  unfold iJ
  exact (az (aO (rA (cs := ["_law_script", "_law_k"]) (ts := ["_law_j"]) (js := [0, 1]) (sg _ rfl rfl rfl rfl (by decide +kernel) (by decide +kernel) rfl) rfl rfl (mz rfl T.jk (v 2)) (fun _ _ _ => (gn 0 (show List.Nodup (["_law_j", "_law_script", "_law_k"] : List Str) by decide +kernel))) (fun _ _ _ => o8) (fun _ _ _ => (bR mf (hr.mono (by decide)) (by rfl) (ae (bR aN (hr.mono (by decide)) (by rfl) (ae (v 1) (ae (fu (v 2) (v 0)) ak))) ak))))))
theorem rO (T : Txt w K γ mg)  (F : aG K (γ "Slow") "__init__" "Slow.__init__" jt ["self", "words"]) : aS P w K mg base 1 (γ "Slow") "__init__" ["self", "words"] (bF K γ 2 g7) := by
  refine F.qdef (k := 0) rd rfl rfl (bd := jF) fun f cdv A outer s H E hr => ?_
  unfold jF
  exact (ax (gr T.gz (v 0) (uz rfl T.mU (ae (v 1) ak)))
    (ax (gr T.fN (v 0) av)
    (az (gr T.gK (v 0) av))))
theorem rK (T : Txt w K γ mg)  (F : aQ K mg "is_number" jn) : kZ P w K mg base 1 "is_number" ["thing"] (bF K γ 1 cf) := by
  refine F.qdef (k := 0) q0 rfl rfl (fun _ _ _ _ _ _ us hl => match us, hl with | [_], _ => rfl) (bd := jB) fun f cdv A outer s H E hr => ?_
  unfold jB
  exact (az (aO (sR (nH T.isi rfl T.bh (ae (v 0) (ae (xF rfl T.qA PyProof.Rows.boot_int) ak))) (va (AK (nH T.isi rfl T.bh (ae (v 0) (ae (xF rfl T.nP PyProof.Rows.boot_bool) ak))))))))
theorem rR (T : Txt w K γ mg) (cg : kZ P w K mg base 1 "is_number" ["thing"] (bF K γ 1 cf)) (F : aG K (γ "Near") "__init__" "Near.__init__" gT ["self", "slow", "sets"]) : aS P w K mg base 2 (γ "Near") "__init__" ["self", "slow", "sets"] (bF K γ 3 bO) := by
  refine F.qdef (k := 1) nu rfl rfl (bd := ft) fun f cdv A outer s H E hr => ?_
  unfold ft
  exact (ax (dO (qF (vW (sP (jO (oP (bR cg (hr.mono (by decide)) (by rfl) (ae (v 2) ak)))) (pF (qU (v 2) (mO (ae av (ae av (ae av ak))))))))) (az pI) dk)
    (pH (ax (gr T.j7 (v 0) (v 1))
    (ax (gr T.tH (v 0) (v 2))
    (az (gr T.mE (v 0) (rA (cs := []) (ts := ["number"]) (js := []) (sg _ rfl rfl rfl rfl (by decide +kernel) (by decide +kernel) rfl) rfl rfl (mz rfl T.jk (v 2)) (fun _ _ _ => (gn 0 (show List.Nodup (["number"] : List Str) by decide +kernel))) (fun _ _ _ => o8) (fun _ _ _ => (iu ak)))))))))
theorem pP (T : Txt w K γ mg) (cg : kZ P w K mg base 1 "is_number" ["thing"] (bF K γ 1 cf)) (F : aG K (γ "Near") "__init__" "Near.__init__" gT ["self", "slow", "sets"]) : ji P w K mg base 2 (γ "Near") "__init__" ["self", "slow", "sets"] (p9 K γ 3 bO) := by
  refine F.xdef (k := 1) nu rfl rfl (bd := ft) fun f cdv A outer s H E Ψ hr Th => ?_
  unfold ft
  exact (ng (dO (qF (vW (sP (jO (oP (bR cg (hr.mono (by decide)) (by rfl) (ae (v 2) ak)))) (pF (qU (v 2) (mO (ae av (ae av (ae av ak))))))))) (az pI) dk) (wW (vW (sP (jO (oP (bR cg (hr.mono (by decide)) (by rfl) (ae (v 2) ak)))) (pF (qU (v 2) (mO (ae av (ae av (ae av ak)))))))) (jN (uO T.j0 (by rfl) rfl rfl Th (ae mP ak))) wV)
    sD)
theorem oS (T : Txt w K γ mg)  (F : aQ K mg "_law_classes" fF) : uN P w K mg base 1 "_law_classes" ["_law_e"] (bF K γ 1 bV) := by
  refine F.qdefQ (k := 0) oM rfl rfl (fun _ _ _ _ _ _ us hl => match us, hl with | [_], _ => rfl) (bd := fU) fun f cdv A outer s H E hr => ?_
  unfold fU
  exact (ax (dO (vW (sP (jO (oP (nH T.isi rfl T.bh (ae (v 0) (ae (rz rfl T.lH) ak))))) (pF (jO (oP (nH T.isi rfl T.bh (ae (v 0) (ae (xF rfl T.fA As) ak)))))))) (az (aO (iu ak))) dk)
    (az (aO (iu (ae (nH T.isi rfl T.bh (ae (v 0) (ae (rz rfl T.yg) ak))) (ae (nH T.isi rfl T.bh (ae (v 0) (ae (rz rfl T.wo) ak))) (ae (nH T.isi rfl T.bh (ae (v 0) (ae (rz rfl T.yh) ak))) ak)))))))
theorem oQ (T : Txt w K γ mg) (dg : aS P w K mg base 2 (γ "Near") "__init__" ["self", "slow", "sets"] (bF K γ 3 bO)) (jX : ji P w K mg base 2 (γ "Near") "__init__" ["self", "slow", "sets"] (p9 K γ 3 bO)) (cX : uN P w K mg base 1 "_law_classes" ["_law_e"] (bF K γ 1 bV)) (F : aQ K mg "_law_no_sets" fD) : kZ P w K mg base 4 "_law_no_sets" ["_law_slow", "_law_thing"] (bF K γ 2 cR) := by
  refine F.qdef (k := 3) kT rfl rfl (fun _ _ _ _ _ _ us hl => match us, hl with | [_, _], _ => rfl) (bd := fS) fun f cdv A outer s H E hr => ?_
  unfold fS
  exact (ax (Bq (cs := ["NoLine", "NoSets", "NoPlace"]) ⟨rfl, rfl⟩ rfl T.lH kT.nd rfl rfl (Or.inl rfl) (.inl rfl) (fun _ => (az (bS (vb (nB T.ku dg (hr.mono (by decide))) (by rfl) (ae (v 0) (ae (v 1) ak)))))) (fun _ _ _ Th => (Bb (C6 T.ku jX (hr.mono (by decide)) rfl Th rfl (by rfl) (ae (v 0) (ae (v 1) ak))))) (fun _ => (az (aO (CO (u3 hr.marked) (vc cX (hr.mono (by decide)).marked (by rfl) (ae (v 2) ak)) (iu (ae km (ae km (ae km ak)))))))) T.mR)
    (az (aO km)))
theorem rJ (T : Txt w K γ mg) (cg : kZ P w K mg base 1 "is_number" ["thing"] (bF K γ 1 cf)) (F : aQ K mg "is_within" jm) : kZ P w K mg base 2 "is_within" ["thing", "low", "high"] (bF K γ 3 cE) := by
  refine F.qdef (k := 1) qZ rfl rfl (fun _ _ _ _ _ _ us hl => match us, hl with | [_, _, _], _ => rfl) (bd := hU) fun f cdv A outer s H E hr => ?_
  unfold hU
  exact (az (aO (sR (bR cg (hr.mono (by decide)) (by rfl) (ae (v 0) ak)) (va (wN (v 1) (v 0) (v 2))))))
theorem rN (T : Txt w K γ mg)  (F : aG K (γ "Slow") "size" "Slow.size" jr ["self"]) : aS P w K mg base 1 (γ "Slow") "size" ["self"] (bF K γ 1 dS) := by
  refine F.qdef (k := 0) rb rfl rfl (bd := jE) fun f cdv A outer s H E hr => ?_
  unfold jE
  exact (az (aO (p5 rfl T.lr (ae (cw T.gz (v 0)) ak))))
theorem j4 (T : Txt w K γ mg) (cH : kZ P w K mg base 2 "is_within" ["thing", "low", "high"] (bF K γ 3 cE)) (fv : aS P w K mg base 1 (γ "Slow") "size" ["self"] (bF K γ 1 dS)) (F : aG K (γ "Near") "refuse_no_place" "Near.refuse_no_place" bL ["self", "address"]) : aS P w K mg base 3 (γ "Near") "refuse_no_place" ["self", "address"] (bF K γ 2 ah) := by
  refine F.qdef (k := 2) fk rfl rfl (bd := bq) fun f cdv A outer s H E hr => ?_
  unfold bq
  exact (az (dO (qF (jO (oP (bR cH (hr.mono (by decide)) (by rfl) (ae (v 1) (ae av (ae (tR (eZ (aK.cons T.bI fv (hr.mono (by decide)) aK.nil) (cw T.j7 (v 0))) av) ak))))))) (az pI) dk))
theorem jh (T : Txt w K γ mg) (cH : kZ P w K mg base 2 "is_within" ["thing", "low", "high"] (bF K γ 3 cE)) (fv : aS P w K mg base 1 (γ "Slow") "size" ["self"] (bF K γ 1 dS)) (F : aG K (γ "Near") "refuse_no_place" "Near.refuse_no_place" bL ["self", "address"]) : ji P w K mg base 3 (γ "Near") "refuse_no_place" ["self", "address"] (p9 K γ 2 ah) := by
  refine F.xdef (k := 2) fk rfl rfl (bd := bq) fun f cdv A outer s H E Ψ hr Th => ?_
  unfold bq
  exact (jN (wW (jO (oP (bR cH (hr.mono (by decide)) (by rfl) (ae (v 1) (ae av (ae (tR (eZ (aK.cons T.bI fv (hr.mono (by decide)) aK.nil) (cw T.j7 (v 0))) av) ak)))))) (jN (uO T.iO (by rfl) rfl rfl Th (ae mP ak))) wV))
theorem oW (T : Txt w K γ mg)  (F : aG K (γ "Near") "room_of" "Near.room_of" fI ["self", "number"]) : aS P w K mg base 1 (γ "Near") "room_of" ["self", "number"] (bF K γ 2 bc) := by
  refine F.qdef (k := 0) oO rfl rfl (bd := fX) fun f cdv A outer s H E hr => ?_
  unfold fX
  exact (az (aO (ix (cw T.mE (v 0)) (cG (v 1) (cw T.tH (v 0))))))
theorem qt (T : Txt w K γ mg) (bf : aS P w K mg base 1 (γ "Near") "room_of" ["self", "number"] (bF K γ 2 bc)) (F : aG K (γ "Near") "found" "Near.found" iF ["self", "number"]) : aS P w K mg base 2 (γ "Near") "found" ["self", "number"] (bF K γ 2 bB) := by
  refine F.qdef (k := 1) mL rfl rfl (bd := fY) fun f cdv A outer s H E hr => ?_
  unfold fY
  exact (ax (pJ PassesOwn.never rfl (pK (bj (aK.cons T.aA bf (hr.mono (by decide)) aK.nil) (v 0) (ae (v 1) ak))) (gn 2 mL.nd) (az (dO (nQ (dD hr) (cw T.kA (v 2)) (v 1)) (az (aO (v 2))) dk)))
    (az (aO pL)))
theorem kn (T : Txt w K γ mg) (cH : kZ P w K mg base 2 "is_within" ["thing", "low", "high"] (bF K γ 3 cE)) (F : aG K (γ "Slow") "refuse_no_line" "Slow.refuse_no_line" cu ["self", "k"]) : aS P w K mg base 3 (γ "Slow") "refuse_no_line" ["self", "k"] (bF K γ 2 aY) := by
  refine F.qdef (k := 2) kg rfl rfl (bd := cv) fun f cdv A outer s H E hr => ?_
  unfold cv
  exact (az (dO (jO (oP (bR cH (hr.mono (by decide)) (by rfl) (ae (v 1) (ae av (ae (tR (aZ (p5 rfl T.lr (ae (cw T.gz (v 0)) ak)) av) av) ak)))))) (az xE) dk))
theorem nX (T : Txt w K γ mg) (bx : aS P w K mg base 3 (γ "Slow") "refuse_no_line" ["self", "k"] (bF K γ 2 aY)) (F : aG K (γ "Slow") "put_four" "Slow.put_four" eY ["self", "k", "words"]) : aS P w K mg base 4 (γ "Slow") "put_four" ["self", "k", "words"] (bF K γ 3 dq) := by
  refine F.qdef (k := 3) gj rfl rfl (bd := fc) fun f cdv A outer s H E hr => ?_
  unfold fc
  exact (ax (bS (bj (aK.cons T.bI bx (hr.mono (by decide)) aK.nil) (v 0) (ae (v 1) ak)))
    (ax (gr T.gK (v 0) (fu (cw T.gK (v 0)) av))
    (az (zw PassesOwn.never rfl rfl T.gO (v 2) (Bs (is := [3, 4]) rfl (sV (pn 3 gj.nd) (sV (pn 4 gj.nd) zE))) (az (xD (v 4) (cw T.gz (v 0)) (fu (ik av (v 1)) (v 3))))))))
theorem mZ (T : Txt w K γ mg) (ir : aS P w K mg base 4 (γ "Slow") "put_four" ["self", "k", "words"] (bF K γ 3 dq)) (F : aG K (γ "Near") "write_back" "Near.write_back" dH ["self", "line"]) : aS P w K mg base 5 (γ "Near") "write_back" ["self", "line"] (bF K γ 2 bt) := by
  refine F.qdef (k := 4) mW rfl rfl (bd := cF) fun f cdv A outer s H E hr => ?_
  unfold cF
  exact (az (dO (oP (cw T.fo (v 1))) (ax (bS (bj (aK.cons T.bI ir (hr.mono (by decide)) aK.nil) (cw T.j7 (v 0)) (ae (cw T.kA (v 1)) (ae (cw T.iN (v 1)) ak))))
    (az (gr T.fo (v 1) km))) dk))
theorem rW (T : Txt w K γ mg)  (F : aG K (γ "Line") "__init__" "Line.__init__" jx ["self", "number", "words", "changed"]) : aS P w K mg base 1 (γ "Line") "__init__" ["self", "number", "words", "changed"] (bF K γ 4 dU) := by
  refine F.qdef (k := 0) rk rfl rfl (bd := jI) fun f cdv A outer s H E hr => ?_
  unfold jI
  exact (ax (gr T.kA (v 0) (v 1))
    (ax (gr T.iN (v 0) (uz rfl T.mU (ae (v 2) ak)))
    (az (gr T.fo (v 0) (v 3)))))
theorem rP (T : Txt w K γ mg) (bx : aS P w K mg base 3 (γ "Slow") "refuse_no_line" ["self", "k"] (bF K γ 2 aY)) (F : aG K (γ "Slow") "four" "Slow.four" ju ["self", "k"]) : aS P w K mg base 4 (γ "Slow") "four" ["self", "k"] (bF K γ 2 g8) := by
  refine F.qdef (k := 3) rf rfl rfl (bd := jG) fun f cdv A outer s H E hr => ?_
  unfold jG
  exact (ax (bS (bj (aK.cons T.bI bx (hr.mono (by decide)) aK.nil) (v 0) (ae (v 1) ak)))
    (ax (gr T.fN (v 0) (fu (cw T.fN (v 0)) av))
    (az (aO (pb rfl T.jj (ae (Fh (cw T.gz (v 0)) (u9 (ik av (v 1))) (u9 (fu (ik av (v 1)) av))) ak))))))
theorem qu (T : Txt w K γ mg) (bf : aS P w K mg base 1 (γ "Near") "room_of" ["self", "number"] (bF K γ 2 bc)) (br : aS P w K mg base 2 (γ "Near") "found" ["self", "number"] (bF K γ 2 bB)) (bZ : aS P w K mg base 5 (γ "Near") "write_back" ["self", "line"] (bF K γ 2 bt)) (mr : aS P w K mg base 1 (γ "Line") "__init__" ["self", "number", "words", "changed"] (bF K γ 4 dU)) (mh : aS P w K mg base 4 (γ "Slow") "four" ["self", "k"] (bF K γ 2 g8)) (F : aG K (γ "Near") "asked" "Near.asked" iG ["self", "number"]) : aS P w K mg base 6 (γ "Near") "asked" ["self", "number"] (bF K γ 2 bT) := by
  refine F.qdef (k := 5) gH rfl rfl (bd := eH) fun f cdv A outer s H E hr => ?_
  unfold eH
  exact (ax (fB 2 gH.nd (bj (aK.cons T.aA bf (hr.mono (by decide)) aK.nil) (v 0) (ae (v 1) ak)))
    (ax (fB 3 gH.nd (bj (aK.cons T.aA br (hr.mono (by decide)) aK.nil) (v 0) (ae (v 1) ak)))
    (ax (dO (uW (v 3) pL) (az (bS (xG (dD hr) T.nI (v 2) (v 3)))) (ax (dO (nQ (dD hr) (p5 rfl T.lr (ae (v 2) ak)) (xI (by rfl) T.lN.choose_spec.1 T.lN.choose_spec.2)) (az (bS (bj (aK.cons T.aA bZ (hr.mono (by decide)) aK.nil) (v 0) (ae (DH (v 2)) ak)))) dk)
    (az (fB 3 gH.nd (vb (nB T.nD mr (hr.mono (by decide))) (by rfl) (ae (v 1) (ae (bj (aK.cons T.bI mh (hr.mono (by decide)) aK.nil) (cw T.j7 (v 0)) (ae (v 1) ak)) (ae km ak))))))))
    (ax (bS (xH (v 2) av (v 3)))
    (az (aO (v 3)))))))
theorem s9 (T : Txt w K γ mg) (ao : aS P w K mg base 3 (γ "Near") "refuse_no_place" ["self", "address"] (bF K γ 2 ah)) (au : ji P w K mg base 3 (γ "Near") "refuse_no_place" ["self", "address"] (p9 K γ 2 ah)) (bU : aS P w K mg base 6 (γ "Near") "asked" ["self", "number"] (bF K γ 2 bT)) (F : aG K (γ "Near") "get" "Near.get" iR ["self", "address"]) : aS P w K mg base 7 (γ "Near") "get" ["self", "address"] (bF K γ 2 b4) := by
  refine F.qdef (k := 6) ow rfl rfl (bd := gC) fun f cdv A outer s H E hr => ?_
  unfold gC
  exact (ax (bS (bj (aK.cons T.aA ao (hr.mono (by decide)) aK.nil) (v 0) (kU (ae (v 1) ak))))
    (pH (az (aO (ix (cw T.iN (bj (aK.cons T.aA bU (hr.mono (by decide)) aK.nil) (v 0) (ae (aZ (v 1) av) ak))) (cG (v 1) av))))))
theorem qp (T : Txt w K γ mg) (ao : aS P w K mg base 3 (γ "Near") "refuse_no_place" ["self", "address"] (bF K γ 2 ah)) (au : ji P w K mg base 3 (γ "Near") "refuse_no_place" ["self", "address"] (p9 K γ 2 ah)) (bU : aS P w K mg base 6 (γ "Near") "asked" ["self", "number"] (bF K γ 2 bT)) (F : aG K (γ "Near") "get" "Near.get" iR ["self", "address"]) : ji P w K mg base 7 (γ "Near") "get" ["self", "address"] (p9 K γ 2 b4) := by
  refine F.xdef (k := 6) ow rfl rfl (bd := gC) fun f cdv A outer s H E Ψ hr Th => ?_
  unfold gC
  exact (ng (bS (bj (aK.cons T.aA ao (hr.mono (by decide)) aK.nil) (v 0) (kU (ae (v 1) ak)))) (lx (lu T.aA au (hr.mono (by decide)) rfl Th (HL.gY _) (v 0) (ae (v 1) ak)))
    sD)
theorem sZ (T : Txt w K γ mg) (ao : aS P w K mg base 3 (γ "Near") "refuse_no_place" ["self", "address"] (bF K γ 2 ah)) (au : ji P w K mg base 3 (γ "Near") "refuse_no_place" ["self", "address"] (p9 K γ 2 ah)) (bU : aS P w K mg base 6 (γ "Near") "asked" ["self", "number"] (bF K γ 2 bT)) (F : aG K (γ "Near") "put" "Near.put" iQ ["self", "address", "word"]) : aS P w K mg base 7 (γ "Near") "put" ["self", "address", "word"] (bF K γ 3 cL) := by
  refine F.qdef (k := 6) lD rfl rfl (bd := gB) fun f cdv A outer s H E hr => ?_
  unfold gB
  exact (ax (bS (bj (aK.cons T.aA ao (hr.mono (by decide)) aK.nil) (v 0) (kU (ae (v 1) ak))))
    (pH (ax (fB 3 lD.nd (bj (aK.cons T.aA bU (hr.mono (by decide)) aK.nil) (v 0) (ae (aZ (v 1) av) ak)))
    (ax (xD (v 2) (cw T.iN (v 3)) (cG (v 1) av))
    (az (gr T.fo (v 3) km))))))
theorem qm (T : Txt w K γ mg) (ao : aS P w K mg base 3 (γ "Near") "refuse_no_place" ["self", "address"] (bF K γ 2 ah)) (au : ji P w K mg base 3 (γ "Near") "refuse_no_place" ["self", "address"] (p9 K γ 2 ah)) (bU : aS P w K mg base 6 (γ "Near") "asked" ["self", "number"] (bF K γ 2 bT)) (F : aG K (γ "Near") "put" "Near.put" iQ ["self", "address", "word"]) : ji P w K mg base 7 (γ "Near") "put" ["self", "address", "word"] (p9 K γ 3 cL) := by
  refine F.xdef (k := 6) lD rfl rfl (bd := gB) fun f cdv A outer s H E Ψ hr Th => ?_
  unfold gB
  exact (ng (bS (bj (aK.cons T.aA ao (hr.mono (by decide)) aK.nil) (v 0) (kU (ae (v 1) ak)))) (lx (lu T.aA au (hr.mono (by decide)) rfl Th (HL.gY _) (v 0) (ae (v 1) ak)))
    sD)
theorem rT (T : Txt w K γ mg) (ao : aS P w K mg base 3 (γ "Near") "refuse_no_place" ["self", "address"] (bF K γ 2 ah)) (au : ji P w K mg base 3 (γ "Near") "refuse_no_place" ["self", "address"] (p9 K γ 2 ah)) (br : aS P w K mg base 2 (γ "Near") "found" ["self", "number"] (bF K γ 2 bB)) (bf : aS P w K mg base 1 (γ "Near") "room_of" ["self", "number"] (bF K γ 2 bc)) (F : aG K (γ "Near") "cost" "Near.cost" gU ["self", "address"]) : aS P w K mg base 4 (γ "Near") "cost" ["self", "address"] (bF K γ 2 bP) := by
  refine F.qdef (k := 3) iz rfl rfl (bd := df) fun f cdv A outer s H E hr => ?_
  unfold df
  exact (ax (bS (bj (aK.cons T.aA ao (hr.mono (by decide)) aK.nil) (v 0) (kU (ae (v 1) ak))))
    (pH (ax (fB 2 iz.nd (aZ (v 1) av))
    (ax (dO (uW (bj (aK.cons T.aA br (hr.mono (by decide)) aK.nil) (v 0) (ae (v 2) ak)) pL) (az (aO av)) dk)
    (ax (fB 3 iz.nd (bj (aK.cons T.aA bf (hr.mono (by decide)) aK.nil) (v 0) (ae (v 2) ak)))
    (ax (dO (vW (Bp (nQ (dD hr) (p5 rfl T.lr (ae (v 3) ak)) (xI (by rfl) T.lN.choose_spec.1 T.lN.choose_spec.2)) (zu (oP (cw T.fo (ix (v 3) (sH av))))))) (az (aO av)) dk)
    (az (aO av))))))))
theorem pQ (T : Txt w K γ mg) (ao : aS P w K mg base 3 (γ "Near") "refuse_no_place" ["self", "address"] (bF K γ 2 ah)) (au : ji P w K mg base 3 (γ "Near") "refuse_no_place" ["self", "address"] (p9 K γ 2 ah)) (br : aS P w K mg base 2 (γ "Near") "found" ["self", "number"] (bF K γ 2 bB)) (bf : aS P w K mg base 1 (γ "Near") "room_of" ["self", "number"] (bF K γ 2 bc)) (F : aG K (γ "Near") "cost" "Near.cost" gU ["self", "address"]) : ji P w K mg base 4 (γ "Near") "cost" ["self", "address"] (p9 K γ 2 bP) := by
  refine F.xdef (k := 3) iz rfl rfl (bd := df) fun f cdv A outer s H E Ψ hr Th => ?_
  unfold df
  exact (ng (bS (bj (aK.cons T.aA ao (hr.mono (by decide)) aK.nil) (v 0) (kU (ae (v 1) ak)))) (lx (lu T.aA au (hr.mono (by decide)) rfl Th (HL.gY _) (v 0) (ae (v 1) ak)))
    sD)
theorem oV (T : Txt w K γ mg)  (F : aG K (γ "Slow") "word_at" "Slow.word_at" fH ["self", "address"]) : aS P w K mg base 1 (γ "Slow") "word_at" ["self", "address"] (bF K γ 2 cT) := by
  refine F.qdef (k := 0) oN rfl rfl (bd := fW) fun f cdv A outer s H E hr => ?_
  unfold fW
  exact (az (aO (ix (cw T.gz (v 0)) (v 1))))
theorem rQ (T : Txt w K γ mg) (ao : aS P w K mg base 3 (γ "Near") "refuse_no_place" ["self", "address"] (bF K γ 2 ah)) (au : ji P w K mg base 3 (γ "Near") "refuse_no_place" ["self", "address"] (p9 K γ 2 ah)) (br : aS P w K mg base 2 (γ "Near") "found" ["self", "number"] (bF K γ 2 bB)) (eh : aS P w K mg base 1 (γ "Slow") "word_at" ["self", "address"] (bF K γ 2 cT)) (F : aG K (γ "Near") "look" "Near.look" gS ["self", "address"]) : aS P w K mg base 4 (γ "Near") "look" ["self", "address"] (bF K γ 2 bN) := by
  refine F.qdef (k := 3) kh rfl rfl (bd := dY) fun f cdv A outer s H E hr => ?_
  unfold dY
  exact (ax (bS (bj (aK.cons T.aA ao (hr.mono (by decide)) aK.nil) (v 0) (kU (ae (v 1) ak))))
    (pH (ax (fB 2 kh.nd (bj (aK.cons T.aA br (hr.mono (by decide)) aK.nil) (v 0) (ae (aZ (v 1) av) ak)))
    (ax (dO (EZ (v 2) pL) (az (aO (bj (aK.cons T.bI eh (hr.mono (by decide)) aK.nil) (cw T.j7 (v 0)) (ae (v 1) ak)))) dk)
    (az (aO (ix (cw T.iN (v 2)) (cG (v 1) av))))))))
theorem pO (T : Txt w K γ mg) (ao : aS P w K mg base 3 (γ "Near") "refuse_no_place" ["self", "address"] (bF K γ 2 ah)) (au : ji P w K mg base 3 (γ "Near") "refuse_no_place" ["self", "address"] (p9 K γ 2 ah)) (br : aS P w K mg base 2 (γ "Near") "found" ["self", "number"] (bF K γ 2 bB)) (eh : aS P w K mg base 1 (γ "Slow") "word_at" ["self", "address"] (bF K γ 2 cT)) (F : aG K (γ "Near") "look" "Near.look" gS ["self", "address"]) : ji P w K mg base 4 (γ "Near") "look" ["self", "address"] (p9 K γ 2 bN) := by
  refine F.xdef (k := 3) kh rfl rfl (bd := dY) fun f cdv A outer s H E Ψ hr Th => ?_
  unfold dY
  exact (ng (bS (bj (aK.cons T.aA ao (hr.mono (by decide)) aK.nil) (v 0) (kU (ae (v 1) ak)))) (lx (lu T.aA au (hr.mono (by decide)) rfl Th (HL.gY _) (v 0) (ae (v 1) ak)))
    sD)
theorem pS (T : Txt w K γ mg) (bZ : aS P w K mg base 5 (γ "Near") "write_back" ["self", "line"] (bF K γ 2 bt)) (F : aG K (γ "Near") "settle" "Near.settle" gJ ["self"]) : aS P w K mg base 6 (γ "Near") "settle" ["self"] (bF K γ 1 eR) := by
  refine F.qdef (k := 5) iP rfl rfl (bd := jT) fun f cdv A outer s H E hr => ?_
  unfold jT
  exact (az (pJ PassesOwn.never rfl (pK (cw T.mE (v 0))) (gn 1 iP.nd) (az (pJ PassesOwn.never rfl (pK (v 1)) (gn 2 iP.nd) (az (bS (bj (aK.cons T.aA bZ (hr.mono (by decide)) aK.nil) (v 0) (ae (v 2) ak))))))))
theorem sY (T : Txt w K γ mg) (cn : aS P w K mg base 7 (γ "Near") "get" ["self", "address"] (bF K γ 2 b4)) (gF : aS P w K mg base 7 (γ "Near") "put" ["self", "address", "word"] (bF K γ 3 cL)) (bY : aS P w K mg base 4 (γ "Near") "cost" ["self", "address"] (bF K γ 2 bP)) (bX : aS P w K mg base 4 (γ "Near") "look" ["self", "address"] (bF K γ 2 bN)) (jZ : aS P w K mg base 6 (γ "Near") "settle" ["self"] (bF K γ 1 eR)) (F : aQ K mg "_law_did" kj) : kZ P w K mg base 8 "_law_did" ["_law_near", "_law_deed"] (bF K γ 2 iU) := by
  refine F.qdef (k := 7) sM rfl rfl (fun _ _ _ _ _ _ us hl => match us, hl with | [_, _], _ => rfl) (bd := dX) fun f cdv A outer s H E hr => ?_
  unfold dX
  exact (ax (dO (nQ (dD hr) (ix (v 1) av) mP) (az (aO (bj (aK.cons T.aA cn (hr.mono (by decide)) aK.nil) (v 0) (ae (ix (v 1) av) ak)))) dk)
    (ax (dO (nQ (dD hr) (ix (v 1) av) mP) (az (aO (bj (aK.cons T.aA gF (hr.mono (by decide)) aK.nil) (v 0) (ae (ix (v 1) av) (ae (ix (v 1) av) ak))))) dk)
    (ax (dO (nQ (dD hr) (ix (v 1) av) mP) (az (aO (bj (aK.cons T.aA bY (hr.mono (by decide)) aK.nil) (v 0) (ae (ix (v 1) av) ak)))) dk)
    (ax (dO (nQ (dD hr) (ix (v 1) av) mP) (az (aO (bj (aK.cons T.aA bX (hr.mono (by decide)) aK.nil) (v 0) (ae (ix (v 1) av) ak)))) dk)
    (az (aO (eZ (aK.cons T.aA jZ (hr.mono (by decide)) aK.nil) (v 0))))))))
theorem oU (T : Txt w K γ mg) (aN : kZ P w K mg base 1 "_law_cell" ["_law_script", "_law_k"] (bF K γ 2 aL)) (F : aQ K mg "_law_address" fG) : kZ P w K mg base 2 "_law_address" ["_law_script", "_law_k", "_law_many"] (bF K γ 3 dR) := by
  refine F.qdef (k := 1) dn rfl rfl (fun _ _ _ _ _ _ us hl => match us, hl with | [_, _, _], _ => rfl) (bd := fV) fun f cdv A outer s H E hr => ?_
  unfold fV
  exact (ax (fB 3 dn.nd (bR aN (hr.mono (by decide)) (by rfl) (ae (v 0) (ae (v 1) ak))))
    (ax (fB 4 dn.nd (cG (bR aN (hr.mono (by decide)) (by rfl) (ae (v 0) (ae (fu av (cG (aZ (v 3) av) av)) ak))) (v 2)))
    (ax (fB 5 dn.nd (ix (iu (ae av (ae av (ae av (ae av (ae av ak)))))) (cG (bR aN (hr.mono (by decide)) (by rfl) (ae (v 0) (ae av ak))) av)))
    (ax (fB 6 dn.nd (cG (fu (bR aN (hr.mono (by decide)) (by rfl) (ae (v 0) (ae av ak))) (ik (v 5) (cG (aZ (v 3) av) av))) (v 2)))
    (az (aO (ix (iu (ae (v 4) (ae (v 4) (ae (v 6) (ae (v 6) (ae (v 6) (ae (cG (aZ (v 3) av) (v 2)) ak))))))) (cG (v 3) av))))))))
theorem oR (T : Txt w K γ mg) (aN : kZ P w K mg base 1 "_law_cell" ["_law_script", "_law_k"] (bF K γ 2 aL)) (jd : kZ P w K mg base 2 "_law_address" ["_law_script", "_law_k", "_law_many"] (bF K γ 3 dR)) (F : aQ K mg "_law_deed_by" fE) : kZ P w K mg base 3 "_law_deed_by" ["_law_script", "_law_k", "_law_many"] (bF K γ 3 cS) := by
  refine F.qdef (k := 2) eV rfl rfl (fun _ _ _ _ _ _ us hl => match us, hl with | [_, _, _], _ => rfl) (bd := fT) fun f cdv A outer s H E hr => ?_
  unfold fT
  refine ax (fB 3 eV.nd (bR aN (hr.mono (by decide)) (by rfl) (ae (v 0) (ae (fu av (v 1)) ak)))) ?_
  refine ax (fB 4 eV.nd (ix (iu (ae (cG (aZ (v 3) av) av) (ae (cG (aZ (v 3) av) av) ak))) (cG (aZ (v 3) av) av))) ?_
  refine ax (fB 5 eV.nd ?_) ?_
  · refine iu ?_; (repeat (refine ae ?_ ?_ ?_; rotate_left 2; exact ub _ _ _ _ _; (first | exact mP | exact av | exact pL | exact km))); exact ak
  exact (az (aO (mO (ae (ix (v 5) (cG (v 3) av)) (ae (bR jd (hr.mono (by decide)) (by rfl) (ae (v 0) (ae (fu av (v 1)) (ae (v 2) ak)))) (ae (v 4) ak))))))
theorem rV (T : Txt w K γ mg)  (F : aG K (γ "Line") "told" "Line.told" jw ["self"]) : aS P w K mg base 1 (γ "Line") "told" ["self"] (bF K γ 1 hE) := by
  refine F.qdef (k := 0) rh rfl rfl (bd := jH) fun f cdv A outer s H E hr => ?_
  unfold jH
  exact (az (aO (mO (ae (cw T.kA (v 0)) (ae (pb rfl T.jj (ae (cw T.iN (v 0)) ak)) (ae (cw T.fo (v 0)) ak))))))
theorem qi (T : Txt w K γ mg) (mj : aS P w K mg base 1 (γ "Line") "told" ["self"] (bF K γ 1 hE)) (F : aQ K mg "lines_told" iA) : kZ P w K mg base 2 "lines_told" ["room"] (bF K γ 1 fO) := by
  refine F.qdef (k := 1) qd rfl rfl (fun _ _ _ _ _ _ us hl => match us, hl with | [_], _ => rfl) (bd := kB) fun f cdv A outer s H E hr => ?_
  unfold kB
  exact (az (aO (pb rfl T.jj (ae (rA (cs := []) (ts := ["line"]) (js := []) (sg _ rfl rfl rfl rfl (by decide +kernel) (by decide +kernel) rfl) rfl rfl (pK (v 0)) (fun _ _ _ => (gn 0 (show List.Nodup (["line"] : List Str) by decide +kernel))) (fun _ _ _ => o8) (fun _ _ _ => (eZ (aK.cons T.hJ mj (hr.mono (by decide)) aK.nil) (v 0)))) ak))))
theorem rS (T : Txt w K γ mg) (kO : kZ P w K mg base 2 "lines_told" ["room"] (bF K γ 1 fO)) (F : aG K (γ "Near") "held" "Near.held" jv ["self"]) : aS P w K mg base 3 (γ "Near") "held" ["self"] (bF K γ 1 g9) := by
  refine F.qdef (k := 2) rg rfl rfl (bd := lO) fun f cdv A outer s H E hr => ?_
  unfold lO
  exact (az (aO (pb rfl T.jj (ae (rA (cs := []) (ts := ["room"]) (js := []) (sg _ rfl rfl rfl rfl (by decide +kernel) (by decide +kernel) rfl) rfl rfl (pK (cw T.mE (v 0))) (fun _ _ _ => (gn 0 (show List.Nodup (["room"] : List Str) by decide +kernel))) (fun _ _ _ => o8) (fun _ _ _ => (bR kO (hr.mono (by decide)) (by rfl) (ae (v 0) ak)))) ak))))
theorem qs (T : Txt w K γ mg)  (F : aG K (γ "Slow") "reads" "Slow.reads" iE ["self"]) : aS P w K mg base 1 (γ "Slow") "reads" ["self"] (bF K γ 1 iI) := by
  refine F.qdef (k := 0) qh rfl rfl (bd := iM) fun f cdv A outer s H E hr => ?_
  unfold iM
  exact (az (aO (cw T.fN (v 0))))
theorem pR (T : Txt w K γ mg)  (F : aG K (γ "Slow") "writes" "Slow.writes" gI ["self"]) : aS P w K mg base 1 (γ "Slow") "writes" ["self"] (bF K γ 1 gL) := by
  refine F.qdef (k := 0) pB rfl rfl (bd := gN) fun f cdv A outer s H E hr => ?_
  unfold gN
  exact (az (aO (cw T.gK (v 0))))
theorem qr (T : Txt w K γ mg)  (F : aG K (γ "Slow") "whole" "Slow.whole" iD ["self"]) : aS P w K mg base 1 (γ "Slow") "whole" ["self"] (bF K γ 1 iH) := by
  refine F.qdef (k := 0) qg rfl rfl (bd := iL) fun f cdv A outer s H E hr => ?_
  unfold iL
  exact (az (aO (uz rfl T.mU (ae (cw T.gz (v 0)) ak))))
theorem nW (T : Txt w K γ mg) (cn : aS P w K mg base 7 (γ "Near") "get" ["self", "address"] (bF K γ 2 b4)) (kQ : ji P w K mg base 7 (γ "Near") "get" ["self", "address"] (p9 K γ 2 b4)) (gF : aS P w K mg base 7 (γ "Near") "put" ["self", "address", "word"] (bF K γ 3 cL)) (kP : ji P w K mg base 7 (γ "Near") "put" ["self", "address", "word"] (p9 K γ 3 cL)) (bY : aS P w K mg base 4 (γ "Near") "cost" ["self", "address"] (bF K γ 2 bP)) (jY : ji P w K mg base 4 (γ "Near") "cost" ["self", "address"] (p9 K γ 2 bP)) (bX : aS P w K mg base 4 (γ "Near") "look" ["self", "address"] (bF K γ 2 bN)) (jW : ji P w K mg base 4 (γ "Near") "look" ["self", "address"] (p9 K γ 2 bN)) (cX : uN P w K mg base 1 "_law_classes" ["_law_e"] (bF K γ 1 bV)) (F : aQ K mg "_law_no_place" eW) : kZ P w K mg base 8 "_law_no_place" ["_law_near", "_law_way", "_law_thing"] (bF K γ 3 cA) := by
  refine F.qdef (k := 7) j2 rfl rfl (fun _ _ _ _ _ _ us hl => match us, hl with | [_, _, _], _ => rfl) (bd := fb) fun f cdv A outer s H E hr => ?_
  unfold fb
  exact (ax (zv (cs := ["NoLine", "NoSets", "NoPlace"]) ⟨rfl, rfl⟩ rfl T.lH j2.nd rfl rfl (Or.inl rfl) (.inl rfl) (fun _ => (az (dO (qF (nQ (dD hr) (v 1) av)) (az (bS (bj (aK.cons T.aA cn (hr.mono (by decide)) aK.nil) (v 0) (kU (ae (v 2) ak))))) (az (dO (qF (nQ (dD hr) (v 1) av)) (az (bS (bj (aK.cons T.aA gF (hr.mono (by decide)) aK.nil) (v 0) (kU (ae (v 2) (ae av ak)))))) (az (dO (qF (nQ (dD hr) (v 1) av)) (az (bS (bj (aK.cons T.aA bY (hr.mono (by decide)) aK.nil) (v 0) (kU (ae (v 2) ak))))) (az (bS (bj (aK.cons T.aA bX (hr.mono (by decide)) aK.nil) (v 0) (kU (ae (v 2) ak)))))))))))) (fun _ _ _ Th => (jN (wW (nQ (dD hr) (v 1) av) (jN (lx (lu T.aA kQ (hr.mono (by decide)) rfl Th (HL.gY _) (v 0) (ae (v 2) ak)))) (jN (wW (nQ (dD hr) (v 1) av) (jN (lx (lu T.aA kP (hr.mono (by decide)) rfl Th (HL.gY _) (v 0) (ae (v 2) (ae av ak))))) (jN (wW (nQ (dD hr) (v 1) av) (jN (lx (lu T.aA jY (hr.mono (by decide)) rfl Th (HL.gY _) (v 0) (ae (v 2) ak)))) (jN (lx (lu T.aA jW (hr.mono (by decide)) rfl Th (HL.gY _) (v 0) (ae (v 2) ak))))))))))) (fun _ => (az (aO (CO (u3 hr.marked) (vc cX (hr.mono (by decide)).marked (by rfl) (ae (v 3) ak)) (iu (ae km (ae km (ae km ak)))))))) T.mR)
    (az (aO km)))
theorem sX (T : Txt w K γ mg)  (F : aQ K mg "_law_odd" ki) : kZ P w K mg base 1 "_law_odd" ["_law_cell_here", "_law_many"] (bF K γ 2 dQ) := by
  refine F.qdef (k := 0) ou rfl rfl (fun _ _ _ _ _ _ us hl => match us, hl with | [_, _], _ => rfl) (bd := kC) fun f cdv A outer s H E hr => ?_
  unfold kC
  exact (ax (fB 2 ou.nd (iu (ae (v 1) (ae (fu (v 1) (cG (aZ (v 0) av) av)) (ae (sH av) (ae (tR (sH av) (cG (aZ (v 0) av) av)) (ae km (ae km (ae pL (ae mP (ae mP (ae (mO (ae av ak)) (ae (iu (ae av ak)) (ae (A3 av av) ak))))))))))))))
    (az (aO (ix (fu (v 2) (iu (ae (sH (A3 av av)) ak))) (cG (aZ (v 0) av) av)))))
theorem qk (T : Txt w K γ mg)  (F : aQ K mg "_law_whole" iC) : kZ P w K mg base 1 "_law_whole" ["_law_found", "_law_due"] (bF K γ 2 fQ) := by
  refine F.qdef (k := 0) qf rfl rfl (fun _ _ _ _ _ _ us hl => match us, hl with | [_, _], _ => rfl) (bd := iK) fun f cdv A outer s H E hr => ?_
  unfold iK
  exact (az (aO (sR (nH T.isi rfl T.bh (ae (v 0) (ae (xF rfl T.qA PyProof.Rows.boot_int) ak))) (sR (AK (nH T.isi rfl T.bh (ae (v 0) (ae (xF rfl T.nP PyProof.Rows.boot_bool) ak)))) (va (CO (dD hr) (v 0) (v 1)))))))
theorem B8 (T : Txt w K γ mg) {ρ : Nat → Addr} (C : m8 K γ ρ lM) (aN : ∀ base, kZ P w K mg base 1 "_law_cell" ["_law_script", "_law_k"] (bF K γ 2 aL)) (gc : ∀ base, kZ P w K mg base 2 "_law_words" ["_law_script", "_law_k", "_law_many"] (bF K γ 3 fP)) (hX : ∀ base, aS P w K mg base 1 (γ "Slow") "__init__" ["self", "words"] (bF K γ 2 g7)) (d9 : ∀ base, kZ P w K mg base 4 "_law_no_sets" ["_law_slow", "_law_thing"] (bF K γ 2 cR)) (dg : ∀ base, aS P w K mg base 2 (γ "Near") "__init__" ["self", "slow", "sets"] (bF K γ 3 bO)) (jc : ∀ base, kZ P w K mg base 8 "_law_did" ["_law_near", "_law_deed"] (bF K γ 2 iU)) (eg : ∀ base, kZ P w K mg base 3 "_law_deed_by" ["_law_script", "_law_k", "_law_many"] (bF K γ 3 cS)) (fw : ∀ base, aS P w K mg base 3 (γ "Near") "held" ["self"] (bF K γ 1 g9)) (eK : ∀ base, aS P w K mg base 1 (γ "Slow") "reads" ["self"] (bF K γ 1 iI)) (dz : ∀ base, aS P w K mg base 1 (γ "Slow") "writes" ["self"] (bF K γ 1 gL)) (eJ : ∀ base, aS P w K mg base 1 (γ "Slow") "whole" ["self"] (bF K γ 1 iH)) (dw : ∀ base, kZ P w K mg base 8 "_law_no_place" ["_law_near", "_law_way", "_law_thing"] (bF K γ 3 cA)) (jb : ∀ base, kZ P w K mg base 1 "_law_odd" ["_law_cell_here", "_law_many"] (bF K γ 2 dQ)) (gd : ∀ base, kZ P w K mg base 1 "_law_whole" ["_law_found", "_law_due"] (bF K γ 2 fQ)) (bX : ∀ base, aS P w K mg base 4 (γ "Near") "look" ["self", "address"] (bF K γ 2 bN)) (cn : ∀ base, aS P w K mg base 7 (γ "Near") "get" ["self", "address"] (bF K γ 2 b4)) (bY : ∀ base, aS P w K mg base 4 (γ "Near") "cost" ["self", "address"] (bF K γ 2 bP)) (F : aQ K mg "law" u0) (good : ∀ ns : List Int, ns.length ≤ 63 → ∃ h', vx [.ref lM.length] (lM ++ [.rol (ns.map HL.W.int)]) = .ok (.bl true) h') : yR P w K mg 9 := by
  refine F.qlaw (k := 8) (γ := γ) h8 rfl C (fun _ _ _ _ _ _ us hl => match us, hl with | [_], _ => rfl) (bd := vK) (fun base f cdv A outer s H E hr => ?_) good
  replace aN := aN base
  replace gc := gc base
  replace hX := hX base
  replace d9 := d9 base
  replace dg := dg base
  replace jc := jc base
  replace eg := eg base
  replace fw := fw base
  replace eK := eK base
  replace dz := dz base
  replace eJ := eJ base
  replace dw := dw base
  replace jb := jb base
  replace gd := gd base
  replace bX := bX base
  replace cn := cn base
  replace bY := bY base
  unfold vK
  exact (ax (fB 1 h8.nd (fu av (ik av (cG (bR aN (hr.mono (by decide)) (by rfl) (ae (v 0) (ae av ak))) av))))
    (ax (fB 2 h8.nd (bR gc (hr.mono (by decide)) (by rfl) (ae (v 0) (ae av (ae (v 1) ak)))))
    (ax (fB 3 h8.nd (vb (nB T.nC hX (hr.mono (by decide))) (by rfl) (ae (v 2) ak)))
    (ax (fB 4 h8.nd (bR aN (hr.mono (by decide)) (by rfl) (ae (v 0) (ae av ak))))
    (ax (fB 5 h8.nd (ix (iu (ae av (ae av (ae av (ae av (ae (sH av) (ae km (ae km (ae pL (ae mP (ae (mO (ae av ak)) (ae (fu av (cG (aZ (v 4) av) av)) ak)))))))))))) (cG (v 4) av)))
    (ax (dO (jO (oP (bR d9 (hr.mono (by decide)) (by rfl) (ae (v 3) (ae (v 5) ak))))) (az (aO km)) dk)
    (ax (fB 6 h8.nd (vb (nB T.ku dg (hr.mono (by decide))) (by rfl) (ae (v 3) (ae (ix (iu (ae av (ae av (ae av ak)))) (cG (bR aN (hr.mono (by decide)) (by rfl) (ae (v 0) (ae av ak))) av)) ak))))
    (ax (pJ PassesOwn.never rfl (mz rfl T.jk (Ed rfl rfl T.sC (ae (p5 rfl T.lr (ae (v 0) ak)) (ae av ak)))) (gn 7 h8.nd) (az (bS (bR jc (hr.mono (by decide)) (by rfl) (ae (v 6) (ae (bR eg (hr.mono (by decide)) (by rfl) (ae (v 0) (ae (v 7) (ae (v 1) ak)))) ak))))))
    (ax (fB 8 h8.nd (eZ (aK.cons T.aA fw (hr.mono (by decide)) aK.nil) (v 6)))
    (ax (fB 9 h8.nd (mO (ae (eZ (aK.cons T.bI eK (hr.mono (by decide)) aK.nil) (v 3)) (ae (eZ (aK.cons T.bI dz (hr.mono (by decide)) aK.nil) (v 3)) (ae (eZ (aK.cons T.bI eJ (hr.mono (by decide)) aK.nil) (v 3)) ak)))))
    (ax (pJ PassesOwn.never rfl (mz rfl T.jk av) (gn 7 h8.nd) (ax (fB 10 h8.nd (bR aN (hr.mono (by decide)) (by rfl) (ae (v 0) (ae (fu av (v 7)) ak))))
    (ax (dO (jO (oP (bR dw (hr.mono (by decide)) (by rfl) (ae (v 6) (ae (cG (v 10) av) (ae (bR jb (hr.mono (by decide)) (by rfl) (ae (v 10) (ae (v 1) ak))) ak)))))) (az (aO km)) dk)
    (az (dO (vW (sP (qV (dD hr) (eZ (aK.cons T.aA fw (hr.mono (by decide)) aK.nil) (v 6)) (v 8)) (pF (qV (dD hr) (mO (ae (eZ (aK.cons T.bI eK (hr.mono (by decide)) aK.nil) (v 3)) (ae (eZ (aK.cons T.bI dz (hr.mono (by decide)) aK.nil) (v 3)) (ae (eZ (aK.cons T.bI eJ (hr.mono (by decide)) aK.nil) (v 3)) ak)))) (v 9))))) (az (aO km)) dk)))))
    (az (aO (sR (Fw (bj (aK.cons T.aA bY (hr.mono (by decide)) aK.nil) (v 6) (ae (tR (v 1) av) ak)) (mO (ae av (ae av (ae av ak))))) (va (bR gd (hr.mono (by decide)) (by rfl) (ae (bj (aK.cons T.aA bX (hr.mono (by decide)) aK.nil) (v 6) (ae av ak)) (ae (bj (aK.cons T.aA cn (hr.mono (by decide)) aK.nil) (v 6) (ae av ak)) ak))))))))))))))))))
theorem all (T : Txt w K γ mg) {ρ : Nat → Addr} (C : m8 K γ ρ lM) (lV : aQ K mg "_law_cell" jq) (lU : aQ K mg "_law_word" jo) (kG : aQ K mg "_law_words" iB) (lX : aG K (γ "Slow") "__init__" "Slow.__init__" jt ["self", "words"]) (lT : aQ K mg "is_number" jn) (jL : aG K (γ "Near") "__init__" "Near.__init__" gT ["self", "slow", "sets"]) (i7 : aQ K mg "_law_classes" fF) (iZ : aQ K mg "_law_no_sets" fD) (lS : aQ K mg "is_within" jm) (lW : aG K (γ "Slow") "size" "Slow.size" jr ["self"]) (cb : aG K (γ "Near") "refuse_no_place" "Near.refuse_no_place" bL ["self", "address"]) (ja : aG K (γ "Near") "room_of" "Near.room_of" fI ["self", "number"]) (kM : aG K (γ "Near") "found" "Near.found" iF ["self", "number"]) (dF : aG K (γ "Slow") "refuse_no_line" "Slow.refuse_no_line" cu ["self", "k"]) (iq : aG K (γ "Slow") "put_four" "Slow.put_four" eY ["self", "k", "words"]) (f9 : aG K (γ "Near") "write_back" "Near.write_back" dH ["self", "line"]) (md : aG K (γ "Line") "__init__" "Line.__init__" jx ["self", "number", "words", "changed"]) (lY : aG K (γ "Slow") "four" "Slow.four" ju ["self", "k"]) (kN : aG K (γ "Near") "asked" "Near.asked" iG ["self", "number"]) (kL : aG K (γ "Near") "get" "Near.get" iR ["self", "address"]) (kK : aG K (γ "Near") "put" "Near.put" iQ ["self", "address", "word"]) (jM : aG K (γ "Near") "cost" "Near.cost" gU ["self", "address"]) (i9 : aG K (γ "Slow") "word_at" "Slow.word_at" fH ["self", "address"]) (jK : aG K (γ "Near") "look" "Near.look" gS ["self", "address"]) (jV : aG K (γ "Near") "settle" "Near.settle" gJ ["self"]) (m7 : aQ K mg "_law_did" kj) (i8 : aQ K mg "_law_address" fG) (i6 : aQ K mg "_law_deed_by" fE) (ma : aG K (γ "Line") "told" "Line.told" jw ["self"]) (kF : aQ K mg "lines_told" iA) (lZ : aG K (γ "Near") "held" "Near.held" jv ["self"]) (kJ : aG K (γ "Slow") "reads" "Slow.reads" iE ["self"]) (jU : aG K (γ "Slow") "writes" "Slow.writes" gI ["self"]) (kI : aG K (γ "Slow") "whole" "Slow.whole" iD ["self"]) (il : aQ K mg "_law_no_place" eW) (m6 : aQ K mg "_law_odd" ki) (kH : aQ K mg "_law_whole" iC) (yS : aQ K mg "law" u0) (good : ∀ ns : List Int, ns.length ≤ 63 → ∃ h', vx [.ref lM.length] (lM ++ [.rol (ns.map HL.W.int)]) = .ok (.bl true) h') : yR P w K mg 9 := by
  have aN := fun base => rM (base := base) (P := P) T  lV
  have mf := fun base => rL (base := base) (P := P) T  lU
  have gc := fun base => qj (base := base) (P := P) T (mf base) (aN base) kG
  have hX := fun base => rO (base := base) (P := P) T  lX
  have cg := fun base => rK (base := base) (P := P) T  lT
  have dg := fun base => rR (base := base) (P := P) T (cg base) jL
  have jX := fun base => pP (base := base) (P := P) T (cg base) jL
  have cX := fun base => oS (base := base) (P := P) T  i7
  have d9 := fun base => oQ (base := base) (P := P) T (dg base) (jX base) (cX base) iZ
  have cH := fun base => rJ (base := base) (P := P) T (cg base) lS
  have fv := fun base => rN (base := base) (P := P) T  lW
  have ao := fun base => j4 (base := base) (P := P) T (cH base) (fv base) cb
  have au := fun base => jh (base := base) (P := P) T (cH base) (fv base) cb
  have bf := fun base => oW (base := base) (P := P) T  ja
  have br := fun base => qt (base := base) (P := P) T (bf base) kM
  have bx := fun base => kn (base := base) (P := P) T (cH base) dF
  have ir := fun base => nX (base := base) (P := P) T (bx base) iq
  have bZ := fun base => mZ (base := base) (P := P) T (ir base) f9
  have mr := fun base => rW (base := base) (P := P) T  md
  have mh := fun base => rP (base := base) (P := P) T (bx base) lY
  have bU := fun base => qu (base := base) (P := P) T (bf base) (br base) (bZ base) (mr base) (mh base) kN
  have cn := fun base => s9 (base := base) (P := P) T (ao base) (au base) (bU base) kL
  have kQ := fun base => qp (base := base) (P := P) T (ao base) (au base) (bU base) kL
  have gF := fun base => sZ (base := base) (P := P) T (ao base) (au base) (bU base) kK
  have kP := fun base => qm (base := base) (P := P) T (ao base) (au base) (bU base) kK
  have bY := fun base => rT (base := base) (P := P) T (ao base) (au base) (br base) (bf base) jM
  have jY := fun base => pQ (base := base) (P := P) T (ao base) (au base) (br base) (bf base) jM
  have eh := fun base => oV (base := base) (P := P) T  i9
  have bX := fun base => rQ (base := base) (P := P) T (ao base) (au base) (br base) (eh base) jK
  have jW := fun base => pO (base := base) (P := P) T (ao base) (au base) (br base) (eh base) jK
  have jZ := fun base => pS (base := base) (P := P) T (bZ base) jV
  have jc := fun base => sY (base := base) (P := P) T (cn base) (gF base) (bY base) (bX base) (jZ base) m7
  have jd := fun base => oU (base := base) (P := P) T (aN base) i8
  have eg := fun base => oR (base := base) (P := P) T (aN base) (jd base) i6
  have mj := fun base => rV (base := base) (P := P) T  ma
  have kO := fun base => qi (base := base) (P := P) T (mj base) kF
  have fw := fun base => rS (base := base) (P := P) T (kO base) lZ
  have eK := fun base => qs (base := base) (P := P) T  kJ
  have dz := fun base => pR (base := base) (P := P) T  jU
  have eJ := fun base => qr (base := base) (P := P) T  kI
  have dw := fun base => nW (base := base) (P := P) T (cn base) (kQ base) (gF base) (kP base) (bY base) (jY base) (bX base) (jW base) (cX base) il
  have jb := fun base => sX (base := base) (P := P) T  m6
  have gd := fun base => qk (base := base) (P := P) T  kH
  exact B8 T C aN gc hX d9 dg jc eg fw eK dz eJ dw jb gd bX cn bY yS good
end
end K47
namespace K47
open HL
open PySem (Str)
local macro_rules | `(tactic| simp! only [$ls,*]) => `(tactic| simp only [kS, lb, jJ, fnOf, aH, aI, aU, eL, aT, aR, et, gq, cB, gk, dB, aa, aj, af, dC, aE, mF, bA, aw, aC, cV, dT, cP, gh, lC, bQ, ig, fg, qa, bW, R.bind, OR.fin, bu, eN, eP, cj, ck, bp, oz, gX, dM, dP, List.map_cons, List.map_nil, List.length_cons, List.length_nil, List.cons_append, List.nil_append, List.replicate, List.getElem?_cons_zero, List.getElem?_cons_succ, List.set_cons_zero, List.set_cons_succ, Nat.reduceAdd, Nat.reduceSub, Nat.zero_add, if_true, if_false, Bool.not_true, Bool.not_false, Bool.false_eq_true, reduceIte, reduceCtorEq, decide_true, decide_false, Bool.and_true, Bool.and_self, $ls,*])
def bG (h : Sh) (L : List (Nat × SO)) : Prop := (L.map Prod.fst).Nodup ∧ ∀ x ∈ L, h[x.1]? = some x.2
section
variable {h : Sh} {L L' : List (Nat × SO)} {i : Nat} {o o' : SO}
theorem bG.perm (H : bG h L) (p : L.Perm L') : bG h L' := ⟨(p.map _).nodup_iff.mp H.1, fun x hx => H.2 x (p.symm.subset hx)⟩
theorem bG.get (H : bG h L) (m : (i, o) ∈ L) : h[i]? = some o := H.2 _ m
theorem bG.lt (H : bG h L) (m : (i, o) ∈ L) : i < h.length := by
  have := H.get m
  exact (List.getElem?_eq_some_iff.mp this).1
theorem bG.set (H : bG h ((i, o) :: L)) : bG (h.set i o') ((i, o') :: L) := by
  have lt := H.lt (List.mem_cons_self ..)
  refine ⟨H.1, fun x hx => ?_⟩
  rcases List.mem_cons.mp hx with rfl | hx
  · simp only [List.getElem?_set, lt, if_true]
  · have : i ≠ x.1 := by
      intro e
      have n := (List.nodup_cons.mp H.1).1
      exact n (List.mem_map.mpr ⟨x, hx, e.symm⟩)
    simp only [List.getElem?_set, this, if_false]
    exact H.2 x (List.mem_cons_of_mem _ hx)
theorem bG.app (H : bG h L) (l : Sh) : bG (h ++ l) L := ⟨H.1, fun x hx => by
  have := H.2 x hx
  rw [List.getElem?_append_left (List.getElem?_eq_some_iff.mp this).1]
  exact this⟩
theorem bG.new (H : bG h L) (o : SO) : bG (h ++ [o]) ((h.length, o) :: L) := by
  refine ⟨List.nodup_cons.mpr ⟨?_, H.1⟩, fun x hx => ?_⟩
  · intro m
    obtain ⟨x, hx, e⟩ := List.mem_map.mp m
    have := (List.getElem?_eq_some_iff.mp (H.2 x hx)).1
    omega
  · rcases List.mem_cons.mp hx with rfl | hx
    · simp only [List.getElem?_append_right (Nat.le_refl _), Nat.sub_self, List.getElem?_cons_zero]
    · exact (H.app [o]).2 x hx
theorem bG.tail (H : bG h ((i, o) :: L)) : bG h L := ⟨(List.nodup_cons.mp H.1).2, fun x hx => H.2 x (List.mem_cons_of_mem _ hx)⟩
theorem bG.left (H : bG h (L ++ L')) : bG h L := ⟨by have := H.1; rw [List.map_append] at this; exact (List.nodup_append.mp this).1, fun x hx => H.2 x (List.mem_append_left _ hx)⟩
theorem bG.ne {j : Nat} {p : SO} (H : bG h ((i, o) :: L)) (m : (j, p) ∈ L) : i ≠ j := by
  intro e
  exact (List.nodup_cons.mp H.1).1 (List.mem_map.mpr ⟨_, m, e.symm⟩)
end
theorem aX {h : Sh} {i : Nat} {c f : Str} {fs : List (Str × W)} {cs : List Str} {v : W} (e : h[i]? = some (.ins c fs)) (hc : cs.contains c = true) (hf : fs.lookup f = some v) : eF cs f (.ref i) h = some v := by
  simp only [eF, e, hc, if_true, hf]
theorem aJ {h : Sh} {i : Nat} {c m : Str} {fs : List (Str × W)} {tb : List (Str × Fn)} (e : h[i]? = some (.ins c fs)) (hf : fs.lookup m = none) : bH tb m (.ref i) h = tb.lookup c := by
  simp only [bH, e, hf, if_true]
theorem eB {h : Sh} {i : Nat} {c f : Str} {fs : List (Str × W)} {cs : List Str} {v : W} (e : h[i]? = some (.ins c fs)) (hc : cs.contains c = true) (hf : fs.length < 1000) : mI cs f (.ref i) v h = .ok .non (h.set i (.ins c (pM f v fs))) := by
  simp only [mI, e, hc, hf, true_and, if_true]
structure Ln where
  p : Nat
  q : Nat
  n : Int
  ws : List Int
  ch : Bool
def Ln.objs (l : Ln) : List (Nat × SO) := [(l.p, .ins "Line" [("number", .int l.n), ("words", .ref l.q), ("changed", .bl l.ch)]), (l.q, .lst (l.ws.map .int))]
structure Rm where
  p : Nat
  ls : List Ln
def Rm.objs (r : Rm) : List (Nat × SO) := (r.p, .lst (r.ls.map fun l => .ref l.p)) :: r.ls.flatMap Ln.objs
structure Co where
  n : Nat
  s : Nat
  c : Nat
  r : Nat
  k : Nat
  cells : List Int
  told : Int
  put : Int
def Co.objs (m : Co) : List (Nat × SO) := [(m.n, .ins "Near" [("slow", .ref m.s), ("sets", .int m.k), ("rooms", .ref m.r)]), (m.s, .ins "Slow" [("cells", .ref m.c), ("lines_told", .int m.told), ("lines_put", .int m.put)]), (m.c, .lst (m.cells.map .int))]
section
variable {h : Sh} {F : List (Nat × SO)} {m : Co}
theorem Co.near (H : bG h (m.objs ++ F)) : h[m.n]? = some (.ins "Near" [("slow", .ref m.s), ("sets", .int m.k), ("rooms", .ref m.r)]) := H.get (by simp only [Co.objs]; exact List.mem_cons_self ..)
theorem Co.slow (H : bG h (m.objs ++ F)) : h[m.s]? = some (.ins "Slow" [("cells", .ref m.c), ("lines_told", .int m.told), ("lines_put", .int m.put)]) := H.get (by simp only [Co.objs]; exact List.mem_cons_of_mem _ (List.mem_cons_self ..))
theorem Co.cellsAt (H : bG h (m.objs ++ F)) : h[m.c]? = some (.lst (m.cells.map .int)) := H.get (by simp only [Co.objs]; exact List.mem_cons_of_mem _ (List.mem_cons_of_mem _ (List.mem_cons_self ..)))
theorem j5 (a : Int) (h : Sh) : cf [.int a] h = .ok (.bl true) h := rfl
theorem qB (a lo hi : Int) (h : Sh) (h1 : lo ≤ a) (h2 : a ≤ hi) : cE [.int a, .int lo, .int hi] h = .ok (.bl true) h := by
  have e := j5 a h
  simp! only [hU, e, h1, h2]
theorem uY (H : bG h (m.objs ++ F)) : dS [.ref m.s] h = .ok (.int m.cells.length) h := by
  have e1 : eF ["Slow"] "cells" (.ref m.s) h = some (.ref m.c) := aX (Co.slow H) (by decide) rfl
  simp! only [jE, e1, gi, cy, bE, Co.cellsAt H, Option.or, List.length_map]
theorem nA (H : bG h (m.objs ++ F)) {a : Int} (h1 : 0 ≤ a) (h2 : a < m.cells.length) : ah [.ref m.n, .int a] h = .ok .non h := by
  have e1 : eF ["Near"] "slow" (.ref m.n) h = some (.ref m.s) := aX (Co.near H) (by decide) rfl
  have e2 : bH o6 "size" (.ref m.s) h = some dS := aJ (Co.slow H) rfl
  have e3 := uY H
  have e4 := qB a 0 ((m.cells.length : Int) - 1) h h1 (by omega)
  simp! only [bq, e1, e2, e3, e4]
theorem vn (H : bG h (m.objs ++ F)) {a : Int} (h1 : 0 ≤ a) (h2 : 4 * a + 4 ≤ m.cells.length) : aY [.ref m.s, .int a] h = .ok .non h := by
  have e1 : eF ["Slow"] "cells" (.ref m.s) h = some (.ref m.c) := aX (Co.slow H) (by decide) rfl
  have e4 := qB a 0 ((m.cells.length : Int) / 4 - 1) h h1 (by omega)
  simp! only [cv, e1, gi, cy, bE, Co.cellsAt H, Option.or, List.length_map, e4, show (decide ((0 : Int) < 4) && decide ((4 : Int) < 1073741824)) = true from rfl]
end
end K47
namespace K47
open HL
open PySem (Str)
local macro_rules | `(tactic| simp! only [$ls,*]) => `(tactic| simp only [kS, lb, jJ, fnOf, aH, aI, aU, eL, aT, aR, et, gq, cB, gk, dB, aa, aj, af, dC, aE, mF, bA, aw, aC, cV, dT, cP, gh, lC, bQ, ig, fg, qa, bW, R.bind, OR.fin, bu, eN, eP, cj, ck, bp, oz, gX, dM, dP, List.map_cons, List.map_nil, List.length_cons, List.length_nil, List.cons_append, List.nil_append, List.replicate, List.getElem?_cons_zero, List.getElem?_cons_succ, List.set_cons_zero, List.set_cons_succ, Nat.reduceAdd, Nat.reduceSub, Nat.zero_add, if_true, if_false, Bool.not_true, Bool.not_false, Bool.false_eq_true, reduceIte, reduceCtorEq, decide_true, decide_false, Bool.and_true, Bool.and_self, $ls,*])
section
variable {h : Sh} {F : List (Nat × SO)} {m : Co}
theorem bG.upd {A B : List (Nat × SO)} {i : Nat} {o o' : SO} (H : bG h (A ++ (i, o) :: B)) : bG (h.set i o') (A ++ (i, o') :: B) :=
  ((H.perm (List.perm_middle)).set (o' := o')).perm List.perm_middle.symm
theorem sj {xs : List W} {i : Int} {v : W} (h0 : 0 ≤ i) (e : xs[i.toNat]? = some v) : qb xs i = some v := by
  have lt := (List.getElem?_eq_some_iff.mp e).1
  have : i < (xs.length : Int) := by omega
  simp only [qb, wQ, h0, this, if_true, Option.bind_some, e]
theorem rq {ps : List Nat} {p : Nat} (H : bG h (m.objs ++ F)) (hr : (m.r, SO.lst (ps.map .ref)) ∈ F) (hk : 0 < m.k) (k : Int) (hp : ps[(k % m.k).toNat]? = some p) : bc [.ref m.n, .int k] h = .ok (.ref p) h := by
  have e1 : eF ["Near"] "rooms" (.ref m.n) h = some (.ref m.r) := aX (Co.near H) (by decide) rfl
  have e2 : eF ["Near"] "sets" (.ref m.n) h = some (.int m.k) := aX (Co.near H) (by decide) rfl
  have e3 : h[m.r]? = some (.lst (ps.map .ref)) := H.get (List.mem_append_right _ hr)
  have hk' : (0 : Int) < m.k := by omega
  have e4 : qb (ps.map W.ref) (k % m.k) = some (.ref p) := sj (Int.emod_nonneg _ (by omega)) (by rw [List.getElem?_map, hp]; rfl)
  simp! only [fX, e1, e2, hk', gW, cy, bE, e3, Option.or, e4]
theorem ux (t : It) (ls : List Ln) (k : Int) (n : Nat) (H : ∀ l ∈ ls, h[l.p]? = some (.ins "Line" [("number", .int l.n), ("words", .ref l.q), ("changed", .bl l.ch)])) (ht : t.stays h) : ∀ y, 
    (∀ l, ls.find? (fun l => decide (l.n = k)) = some l → lh t (bD 2) (et (dT (aE jf (bA ["Line"] "number" (af 2)) (af 1))) (aU (af 2)) gq) (ls.map fun l => .ref l.p) [some (.ref n), some (.int k), y] h = .rt (.ref l.p) h) ∧
    (ls.find? (fun l => decide (l.n = k)) = none → ∃ y', lh t (bD 2) (et (dT (aE jf (bA ["Line"] "number" (af 2)) (af 1))) (aU (af 2)) gq) (ls.map fun l => .ref l.p) [some (.ref n), some (.int k), y] h = .nx [some (.ref n), some (.int k), y'] h) := by
  induction ls with
  | nil => exact fun y => ⟨fun l e => (by cases e), fun _ => ⟨y, rfl⟩⟩
  | cons l ls ih =>
    intro y
    have ih' := ih (fun x hx => H x (List.mem_cons_of_mem _ hx)) (some (.ref l.p))
    have e1 : eF ["Line"] "number" (.ref l.p) h = some (.int l.n) := aX (H l (List.mem_cons_self ..)) (by decide) rfl
    by_cases e : l.n = k
    · have f1 : (l :: ls).find? (fun l => decide (l.n = k)) = some l := by rw [List.find?_cons, decide_eq_true e]
      refine ⟨fun l' e' => ?_, fun e' => ?_⟩
      · rw [f1] at e'; cases e'
        simp! only [lh, bD, e1, jf, nJ, e]
      · rw [f1] at e'; cases e'
    · have f1 : (l :: ls).find? (fun l => decide (l.n = k)) = ls.find? (fun l => decide (l.n = k)) := by rw [List.find?_cons, decide_eq_false e]
      rw [f1]
      have st : ∀ z, lh t (bD 2) (et (dT (aE jf (bA ["Line"] "number" (af 2)) (af 1))) (aU (af 2)) gq) ((l :: ls).map fun l => .ref l.p) [some (.ref n), some (.int k), z] h = lh t (bD 2) (et (dT (aE jf (bA ["Line"] "number" (af 2)) (af 1))) (aU (af 2)) gq) (ls.map fun l => .ref l.p) [some (.ref n), some (.int k), some (.ref l.p)] h := by
        intro z
        rw [List.map_cons, lh]
        simp! only [bD, e1, jf, nJ, e, ht]
      rw [st y]
      exact ih'
def mM : Option Ln → W
  | some l => .ref l.p
  | none => .non
theorem tG {ps : List Nat} {rm : Rm} (H : bG h (m.objs ++ F)) (hr : (m.r, SO.lst (ps.map .ref)) ∈ F) (hk : 0 < m.k) (k : Int) (hp : ps[(k % m.k).toNat]? = some rm.p) (hm : ∀ x ∈ rm.objs, x ∈ F) : bB [.ref m.n, .int k] h = .ok (mM (rm.ls.find? (fun l => decide (l.n = k)))) h := by
  have e1 : bH dN "room_of" (.ref m.n) h = some bc := aJ (Co.near H) rfl
  have e2 := rq H hr hk k hp
  have e3 : bE h (.ref rm.p) = some (rm.ls.map fun l => .ref l.p) := by
    have : h[rm.p]? = some (.lst (rm.ls.map fun l => .ref l.p)) := H.get (List.mem_append_right _ (hm _ (List.mem_cons_self ..)))
    simp only [bE, this]
  have e4 := ux (.lst rm.p (rm.ls.map fun (l : Ln) => W.ref l.p)) rm.ls k m.n (h := h) (fun l hl => H.get (List.mem_append_right _ (hm _ (List.mem_cons_of_mem _ (List.mem_flatMap.mpr ⟨l, hl, List.mem_cons_self ..⟩))))) e3 none
  cases f : rm.ls.find? (fun l => decide (l.n = k)) with
  | some l =>
    have e5 := e4.1 l f
    simp! only [fY, lg, lJ, e1, e2, e3, It.items, e5, mM]
  | none =>
    obtain ⟨y, e5⟩ := e4.2 f
    simp! only [fY, lg, lJ, e1, e2, e3, It.items, e5, mM]
def jy (cells : List Int) (i : Nat) : List Int → List Int
  | [] => cells
  | w :: ws => jy (cells.set i w) (i + 1) ws
theorem qG (ws : List Int) : ∀ (cells : List Int) (i : Nat), (jy cells i ws).length = cells.length := by
  induction ws with
  | nil => intros; rfl
  | cons w ws ih => intro cells i; rw [jy, ih, List.length_set]
def vI : DS := gk (bA ["Slow"] "cells" (af 0)) (aE bu (aE cj (dC (.int 4)) (af 1)) (af 3)) (af 4)
theorem xJ (q : Nat) (all : List Int) (k : Nat) (ws : List Int) : ∀ (j : Nat) (h : Sh) (m : Co) (y3 y4 : Option W), bG h (m.objs ++ F) → (q, SO.lst (all.map .int)) ∈ F → 4 * k + j + ws.length ≤ m.cells.length → 
    ∃ h' y3' y4', uy q (all.map .int) [3, 4] vI j (ws.map .int) [some (.ref m.s), some (.int k), some (.ref q), y3, y4] h = .nx [some (.ref m.s), some (.int k), some (.ref q), y3', y4'] h' ∧ bG h' ({ m with cells := jy m.cells (4 * k + j) ws }.objs ++ F) := by
  induction ws with
  | nil => intro j h m y3 y4 H _ _; exact ⟨h, y3, y4, rfl, H⟩
  | cons w ws ih =>
    intro j h0 m y3 y4 H0 hq hl
    rw [List.length_cons] at hl
    have H := H0.app [.tup [.int (j : Int), .int w]]
    have gt : qw [3, 4] (.ref h0.length) [some (.ref m.s), some (.int k), some (.ref q), y3, y4] (h0 ++ [.tup [.int (j : Int), .int w]]) = some [some (.ref m.s), some (.int k), some (.ref q), some (.int (j : Int)), some (.int w)] := by
      have : (h0 ++ [SO.tup [.int (j : Int), .int w]])[h0.length]? = some (.tup [.int (j : Int), .int w]) := by rw [List.getElem?_append_right (Nat.le_refl _), Nat.sub_self]; rfl
      simp only [qw, iy, this, List.length_cons, List.length_nil, if_true, pz, List.set_cons_succ, List.set_cons_zero]
    rw [List.map_cons, uy, gt]
    generalize h0 ++ [SO.tup [.int (j : Int), .int w]] = h at H
    have e1 : eF ["Slow"] "cells" (.ref m.s) h = some (.ref m.c) := aX (Co.slow H) (by decide) rfl
    have e2 : fL 4 (k : Int) = true := rfl
    have e3 : wQ (m.cells.map W.int).length (4 * (k : Int) + (j : Int)) = some (4 * k + j) := by
      have a : (0 : Int) ≤ 4 * (k : Int) + (j : Int) := by omega
      have b : 4 * (k : Int) + (j : Int) < ((m.cells.map W.int).length : Int) := by rw [List.length_map]; omega
      have c : (4 * (k : Int) + (j : Int)).toNat = 4 * k + j := by omega
      simp only [wQ, a, b, if_true, c]
    have H2 : bG (h.set m.c (.lst ((m.cells.map W.int).set (4 * k + j) (.int w)))) ({ m with cells := m.cells.set (4 * k + j) w }.objs ++ F) := by
      have := bG.upd (A := [(m.n, SO.ins "Near" [("slow", .ref m.s), ("sets", .int m.k), ("rooms", .ref m.r)]), (m.s, SO.ins "Slow" [("cells", .ref m.c), ("lines_told", .int m.told), ("lines_put", .int m.put)])]) (o' := .lst ((m.cells.set (4 * k + j) w).map .int)) H
      rw [← List.map_set]
      exact this
    have e4 : (h.set m.c (.lst ((m.cells.map W.int).set (4 * k + j) (.int w))))[q]? = some (.lst (all.map .int)) := H2.get (List.mem_append_right _ hq)
    obtain ⟨h', y3', y4', e5, H3⟩ := ih (j + 1) _ { m with cells := m.cells.set (4 * k + j) w } (some (.int j)) (some (.int w)) H2 hq (by rw [List.length_set]; omega)
    refine ⟨h', y3', y4', ?_, H3⟩
    have b1 : vI [some (.ref m.s), some (.int k), some (.ref q), some (.int (j : Int)), some (.int w)] h = .nx [some (.ref m.s), some (.int k), some (.ref q), some (.int (j : Int)), some (.int w)] (h.set m.c (.lst ((m.cells.map W.int).set (4 * k + j) (.int w)))) := by
      unfold vI
      simp! only [e1, e2, Co.cellsAt H, e3]
    simp only [b1, e4, if_true]
    exact e5
theorem sS (H : bG h (m.objs ++ F)) {q : Nat} {ws : List Int} {k : Nat} (hq : (q, SO.lst (ws.map .int)) ∈ F) (hw : ws.length = 4) (hk : 4 * k + 4 ≤ m.cells.length) : ∃ h', dq [.ref m.s, .int k, .ref q] h = .ok .non h' ∧ bG h' ({ m with cells := jy m.cells (4 * k) ws, put := m.put + 1 }.objs ++ F) := by
  have e1 : bH dG "refuse_no_line" (.ref m.s) h = some aY := aJ (Co.slow H) rfl
  have e2 := vn H (a := k) (by omega) (by omega)
  have e3 : eF ["Slow"] "lines_put" (.ref m.s) h = some (.int m.put) := aX (Co.slow H) (by decide) rfl
  have e4 := eB (f := "lines_put") (cs := ["Slow"]) (v := .int (m.put + 1)) (Co.slow H) (by decide) (by simp only [List.length_cons, List.length_nil]; omega)
  have H2 : bG (h.set m.s (.ins "Slow" (pM "lines_put" (.int (m.put + 1)) [("cells", .ref m.c), ("lines_told", .int m.told), ("lines_put", .int m.put)]))) ({ m with put := m.put + 1 }.objs ++ F) :=
    bG.upd (A := [(m.n, SO.ins "Near" [("slow", .ref m.s), ("sets", .int m.k), ("rooms", .ref m.r)])]) (o' := .ins "Slow" [("cells", .ref m.c), ("lines_told", .int m.told), ("lines_put", .int (m.put + 1))]) H
  have e5 : (h.set m.s (.ins "Slow" (pM "lines_put" (.int (m.put + 1)) [("cells", .ref m.c), ("lines_told", .int m.told), ("lines_put", .int m.put)])))[q]? = some (.lst (ws.map .int)) := H2.get (List.mem_append_right _ hq)
  obtain ⟨h', y3, y4, e6, H3⟩ := xJ q ws k ws 0 _ { m with put := m.put + 1 } none none H2 hq (by show 4 * k + 0 + ws.length ≤ m.cells.length; omega)
  refine ⟨h', ?_, H3⟩
  simp! only [fc, e1, e2, e3, e4, sN, e5]
  dsimp only at e6
  unfold vI at e6
  rw [e6]
def wb (m : Co) (l : Ln) : Co := if l.ch = true then { m with cells := jy m.cells (4 * l.n.toNat) l.ws, put := m.put + 1 } else m
theorem mK {l : Ln} (H : bG h (m.objs ++ (l.objs ++ F))) (hw : l.ws.length = 4) (h0 : 0 ≤ l.n) (hk : 4 * l.n + 4 ≤ m.cells.length) : ∃ h', bt [.ref m.n, .ref l.p] h = .ok .non h' ∧ bG h' ((wb m l).objs ++ ({ l with ch := false }.objs ++ F)) := by
  have hl : h[l.p]? = some (.ins "Line" [("number", .int l.n), ("words", .ref l.q), ("changed", .bl l.ch)]) := H.get (List.mem_append_right _ (List.mem_cons_self ..))
  have e1 : eF ["Line"] "changed" (.ref l.p) h = some (.bl l.ch) := aX hl (by decide) rfl
  cases hc : l.ch with
  | false =>
    rw [hc] at e1
    refine ⟨h, by simp! only [cF, e1], ?_⟩
    have : wb m l = m := by unfold wb; rw [hc]; rfl
    rw [this]
    have e : { l with ch := false } = l := by cases l; cases hc; rfl
    rw [e]; exact H
  | true =>
    rw [hc] at e1
    have e2 : eF ["Near"] "slow" (.ref m.n) h = some (.ref m.s) := aX (Co.near H) (by decide) rfl
    have e3 : bH ot "put_four" (.ref m.s) h = some dq := aJ (Co.slow H) rfl
    have e4 : eF ["Line"] "number" (.ref l.p) h = some (.int l.n) := aX hl (by decide) rfl
    have e5 : eF ["Line"] "words" (.ref l.p) h = some (.ref l.q) := aX hl (by decide) rfl
    obtain ⟨h', e6, H2⟩ := sS H (q := l.q) (ws := l.ws) (k := l.n.toNat) (List.mem_append_left _ (List.mem_cons_of_mem _ (List.mem_cons_self ..))) hw (by omega)
    have en : ((l.n.toNat : Nat) : Int) = l.n := by omega
    rw [en] at e6
    have hl2 : h'[l.p]? = some (.ins "Line" [("number", .int l.n), ("words", .ref l.q), ("changed", .bl l.ch)]) := H2.get (List.mem_append_right _ (List.mem_cons_self ..))
    have e7 := eB (f := "changed") (cs := ["Line"]) (v := .bl false) hl2 (by decide) (by simp only [List.length_cons, List.length_nil]; omega)
    refine ⟨h'.set l.p (.ins "Line" [("number", .int l.n), ("words", .ref l.q), ("changed", .bl false)]), by simp! only [cF, e1, e2, e3, e4, e5, e6, e7]; rfl, ?_⟩
    have ew : wb m l = { m with cells := jy m.cells (4 * l.n.toNat) l.ws, put := m.put + 1 } := by unfold wb; rw [hc]; rfl
    rw [ew]
    exact bG.upd (A := ({ m with cells := jy m.cells (4 * l.n.toNat) l.ws, put := m.put + 1 } : Co).objs) (o' := .ins "Line" [("number", .int l.n), ("words", .ref l.q), ("changed", .bl false)]) H2
end
end K47
namespace K47
open HL
open PySem (Str)
local macro_rules | `(tactic| simp! only [$ls,*]) => `(tactic| simp only [kS, lb, jJ, fnOf, aH, aI, aU, eL, aT, aR, et, gq, cB, gk, dB, aa, aj, af, dC, aE, mF, bA, aw, aC, cV, dT, cP, gh, lC, bQ, ig, fg, qa, bW, R.bind, OR.fin, bu, eN, eP, cj, ck, bp, oz, gX, dM, dP, List.map_cons, List.map_nil, List.length_cons, List.length_nil, List.cons_append, List.nil_append, List.replicate, List.getElem?_cons_zero, List.getElem?_cons_succ, List.set_cons_zero, List.set_cons_succ, Nat.reduceAdd, Nat.reduceSub, Nat.zero_add, if_true, if_false, Bool.not_true, Bool.not_false, Bool.false_eq_true, reduceIte, reduceCtorEq, decide_true, decide_false, Bool.and_true, Bool.and_self, $ls,*])
section
variable {h : Sh} {F : List (Nat × SO)} {m : Co}
def dm (cells : List Int) (k : Nat) : List Int := (cells.drop (4 * k)).take 4
theorem tF {cells : List Int} {k : Nat} (hk : 4 * k + 4 ≤ cells.length) : (dm cells k).length = 4 := by
  simp only [dm, List.length_take, List.length_drop]; omega
theorem Aa (H : bG h (m.objs ++ F)) {k : Nat} (hk : 4 * k + 4 ≤ m.cells.length) : ∃ h' t, g8 [.ref m.s, .int k] h = .ok (.ref t) h' ∧ bG h' ((t, SO.tup ((dm m.cells k).map .int)) :: ({ m with told := m.told + 1 }.objs ++ F)) := by
  have e1 : bH dG "refuse_no_line" (.ref m.s) h = some aY := aJ (Co.slow H) rfl
  have e2 := vn H (a := k) (by omega) (by omega)
  have e3 : eF ["Slow"] "lines_told" (.ref m.s) h = some (.int m.told) := aX (Co.slow H) (by decide) rfl
  have e4 := eB (f := "lines_told") (cs := ["Slow"]) (v := .int (m.told + 1)) (Co.slow H) (by decide) (by simp only [List.length_cons, List.length_nil]; omega)
  have H2 : bG (h.set m.s (.ins "Slow" [("cells", .ref m.c), ("lines_told", .int (m.told + 1)), ("lines_put", .int m.put)])) ({ m with told := m.told + 1 }.objs ++ F) :=
    bG.upd (A := [(m.n, SO.ins "Near" [("slow", .ref m.s), ("sets", .int m.k), ("rooms", .ref m.r)])]) (o' := .ins "Slow" [("cells", .ref m.c), ("lines_told", .int (m.told + 1)), ("lines_put", .int m.put)]) H
  have e4 : mI ["Slow"] "lines_told" (.ref m.s) (.int (m.told + 1)) h = .ok .non (h.set m.s (.ins "Slow" [("cells", .ref m.c), ("lines_told", .int (m.told + 1)), ("lines_put", .int m.put)])) := e4
  generalize hh : h.set m.s (.ins "Slow" [("cells", .ref m.c), ("lines_told", .int (m.told + 1)), ("lines_put", .int m.put)]) = h1 at H2 e4
  have e5 : eF ["Slow"] "cells" (.ref m.s) h1 = some (.ref m.c) := aX (Co.slow (m := { m with told := m.told + 1 }) H2) (by decide) rfl
  have e6 : bE h1 (.ref m.c) = some (m.cells.map .int) := by
    have := Co.cellsAt (m := { m with told := m.told + 1 }) H2
    simp only [bE, this]
  have e7 : fL 4 (k : Int) = true := rfl
  have e8 : uD (m.cells.map .int) (some (4 * (k : Int))) (some (4 * (k : Int) + 4)) = (dm m.cells k).map W.int := by
    have a : ¬ (4 * (k : Int) < 0) := by omega
    have b : ¬ (4 * (k : Int) + 4 < 0) := by omega
    have c : min (4 * (k : Int)).toNat m.cells.length = 4 * k := by omega
    have d : min (4 * (k : Int) + 4).toNat m.cells.length = 4 * k + 4 := by omega
    have f : 4 * k + 4 - 4 * k = 4 := by omega
    simp only [uD, sIx, a, b, if_false, List.length_map, c, d, f, dm, List.map_take, List.map_drop]
  have e9 : bE (h1 ++ [SO.lst ((dm m.cells k).map .int)]) (.ref h1.length) = some ((dm m.cells k).map .int) := by
    simp only [bE, List.getElem?_append_right (Nat.le_refl _), Nat.sub_self, List.getElem?_cons_zero]
  refine ⟨h1 ++ [SO.lst ((dm m.cells k).map .int)] ++ [SO.tup ((dm m.cells k).map .int)], (h1 ++ [SO.lst ((dm m.cells k).map .int)]).length, ?_, (H2.app _).new _⟩
  simp! only [jG, e1, e2, e3, e4, Fu, vD, Fl, e5, e6, e7, e8, gD, e9]
theorem tq {L : List (Nat × SO)} {t : Nat} {ws : List Int} (k : Int) (H : bG h ((t, SO.tup (ws.map .int)) :: L)) : ∃ h', dU [.ref h.length, .int k, .ref t, .bl false] (h ++ [.ins "Line" []]) = .ok .non h' ∧ bG h' (({ p := h.length, q := h.length + 1, n := k, ws := ws, ch := false } : Ln).objs ++ L) := by
  have H1 := H.new (.ins "Line" [])
  have g1 : (h ++ [SO.ins "Line" []])[h.length]? = some (.ins "Line" []) := H1.get (List.mem_cons_self ..)
  have e1 : mI ["Line"] "number" (.ref h.length) (.int k) (h ++ [SO.ins "Line" []]) = .ok .non ((h ++ [SO.ins "Line" []]).set h.length (.ins "Line" [("number", .int k)])) := eB g1 (by decide) (by simp only [List.length_nil]; omega)
  have H2 := H1.set (o' := .ins "Line" [("number", .int k)])
  have l2 : ((h ++ [SO.ins "Line" []]).set h.length (.ins "Line" [("number", .int k)])).length = h.length + 1 := by rw [List.length_set, List.length_append]; rfl
  generalize (h ++ [SO.ins "Line" []]).set h.length (.ins "Line" [("number", .int k)]) = h2 at e1 H2 l2
  have g2 : cy h2 (.ref t) = some (ws.map .int) := by
    have : h2[t]? = some (.tup (ws.map .int)) := H2.get (List.mem_cons_of_mem _ (List.mem_cons_self ..))
    simp only [cy, bE, iy, this, Option.or]
  have H3 := H2.new (.lst (ws.map .int))
  rw [l2] at H3
  have g3 : (h2 ++ [SO.lst (ws.map .int)])[h.length]? = some (.ins "Line" [("number", .int k)]) := H3.get (List.mem_cons_of_mem _ (List.mem_cons_self ..))
  have e3 : mI ["Line"] "words" (.ref h.length) (.ref (h.length + 1)) (h2 ++ [SO.lst (ws.map .int)]) = .ok .non ((h2 ++ [SO.lst (ws.map .int)]).set h.length (.ins "Line" [("number", .int k), ("words", .ref (h.length + 1))])) := eB g3 (by decide) (by simp only [List.length_cons, List.length_nil]; omega)
  have H4 := (H3.perm (List.Perm.swap ..)).set (o' := .ins "Line" [("number", .int k), ("words", .ref (h.length + 1))])
  generalize (h2 ++ [SO.lst (ws.map .int)]).set h.length (.ins "Line" [("number", .int k), ("words", .ref (h.length + 1))]) = h4 at e3 H4
  have g4 : h4[h.length]? = some (.ins "Line" [("number", .int k), ("words", .ref (h.length + 1))]) := H4.get (List.mem_cons_self ..)
  have e4 : mI ["Line"] "changed" (.ref h.length) (.bl false) h4 = .ok .non (h4.set h.length (.ins "Line" [("number", .int k), ("words", .ref (h.length + 1)), ("changed", .bl false)])) := eB g4 (by decide) (by simp only [List.length_cons, List.length_nil]; omega)
  refine ⟨h4.set h.length (.ins "Line" [("number", .int k), ("words", .ref (h.length + 1)), ("changed", .bl false)]), ?_, ?_⟩
  · simp! only [jI, e1, lP, g2, l2, e3, e4]
  · have H5 := H4.set (o' := .ins "Line" [("number", .int k), ("words", .ref (h.length + 1)), ("changed", .bl false)])
    refine bG.tail (i := t) (o := SO.tup (ws.map .int)) (H5.perm ?_)
    exact (List.perm_middle (l₁ := [_, _])).symm.symm
end
end K47
namespace K47
open HL
open PySem (Str)
local macro_rules | `(tactic| simp! only [$ls,*]) => `(tactic| simp only [kS, lb, jJ, fnOf, aH, aI, aU, eL, aT, aR, et, gq, cB, gk, dB, aa, aj, af, dC, aE, mF, bA, aw, aC, cV, dT, cP, gh, lC, bQ, ig, fg, qa, bW, R.bind, OR.fin, bu, eN, eP, cj, ck, bp, oz, gX, dM, dP, List.map_cons, List.map_nil, List.length_cons, List.length_nil, List.cons_append, List.nil_append, List.replicate, List.getElem?_cons_zero, List.getElem?_cons_succ, List.set_cons_zero, List.set_cons_succ, Nat.reduceAdd, Nat.reduceSub, Nat.zero_add, if_true, if_false, Bool.not_true, Bool.not_false, Bool.false_eq_true, reduceIte, reduceCtorEq, decide_true, decide_false, Bool.and_true, Bool.and_self, $ls,*])
theorem bG.sub {h : Sh} {L L' : List (Nat × SO)} (H : bG h L) (s : L'.Sublist L) : bG h L' := ⟨H.1.sublist (s.map _), fun x hx => H.2 x (s.subset hx)⟩
inductive oK (m : Co) (rm : Rm) (k : Nat) : Co → Rm → Ln → Prop
  | found (xs : List Ln) (l : Ln) (ys : List Ln) (e : rm.ls = xs ++ l :: ys) (n : l.n = k) : oK m rm k m { rm with ls := l :: (xs ++ ys) } l
  | room (l : Ln) (no : ∀ x ∈ rm.ls, x.n ≠ k) (len : rm.ls.length < 2) (n : l.n = k) (ws : l.ws = dm m.cells k) (ch : l.ch = false) : oK m rm k { m with told := m.told + 1 } { rm with ls := l :: rm.ls } l
  | full (x z l : Ln) (e : rm.ls = [x, z]) (no : ∀ x ∈ rm.ls, x.n ≠ k) (n : l.n = k) (ws : l.ws = dm (wb m z).cells k) (ch : l.ch = false) : oK m rm k { wb m z with told := (wb m z).told + 1 } { rm with ls := [l, x] } l
theorem ay {a b : DS} {s s' : Sg} {h h' : Sh} (e : a s h = .nx s' h') : aI a b s h = b s' h' := by unfold aI; rw [e]
theorem cD {p n : Nat} {b : DS} {vs : List W} {h h' : Sh} {v : W} (hp : vs.length = p) (e : b (aH n vs) h = .rt v h') : fnOf p n b vs h = .ok v h' := by simp only [fnOf, hp, if_true, e]
theorem yx {p n : Nat} {b : DS} {vs : List W} {h h' : Sh} {s' : Sg} (hp : vs.length = p) (e : b (aH n vs) h = .nx s' h') : fnOf p n b vs h = .ok .non h' := by simp only [fnOf, hp, if_true, e]
section
variable {h : Sh} {F : List (Nat × SO)} {m : Co}
theorem n0 {A B : List (Nat × SO)} {p : Nat} {ys : List W} {s : Sg} {y : W} (H : bG h (A ++ (p, SO.lst ys) :: B)) (h2 : s[2]? = some (some (.ref p))) (h3 : s[3]? = some (some y)) (hl : ys.length < hW) :
    aR (AZ jz mB (af 2) (aa (dC (.int 0)) (aa (af 3) aj))) s h = .nx s (h.set p (.lst (y :: ys))) := by
  have g : h[p]? = some (.lst ys) := H.get (List.mem_append_right _ (List.mem_cons_self ..))
  simp! only [AZ, h2, h3, jz, bE, g, Option.isSome_some, mB, hl]
theorem tI (H : bG h (m.objs ++ F)) (k : Nat) (hk : 4 * k + 4 ≤ m.cells.length) (y2 y3 : Option W) : ∃ (h' : Sh) (l : Ln), aT 3 (cV "Line" dU [] (aa (af 1) (aa (aw nh "four" (bA ["Near"] "slow" (af 0)) (aa (af 1) aj)) (aa (dC (.bl false)) aj)))) [some (.ref m.n), some (.int k), y2, y3] h = .nx [some (.ref m.n), some (.int k), y2, some (.ref l.p)] h' ∧ bG h' ({ m with told := m.told + 1 }.objs ++ (l.objs ++ F)) ∧ l.n = k ∧ l.ws = dm m.cells k ∧ l.ch = false := by
  have e1 : eF ["Near"] "slow" (.ref m.n) h = some (.ref m.s) := aX (Co.near H) (by decide) rfl
  have e2 : bH nh "four" (.ref m.s) h = some g8 := aJ (Co.slow H) rfl
  obtain ⟨h1, t, e3, H1⟩ := Aa H hk
  obtain ⟨h2, e4, H2⟩ := tq (k : Int) H1
  refine ⟨h2, { p := h1.length, q := h1.length + 1, n := k, ws := dm m.cells k, ch := false }, ?_, H2.perm ?_, rfl, rfl, rfl⟩
  · simp! only [e1, e2, e3, List.append_nil, e4]
  · rw [← List.append_assoc, ← List.append_assoc]
    exact List.Perm.append_right _ List.perm_append_comm
theorem yP {ps : List Nat} {rm : Rm} (H : bG h (m.objs ++ ((m.r, SO.lst (ps.map .ref)) :: (rm.objs ++ F)))) (hk : 0 < m.k) (k : Nat) (hp : ps[((k : Int) % m.k).toNat]? = some rm.p) (hl : 4 * k + 4 ≤ m.cells.length) (h2 : rm.ls.length ≤ 2) (hw : ∀ l ∈ rm.ls, l.ws.length = 4 ∧ 0 ≤ l.n ∧ 4 * l.n + 4 ≤ m.cells.length) :
    ∃ h' m' rm' l, bT [.ref m.n, .int k] h = .ok (.ref l.p) h' ∧ bG h' (m'.objs ++ ((m.r, SO.lst (ps.map .ref)) :: (rm'.objs ++ F))) ∧ oK m rm k m' rm' l := by
  have e1 : bH dN "room_of" (.ref m.n) h = some bc := aJ (Co.near H) rfl
  have e2 := rq H (List.mem_cons_self ..) hk k hp
  have e3 : bH gR "found" (.ref m.n) h = some bB := aJ (Co.near H) rfl
  have e4 := tG H (List.mem_cons_self ..) hk k hp (fun x hx => List.mem_cons_of_mem _ (List.mem_append_left _ hx))
  have g1 : h[rm.p]? = some (.lst (rm.ls.map fun l => .ref l.p)) := H.get (List.mem_append_right _ (List.mem_cons_of_mem _ (List.mem_cons_self ..)))
  have lim : (2 : Nat) < hW := by decide
  have s1 : aT 2 (aw dN "room_of" (af 0) (aa (af 1) aj)) (aH 4 [.ref m.n, .int k]) h = .nx [some (.ref m.n), some (.int k), some (.ref rm.p), none] h := by simp! only [e1, e2]
  cases f : rm.ls.find? (fun l => decide (l.n = (k : Int))) with
  | some l =>
    rw [f] at e4
    obtain ⟨fn, xs, ys, es, _⟩ := List.find?_eq_some_iff_append.mp f
    have fn : l.n = k := of_decide_eq_true fn
    have pm : rm.ls.Perm (l :: (xs ++ ys)) := by rw [es]; exact List.perm_middle
    have pf : (rm.ls.flatMap Ln.objs).Perm (l.objs ++ (xs ++ ys).flatMap Ln.objs) := List.Perm.flatMap_right _ pm
    have ne : W.ref l.p ∉ xs.map fun (l : Ln) => W.ref l.p := by
      intro mm
      obtain ⟨x, hx, ex⟩ := List.mem_map.mp mm
      have H' : bG h (l.objs ++ (xs ++ ys).flatMap Ln.objs) := by
        have := H.sub (L' := rm.ls.flatMap Ln.objs) (((List.sublist_append_left _ _).trans ((List.sublist_cons_self _ _).trans (List.Sublist.refl (rm.objs ++ F)))).trans ((List.sublist_cons_self _ _).trans (List.sublist_append_right _ _)))
        exact this.perm pf
      have := H'.ne (j := x.p) (List.mem_cons_of_mem _ (List.mem_flatMap.mpr ⟨x, List.mem_append_left _ hx, List.mem_cons_self ..⟩))
      injection ex with ex
      exact this ex.symm
    have er : (rm.ls.map fun (l : Ln) => W.ref l.p).erase (.ref l.p) = (xs ++ ys).map fun (l : Ln) => W.ref l.p := by
      rw [es, List.map_append, List.map_cons, List.erase_append_right _ ne, List.erase_cons_head, List.map_append]
    have ai : (rm.ls.map fun (l : Ln) => W.ref l.p).all (yk "Line" h) = true := by
      rw [List.all_eq_true]
      intro w hw
      obtain ⟨x, hx, rfl⟩ := List.mem_map.mp hw
      have : h[x.p]? = some (.ins "Line" [("number", .int x.n), ("words", .ref x.q), ("changed", .bl x.ch)]) := H.get (List.mem_append_right _ (List.mem_cons_of_mem _ (List.mem_append_left _ (List.mem_cons_of_mem _ (List.mem_flatMap.mpr ⟨x, hx, List.mem_cons_self ..⟩)))))
      simp only [yk, this, beq_self_eq_true]
    have mi : W.ref l.p ∈ rm.ls.map fun (l : Ln) => W.ref l.p := by
      rw [es]; exact List.mem_map.mpr ⟨l, List.mem_append_right _ (List.mem_cons_self ..), rfl⟩
    have H1 : bG (h.set rm.p (.lst ((xs ++ ys).map fun (l : Ln) => W.ref l.p))) ((m.objs ++ [(m.r, SO.lst (ps.map .ref))]) ++ (rm.p, SO.lst ((xs ++ ys).map fun (l : Ln) => W.ref l.p)) :: (rm.ls.flatMap Ln.objs ++ F)) := by
      have := bG.upd (h := h) (A := m.objs ++ [(m.r, SO.lst (ps.map .ref))]) (i := rm.p) (o := .lst (rm.ls.map fun (l : Ln) => W.ref l.p)) (B := rm.ls.flatMap Ln.objs ++ F) (o' := .lst ((xs ++ ys).map fun (l : Ln) => W.ref l.p)) (by rw [List.append_assoc]; exact H)
      exact this
    have H2 := H1.upd (o' := .lst ((l :: (xs ++ ys)).map fun (l : Ln) => W.ref l.p))
    have len : ((xs ++ ys).map fun (l : Ln) => W.ref l.p).length < hW := by
      have := pm.length_eq
      rw [List.length_map]
      simp only [List.length_cons] at this
      omega
    have e5 := n0 (s := [some (.ref m.n), some (.int k), some (.ref rm.p), some (.ref l.p)]) (y := .ref l.p) H1 rfl rfl len
    refine ⟨((h.set rm.p (.lst ((xs ++ ys).map fun (l : Ln) => W.ref l.p))).set rm.p (.lst ((l :: (xs ++ ys)).map fun (l : Ln) => W.ref l.p))), m, { rm with ls := l :: (xs ++ ys) }, l, cD rfl ?_, ?_, oK.found xs l ys es fn⟩
    · unfold eH
      rw [ay s1, ay (s' := [some (.ref m.n), some (.int k), some (.ref rm.p), some (.ref l.p)]) (h' := h) (by simp! only [e3, e4, mM])]
      rw [ay (s' := [some (.ref m.n), some (.int k), some (.ref rm.p), some (.ref l.p)]) (h' := h.set rm.p (.lst ((xs ++ ys).map fun (l : Ln) => W.ref l.p))) (by simp! only [gv, AZ, jz, bE, g1, Option.isSome_some, nF, ai, mi, true_and, er, and_self])]
      rw [ay e5]
      rfl
    · refine H2.perm ?_
      rw [List.append_assoc]
      refine List.Perm.append_left _ (List.Perm.cons _ ?_)
      refine List.Perm.cons _ ?_
      exact List.Perm.append_right _ pf
  | none =>
    rw [f] at e4
    have no : ∀ x ∈ rm.ls, x.n ≠ (k : Int) := by
      intro x hx e
      have := List.find?_eq_none.mp f x hx
      exact this (decide_eq_true e)
    have s2 : aT 3 (aw gR "found" (af 0) (aa (af 1) aj)) [some (.ref m.n), some (.int k), some (.ref rm.p), none] h = .nx [some (.ref m.n), some (.int k), some (.ref rm.p), some .non] h := by simp! only [e3, e4, mM]
    have sl : cy h (.ref rm.p) = some (rm.ls.map fun l => .ref l.p) := by simp only [cy, bE, g1, Option.or]
    by_cases hf : rm.ls.length = 2
    · obtain ⟨x, z, es⟩ : ∃ x z, rm.ls = [x, z] := by
        match hh : rm.ls, hf with
        | [x, z], _ => exact ⟨x, z, rfl⟩
      have ew : bH cJ "write_back" (.ref m.n) h = some bt := aJ (Co.near H) rfl
      have H1 : bG (h.set rm.p (.lst [W.ref x.p])) ((m.objs ++ [(m.r, SO.lst (ps.map .ref))]) ++ (rm.p, SO.lst [W.ref x.p]) :: (rm.ls.flatMap Ln.objs ++ F)) :=
        bG.upd (h := h) (A := m.objs ++ [(m.r, SO.lst (ps.map .ref))]) (i := rm.p) (o := .lst (rm.ls.map fun (l : Ln) => W.ref l.p)) (B := rm.ls.flatMap Ln.objs ++ F) (o' := .lst [W.ref x.p]) (by rw [List.append_assoc]; exact H)
      have H1' : bG (h.set rm.p (.lst [W.ref x.p])) (m.objs ++ (z.objs ++ ((m.r, SO.lst (ps.map .ref)) :: (rm.p, SO.lst [W.ref x.p]) :: (x.objs ++ F)))) := by
        refine H1.perm ?_
        rw [es, List.append_assoc]
        refine List.Perm.append_left _ ?_
        refine (List.perm_append_comm (l₁ := z.objs)).trans ?_ |>.symm
        refine List.Perm.cons _ (List.Perm.cons _ ?_)
        show (x.objs ++ F ++ z.objs).Perm ([x, z].flatMap Ln.objs ++ F)
        simp only [List.flatMap_cons, List.flatMap_nil, List.append_nil, List.append_assoc]
        exact List.Perm.append_left _ List.perm_append_comm
      obtain ⟨wz, nz, kz⟩ := hw z (by rw [es]; exact List.mem_cons_of_mem _ (List.mem_cons_self ..))
      obtain ⟨h1, e5, H2⟩ := mK H1' wz nz kz
      have H2' : bG h1 ((wb m z).objs ++ ((m.r, SO.lst (ps.map .ref)) :: (rm.p, SO.lst [W.ref x.p]) :: (x.objs ++ F))) := H2.sub (List.Sublist.append_left (List.sublist_append_right _ _) _)
      have wn : (wb m z).n = m.n := by unfold wb; split <;> rfl
      have wl : (wb m z).cells.length = m.cells.length := by unfold wb; split <;> simp only [qG]
      obtain ⟨h2', l, e6, H3, ln, lw, lc⟩ := tI H2' k (by rw [wl]; exact hl) (some (.ref rm.p)) (some .non)
      rw [wn] at e6
      have H4 : bG h2' ((({ wb m z with told := (wb m z).told + 1 } : Co).objs ++ (l.objs ++ [(m.r, SO.lst (ps.map .ref))])) ++ (rm.p, SO.lst [W.ref x.p]) :: (x.objs ++ F)) := by
        simp only [List.append_assoc]; exact H3
      have e7 := n0 (s := [some (.ref m.n), some (.int k), some (.ref rm.p), some (.ref l.p)]) (y := .ref l.p) H4 rfl rfl (by show 1 < hW; decide)
      have H5 := H4.upd (o' := .lst [W.ref l.p, W.ref x.p])
      refine ⟨h2'.set rm.p (.lst [W.ref l.p, W.ref x.p]), _, { rm with ls := [l, x] }, l, cD rfl ?_, ?_, oK.full x z l es no ln lw lc⟩
      · unfold eH
        rw [ay s1, ay s2]
        rw [ay (s' := [some (.ref m.n), some (.int k), some (.ref rm.p), some (.ref l.p)]) (h' := h2') ?_]
        · rw [ay e7]
          rfl
        · have t1 : aI (et (dT (aE jf (dB gi (aa (af 2) aj)) (dC (.int 2)))) (aR (aw cJ "write_back" (af 0) (aa (uC jz uo (af 2)) aj))) gq) (aT 3 (cV "Line" dU [] (aa (af 1) (aa (aw nh "four" (bA ["Near"] "slow" (af 0)) (aa (af 1) aj)) (aa (dC (.bl false)) aj))))) [some (.ref m.n), some (.int k), some (.ref rm.p), some .non] h = .nx [some (.ref m.n), some (.int k), some (.ref rm.p), some (.ref l.p)] h2' := by
            refine (ay (s' := [some (.ref m.n), some (.int k), some (.ref rm.p), some .non]) (h' := h1) ?_).trans e6
            rw [es] at g1 sl
            simp! only [gi, sl, jf, nJ, ew, uC, jz, bE, g1, Option.isSome_some, uo, List.dropLast, e5, Int.ofNat_eq_coe, show (((0 + 1 + 1 : Nat) : Int) = 2) from rfl]
          simp only [et, dT, aE, af, dC, List.getElem?_cons_succ, List.getElem?_cons_zero, R.bind, gv, OR.fin, dM, decide_true, Bool.not_true, Bool.false_eq_true, if_false]
          exact t1
      · refine H5.perm ?_
        simp only [List.append_assoc]
        refine List.Perm.append_left _ ?_
        show (l.objs ++ ((m.r, SO.lst (ps.map .ref)) :: (rm.p, SO.lst [W.ref l.p, W.ref x.p]) :: (x.objs ++ F))).Perm ((m.r, SO.lst (ps.map .ref)) :: (rm.p, SO.lst [W.ref l.p, W.ref x.p]) :: ([l, x].flatMap Ln.objs ++ F))
        simp only [List.flatMap_cons, List.flatMap_nil, List.append_nil, List.append_assoc]
        exact (List.perm_middle).trans (List.Perm.cons _ (List.perm_middle))
    · have hf' : rm.ls.length < 2 := by omega
      obtain ⟨h2', l, e6, H3, ln, lw, lc⟩ := tI H k hl (some (.ref rm.p)) (some .non)
      have H4 : bG h2' ((({ m with told := m.told + 1 } : Co).objs ++ (l.objs ++ [(m.r, SO.lst (ps.map .ref))])) ++ (rm.p, SO.lst (rm.ls.map fun (l : Ln) => W.ref l.p)) :: (rm.ls.flatMap Ln.objs ++ F)) := by
        simp only [List.append_assoc]; exact H3
      have e7 := n0 (s := [some (.ref m.n), some (.int k), some (.ref rm.p), some (.ref l.p)]) (y := .ref l.p) H4 rfl rfl (by rw [List.length_map]; omega)
      have H5 := H4.upd (o' := .lst ((l :: rm.ls).map fun (l : Ln) => W.ref l.p))
      refine ⟨h2'.set rm.p (.lst ((l :: rm.ls).map fun (l : Ln) => W.ref l.p)), _, { rm with ls := l :: rm.ls }, l, cD rfl ?_, ?_, oK.room l no hf' ln lw lc⟩
      · unfold eH
        rw [ay s1, ay s2]
        rw [ay (s' := [some (.ref m.n), some (.int k), some (.ref rm.p), some (.ref l.p)]) (h' := h2') ?_]
        · rw [ay e7]
          rfl
        · have hi : ¬ ((rm.ls.length : Int) = 2) := by omega
          have t1 : aI (et (dT (aE jf (dB gi (aa (af 2) aj)) (dC (.int 2)))) (aR (aw cJ "write_back" (af 0) (aa (uC jz uo (af 2)) aj))) gq) (aT 3 (cV "Line" dU [] (aa (af 1) (aa (aw nh "four" (bA ["Near"] "slow" (af 0)) (aa (af 1) aj)) (aa (dC (.bl false)) aj))))) [some (.ref m.n), some (.int k), some (.ref rm.p), some .non] h = .nx [some (.ref m.n), some (.int k), some (.ref rm.p), some (.ref l.p)] h2' := by
            refine (ay (s' := [some (.ref m.n), some (.int k), some (.ref rm.p), some .non]) (h' := h) ?_).trans e6
            simp! only [gi, sl, jf, nJ, List.length_map, hi]
          simp only [et, dT, aE, af, dC, List.getElem?_cons_succ, List.getElem?_cons_zero, R.bind, gv, OR.fin, dM, decide_true, Bool.not_true, Bool.false_eq_true, if_false]
          exact t1
      · refine H5.perm ?_
        simp only [List.append_assoc]
        refine List.Perm.append_left _ ?_
        show (l.objs ++ ((m.r, SO.lst (ps.map .ref)) :: (rm.p, SO.lst ((l :: rm.ls).map fun (l : Ln) => W.ref l.p)) :: (rm.ls.flatMap Ln.objs ++ F))).Perm ((m.r, SO.lst (ps.map .ref)) :: (rm.p, SO.lst ((l :: rm.ls).map fun (l : Ln) => W.ref l.p)) :: ((l :: rm.ls).flatMap Ln.objs ++ F))
        simp only [List.flatMap_cons, List.append_assoc]
        exact (List.perm_middle).trans (List.Perm.cons _ (List.perm_middle))
end
end K47
namespace K47
open HL
open PySem (Str)
local macro_rules | `(tactic| simp! only [$ls,*]) => `(tactic| simp only [kS, lb, jJ, fnOf, aH, aI, aU, eL, aT, aR, et, gq, cB, gk, dB, aa, aj, af, dC, aE, mF, bA, aw, aC, cV, dT, cP, gh, lC, bQ, ig, fg, qa, bW, R.bind, OR.fin, bu, eN, eP, cj, ck, bp, oz, gX, dM, dP, List.map_cons, List.map_nil, List.length_cons, List.length_nil, List.cons_append, List.nil_append, List.replicate, List.getElem?_cons_zero, List.getElem?_cons_succ, List.set_cons_zero, List.set_cons_succ, Nat.reduceAdd, Nat.reduceSub, Nat.zero_add, if_true, if_false, Bool.not_true, Bool.not_false, Bool.false_eq_true, reduceIte, reduceCtorEq, decide_true, decide_false, Bool.and_true, Bool.and_self, $ls,*])
theorem lL (ws : List Int) : ∀ (cells : List Int) (i j : Nat), i + ws.length ≤ cells.length → (jy cells i ws)[j]? = if i ≤ j ∧ j < i + ws.length then ws[j - i]? else cells[j]? := by
  induction ws with
  | nil => intro cells i j _; rw [jy, if_neg (by simp only [List.length_nil]; omega)]
  | cons w ws ih =>
    intro cells i j hl
    rw [List.length_cons] at hl
    rw [jy, ih _ _ _ (by rw [List.length_set]; omega), List.getElem?_set, List.length_cons]
    by_cases e : j = i
    · subst e
      have : j < cells.length := by omega
      rw [if_neg (by omega), if_pos rfl, if_pos this, if_pos (by omega), Nat.sub_self]; rfl
    · by_cases h1 : i + 1 ≤ j ∧ j < i + 1 + ws.length
      · rw [if_pos h1, if_pos (by omega)]
        obtain ⟨d, hd⟩ : ∃ d, j - i = d + 1 := ⟨j - i - 1, by omega⟩
        rw [hd, List.getElem?_cons_succ, show j - (i + 1) = d by omega]
      · rw [if_neg h1, if_neg (by omega), if_neg (by omega)]
theorem iT (cells : List Int) (k j : Nat) : (dm cells k)[j]? = if j < 4 then cells[4 * k + j]? else none := by
  unfold dm
  rw [List.getElem?_take, List.getElem?_drop]
theorem uw {cells ws : List Int} {e : Nat} (hw : ws.length = 4) (hl : 4 * e + 4 ≤ cells.length) (k : Nat) : dm (jy cells (4 * e) ws) k = if k = e then ws else dm cells k := by
  apply List.ext_getElem?
  intro j
  rw [iT]
  by_cases hk : k = e
  · subst hk
    rw [if_pos rfl]
    by_cases hj : j < 4
    · rw [if_pos hj, lL _ _ _ _ (by omega), if_pos (by omega), show 4 * k + j - 4 * k = j by omega]
    · rw [if_neg hj, List.getElem?_eq_none (by omega)]
  · rw [if_neg hk, iT]
    by_cases hj : j < 4
    · rw [if_pos hj, if_pos hj, lL _ _ _ _ (by omega), if_neg (by omega)]
    · rw [if_neg hj, if_neg hj]
theorem yv {cells : List Int} {a : Nat} {w : Int} (k : Nat) : dm (cells.set a w) k = if k = a / 4 then (dm cells k).set (a % 4) w else dm cells k := by
  apply List.ext_getElem?
  intro j
  rw [iT, List.getElem?_set]
  by_cases hk : k = a / 4
  · rw [if_pos hk, List.getElem?_set, iT]
    by_cases hj : j < 4
    · rw [if_pos hj]
      by_cases e : a = 4 * k + j
      · have e' : a % 4 = j := by omega
        rw [if_pos e, if_pos e']
        by_cases hl : a < cells.length
        · rw [if_pos hl]
          have : a % 4 < (dm cells k).length := by simp only [dm, List.length_take, List.length_drop]; omega
          rw [if_pos this]
        · rw [if_neg hl]
          have : ¬ a % 4 < (dm cells k).length := by simp only [dm, List.length_take, List.length_drop]; omega
          rw [if_neg this]
      · have e' : ¬ a % 4 = j := by omega
        rw [if_neg e, if_neg e', if_pos hj]
    · have e' : ¬ a % 4 = j := by omega
      rw [if_neg hj, if_neg e', if_neg hj]
  · rw [if_neg hk, iT]
    by_cases hj : j < 4
    · have : ¬ a = 4 * k + j := by omega
      rw [if_pos hj, if_pos hj, if_neg this]
    · rw [if_neg hj, if_neg hj]
structure gE (c : List Int) (kk j : Nat) (r : Rm) : Prop where
  two : r.ls.length ≤ 2
  nd : (r.ls.map Ln.n).Nodup
  len : ∀ l ∈ r.ls, l.ws.length = 4
  pos : ∀ l ∈ r.ls, 0 ≤ l.n
  lt : ∀ l ∈ r.ls, 4 * l.n + 4 ≤ c.length
  mine : ∀ l ∈ r.ls, (l.n % kk).toNat = j
  same : ∀ l ∈ r.ls, l.ch = false → l.ws = dm c l.n.toNat
structure WF (m : Co) (rs : List Rm) : Prop where
  k0 : 0 < m.k
  len : rs.length = m.k
  c4 : m.cells.length % 4 = 0
  ok : ∀ j r, rs[j]? = some r → gE m.cells m.k j r
def b7 (k : Nat) (r : Rm) : Option (List Int) := (r.ls.find? (fun l => decide (l.n = (k : Int)))).map Ln.ws
def aW (c : List Int) (rs : List Rm) (kk k : Nat) : List Int := ((rs[k % kk]?).bind (b7 k)).getD (dm c k)
theorem qM {p : Ln → Bool} {xs ys : List Ln} {l : Ln} (h : p l = false) : (xs ++ l :: ys).find? p = (xs ++ ys).find? p := by
  rw [List.find?_append, List.find?_cons, h, List.find?_append]
theorem cZ {k : Nat} {r : Rm} (h : ∀ l ∈ r.ls, l.n ≠ (k : Int)) : b7 k r = none := by
  unfold b7
  rw [List.find?_eq_none.mpr (fun x hx => by rw [decide_eq_false (h x hx)]; exact Bool.false_ne_true)]
  rfl
theorem cc {k : Nat} {r : Rm} {l : Ln} (nd : (r.ls.map Ln.n).Nodup) (hl : l ∈ r.ls) (h : l.n = (k : Int)) : b7 k r = some l.ws := by
  unfold b7
  have : r.ls.find? (fun l => decide (l.n = (k : Int))) = some l := by
    obtain ⟨xs, ys, e⟩ := List.append_of_mem hl
    rw [e] at nd ⊢
    rw [List.map_append, List.map_cons] at nd
    rw [List.find?_append, List.find?_eq_none.mpr ?_, List.find?_cons, decide_eq_true h]
    · rfl
    · intro x hx
      have := (List.nodup_append.mp nd).2.2 x.n (List.mem_map.mpr ⟨x, hx, rfl⟩) l.n (List.mem_cons_self ..)
      rw [decide_eq_false (by rw [← h]; exact this)]; exact Bool.false_ne_true
  rw [this]; rfl
structure A4 (c c' : List Int) (e : Nat) (ws : List Int) : Prop where
  len : c'.length = c.length
  here : dm c' e = ws
  else_ : ∀ k, k ≠ e → dm c' k = dm c k
theorem sF {m : Co} {l : Ln} (hw : l.ws.length = 4) (h0 : 0 ≤ l.n) (hl : 4 * l.n + 4 ≤ m.cells.length) (hs : l.ch = false → l.ws = dm m.cells l.n.toNat) : A4 m.cells (wb m l).cells l.n.toNat l.ws := by
  unfold wb
  cases hc : l.ch with
  | true =>
    rw [if_pos rfl]
    have e := uw (cells := m.cells) (e := l.n.toNat) hw (by omega)
    refine ⟨qG _ _ _, ?_, fun k hk => ?_⟩
    · show dm (jy m.cells (4 * l.n.toNat) l.ws) l.n.toNat = _
      rw [e, if_pos rfl]
    · show dm (jy m.cells (4 * l.n.toNat) l.ws) k = _
      rw [e, if_neg hk]
  | false => rw [if_neg Bool.false_ne_true]; exact ⟨rfl, (hs hc).symm, fun _ _ => rfl⟩
theorem gE.wrote {c c' : List Int} {kk j e : Nat} {ws : List Int} {r : Rm} (R : gE c kk j r) (W : A4 c c' e ws) (ne : ∀ l ∈ r.ls, l.n.toNat = e → l.ws = ws) : gE c' kk j r where
  two := R.two
  nd := R.nd
  len := R.len
  pos := R.pos
  lt := by rw [W.len]; exact R.lt
  mine := R.mine
  same l hl hc := by
    by_cases h : l.n.toNat = e
    · rw [h, W.here]; exact ne l hl h
    · rw [W.else_ _ h]; exact R.same l hl hc
theorem fC {rs : List Rm} {i j : Nat} {r : Rm} (hi : i < rs.length) : (rs.set i r)[j]? = if j = i then some r else rs[j]? := by
  rw [List.getElem?_set]
  by_cases h : i = j
  · rw [if_pos h, if_pos h.symm, if_pos hi]
  · rw [if_neg h, if_neg (fun e => h e.symm)]
theorem pY {k kk : Nat} : ((k : Int) % (kk : Int)).toNat = k % kk := by omega
end K47
namespace K47
open HL
open PySem (Str)
local macro_rules | `(tactic| simp! only [$ls,*]) => `(tactic| simp only [kS, lb, jJ, fnOf, aH, aI, aU, eL, aT, aR, et, gq, cB, gk, dB, aa, aj, af, dC, aE, mF, bA, aw, aC, cV, dT, cP, gh, lC, bQ, ig, fg, qa, bW, R.bind, OR.fin, bu, eN, eP, cj, ck, bp, oz, gX, dM, dP, List.map_cons, List.map_nil, List.length_cons, List.length_nil, List.cons_append, List.nil_append, List.replicate, List.getElem?_cons_zero, List.getElem?_cons_succ, List.set_cons_zero, List.set_cons_succ, Nat.reduceAdd, Nat.reduceSub, Nat.zero_add, if_true, if_false, Bool.not_true, Bool.not_false, Bool.false_eq_true, reduceIte, reduceCtorEq, decide_true, decide_false, Bool.and_true, Bool.and_self, $ls,*])
theorem mod_lt {m : Co} {rs : List Rm} (W : WF m rs) (k : Nat) : k % m.k < rs.length := by rw [W.len]; exact Nat.mod_lt _ W.k0
structure lQ (m : Co) (rs : List Rm) (m' : Co) (rs' : List Rm) : Prop where
  wf : WF m' rs'
  n : m'.n = m.n
  s : m'.s = m.s
  c : m'.c = m.c
  r : m'.r = m.r
  k : m'.k = m.k
  cl : m'.cells.length = m.cells.length
  ps : rs'.map Rm.p = rs.map Rm.p
theorem j6 {rs : List Rm} {i : Nat} {r r' : Rm} (h : rs[i]? = some r) (e : r'.p = r.p) : (rs.set i r').map Rm.p = rs.map Rm.p := by
  rw [List.map_set]
  apply List.ext_getElem?
  intro j
  rw [List.getElem?_set]
  by_cases hj : i = j
  · subst hj
    have lt := (List.getElem?_eq_some_iff.mp h).1
    rw [if_pos rfl, if_pos (by rw [List.length_map]; exact lt), List.getElem?_map, h, e]; rfl
  · rw [if_neg hj]
theorem gw {c : List Int} {rs : List Rm} {kk k i : Nat} {r : Rm} (hi : i < rs.length) : aW c (rs.set i r) kk k = if k % kk = i then (b7 k r).getD (dm c k) else aW c rs kk k := by
  unfold aW
  rw [fC hi]
  by_cases h : k % kk = i
  · rw [if_pos h, if_pos h]; rfl
  · rw [if_neg h, if_neg h]
theorem cQ {c : List Int} {rs : List Rm} {kk k : Nat} {r : Rm} (h : rs[k % kk]? = some r) : aW c rs kk k = (b7 k r).getD (dm c k) := by
  unfold aW; rw [h]; rfl
theorem gE.perm {c : List Int} {kk j : Nat} {r r' : Rm} (R : gE c kk j r) (p : r'.ls.Perm r.ls) : gE c kk j r' where
  two := by rw [p.length_eq]; exact R.two
  nd := (p.map _).nodup_iff.mpr R.nd
  len l hl := R.len l (p.subset hl)
  pos l hl := R.pos l (p.subset hl)
  lt l hl := R.lt l (p.subset hl)
  mine l hl := R.mine l (p.subset hl)
  same l hl := R.same l (p.subset hl)
theorem tw {k : Nat} {r r' : Rm} (nd : (r.ls.map Ln.n).Nodup) (p : r'.ls.Perm r.ls) : b7 k r' = b7 k r := by
  by_cases h : ∃ l ∈ r.ls, l.n = (k : Int)
  · obtain ⟨l, hl, e⟩ := h
    rw [cc nd hl e, cc ((p.map _).nodup_iff.mpr nd) (p.symm.subset hl) e]
  · rw [cZ (fun l hl e => h ⟨l, hl, e⟩), cZ (fun l hl e => h ⟨l, p.subset hl, e⟩)]
theorem tS {m m' : Co} {rs : List Rm} {rm rm' : Rm} {l : Ln} {k : Nat} (W : WF m rs) (hr : rs[k % m.k]? = some rm) (hk : 4 * k + 4 ≤ m.cells.length) (A : oK m rm k m' rm' l) :
    lQ m rs m' (rs.set (k % m.k) rm') ∧ (∃ dE, rm'.ls = l :: dE) ∧ rm'.p = rm.p ∧ l.n = k ∧ l.ws = aW m.cells rs m.k k ∧ ∀ k', aW m'.cells (rs.set (k % m.k) rm') m.k k' = aW m.cells rs m.k k' := by
  have R := W.ok _ _ hr
  have lt := mod_lt W k
  cases A with
  | found xs l ys e n =>
    have pm : (l :: (xs ++ ys)).Perm rm.ls := by rw [e]; exact List.perm_middle.symm
    have R' : gE m.cells m.k (k % m.k) { rm with ls := l :: (xs ++ ys) } := R.perm pm
    refine ⟨⟨⟨W.k0, by rw [List.length_set]; exact W.len, W.c4, fun j r hj => ?_⟩, rfl, rfl, rfl, rfl, rfl, rfl, j6 hr rfl⟩, ⟨_, rfl⟩, rfl, n, ?_, fun k' => ?_⟩
    · rw [fC lt] at hj
      split at hj
      · rename_i e; cases hj; rw [e]; exact R'
      · exact W.ok j r hj
    · rw [cQ hr, cc R.nd (by rw [e]; exact List.mem_append_right _ (List.mem_cons_self ..)) n]; rfl
    · rw [gw lt]
      split
      · rename_i e'
        rw [cQ (by rw [e']; exact hr), tw R.nd pm]
      · rfl
  | room l no len n ws ch =>
    have R' : gE m.cells m.k (k % m.k) { rm with ls := l :: rm.ls } := by
      refine ⟨by show rm.ls.length + 1 ≤ 2; omega, List.nodup_cons.mpr ⟨?_, R.nd⟩, ?_, ?_, ?_, ?_, ?_⟩
      · intro mm
        obtain ⟨x, hx, ex⟩ := List.mem_map.mp mm
        exact no x hx (ex.trans n)
      · intro x hx
        rcases List.mem_cons.mp hx with rfl | hx
        · rw [ws]; exact tF hk
        · exact R.len x hx
      · intro x hx
        rcases List.mem_cons.mp hx with rfl | hx
        · omega
        · exact R.pos x hx
      · intro x hx
        rcases List.mem_cons.mp hx with rfl | hx
        · omega
        · exact R.lt x hx
      · intro x hx
        rcases List.mem_cons.mp hx with rfl | hx
        · rw [n]; exact pY
        · exact R.mine x hx
      · intro x hx hc
        rcases List.mem_cons.mp hx with rfl | hx
        · rw [ws, n]; rfl
        · exact R.same x hx hc
    refine ⟨⟨⟨W.k0, by rw [List.length_set]; exact W.len, W.c4, fun j r hj => ?_⟩, rfl, rfl, rfl, rfl, rfl, rfl, j6 hr rfl⟩, ⟨_, rfl⟩, rfl, n, ?_, fun k' => ?_⟩
    · rw [fC lt] at hj
      split at hj
      · rename_i e; cases hj; rw [e]; exact R'
      · exact W.ok j r hj
    · rw [cQ hr, cZ no]; exact ws
    · rw [gw lt]
      split
      · rename_i e'
        rw [cQ (by rw [e']; exact hr)]
        by_cases hkk : k' = k
        · subst hkk
          rw [cc (r := { rm with ls := l :: rm.ls }) R'.nd (List.mem_cons_self ..) n, cZ no, ws]; rfl
        · have : b7 k' { rm with ls := l :: rm.ls } = b7 k' rm := by
            unfold b7
            rw [List.find?_cons, decide_eq_false (by rw [n]; omega)]
          rw [this]
      · rfl
  | full x z l e no n ws ch =>
    have hx : x ∈ rm.ls := by rw [e]; exact List.mem_cons_self ..
    have hz : z ∈ rm.ls := by rw [e]; exact List.mem_cons_of_mem _ (List.mem_cons_self ..)
    have xz : x.n ≠ z.n := by
      have := R.nd
      rw [e] at this
      intro h
      simp only [List.map_cons, List.map_nil, List.nodup_cons, List.mem_singleton] at this
      exact this.1 h
    have Wr := sF (m := m) (R.len z hz) (R.pos z hz) (R.lt z hz) (R.same z hz)
    have zp := R.pos z hz
    have zk : z.n.toNat ≠ k := fun h => no z hz (by omega)
    have f1 : (wb m z).n = m.n ∧ (wb m z).s = m.s ∧ (wb m z).c = m.c ∧ (wb m z).r = m.r ∧ (wb m z).k = m.k := by unfold wb; split <;> exact ⟨rfl, rfl, rfl, rfl, rfl⟩
    have R' : gE (wb m z).cells m.k (k % m.k) { rm with ls := [l, x] } := by
      have hk' : 4 * k + 4 ≤ (wb m z).cells.length := by rw [Wr.len]; exact hk
      refine ⟨by show 2 ≤ 2; omega, ?_, ?_, ?_, ?_, ?_, ?_⟩
      · simp only [List.map_cons, List.map_nil, List.nodup_cons, List.mem_singleton, List.not_mem_nil, not_false_eq_true, List.nodup_nil, and_true]
        intro h; exact no x hx (by rw [← h]; exact n)
      all_goals intro y hy; rcases List.mem_cons.mp hy with rfl | hy
      · rw [ws]; exact tF hk'
      · rw [List.mem_singleton.mp hy]; exact R.len x hx
      · omega
      · rw [List.mem_singleton.mp hy]; exact R.pos x hx
      · omega
      · rw [List.mem_singleton.mp hy, Wr.len]; exact R.lt x hx
      · rw [n]; exact pY
      · rw [List.mem_singleton.mp hy]; exact R.mine x hx
      · intro _; rw [ws, n]; rfl
      · intro hc
        rw [List.mem_singleton.mp hy] at hc ⊢
        have xp := R.pos x hx
        rw [Wr.else_ _ (fun h => xz (by omega))]
        exact R.same x hx hc
    refine ⟨⟨⟨?_, by rw [List.length_set]; exact W.len.trans f1.2.2.2.2.symm, ?_, fun j r hj => ?_⟩, f1.1, f1.2.1, f1.2.2.1, f1.2.2.2.1, f1.2.2.2.2, Wr.len, j6 hr rfl⟩, ⟨_, rfl⟩, rfl, n, ?_, fun k' => ?_⟩
    · show 0 < (wb m z).k; rw [f1.2.2.2.2]; exact W.k0
    · show (wb m z).cells.length % 4 = 0; rw [Wr.len]; exact W.c4
    · show gE (wb m z).cells (wb m z).k j r
      rw [f1.2.2.2.2]
      rw [fC lt] at hj
      split at hj
      · rename_i e; cases hj; rw [e]; exact R'
      · rename_i hj'
        have Rj := W.ok j r hj
        refine Rj.wrote Wr fun y hy ey => ?_
        exfalso
        have a := Rj.mine y hy
        have b := R.mine z hz
        have yp := Rj.pos y hy
        have : y.n = z.n := by omega
        rw [this, b] at a
        exact hj' a.symm
    · rw [cQ hr, cZ no, ws, Wr.else_ _ (Ne.symm zk)]; rfl
    · rw [gw lt]
      show (if k' % m.k = k % m.k then (b7 k' { rm with ls := [l, x] }).getD (dm (wb m z).cells k') else aW (wb m z).cells rs m.k k') = _
      have lz : ∀ k', k' ≠ z.n.toNat → aW (wb m z).cells rs m.k k' = aW m.cells rs m.k k' := by
        intro k' h; unfold aW; rw [Wr.else_ _ h]
      split
      · rename_i e'
        rw [cQ (by rw [e']; exact hr)]
        by_cases hkk : k' = k
        · subst hkk
          rw [cc (r := { rm with ls := [l, x] }) R'.nd (List.mem_cons_self ..) n, cZ no, ws, Wr.else_ _ (Ne.symm zk)]; rfl
        · by_cases hkz : k' = z.n.toNat
          · have zk' : z.n = (k' : Int) := by omega
            rw [cc R.nd hz zk', cZ ?_, hkz, Wr.here]; rfl
            intro y hy
            rcases List.mem_cons.mp hy with rfl | hy
            · rw [n]; omega
            · rw [List.mem_singleton.mp hy, ← zk']; exact xz
          · have : b7 k' { rm with ls := [l, x] } = b7 k' rm := by
              unfold b7
              rw [e, List.find?_cons, decide_eq_false (by rw [n]; omega), List.find?_cons, List.find?_cons, List.find?_cons, decide_eq_false (show ¬ z.n = (k' : Int) by omega)]
            rw [this, Wr.else_ _ hkz]
      · rename_i hne
        refine lz k' fun h => ?_
        have b := R.mine z hz
        have : z.n = (k' : Int) := by omega
        rw [this, pY] at b
        exact hne b
end K47
namespace K47
open HL
open PySem (Str)
local macro_rules | `(tactic| simp! only [$ls,*]) => `(tactic| simp only [kS, lb, jJ, fnOf, aH, aI, aU, eL, aT, aR, et, gq, cB, gk, dB, aa, aj, af, dC, aE, mF, bA, aw, aC, cV, dT, cP, gh, lC, bQ, ig, fg, qa, bW, R.bind, OR.fin, bu, eN, eP, cj, ck, bp, oz, gX, dM, dP, List.map_cons, List.map_nil, List.length_cons, List.length_nil, List.cons_append, List.nil_append, List.replicate, List.getElem?_cons_zero, List.getElem?_cons_succ, List.set_cons_zero, List.set_cons_succ, Nat.reduceAdd, Nat.reduceSub, Nat.zero_add, if_true, if_false, Bool.not_true, Bool.not_false, Bool.false_eq_true, reduceIte, reduceCtorEq, decide_true, decide_false, Bool.and_true, Bool.and_self, $ls,*])
def St (m : Co) (rs : List Rm) (F : List (Nat × SO)) (h : Sh) : Prop := bG h (m.objs ++ ((m.r, SO.lst ((rs.map Rm.p).map .ref)) :: (rs.flatMap Rm.objs ++ F)))
theorem uZ {α : Type} (A : List α) (x y : α) (B : List α) : (A ++ x :: B).set A.length y = A ++ y :: B := by
  induction A with
  | nil => rfl
  | cons a A ih => simp only [List.cons_append, List.length_cons, List.set_cons_succ, ih]
theorem sL {α : Type} {xs : List α} {i : Nat} {x : α} (h : xs[i]? = some x) : ∃ A B, xs = A ++ x :: B ∧ A.length = i := by
  obtain ⟨lt, e⟩ := List.getElem?_eq_some_iff.mp h
  refine ⟨xs.take i, xs.drop (i + 1), ?_, by rw [List.length_take]; omega⟩
  subst e
  rw [List.getElem_cons_drop]; exact (List.take_append_drop i xs).symm
section
variable {h : Sh} {F : List (Nat × SO)} {m : Co} {rs : List Rm}
theorem St.open {i : Nat} {rm : Rm} (S : St m rs F h) (hr : rs[i]? = some rm) : ∃ G, bG h (m.objs ++ ((m.r, SO.lst ((rs.map Rm.p).map .ref)) :: (rm.objs ++ (G ++ F)))) ∧ ∀ m' rm' h', m'.r = m.r → rm'.p = rm.p → bG h' (m'.objs ++ ((m.r, SO.lst ((rs.map Rm.p).map .ref)) :: (rm'.objs ++ (G ++ F)))) → St m' (rs.set i rm') F h' := by
  obtain ⟨A, B, e, hA⟩ := sL hr
  refine ⟨(A ++ B).flatMap Rm.objs, ?_, fun m' rm' h' e1 e2 H => ?_⟩
  · refine bG.perm S ?_
    refine List.Perm.append_left _ (List.Perm.cons _ ?_)
    rw [← List.append_assoc]
    refine List.Perm.append_right _ ?_
    rw [e]
    exact List.Perm.flatMap_right _ (List.perm_middle (a := rm))
  · unfold St
    rw [j6 hr e2, e1]
    refine H.perm ?_
    refine List.Perm.append_left _ (List.Perm.cons _ ?_)
    rw [← List.append_assoc]
    refine List.Perm.append_right _ ?_
    rw [e, ← hA, uZ]
    exact (List.Perm.flatMap_right _ (List.perm_middle (a := rm'))).symm
theorem St.room (W : WF m rs) (k : Nat) : ∃ rm, rs[k % m.k]? = some rm ∧ (rs.map Rm.p)[((k : Int) % m.k).toNat]? = some rm.p := by
  have lt := mod_lt W k
  refine ⟨rs[k % m.k], List.getElem?_eq_getElem lt, ?_⟩
  rw [pY, List.getElem?_map, List.getElem?_eq_getElem lt]; rfl
theorem St.asked (S : St m rs F h) (W : WF m rs) (k : Nat) (hk : 4 * k + 4 ≤ m.cells.length) : ∃ h' m' rm' l dE, bT [.ref m.n, .int k] h = .ok (.ref l.p) h' ∧ St m' (rs.set (k % m.k) rm') F h' ∧ lQ m rs m' (rs.set (k % m.k) rm') ∧ rm'.ls = l :: dE ∧ l.n = k ∧ l.ws = aW m.cells rs m.k k ∧ ∀ k', aW m'.cells (rs.set (k % m.k) rm') m.k k' = aW m.cells rs m.k k' := by
  obtain ⟨rm, hr, hp⟩ := St.room W k
  have R := W.ok _ _ hr
  obtain ⟨G, H, back⟩ := S.open hr
  obtain ⟨h', m', rm', l, e, H', A⟩ := yP H W.k0 k hp hk R.two (fun l hl => ⟨R.len l hl, R.pos l hl, R.lt l hl⟩)
  obtain ⟨K, ⟨dE, er⟩, ep, ln, lw, li⟩ := tS W hr hk A
  exact ⟨h', m', rm', l, dE, e, back m' rm' h' K.r ep H', K, er, ln, lw, li⟩
theorem St.core (S : St m rs F h) : bG h (m.objs ++ ((m.r, SO.lst ((rs.map Rm.p).map .ref)) :: (rs.flatMap Rm.objs ++ F))) := S
theorem St.line {i : Nat} {rm : Rm} {l : Ln} (S : St m rs F h) (hr : rs[i]? = some rm) (hl : l ∈ rm.ls) : h[l.p]? = some (.ins "Line" [("number", .int l.n), ("words", .ref l.q), ("changed", .bl l.ch)]) ∧ h[l.q]? = some (.lst (l.ws.map .int)) := by
  obtain ⟨G, H, _⟩ := S.open hr
  exact ⟨H.get (List.mem_append_right _ (List.mem_cons_of_mem _ (List.mem_append_left _ (List.mem_cons_of_mem _ (List.mem_flatMap.mpr ⟨l, hl, List.mem_cons_self ..⟩))))), H.get (List.mem_append_right _ (List.mem_cons_of_mem _ (List.mem_append_left _ (List.mem_cons_of_mem _ (List.mem_flatMap.mpr ⟨l, hl, List.mem_cons_of_mem _ (List.mem_cons_self ..)⟩)))))⟩
theorem AS : decide ((0 : Int) < 4) = true := rfl
theorem tm : decide ((4 : Int) < 1073741824) = true := rfl
theorem yC (a : Nat) : (a : Int) / 4 = ((a / 4 : Nat) : Int) := by omega
theorem Ck (a : Nat) : (a : Int) % 4 = ((a % 4 : Nat) : Int) := by omega
theorem yO {ws : List Int} {i : Nat} {v : Int} (e : ws[i]? = some v) : qb (ws.map W.int) (i : Int) = some (.int v) := sj (by omega) (by rw [Int.toNat_natCast, List.getElem?_map, e]; rfl)
theorem xr {d : DS} {s s' : Sg} {h h1 : Sh} (e : d s h = .nx s' h1) : lb d s h = .nx s' h1 := by unfold lb; rw [e]
theorem nU {d : DS} {s : Sg} {h h1 : Sh} {v : HL.W} (e : d s h = .rt v h1) : lb d s h = .rt v h1 := by unfold lb; rw [e]
theorem yt (S : St m rs F h) (W : WF m rs) {a : Nat} (ha : a < m.cells.length) : ∃ h' m' rs' v, b4 [.ref m.n, .int a] h = .ok (.int v) h' ∧ St m' rs' F h' ∧ lQ m rs m' rs' ∧ (aW m.cells rs m.k (a / 4))[a % 4]? = some v ∧ ∀ k', aW m'.cells rs' m.k k' = aW m.cells rs m.k k' := by
  have hk : 4 * (a / 4) + 4 ≤ m.cells.length := by have := W.c4; omega
  obtain ⟨h', m', rm', l, dE, e, S', K, er, ln, lw, li⟩ := S.asked W (a / 4) hk
  have hr : (rs.set (a / 4 % m.k) rm')[a / 4 % m.k]? = some rm' := by rw [fC (mod_lt W _), if_pos rfl]
  have hl : l ∈ rm'.ls := by rw [er]; exact List.mem_cons_self ..
  have l4 := (K.wf.ok _ _ hr).len l hl
  have lt : a % 4 < l.ws.length := by omega
  obtain ⟨g1, g2⟩ := S'.line hr hl
  have e0 : bH [("Near", ah)] "refuse_no_place" (.ref m.n) h = some ah := aJ (Co.near S.core) rfl
  have e1 := nA S.core (a := a) (by omega) (by omega)
  have e2 : bH ni "asked" (.ref m.n) h = some bT := aJ (Co.near S.core) rfl
  have e3 : eF ["Line"] "words" (.ref l.p) h' = some (.ref l.q) := aX g1 (by decide) rfl
  have e4 := yO (List.getElem?_eq_getElem lt)
  refine ⟨h', m', _, l.ws[a % 4], cD rfl ?_, S', K, by rw [← lw]; exact List.getElem?_eq_getElem lt, li⟩
  unfold gC
  rw [ay (s' := [some (.ref m.n), some (.int a)]) (h' := h) (by simp! only [e0, e1])]
  refine nU ?_
  simp! only [e2, AS, tm, yC, e, e3, Ck, AS, gW, cy, bE, g2, Option.or, e4]
theorem Bv (S : St m rs F h) (W : WF m rs) {a : Nat} (w : Int) (ha : a < m.cells.length) : ∃ h' m' rs', cL [.ref m.n, .int a, .int w] h = .ok .non h' ∧ St m' rs' F h' ∧ lQ m rs m' rs' ∧ ∀ k', aW m'.cells rs' m.k k' = if k' = a / 4 then (aW m.cells rs m.k k').set (a % 4) w else aW m.cells rs m.k k' := by
  have hk : 4 * (a / 4) + 4 ≤ m.cells.length := by have := W.c4; omega
  obtain ⟨h1, m', rm', l, dE, e, S', K, er, ln, lw, li⟩ := S.asked W (a / 4) hk
  have hlt := mod_lt W (a / 4)
  have hr : (rs.set (a / 4 % m.k) rm')[a / 4 % m.k]? = some rm' := by rw [fC hlt, if_pos rfl]
  have hl : l ∈ rm'.ls := by rw [er]; exact List.mem_cons_self ..
  have R := K.wf.ok _ _ hr
  have l4 := R.len l hl
  have lt : a % 4 < l.ws.length := by omega
  obtain ⟨g1, g2⟩ := S'.line hr hl
  have e0 : bH [("Near", ah)] "refuse_no_place" (.ref m.n) h = some ah := aJ (Co.near S.core) rfl
  have e1 := nA S.core (a := a) (by omega) (by omega)
  have e2 : bH ni "asked" (.ref m.n) h = some bT := aJ (Co.near S.core) rfl
  have e3 : eF ["Line"] "words" (.ref l.p) h1 = some (.ref l.q) := aX g1 (by decide) rfl
  have e4 : wQ (l.ws.map HL.W.int).length ((a % 4 : Nat) : Int) = some (a % 4) := by
    have x : (0 : Int) ≤ ((a % 4 : Nat) : Int) := by omega
    have y : ((a % 4 : Nat) : Int) < ((l.ws.map HL.W.int).length : Int) := by rw [List.length_map]; omega
    simp only [wQ, x, y, if_true, Int.toNat_natCast]
  let l' : Ln := { l with ws := l.ws.set (a % 4) w, ch := true }
  obtain ⟨G, H, back⟩ := S'.open hr
  have H0 : bG h1 ((m'.objs ++ [(m'.r, SO.lst (((rs.set (a / 4 % m.k) rm').map Rm.p).map .ref)), (rm'.p, SO.lst (rm'.ls.map fun l => .ref l.p)), (l.p, .ins "Line" [("number", .int l.n), ("words", .ref l.q), ("changed", .bl l.ch)])]) ++ (l.q, SO.lst (l.ws.map .int)) :: (dE.flatMap Ln.objs ++ (G ++ F))) := by
    have : rm'.objs = (rm'.p, SO.lst (rm'.ls.map fun l => .ref l.p)) :: (l.objs ++ dE.flatMap Ln.objs) := by unfold Rm.objs; rw [er]; rfl
    rw [this] at H
    rw [List.append_assoc]
    exact H
  have H1 := H0.upd (o' := .lst ((l.ws.set (a % 4) w).map .int))
  generalize hh : h1.set l.q (.lst ((l.ws.set (a % 4) w).map .int)) = h2 at H1
  have H1' : bG h2 ((m'.objs ++ [(m'.r, SO.lst (((rs.set (a / 4 % m.k) rm').map Rm.p).map .ref)), (rm'.p, SO.lst (rm'.ls.map fun l => .ref l.p))]) ++ (l.p, .ins "Line" [("number", .int l.n), ("words", .ref l.q), ("changed", .bl l.ch)]) :: (l.q, SO.lst ((l.ws.set (a % 4) w).map .int)) :: (dE.flatMap Ln.objs ++ (G ++ F))) := by
    simp only [List.append_assoc] at H1 ⊢
    exact H1
  have g3 : h2[l.p]? = some (.ins "Line" [("number", .int l.n), ("words", .ref l.q), ("changed", .bl l.ch)]) := H1'.get (List.mem_append_right _ (List.mem_cons_self ..))
  have e5 : mI ["Line"] "changed" (.ref l.p) (.bl true) h2 = .ok .non (h2.set l.p (.ins "Line" [("number", .int l.n), ("words", .ref l.q), ("changed", .bl true)])) := eB g3 (by decide) (by simp only [List.length_cons, List.length_nil]; omega)
  have H2 := H1'.upd (o' := .ins "Line" [("number", .int l.n), ("words", .ref l.q), ("changed", .bl true)])
  have S2 := back m' { rm' with ls := l' :: dE } (h' := h2.set l.p (.ins "Line" [("number", .int l.n), ("words", .ref l.q), ("changed", .bl true)])) rfl rfl (by
    rw [List.append_assoc] at H2
    rw [er] at H2
    exact H2)
  rw [List.set_set] at S2
  have R2 : gE m'.cells m'.k (a / 4 % m.k) { rm' with ls := l' :: dE } := by
    have nd := R.nd
    rw [er] at nd
    refine ⟨by have := R.two; rw [er] at this; exact this, nd, ?_, ?_, ?_, ?_, ?_⟩
    all_goals intro y hy; rcases List.mem_cons.mp hy with rfl | hy
    · show (l.ws.set (a % 4) w).length = 4; rw [List.length_set]; exact l4
    · exact R.len y (by rw [er]; exact List.mem_cons_of_mem _ hy)
    · exact R.pos l hl
    · exact R.pos y (by rw [er]; exact List.mem_cons_of_mem _ hy)
    · exact R.lt l hl
    · exact R.lt y (by rw [er]; exact List.mem_cons_of_mem _ hy)
    · exact R.mine l hl
    · exact R.mine y (by rw [er]; exact List.mem_cons_of_mem _ hy)
    · intro hc; cases hc
    · exact R.same y (by rw [er]; exact List.mem_cons_of_mem _ hy)
  refine ⟨_, m', rs.set (a / 4 % m.k) { rm' with ls := l' :: dE }, yx (s' := [some (.ref m.n), some (.int a), some (.int w), some (.ref l.p)]) rfl ?_, S2, ⟨⟨K.wf.k0, ?_, K.wf.c4, fun j r hj => ?_⟩, K.n, K.s, K.c, K.r, K.k, K.cl, ?_⟩, fun k' => ?_⟩
  · unfold gB
    rw [ay (s' := [some (.ref m.n), some (.int a), some (.int w), none]) (h' := h) (by simp! only [e0, e1])]
    refine xr ?_
    rw [ay (s' := [some (.ref m.n), some (.int a), some (.int w), some (.ref l.p)]) (h' := h1) (by simp! only [e2, AS, tm, yC, e])]
    rw [ay (s' := [some (.ref m.n), some (.int a), some (.int w), some (.ref l.p)]) (h' := h2) (by simp! only [e3, Ck, AS, g2, e4]; rw [← List.map_set]; exact congrArg _ hh)]
    simp! only [e5]
  · rw [List.length_set]; have := K.wf.len; rw [List.length_set] at this; exact this
  · rw [fC hlt] at hj
    split at hj
    · rename_i e; cases hj; rw [e]; exact R2
    · rename_i hne
      exact K.wf.ok j r (by rw [fC hlt, if_neg hne]; exact hj)
  · have := K.ps
    obtain ⟨rm, hr0, _⟩ := St.room W (a / 4)
    rw [List.map_set] at this ⊢
    exact this
  · rw [gw hlt]
    by_cases h1 : k' = a / 4
    · rw [if_pos h1, if_pos (by rw [h1]), h1, cc (r := { rm' with ls := l' :: dE }) R2.nd (List.mem_cons_self ..) ln, ← lw]; rfl
    · rw [if_neg h1, ← li k', gw hlt]
      split
      · have : b7 k' { rm' with ls := l' :: dE } = b7 k' rm' := by
          unfold b7
          rw [er, List.find?_cons, List.find?_cons, decide_eq_false (show ¬ l'.n = (k' : Int) by show ¬ l.n = _; rw [ln]; omega)]
        rw [this]
      · unfold aW
        have := li k'
        rfl
end
end K47
namespace K47
open HL
open PySem (Str)
local macro_rules | `(tactic| simp! only [$ls,*]) => `(tactic| simp only [kS, lb, jJ, fnOf, aH, aI, aU, eL, aT, aR, et, gq, cB, gk, dB, aa, aj, af, dC, aE, mF, bA, aw, aC, cV, dT, cP, gh, lC, bQ, ig, fg, qa, bW, R.bind, OR.fin, bu, eN, eP, cj, ck, bp, oz, gX, dM, dP, List.map_cons, List.map_nil, List.length_cons, List.length_nil, List.cons_append, List.nil_append, List.replicate, List.getElem?_cons_zero, List.getElem?_cons_succ, List.set_cons_zero, List.set_cons_succ, Nat.reduceAdd, Nat.reduceSub, Nat.zero_add, if_true, if_false, Bool.not_true, Bool.not_false, Bool.false_eq_true, reduceIte, reduceCtorEq, decide_true, decide_false, Bool.and_true, Bool.and_self, $ls,*])
section
variable {h : Sh} {F : List (Nat × SO)} {m : Co} {rs : List Rm}
theorem St.found (S : St m rs F h) (W : WF m rs) (k : Nat) : ∃ rm, rs[k % m.k]? = some rm ∧ bB [.ref m.n, .int k] h = .ok (mM (rm.ls.find? (fun l => decide (l.n = (k : Int))))) h ∧ bc [.ref m.n, .int k] h = .ok (.ref rm.p) h ∧ h[rm.p]? = some (.lst (rm.ls.map fun l => .ref l.p)) := by
  obtain ⟨rm, hr, hp⟩ := St.room W k
  obtain ⟨G, H, _⟩ := S.open hr
  exact ⟨rm, hr, tG H (List.mem_cons_self ..) W.k0 k hp (fun x hx => List.mem_cons_of_mem _ (List.mem_append_left _ hx)), rq H (List.mem_cons_self ..) W.k0 k hp, H.get (List.mem_append_right _ (List.mem_cons_of_mem _ (List.mem_cons_self ..)))⟩
theorem vF (S : St m rs F h) (W : WF m rs) {a : Nat} (ha : a < m.cells.length) : ∃ v, bP [.ref m.n, .int a] h = .ok (.int v) h ∧ (v = 1 ∨ v = 5 ∨ v = 9) := by
  obtain ⟨rm, hr, e1, e2, g1⟩ := S.found W (a / 4)
  have R := W.ok _ _ hr
  have e0 : bH [("Near", ah)] "refuse_no_place" (.ref m.n) h = some ah := aJ (Co.near S.core) rfl
  have e3 := nA S.core (a := a) (by omega) (by omega)
  have e4 : bH gR "found" (.ref m.n) h = some bB := aJ (Co.near S.core) rfl
  have e5 : bH dN "room_of" (.ref m.n) h = some bc := aJ (Co.near S.core) rfl
  have s1 : aR (aw [("Near", ah)] "refuse_no_place" (af 0) (jJ (aa (af 1) aj))) (aH 4 [.ref m.n, .int a]) h = .nx [some (.ref m.n), some (.int a), none, none] h := by simp! only [e0, e3]
  have s2 : aT 2 (aE ck (af 1) (dC (.int 4))) [some (.ref m.n), some (.int a), none, none] h = .nx [some (.ref m.n), some (.int a), some (.int (a / 4 : Nat)), none] h := by simp! only [AS, tm, yC]
  cases f : rm.ls.find? (fun l => decide (l.n = ((a / 4 : Nat) : Int))) with
  | some l =>
    rw [f] at e1
    refine ⟨1, cD rfl ?_, .inl rfl⟩
    unfold df
    rw [ay s1]
    refine nU ?_
    rw [ay s2]
    simp! only [e4, e1, mM, gv]
  | none =>
    rw [f] at e1
    have s3 : et (dT (aE gv (aw gR "found" (af 0) (aa (af 2) aj)) (dC .non))) (aU (dC (.int 1))) gq [some (.ref m.n), some (.int a), some (.int (a / 4 : Nat)), none] h = .nx [some (.ref m.n), some (.int a), some (.int (a / 4 : Nat)), none] h := by simp! only [e4, e1, mM, gv]
    have s4 : aT 3 (aw dN "room_of" (af 0) (aa (af 2) aj)) [some (.ref m.n), some (.int a), some (.int (a / 4 : Nat)), none] h = .nx [some (.ref m.n), some (.int a), some (.int (a / 4 : Nat)), some (.ref rm.p)] h := by simp! only [e5, e2]
    have sl : cy h (.ref rm.p) = some (rm.ls.map fun l => .ref l.p) := by simp only [cy, bE, g1, Option.or]
    by_cases hf : rm.ls.length = 2
    · obtain ⟨x, z, es⟩ : ∃ x z, rm.ls = [x, z] := by
        match hh : rm.ls, hf with
        | [x, z], _ => exact ⟨x, z, rfl⟩
      obtain ⟨g2, _⟩ := S.line hr (l := z) (by rw [es]; exact List.mem_cons_of_mem _ (List.mem_cons_self ..))
      have e6 : eF ["Line"] "changed" (.ref z.p) h = some (.bl z.ch) := aX g2 (by decide) rfl
      rw [es] at sl
      have e7 : qb [HL.W.ref x.p, .ref z.p] (-1) = some (.ref z.p) := rfl
      refine ⟨if z.ch = true then 9 else 5, cD rfl ?_, by split <;> simp⟩
      unfold df
      rw [ay s1]
      refine nU ?_
      rw [ay s2, ay s3, ay s4]
      cases hz : z.ch with
      | true =>
        rw [hz] at e6
        simp! only [gi, sl, jf, nJ, gW, e7, e6, show (((0 + 1 + 1 : Nat) : Int) = 2) from rfl]
      | false =>
        rw [hz] at e6
        simp! only [gi, sl, jf, nJ, gW, e7, e6, show (((0 + 1 + 1 : Nat) : Int) = 2) from rfl]
    · have hi : ¬ ((rm.ls.length : Int) = 2) := by omega
      refine ⟨5, cD rfl ?_, .inr (.inl rfl)⟩
      unfold df
      rw [ay s1]
      refine nU ?_
      rw [ay s2, ay s3, ay s4]
      simp! only [gi, sl, jf, nJ, List.length_map, hi]
theorem vm (S : St m rs F h) (W : WF m rs) {a : Nat} (ha : a < m.cells.length) : ∃ v, bN [.ref m.n, .int a] h = .ok (.int v) h ∧ (aW m.cells rs m.k (a / 4))[a % 4]? = some v := by
  obtain ⟨rm, hr, e1, e2, g1⟩ := S.found W (a / 4)
  have R := W.ok _ _ hr
  have e0 : bH [("Near", ah)] "refuse_no_place" (.ref m.n) h = some ah := aJ (Co.near S.core) rfl
  have e3 := nA S.core (a := a) (by omega) (by omega)
  have e4 : bH gR "found" (.ref m.n) h = some bB := aJ (Co.near S.core) rfl
  have s1 : aR (aw [("Near", ah)] "refuse_no_place" (af 0) (jJ (aa (af 1) aj))) (aH 3 [.ref m.n, .int a]) h = .nx [some (.ref m.n), some (.int a), none] h := by simp! only [e0, e3]
  cases f : rm.ls.find? (fun l => decide (l.n = ((a / 4 : Nat) : Int))) with
  | some l =>
    rw [f] at e1
    have hl : l ∈ rm.ls := List.mem_of_find?_eq_some f
    have l4 := R.len l hl
    have lt : a % 4 < l.ws.length := by omega
    obtain ⟨g2, g3⟩ := S.line hr hl
    have e6 : eF ["Line"] "words" (.ref l.p) h = some (.ref l.q) := aX g2 (by decide) rfl
    have e7 := yO (List.getElem?_eq_getElem lt)
    refine ⟨l.ws[a % 4], cD rfl ?_, ?_⟩
    · unfold dY
      rw [ay s1]
      refine nU ?_
      rw [ay (s' := [some (.ref m.n), some (.int a), some (.ref l.p)]) (h' := h) (by simp! only [e4, AS, tm, yC, e1, mM])]
      simp! only [AR, e6, Ck, AS, gW, cy, bE, g3, Option.or, e7]
    · rw [cQ hr]
      unfold b7
      rw [f]
      exact List.getElem?_eq_getElem lt
  | none =>
    rw [f] at e1
    have e5 : eF ["Near"] "slow" (.ref m.n) h = some (.ref m.s) := aX (Co.near S.core) (by decide) rfl
    have e6 : bH pq "word_at" (.ref m.s) h = some cT := aJ (Co.slow S.core) rfl
    have e7 : eF ["Slow"] "cells" (.ref m.s) h = some (.ref m.c) := aX (Co.slow S.core) (by decide) rfl
    have e8 := yO (List.getElem?_eq_getElem ha)
    have e9 : cT [.ref m.s, .int a] h = .ok (.int m.cells[a]) h := by
      simp! only [fW, e7, gW, cy, bE, Co.cellsAt S.core, Option.or, e8]
    refine ⟨m.cells[a], cD rfl ?_, ?_⟩
    · unfold dY
      rw [ay s1]
      refine nU ?_
      rw [ay (s' := [some (.ref m.n), some (.int a), some .non]) (h' := h) (by simp! only [e4, AS, tm, yC, e1, mM])]
      simp! only [AR, e5, e6, e9]
    · rw [cQ hr]
      unfold b7
      rw [f]
      show (dm m.cells (a / 4))[a % 4]? = _
      rw [iT, if_pos (by omega), show 4 * (a / 4) + a % 4 = a by omega]
      exact List.getElem?_eq_getElem ha
theorem za {i : Nat} {rm : Rm} {xs ys : List Ln} {l : Ln} (S : St m rs F h) (W : WF m rs) (hr : rs[i]? = some rm) (es : rm.ls = xs ++ l :: ys) : ∃ h', bt [.ref m.n, .ref l.p] h = .ok .non h' ∧ St (wb m l) (rs.set i { rm with ls := xs ++ { l with ch := false } :: ys }) F h' ∧ lQ m rs (wb m l) (rs.set i { rm with ls := xs ++ { l with ch := false } :: ys }) ∧ ∀ k', aW (wb m l).cells (rs.set i { rm with ls := xs ++ { l with ch := false } :: ys }) m.k k' = aW m.cells rs m.k k' := by
  have R := W.ok _ _ hr
  have hl : l ∈ rm.ls := by rw [es]; exact List.mem_append_right _ (List.mem_cons_self ..)
  have lt : i < rs.length := (List.getElem?_eq_some_iff.mp hr).1
  obtain ⟨G, H, back⟩ := S.open hr
  have pf : (rm.ls.flatMap Ln.objs).Perm (l.objs ++ (xs ++ ys).flatMap Ln.objs) := by rw [es]; exact List.Perm.flatMap_right _ (List.perm_middle (a := l))
  have H1 : bG h (m.objs ++ (l.objs ++ ((m.r, SO.lst ((rs.map Rm.p).map .ref)) :: (rm.p, SO.lst (rm.ls.map fun l => .ref l.p)) :: ((xs ++ ys).flatMap Ln.objs ++ (G ++ F))))) := by
    refine H.perm (List.Perm.append_left _ ?_)
    refine ((List.Perm.cons _ (List.Perm.cons _ (List.Perm.append_right _ pf))).trans ?_)
    rw [List.append_assoc]
    exact ((List.perm_middle).trans (List.Perm.cons _ (List.perm_middle))).symm
  obtain ⟨h', e, H2⟩ := mK H1 (R.len l hl) (R.pos l hl) (R.lt l hl)
  have Wr := sF (m := m) (R.len l hl) (R.pos l hl) (R.lt l hl) (R.same l hl)
  have f1 : (wb m l).n = m.n ∧ (wb m l).s = m.s ∧ (wb m l).c = m.c ∧ (wb m l).r = m.r ∧ (wb m l).k = m.k := by unfold wb; split <;> exact ⟨rfl, rfl, rfl, rfl, rfl⟩
  have lp := R.pos l hl
  have nd : ((xs ++ { l with ch := false } :: ys).map Ln.n).Nodup := by
    have := R.nd
    rw [es, List.map_append, List.map_cons] at this
    rw [List.map_append, List.map_cons]; exact this
  have alone : ∀ y ∈ xs ++ ys, y.n ≠ l.n := by
    intro y hy ey
    have := (List.perm_middle (a := l) (l₁ := xs) (l₂ := ys)).map Ln.n |>.nodup_iff.mp (by rw [← es]; exact R.nd)
    rw [List.map_cons] at this
    exact (List.nodup_cons.mp this).1 (List.mem_map.mpr ⟨y, hy, ey⟩)
  have cases3 : ∀ {y : Ln}, y ∈ xs ++ { l with ch := false } :: ys → y = { l with ch := false } ∨ (y ∈ rm.ls ∧ y.n ≠ l.n) := by
    intro y hy
    rcases List.mem_append.mp hy with h | h
    · exact .inr ⟨by rw [es]; exact List.mem_append_left _ h, alone y (List.mem_append_left _ h)⟩
    · rcases List.mem_cons.mp h with h | h
      · exact .inl h
      · exact .inr ⟨by rw [es]; exact List.mem_append_right _ (List.mem_cons_of_mem _ h), alone y (List.mem_append_right _ h)⟩
  have R' : gE (wb m l).cells m.k i { rm with ls := xs ++ { l with ch := false } :: ys } := by
    refine ⟨?_, nd, ?_, ?_, ?_, ?_, ?_⟩
    · have := R.two
      rw [es, List.length_append, List.length_cons] at this
      show (xs ++ { l with ch := false } :: ys).length ≤ 2
      rw [List.length_append, List.length_cons]; exact this
    all_goals intro y hy; rcases cases3 hy with rfl | ⟨hy, hn⟩
    · exact R.len l hl
    · exact R.len y hy
    · exact R.pos l hl
    · exact R.pos y hy
    · rw [Wr.len]; exact R.lt l hl
    · rw [Wr.len]; exact R.lt y hy
    · exact R.mine l hl
    · exact R.mine y hy
    · intro _; exact Wr.here.symm
    · intro hc
      have := R.pos y hy
      rw [Wr.else_ _ (fun h => hn (by omega))]
      exact R.same y hy hc
  refine ⟨h', e, ?_, ⟨⟨?_, by rw [List.length_set]; exact W.len.trans f1.2.2.2.2.symm, ?_, fun j r hj => ?_⟩, f1.1, f1.2.1, f1.2.2.1, f1.2.2.2.1, f1.2.2.2.2, Wr.len, j6 hr rfl⟩, fun k' => ?_⟩
  · refine back _ _ _ f1.2.2.2.1 rfl (H2.perm (List.Perm.append_left _ ?_))
    have pf' : ((xs ++ { l with ch := false } :: ys).flatMap Ln.objs).Perm (({ l with ch := false } : Ln).objs ++ (xs ++ ys).flatMap Ln.objs) := List.Perm.flatMap_right _ (List.perm_middle (a := ({ l with ch := false } : Ln)))
    have er : (rm.ls.map fun (l : Ln) => HL.W.ref l.p) = ((xs ++ { l with ch := false } :: ys).map fun (l : Ln) => HL.W.ref l.p) := by rw [es, List.map_append, List.map_append, List.map_cons, List.map_cons]
    rw [er]
    refine (List.perm_middle.trans (List.Perm.cons _ (List.perm_middle.trans (List.Perm.cons _ ?_))))
    rw [← List.append_assoc]
    exact List.Perm.append_right _ pf'.symm
  · rw [f1.2.2.2.2]; exact W.k0
  · rw [Wr.len]; exact W.c4
  · rw [f1.2.2.2.2]
    rw [fC lt] at hj
    split at hj
    · rename_i e; cases hj; rw [e]; exact R'
    · rename_i hj'
      have Rj := W.ok j r hj
      refine Rj.wrote Wr fun y hy ey => ?_
      exfalso
      have a := Rj.mine y hy
      have b := R.mine l hl
      have yp := Rj.pos y hy
      have : y.n = l.n := by omega
      rw [this, b] at a
      exact hj' a.symm
  · rw [gw lt]
    by_cases hk : k' = l.n.toNat
    · have lk : l.n = (k' : Int) := by omega
      have hi : k' % m.k = i := by
        have b := R.mine l hl
        rw [lk, pY] at b; exact b
      rw [if_pos hi, cc (l := { l with ch := false }) nd (List.mem_append_right _ (List.mem_cons_self ..)) lk, cQ (by rw [hi]; exact hr), cc R.nd hl lk]
      rfl
    · split
      · rename_i hi
        rw [cQ (by rw [hi]; exact hr), Wr.else_ _ hk]
        have : b7 k' { rm with ls := xs ++ { l with ch := false } :: ys } = b7 k' rm := by
          unfold b7
          have d : decide (l.n = (k' : Int)) = false := decide_eq_false (by omega)
          rw [es]
          show ((xs ++ { l with ch := false } :: ys).find? _).map _ = _
          rw [qM (l := { l with ch := false }) d, qM (l := l) d]
        rw [this]
      · unfold aW; rw [Wr.else_ _ hk]
end
end K47
namespace K47
open HL
open PySem (Str)
local macro_rules | `(tactic| simp! only [$ls,*]) => `(tactic| simp only [kS, lb, jJ, fnOf, aH, aI, aU, eL, aT, aR, et, gq, cB, gk, dB, aa, aj, af, dC, aE, mF, bA, aw, aC, cV, dT, cP, gh, lC, bQ, ig, fg, qa, bW, R.bind, OR.fin, bu, eN, eP, cj, ck, bp, oz, gX, dM, dP, List.map_cons, List.map_nil, List.length_cons, List.length_nil, List.cons_append, List.nil_append, List.replicate, List.getElem?_cons_zero, List.getElem?_cons_succ, List.set_cons_zero, List.set_cons_succ, Nat.reduceAdd, Nat.reduceSub, Nat.zero_add, if_true, if_false, Bool.not_true, Bool.not_false, Bool.false_eq_true, reduceIte, reduceCtorEq, decide_true, decide_false, Bool.and_true, Bool.and_self, $ls,*])
theorem lQ.refl {m : Co} {rs : List Rm} (W : WF m rs) : lQ m rs m rs := ⟨W, rfl, rfl, rfl, rfl, rfl, rfl, rfl⟩
theorem lQ.trans {m m1 m2 : Co} {rs rs1 rs2 : List Rm} (a : lQ m rs m1 rs1) (b : lQ m1 rs1 m2 rs2) : lQ m rs m2 rs2 := ⟨b.wf, b.n.trans a.n, b.s.trans a.s, b.c.trans a.c, b.r.trans a.r, b.k.trans a.k, b.cl.trans a.cl, b.ps.trans a.ps⟩
theorem px {α : Type} {xs : List α} {i : Nat} {x : α} (h : xs[i]? = some x) : xs.set i x = xs := by
  obtain ⟨A, B, e, hA⟩ := sL h
  rw [e, ← hA, uZ]
section
variable {F : List (Nat × SO)}
def EC : DS := aR (aw cJ "write_back" (af 0) (aa (af 2) aj))
theorem ym (i : Nat) (ys : List Ln) : ∀ (xs : List Ln) (h : Sh) (m : Co) (rs : List Rm) (rm : Rm) (y1 y2 : Option HL.W), St m rs F h → WF m rs → rs[i]? = some rm → rm.ls = xs ++ ys → (∀ x ∈ xs, x.ch = false) →
    ∃ h' m' rm' y2', lh (.lst rm.p (rm.ls.map fun (l : Ln) => HL.W.ref l.p)) (bD 2) EC (ys.map fun (l : Ln) => HL.W.ref l.p) [some (.ref m.n), y1, y2] h = .nx [some (.ref m.n), y1, y2'] h' ∧ St m' (rs.set i rm') F h' ∧ lQ m rs m' (rs.set i rm') ∧ (∀ k', aW m'.cells (rs.set i rm') m.k k' = aW m.cells rs m.k k') ∧ (∀ l ∈ rm'.ls, l.ch = false) := by
  induction ys with
  | nil =>
    intro xs h m rs rm y1 y2 S W hr es hx
    refine ⟨h, m, rm, y2, rfl, by rw [px hr]; exact S, by rw [px hr]; exact lQ.refl W, fun k' => by rw [px hr], ?_⟩
    rw [es, List.append_nil]; exact hx
  | cons l ys ih =>
    intro xs h m rs rm y1 y2 S W hr es hx
    obtain ⟨h1, e1, S1, K1, L1⟩ := za S W hr es
    have e2 : bH cJ "write_back" (.ref m.n) h = some bt := aJ (Co.near S.core) rfl
    have lt : i < rs.length := (List.getElem?_eq_some_iff.mp hr).1
    have hr1 : (rs.set i { rm with ls := xs ++ { l with ch := false } :: ys })[i]? = some { rm with ls := xs ++ { l with ch := false } :: ys } := by rw [fC lt, if_pos rfl]
    have er : (rm.ls.map fun (l : Ln) => HL.W.ref l.p) = ((xs ++ { l with ch := false } :: ys).map fun (l : Ln) => HL.W.ref l.p) := by rw [es, List.map_append, List.map_append, List.map_cons, List.map_cons]
    obtain ⟨h', m', rm', y2', e3, S2, K2, L2, c2⟩ := ih (xs ++ [{ l with ch := false }]) h1 (wb m l) _ _ y1 (some (.ref l.p)) S1 K1.wf hr1 (by simp only [List.append_assoc, List.cons_append, List.nil_append]) (by
      intro x hx'
      rcases List.mem_append.mp hx' with h | h
      · exact hx x h
      · rw [List.mem_singleton.mp h])
    rw [List.set_set] at S2 K2 L2
    rw [K1.n] at e3
    rw [K1.k] at L2
    refine ⟨h', m', rm', y2', ?_, S2, K1.trans K2, fun k' => (L2 k').trans (L1 k'), c2⟩
    have st : It.stays (.lst rm.p (rm.ls.map fun (l : Ln) => HL.W.ref l.p)) h1 := by
      obtain ⟨G, H, _⟩ := S1.open hr1
      have : h1[rm.p]? = some (.lst ((xs ++ { l with ch := false } :: ys).map fun (l : Ln) => HL.W.ref l.p)) := H.get (List.mem_append_right _ (List.mem_cons_of_mem _ (List.mem_cons_self ..)))
      simp only [It.stays, bE, this, er]
    rw [List.map_cons, lh]
    have b1 : EC ([some (HL.W.ref m.n), y1, y2].set 2 (some (.ref l.p))) h = .nx [some (.ref m.n), y1, some (.ref l.p)] h1 := by
      unfold EC
      simp! only [e2, e1]
    simp only [bD, b1, st, if_true]
    rw [er]
    exact e3
def EI : DS := lg (lJ (af 1)) (bD 2) EC
theorem xW (d : Nat) : ∀ (i : Nat) (h : Sh) (m : Co) (rs : List Rm) (y1 y2 : Option HL.W), St m rs F h → WF m rs → i + d = rs.length → (∀ (j : Nat) (r : Rm), j < i → rs[j]? = some r → ∀ l ∈ r.ls, l.ch = false) →
    ∃ (h' : Sh) (m' : Co) (rs' : List Rm) (y1' y2' : Option HL.W), lh (.lst m.r ((rs.map Rm.p).map .ref)) (bD 1) EI (((rs.map Rm.p).drop i).map .ref) [some (.ref m.n), y1, y2] h = .nx [some (.ref m.n), y1', y2'] h' ∧ St m' rs' F h' ∧ lQ m rs m' rs' ∧ (∀ k', aW m'.cells rs' m.k k' = aW m.cells rs m.k k') ∧ (∀ (j : Nat) (r : Rm), rs'[j]? = some r → ∀ l ∈ r.ls, l.ch = false) := by
  induction d with
  | zero =>
    intro i h m rs y1 y2 S W hi hc
    refine ⟨h, m, rs, y1, y2, ?_, S, lQ.refl W, fun _ => rfl, fun j r hj => hc j r (by have := (List.getElem?_eq_some_iff.mp hj).1; omega) hj⟩
    rw [List.drop_eq_nil_of_le (by rw [List.length_map]; omega)]; rfl
  | succ d ih =>
    intro i h m rs y1 y2 S W hi hc
    have lt : i < rs.length := by omega
    have hr := List.getElem?_eq_getElem lt
    generalize rs[i] = rm at hr
    obtain ⟨h1, m1, rm', y2', e1, S1, K1, L1, c1⟩ := ym i rm.ls [] h m rs rm (some (.ref rm.p)) y2 S W hr rfl (fun x hx => nomatch hx)
    obtain ⟨h', m', rs', z1, z2, e2, S2, K2, L2, c2⟩ := ih (i + 1) h1 m1 _ (some (.ref rm.p)) y2' S1 K1.wf (by rw [List.length_set]; omega) (by
      intro j r hj hjr
      rw [fC lt] at hjr
      split at hjr
      · cases hjr; exact c1
      · exact hc j r (by omega) hjr)
    rw [K1.n, K1.r, K1.ps] at e2
    rw [K1.k] at L2
    refine ⟨h', m', rs', z1, z2, ?_, S2, K1.trans K2, fun k' => (L2 k').trans (L1 k'), c2⟩
    have dr : (rs.map Rm.p).drop i = rm.p :: (rs.map Rm.p).drop (i + 1) := by
      rw [← List.getElem_cons_drop (by rw [List.length_map]; exact lt)]
      congr 1
      rw [List.getElem_map]
      have := (List.getElem?_eq_some_iff.mp hr).2
      rw [this]
    rw [dr, List.map_cons, lh]
    have sr : bE h (.ref rm.p) = some (rm.ls.map fun (l : Ln) => HL.W.ref l.p) := by
      obtain ⟨G, H, _⟩ := S.open hr
      have : h[rm.p]? = some (.lst (rm.ls.map fun (l : Ln) => HL.W.ref l.p)) := H.get (List.mem_append_right _ (List.mem_cons_of_mem _ (List.mem_cons_self ..)))
      simp only [bE, this]
    have b1 : EI ([some (HL.W.ref m.n), y1, y2].set 1 (some (.ref rm.p))) h = .nx [some (.ref m.n), some (.ref rm.p), y2'] h1 := by
      unfold EI
      simp! only [lg, lJ, sr, It.items, e1]
    have st : It.stays (.lst m.r ((rs.map Rm.p).map .ref)) h1 := by
      have : h1[m1.r]? = some (.lst ((((rs.set i rm').map Rm.p)).map .ref)) := S1.core.get (List.mem_append_right _ (List.mem_cons_self ..))
      rw [K1.r, K1.ps] at this
      simp only [It.stays, bE, this]
    simp only [bD, b1, st, if_true]
    exact e2
theorem vU {h : Sh} {m : Co} {rs : List Rm} (S : St m rs F h) (W : WF m rs) : ∃ h' m' rs', eR [.ref m.n] h = .ok .non h' ∧ St m' rs' F h' ∧ lQ m rs m' rs' ∧ (∀ k', aW m'.cells rs' m.k k' = aW m.cells rs m.k k') ∧ ∀ k', dm m'.cells k' = aW m.cells rs m.k k' := by
  obtain ⟨h', m', rs', y1, y2, e, S', K, L, c⟩ := xW rs.length 0 h m rs none none S W (by omega) (fun j r hj => by omega)
  refine ⟨h', m', rs', yx (s' := [some (.ref m.n), y1, y2]) rfl ?_, S', K, L, fun k' => ?_⟩
  · have e1 : eF ["Near"] "rooms" (.ref m.n) h = some (.ref m.r) := aX (Co.near S.core) (by decide) rfl
    have e2 : bE h (.ref m.r) = some ((rs.map Rm.p).map .ref) := by
      have : h[m.r]? = some (.lst ((rs.map Rm.p).map .ref)) := S.core.get (List.mem_append_right _ (List.mem_cons_self ..))
      simp only [bE, this]
    rw [List.drop_zero] at e
    show lg (lJ (bA ["Near"] "rooms" (af 0))) (bD 1) EI (aH 3 [.ref m.n]) h = _
    simp! only [lg, lJ, e1, e2, It.items]
    exact e
  · rw [← L k']
    have lt := mod_lt K.wf k'
    rw [K.k] at lt
    have hr := List.getElem?_eq_getElem lt
    generalize rs'[k' % m.k] = rm at hr
    rw [cQ hr]
    by_cases hx : ∃ l ∈ rm.ls, l.n = (k' : Int)
    · obtain ⟨l, hl, ln⟩ := hx
      have R := K.wf.ok _ _ hr
      rw [cc R.nd hl ln]
      show _ = l.ws
      rw [R.same l hl (c _ _ hr l hl), ln]; rfl
    · rw [cZ (fun l hl e => hx ⟨l, hl, e⟩)]; rfl
end
end K47
namespace K47
open HL
open PySem (Str)
local macro_rules | `(tactic| simp! only [$ls,*]) => `(tactic| simp only [kS, lb, jJ, fnOf, aH, aI, aU, eL, aT, aR, et, gq, cB, gk, dB, aa, aj, af, dC, aE, mF, bA, aw, aC, cV, dT, cP, gh, lC, bQ, ig, fg, qa, bW, R.bind, OR.fin, bu, eN, eP, cj, ck, bp, oz, gX, dM, dP, List.map_cons, List.map_nil, List.length_cons, List.length_nil, List.cons_append, List.nil_append, List.replicate, List.getElem?_cons_zero, List.getElem?_cons_succ, List.set_cons_zero, List.set_cons_succ, Nat.reduceAdd, Nat.reduceSub, Nat.zero_add, if_true, if_false, Bool.not_true, Bool.not_false, Bool.false_eq_true, reduceIte, reduceCtorEq, decide_true, decide_false, Bool.and_true, Bool.and_self, $ls,*])
theorem og (f : HL.W → Option D) (hf : ∀ i, f (.int i) = some (.int i)) : ∀ ns : List Int, du f (ns.map .int) = some (ns.map .int)
  | [] => rfl
  | n :: ns => by simp only [List.map_cons, du, hf, og f hf ns, Option.bind_some, Option.map_some]
section
variable {h : Sh} {ns : List Int}
theorem dj {l : Sh} (hs : h[0]? = some (.rol (ns.map .int))) : (h ++ l)[0]? = some (.rol (ns.map .int)) := by
  rw [List.getElem?_append_left (List.getElem?_eq_some_iff.mp hs).1]; exact hs
theorem D4 (hs : h[0]? = some (.rol (ns.map .int))) : nJ (.ref 0) (.ref h.length) (h ++ [.lst []]) = some ns.isEmpty := by
  have e1 : dat o5 (h ++ [.lst []]) (.ref 0) = some (.lst (ns.map .int)) := by
    show (match (h ++ [SO.lst []])[0]? with
      | some (.lst xs) => (du (dat 7 (h ++ [SO.lst []])) xs).map D.lst
      | some (.rol xs) => (du (dat 7 (h ++ [SO.lst []])) xs).map D.lst
      | some (.tup xs) => (du (dat 7 (h ++ [SO.lst []])) xs).map D.tup
      | _ => none) = _
    rw [dj hs]
    show (du (dat 7 (h ++ [SO.lst []])) (ns.map HL.W.int)).map D.lst = _
    rw [og (dat 7 (h ++ [SO.lst []])) (fun i => rfl)]; rfl
  have e2 : dat o5 (h ++ [.lst []]) (.ref h.length) = some (.lst []) := by
    show (match (h ++ [SO.lst []])[h.length]? with
      | some (.lst xs) => (du (dat 7 (h ++ [SO.lst []])) xs).map D.lst
      | some (.rol xs) => (du (dat 7 (h ++ [SO.lst []])) xs).map D.lst
      | some (.tup xs) => (du (dat 7 (h ++ [SO.lst []])) xs).map D.tup
      | _ => none) = _
    rw [List.getElem?_append_right (Nat.le_refl _), Nat.sub_self]
    rfl
  simp only [nJ, e1, e2]
  cases ns <;> rfl
theorem gM (hs : h[0]? = some (.rol (ns.map .int))) (hl : ns.length ≤ 63) (k : Int) (h0 : 0 ≤ k) : ∃ v, aL [.ref 0, .int k] h = .ok (.int v) (h ++ [.lst []]) ∧ 0 ≤ v ∧ v < 2147483587 := by
  have e1 := D4 hs
  have g1 := dj (l := [.lst []]) hs
  have s1 : aT 2 (aE bu (aE cj (dC (.int 7919)) (af 1)) (dC (.int 11))) (aH 4 [.ref 0, .int k]) h = .nx [some (.ref 0), some (.int k), some (.int (7919 * k + 11)), none] h := by
    simp! only [show fL 7919 k = true from rfl]
  have sq : cy (h ++ [.lst []]) (.ref 0) = some (ns.map .int) := by simp only [cy, bE, g1, Option.or]
  have s2 : ∃ c : Int, (et (dT (aE td (af 0) (dB cW aj))) (aI (aT 2 (aE bu (aE bu (af 2) (aE cj (aE gW (af 0) (aE bp (af 1) (dB gi (aa (af 0) aj)))) (dC (.int 48271)))) (aE cj (dC (.int 96810)) (af 1))))
    (aT 2 (aE bu (af 2) (aE cj (aE ck (af 1) (dB gi (aa (af 0) aj))) (dC (.int 7919)))))) gq) [some (.ref 0), some (.int k), some (.int (7919 * k + 11)), none] h = .nx [some (.ref 0), some (.int k), some (.int c), none] (h ++ [.lst []]) := by
    have lim : (0 : Nat) ≤ hW := Nat.zero_le _
    cases hn : ns with
    | nil =>
      rw [hn] at e1
      refine ⟨7919 * k + 11, ?_⟩
      simp! only [cW, lim, td, e1, List.isEmpty_nil]
    | cons a r =>
      rw [hn] at e1 sq hl
      have pos : (0 : Int) < (((a :: r).length : Nat) : Int) := by rw [List.length_cons]; omega
      have tm : (((a :: r).length : Nat) : Int) < 1073741824 := by omega
      have lt : (k % (((a :: r).length : Nat) : Int)).toNat < (a :: r).length := by
        have := Int.emod_lt_of_pos k pos
        have := Int.emod_nonneg k (Int.ne_of_gt pos)
        omega
      have e3 : qb ((a :: r).map HL.W.int) (k % (((a :: r).length : Nat) : Int)) = some (.int (a :: r)[(k % (((a :: r).length : Nat) : Int)).toNat]) := sj (Int.emod_nonneg _ (by omega)) (by rw [List.getElem?_map, List.getElem?_eq_getElem lt]; rfl)
      have m1 : ∀ x : Int, fL x 48271 = true := fun x => by simp [fL]
      have m2 : ∀ x : Int, fL x 7919 = true := fun x => by simp [fL]
      have lm : ((a :: r).map HL.W.int).length = (a :: r).length := List.length_map ..
      generalize (a :: r)[(k % (((a :: r).length : Nat) : Int)).toNat] = x at e3
      refine ⟨7919 * k + 11 + x * 48271 + 96810 * k + k / (((a :: r).length : Nat) : Int) * 7919, ?_⟩
      have ne : (a :: r).isEmpty = false := rfl
      rw [ne] at e1
      generalize (a :: r) = w at e1 sq pos tm e3 lm ⊢
      simp! only [cW, lim, td, e1, gi, sq, lm, pos, tm, gW, e3, m1, m2, show fL 96810 k = true from rfl]
  obtain ⟨c, s2⟩ := s2
  have p1 := Int.emod_nonneg c (show (2147483647 : Int) ≠ 0 by decide)
  have p2 := Int.emod_lt_of_pos c (show (0 : Int) < 2147483647 by decide)
  have s3 : aT 3 (aE bp (af 2) (dC (.int 2147483647))) [some (.ref 0), some (.int k), some (.int c), none] (h ++ [.lst []]) = .nx [some (.ref 0), some (.int k), some (.int c), some (.int (c % 2147483647))] (h ++ [.lst []]) := by
    simp! only [show decide ((0 : Int) < 2147483647) = true from rfl]
  generalize c % 2147483647 = d at p1 p2 s3
  have m1 : fL d d = true := by
    have : d.natAbs < 2 ^ 64 := by omega
    simp only [fL, this, decide_true, Bool.true_or]
  have s4 : aT 3 (aE bp (aE cj (af 3) (af 3)) (dC (.int 2147483629))) [some (.ref 0), some (.int k), some (.int c), some (.int d)] (h ++ [.lst []]) = .nx [some (.ref 0), some (.int k), some (.int c), some (.int (d * d % 2147483629))] (h ++ [.lst []]) := by
    simp! only [m1, show decide ((0 : Int) < 2147483629) = true from rfl]
  have q1 := Int.emod_nonneg (d * d) (show (2147483629 : Int) ≠ 0 by decide)
  have q2 := Int.emod_lt_of_pos (d * d) (show (0 : Int) < 2147483629 by decide)
  generalize d * d % 2147483629 = e at q1 q2 s4
  have m2 : fL e e = true := by
    have : e.natAbs < 2 ^ 64 := by omega
    simp only [fL, this, decide_true, Bool.true_or]
  refine ⟨(e * e + 69621 * e + k) % 2147483587, cD rfl ?_, Int.emod_nonneg _ (by decide), Int.emod_lt_of_pos _ (by decide)⟩
  unfold jD
  rw [ay s1, ay s2, ay s3, ay s4]
  simp! only [m2, show fL 69621 e = true from rfl, show decide ((0 : Int) < 2147483587) = true from rfl]
theorem y0 (h : Sh) (c : Int) (h0 : 0 ≤ c) : ∃ w o, gZ [.int c] h = .ok (.int w) (h ++ [o]) := by
  have d1 : decide ((0 : Int) < 65536) = true := rfl
  have d2 : decide ((65536 : Int) < 1073741824) = true := rfl
  have d3 : decide ((0 : Int) < 9) = true := rfl
  have d4 : decide ((0 : Int) < 4) = true := rfl
  have d5 : decide ((4 : Int) < 1073741824) = true := rfl
  have r0 := Int.emod_nonneg (c / 65536) (show (9 : Int) ≠ 0 by decide)
  have r1 := Int.emod_lt_of_pos (c / 65536) (show (0 : Int) < 9 by decide)
  have r2 : c / 65536 % 9 / 4 = 0 ∨ c / 65536 % 9 / 4 = 1 ∨ c / 65536 % 9 / 4 = 2 := by omega
  have e : ∃ w : Int, qb [.int (c % 65536), .int 65535, .int 0] (c / 65536 % 9 / 4) = some (.int w) := by
    rcases r2 with e | e | e <;> rw [e]
    · exact ⟨c % 65536, rfl⟩
    · exact ⟨65535, rfl⟩
    · exact ⟨0, rfl⟩
  obtain ⟨w, e⟩ := e
  have sq : cy (h ++ [SO.lst [.int (c % 65536), .int 65535, .int 0]]) (.ref h.length) = some [.int (c % 65536), .int 65535, .int 0] := by
    simp only [cy, bE, List.getElem?_append_right (Nat.le_refl _), Nat.sub_self, List.getElem?_cons_zero, Option.or]
  refine ⟨w, .lst [.int (c % 65536), .int 65535, .int 0], cD rfl ?_⟩
  unfold jC
  simp! only [d1, d2, d3, d4, d5, cW, show (0 + 1 + 1 + 1 ≤ hW) from by decide, gW, sq, e]
end
end K47
namespace K47
open HL
open PySem (Str)
local macro_rules | `(tactic| simp! only [$ls,*]) => `(tactic| simp only [kS, lb, jJ, fnOf, aH, aI, aU, eL, aT, aR, et, gq, cB, gk, dB, aa, aj, af, dC, aE, mF, bA, aw, aC, cV, dT, cP, gh, lC, bQ, ig, fg, qa, bW, R.bind, OR.fin, bu, eN, eP, cj, ck, bp, oz, gX, dM, dP, List.map_cons, List.map_nil, List.length_cons, List.length_nil, List.cons_append, List.nil_append, List.replicate, List.getElem?_cons_zero, List.getElem?_cons_succ, List.set_cons_zero, List.set_cons_succ, Nat.reduceAdd, Nat.reduceSub, Nat.zero_add, if_true, if_false, Bool.not_true, Bool.not_false, Bool.false_eq_true, reduceIte, reduceCtorEq, decide_true, decide_false, Bool.and_true, Bool.and_self, $ls,*])
theorem bG.fresh {h l : Sh} {L : List (Nat × SO)} {t : Nat} {o : SO} (H : bG h L) (e : (h ++ l)[t]? = some o) (lt : h.length ≤ t) : bG (h ++ l) ((t, o) :: L) := by
  refine ⟨List.nodup_cons.mpr ⟨?_, H.1⟩, fun x hx => ?_⟩
  · intro m
    obtain ⟨x, hx, e⟩ := List.mem_map.mp m
    have := (List.getElem?_eq_some_iff.mp (H.2 x hx)).1
    omega
  · rcases List.mem_cons.mp hx with rfl | hx
    · exact e
    · exact (H.app l).2 x hx
section
variable {h : Sh} {ns : List Int}
def EV : DE := aC gZ (aa (aC aL (aa (af 1) (aa (aE bu (af 2) (af 0)) aj))) aj)
theorem tY {m : Nat} (hl : ns.length ≤ 63) (acc : Nat) (n : Nat) : ∀ (lo : Nat) (h : Sh) (ws : List Int) (y : Option HL.W), bG h [(acc, SO.lst (ws.map .int)), (0, .rol (ns.map .int))] → ws.length + n < hW →
    ∃ (h' : Sh) (ws' : List Int), jA (.fix (cz 0 m)) (bD 0) bQ EV acc (((List.range' lo n).map fun (k : Nat) => HL.W.int (0 + (k : Int)))) [y, some (.ref 0), some (.int 200)] h = .ok (.ref acc) h' ∧ bG h' [(acc, SO.lst (ws'.map .int)), (0, .rol (ns.map .int))] ∧ ws'.length = ws.length + n := by
  induction n with
  | zero => intro lo h ws y H _; exact ⟨h, ws, rfl, H, rfl⟩
  | succ n ih =>
    intro lo h ws y H hw
    have hs : h[0]? = some (.rol (ns.map .int)) := H.get (List.mem_cons_of_mem _ (List.mem_cons_self ..))
    obtain ⟨c, e1, c0, _⟩ := gM hs hl (200 + (0 + (lo : Int))) (by omega)
    obtain ⟨w, o, e2⟩ := y0 (h ++ [.lst []]) c c0
    have H1 := (H.app [.lst []]).app [o]
    have g1 : (h ++ [SO.lst []] ++ [o])[acc]? = some (.lst (ws.map .int)) := H1.get (List.mem_cons_self ..)
    have lt : acc < (h ++ [SO.lst []] ++ [o]).length := H1.lt (List.mem_cons_self ..)
    have H2 := H1.set (o' := .lst ((ws ++ [w]).map .int))
    obtain ⟨h', ws', e3, H3, l3⟩ := ih (lo + 1) _ (ws ++ [w]) (some (.int (0 + (lo : Int)))) H2 (by rw [List.length_append]; simp only [List.length_cons, List.length_nil]; omega)
    refine ⟨h', ws', ?_, H3, by rw [l3, List.length_append]; simp only [List.length_cons, List.length_nil]; omega⟩
    have e4 : EV [some (.int (0 + (lo : Int))), some (.ref 0), some (.int 200)] h = .ok (.int w) (h ++ [SO.lst []] ++ [o]) := by
      unfold EV
      simp only [aC, aa, aj, af, aE, List.getElem?_cons_zero, List.getElem?_cons_succ, R.bind, bu, OR.fin, e1, e2]
    have lw : (ws.map HL.W.int).length < hW := by rw [List.length_map]; omega
    rw [List.map_append] at e3
    show jA _ _ _ _ _ (HL.W.int (0 + (lo : Int)) :: _) _ _ = _
    rw [jA]
    simp only [bD, List.set_cons_zero, bQ, R.bind, if_true, e4, g1, lw, It.stays, lt, and_self, true_and]
    exact e3
theorem wC {a : DE} {j : Int} {s : Sg} {h h' : Sh} (b : -(2 ^ 62) ≤ j ∧ j < 2 ^ 62) (e : a s h = .ok (.int j) h') : dI a s h = .ok (.fix (cz 0 j.toNat)) h' := by
  unfold dI
  rw [e]
  simp only [R.bind]
  rw [if_pos b]
theorem p7 {i : DI} {n : Nat} {js : List Nat} {g : DG} {c : DT} {e : DE} {s : Sg} {h h1 : Sh} {t : It} {r : R HL.W} (hi : i s h = .ok t h1) (hc : jA t g c e h1.length t.items (sh n js s) (h1 ++ [.lst []]) = r) : j9 i n js g c e s h = r := by
  unfold j9
  rw [hi]
  exact hc
theorem kl {e : DE} {s : Sg} {h h' : Sh} {v : HL.W} (x : e s h = .ok v h') : aU e s h = .rt v h' := by
  unfold aU
  rw [x]
theorem Gi {m : Nat} (b : m ≤ 1000) : (-(2 ^ 62) ≤ (m : Int) ∧ (m : Int) < 2 ^ 62) := by omega
theorem m3 {a : DE} {m : Nat} {s : Sg} {h h' : Sh} (b : m ≤ 1000) (e : a s h = .ok (.int m) h') : dI a s h = .ok (.fix (cz 0 m)) h' :=
  (wC (Gi b) e).trans (congrArg (fun n => R.ok (It.fix (cz 0 n)) h') (Int.toNat_natCast m))
theorem wX (hl : ns.length ≤ 63) {m : Nat} (hm : m ≤ 64) (H : bG h [(0, SO.rol (ns.map .int))]) : ∃ (h' : Sh) (ws : List Int), fP [.ref 0, .int 200, .int m] h = .ok (.ref h.length) h' ∧ bG h' [(h.length, SO.lst (ws.map .int)), (0, .rol (ns.map .int))] ∧ ws.length = m := by
  have H1 := H.new (.lst [])
  have lim : (64 : Nat) < hW := by decide
  obtain ⟨h', ws, e, H2, l2⟩ := tY (m := m) hl h.length m 0 (h ++ [.lst []]) [] none H1 (by rw [List.length_nil]; omega)
  refine ⟨h', ws, cD rfl ?_, H2, by rw [l2]; exact Nat.zero_add _⟩
  have er : cz 0 m = (List.range' 0 m).map fun (k : Nat) => HL.W.int (0 + (k : Int)) := by
    unfold cz; rw [List.range_eq_range']
  have i1 : dI (af 2) (aH 3 [.ref 0, .int 200, .int m]) h = .ok (.fix (cz 0 m)) h := by
    exact m3 (by omega) (by simp only [af, aH, List.map_cons, List.map_nil, List.cons_append, List.nil_append, List.getElem?_cons_succ, List.getElem?_cons_zero])
  have c1 : sh 1 [0, 1] (aH 3 [.ref 0, .int 200, .int m]) = [none, some (.ref 0), some (.int 200)] := rfl
  rw [← er] at e
  unfold iJ
  refine kl (p7 i1 ?_)
  rw [c1]
  exact e
theorem uJ (hs : h[0]? = some (.rol (ns.map .int))) (hl : ns.length ≤ 63) (k : Int) (h0 : 0 ≤ k) {m : Nat} (hm : 0 < m) : ∃ a l, dR [.ref 0, .int k, .int m] h = .ok (.int a) (h ++ l) ∧ 0 ≤ a ∧ a < m := by
  have hm' : (0 : Int) < m := by omega
  obtain ⟨c, e1, c0, _⟩ := gM hs hl k h0
  have hs1 := dj (l := [.lst []]) hs
  obtain ⟨d, e2, d0, _⟩ := gM hs1 hl (3 + c / 6 % 4) (by omega)
  have hs2 := dj (l := [.lst []]) hs1
  have hs3 := dj (l := [.lst [.int 4, .int 8, .int 16, .int 1, .int 2]]) hs2
  obtain ⟨f, e3, f0, _⟩ := gM hs3 hl 7 (by omega)
  have hs4 := dj (l := [.lst []]) hs3
  obtain ⟨g, e4, g0, _⟩ := gM hs4 hl 3 (by omega)
  have r0 := Int.emod_nonneg f (show (5 : Int) ≠ 0 by decide)
  have r1 := Int.emod_lt_of_pos f (show (0 : Int) < 5 by decide)
  have st : ∃ s : Int, qb [.int 4, .int 8, .int 16, .int 1, .int 2] (f % 5) = some (.int s) := by
    rcases (by omega : f % 5 = 0 ∨ f % 5 = 1 ∨ f % 5 = 2 ∨ f % 5 = 3 ∨ f % 5 = 4) with e | e | e | e | e <;> rw [e] <;> exact ⟨_, rfl⟩
  obtain ⟨s, st⟩ := st
  have p0 := Int.emod_nonneg c (show (6 : Int) ≠ 0 by decide)
  have p1 := Int.emod_lt_of_pos c (show (0 : Int) < 6 by decide)
  have a1 := Int.emod_nonneg d (show (m : Int) ≠ 0 by omega)
  have a2 := Int.emod_lt_of_pos d hm'
  have b1 := Int.emod_nonneg (g + s * (c / 24 % 5)) (show (m : Int) ≠ 0 by omega)
  have b2 := Int.emod_lt_of_pos (g + s * (c / 24 % 5)) hm'
  have c1 := Int.emod_nonneg (c / 24) (show (m : Int) ≠ 0 by omega)
  have c2 := Int.emod_lt_of_pos (c / 24) hm'
  have re : ∃ a : Int, qb [.int (d % m), .int (d % m), .int ((g + s * (c / 24 % 5)) % m), .int ((g + s * (c / 24 % 5)) % m), .int ((g + s * (c / 24 % 5)) % m), .int (c / 24 % m)] (c % 6) = some (.int a) ∧ 0 ≤ a ∧ a < m := by
    rcases (by omega : c % 6 = 0 ∨ c % 6 = 1 ∨ c % 6 = 2 ∨ c % 6 = 3 ∨ c % 6 = 4 ∨ c % 6 = 5) with e | e | e | e | e | e <;> rw [e]
    · exact ⟨_, rfl, a1, a2⟩
    · exact ⟨_, rfl, a1, a2⟩
    · exact ⟨_, rfl, b1, b2⟩
    · exact ⟨_, rfl, b1, b2⟩
    · exact ⟨_, rfl, b1, b2⟩
    · exact ⟨_, rfl, c1, c2⟩
  obtain ⟨a, re, ra⟩ := re
  have q1 : ∀ (h : Sh) (xs : List HL.W), cy (h ++ [SO.lst xs]) (.ref h.length) = some xs := by
    intro h xs; simp only [cy, bE, List.getElem?_append_right (Nat.le_refl _), Nat.sub_self, List.getElem?_cons_zero, Option.or]
  have q2 : ∀ (h : Sh) (xs : List HL.W), cy (h ++ [SO.lst xs] ++ [SO.lst []]) (.ref h.length) = some xs := by
    intro h xs
    have : (h ++ [SO.lst xs] ++ [SO.lst []])[h.length]? = some (.lst xs) := by
      rw [List.getElem?_append_left (by simp only [List.length_append, List.length_cons, List.length_nil]; omega), List.getElem?_append_right (Nat.le_refl _), Nat.sub_self]; rfl
    simp only [cy, bE, this, Option.or]
  have ms : fL s (c / 24 % 5) = true := by
    have := Int.emod_nonneg (c / 24) (show (5 : Int) ≠ 0 by decide)
    have := Int.emod_lt_of_pos (c / 24) (show (0 : Int) < 5 by decide)
    have : (c / 24 % 5).natAbs < 2 ^ 64 := by omega
    simp only [fL, this, decide_true, Bool.or_true]
  have d5 : decide ((0 : Int) < 5) = true := rfl
  have d6 : decide ((0 : Int) < 6) = true := rfl
  have d6' : decide ((6 : Int) < 1073741824) = true := rfl
  have d4 : decide ((0 : Int) < 4) = true := rfl
  have d24 : decide ((0 : Int) < 24) = true := rfl
  have d24' : decide ((24 : Int) < 1073741824) = true := rfl
  refine ⟨a, [.lst []] ++ [.lst []] ++ [.lst [.int 4, .int 8, .int 16, .int 1, .int 2]] ++ [.lst []] ++ [.lst []] ++ [.lst [.int (d % m), .int (d % m), .int ((g + s * (c / 24 % 5)) % m), .int ((g + s * (c / 24 % 5)) % m), .int ((g + s * (c / 24 % 5)) % m), .int (c / 24 % m)]], cD rfl ?_, ra⟩
  unfold fV
  rw [ay (s' := [some (.ref 0), some (.int k), some (.int m), some (.int c), none, none, none]) (h' := h ++ [.lst []]) (by simp only [aT, aC, aa, aj, af, aH, List.map_cons, List.map_nil, List.cons_append, List.nil_append, List.getElem?_cons_zero, List.getElem?_cons_succ, R.bind, e1, List.length_cons, List.length_nil, List.replicate, List.set_cons_succ, List.set_cons_zero])]
  rw [ay (s' := [some (.ref 0), some (.int k), some (.int m), some (.int c), some (.int (d % m)), none, none]) (h' := h ++ [.lst []] ++ [.lst []]) (by simp! only [d6, d6', d4, e2, hm'])]
  rw [ay (s' := [some (.ref 0), some (.int k), some (.int m), some (.int c), some (.int (d % m)), some (.int s), none]) (h' := h ++ [.lst []] ++ [.lst []] ++ [.lst [.int 4, .int 8, .int 16, .int 1, .int 2]] ++ [.lst []]) (by simp! only [cW, show (0 + 1 + 1 + 1 + 1 + 1 ≤ hW) from by decide, e3, d5, gW, q2, st])]
  rw [ay (s' := [some (.ref 0), some (.int k), some (.int m), some (.int c), some (.int (d % m)), some (.int s), some (.int ((g + s * (c / 24 % 5)) % m))]) (h' := h ++ [.lst []] ++ [.lst []] ++ [.lst [.int 4, .int 8, .int 16, .int 1, .int 2]] ++ [.lst []] ++ [.lst []]) (by simp! only [e4, d24, d24', d5, ms, hm'])]
  simp! only [cW, show (0 + 1 + 1 + 1 + 1 + 1 + 1 ≤ hW) from by decide, d24, d24', hm', d6, gW, q1, re]
  simp only [List.append_assoc, List.cons_append, List.nil_append]
end
end K47
namespace K47
open HL
open PySem (Str)
local macro_rules | `(tactic| simp! only [$ls,*]) => `(tactic| simp only [kS, lb, jJ, fnOf, aH, aI, aU, eL, aT, aR, et, gq, cB, gk, dB, aa, aj, af, dC, aE, mF, bA, aw, aC, cV, dT, cP, gh, lC, bQ, ig, fg, qa, bW, R.bind, OR.fin, bu, eN, eP, cj, ck, bp, oz, gX, dM, dP, List.map_cons, List.map_nil, List.length_cons, List.length_nil, List.cons_append, List.nil_append, List.replicate, List.getElem?_cons_zero, List.getElem?_cons_succ, List.set_cons_zero, List.set_cons_succ, Nat.reduceAdd, Nat.reduceSub, Nat.zero_add, if_true, if_false, Bool.not_true, Bool.not_false, Bool.false_eq_true, reduceIte, reduceCtorEq, decide_true, decide_false, Bool.and_true, Bool.and_self, $ls,*])
section
variable {h : Sh} {ns : List Int}
theorem nj (h : Sh) (xs : List HL.W) : cy (h ++ [SO.lst xs]) (.ref h.length) = some xs := by
  simp only [cy, bE, List.getElem?_append_right (Nat.le_refl _), Nat.sub_self, List.getElem?_cons_zero, Option.or]
theorem nS (h : Sh) (xs : List HL.W) : cy (h ++ [SO.tup xs]) (.ref h.length) = some xs := by
  simp only [cy, bE, iy, List.getElem?_append_right (Nat.le_refl _), Nat.sub_self, List.getElem?_cons_zero, Option.or]
def eU : List Str := ["get", "get", "get", "put", "put", "put", "put", "cost", "look", "look", "settle"]
theorem Aj (hs : h[0]? = some (.rol (ns.map .int))) (hl : ns.length ≤ 63) (k : Nat) {m : Nat} (hm : 0 < m) : ∃ (x : Str) (a : Nat) (w : Int) (t : Nat) (l : Sh), cS [.ref 0, .int k, .int m] h = .ok (.ref t) (h ++ l) ∧ (h ++ l)[t]? = some (.tup [.str x, .int a, .int w]) ∧ h.length ≤ t ∧ x ∈ eU ∧ a < m := by
  obtain ⟨c, e1, c0, _⟩ := gM hs hl (40 + (k : Int)) (by omega)
  have hs1 := dj (l := [.lst []]) hs
  have r0 := Int.emod_nonneg (c / 7) (show (2 : Int) ≠ 0 by decide)
  have r1 := Int.emod_lt_of_pos (c / 7) (show (0 : Int) < 2 by decide)
  have ew : ∃ w : Int, qb [.int (c / 11 % 65536), .int (c / 11 % 3)] (c / 7 % 2) = some (.int w) := by
    rcases (by omega : c / 7 % 2 = 0 ∨ c / 7 % 2 = 1) with e | e <;> rw [e] <;> exact ⟨_, rfl⟩
  obtain ⟨w, ew⟩ := ew
  have hs2 := dj (l := [.lst [.int (c / 11 % 65536), .int (c / 11 % 3)]]) hs1
  have hs3 := dj (l := [.lst (eU.map HL.W.str)]) hs2
  have p0 := Int.emod_nonneg c (show (11 : Int) ≠ 0 by decide)
  have p1 := Int.emod_lt_of_pos c (show (0 : Int) < 11 by decide)
  have lt : (c % 11).toNat < eU.length := by show _ < 11; omega
  have ex : qb (eU.map HL.W.str) (c % 11) = some (.str eU[(c % 11).toNat]) := sj p0 (by rw [List.getElem?_map, List.getElem?_eq_getElem lt]; rfl)
  obtain ⟨a, l, e2, a0, a1⟩ := uJ hs3 hl (100 + (k : Int)) (by omega) hm
  have an : ((a.toNat : Nat) : Int) = a := by omega
  have d11 : decide ((0 : Int) < 11) = true := rfl
  have d11' : decide ((11 : Int) < 1073741824) = true := rfl
  have d65 : decide ((0 : Int) < 65536) = true := rfl
  have d3 : decide ((0 : Int) < 3) = true := rfl
  have d7 : decide ((0 : Int) < 7) = true := rfl
  have d7' : decide ((7 : Int) < 1073741824) = true := rfl
  have d2 : decide ((0 : Int) < 2) = true := rfl
  generalize eU[(c % 11).toNat] = x at ex
  have xm : x ∈ eU := by
    have : (eU.map HL.W.str)[(c % 11).toNat]? = some (.str x) := by
      unfold qb at ex
      cases hi : wQ (eU.map HL.W.str).length (c % 11) with
      | none => rw [hi] at ex; cases ex
      | some j =>
        rw [hi] at ex
        unfold wQ at hi
        rw [if_pos p0] at hi
        split at hi
        · cases hi; exact ex
        · cases hi
    rw [List.getElem?_map] at this
    cases hd : eU[(c % 11).toNat]? with
    | none => rw [hd] at this; cases this
    | some y => rw [hd] at this; injection this with this; injection this with this; rw [← this]; exact List.mem_of_getElem? hd
  refine ⟨x, a.toNat, w, (h ++ [SO.lst []] ++ [SO.lst [HL.W.int (c / 11 % 65536), HL.W.int (c / 11 % 3)]] ++ [SO.lst (eU.map HL.W.str)] ++ l).length, [.lst []] ++ [.lst [.int (c / 11 % 65536), .int (c / 11 % 3)]] ++ [.lst (eU.map HL.W.str)] ++ l ++ [.tup [.str x, .int a, .int w]], cD rfl ?_, ?_, ?_, xm, by omega⟩
  · unfold fT
    rw [ay (s' := [some (.ref 0), some (.int k), some (.int m), some (.int c), none, none]) (h' := h ++ [.lst []]) (by simp only [aT, aC, aa, aj, af, aE, dC, bu, OR.fin, aH, List.map_cons, List.map_nil, List.cons_append, List.nil_append, List.getElem?_cons_zero, List.getElem?_cons_succ, R.bind, e1, List.length_cons, List.length_nil, List.replicate, List.set_cons_succ, List.set_cons_zero])]
    rw [ay (s' := [some (.ref 0), some (.int k), some (.int m), some (.int c), some (.int w), none]) (h' := h ++ [.lst []] ++ [.lst [.int (c / 11 % 65536), .int (c / 11 % 3)]]) (by simp! only [cW, show (0 + 1 + 1 ≤ hW) from by decide, d11, d11', d65, d3, d7, d7', d2, gW, nj, ew])]
    rw [ay (s' := [some (.ref 0), some (.int k), some (.int m), some (.int c), some (.int w), some (.ref (h ++ [SO.lst []] ++ [SO.lst [HL.W.int (c / 11 % 65536), HL.W.int (c / 11 % 3)]]).length)]) (h' := h ++ [.lst []] ++ [.lst [.int (c / 11 % 65536), .int (c / 11 % 3)]] ++ [.lst (eU.map HL.W.str)]) (by simp! only [cW, show (0 + 1 + 1 + 1 + 1 + 1 + 1 + 1 + 1 + 1 + 1 + 1 ≤ hW) from by decide, eU])]
    refine kl ?_
    have f1 : aE gW (af 5) (aE bp (af 3) (dC (.int 11))) [some (.ref 0), some (.int k), some (.int m), some (.int c), some (.int w), some (.ref (h ++ [SO.lst []] ++ [SO.lst [HL.W.int (c / 11 % 65536), HL.W.int (c / 11 % 3)]]).length)] (h ++ [SO.lst []] ++ [SO.lst [HL.W.int (c / 11 % 65536), HL.W.int (c / 11 % 3)]] ++ [.lst (eU.map HL.W.str)]) = .ok (.str x) (h ++ [SO.lst []] ++ [SO.lst [HL.W.int (c / 11 % 65536), HL.W.int (c / 11 % 3)]] ++ [.lst (eU.map HL.W.str)]) := by
      simp! only [d11, gW, nj, ex]
    have f2 : aC dR (aa (af 0) (aa (aE bu (dC (.int 100)) (af 1)) (aa (af 2) aj))) [some (.ref 0), some (.int k), some (.int m), some (.int c), some (.int w), some (.ref (h ++ [SO.lst []] ++ [SO.lst [HL.W.int (c / 11 % 65536), HL.W.int (c / 11 % 3)]]).length)] (h ++ [SO.lst []] ++ [SO.lst [HL.W.int (c / 11 % 65536), HL.W.int (c / 11 % 3)]] ++ [.lst (eU.map HL.W.str)]) = .ok (.int a) (h ++ [SO.lst []] ++ [SO.lst [HL.W.int (c / 11 % 65536), HL.W.int (c / 11 % 3)]] ++ [.lst (eU.map HL.W.str)] ++ l) := by
      simp only [aC, aa, aj, af, aE, dC, bu, OR.fin, List.getElem?_cons_zero, List.getElem?_cons_succ, R.bind, e2]
    simp only [dB, aa, f1, f2, R.bind, af, List.getElem?_cons_zero, List.getElem?_cons_succ, aj, hV, show ([HL.W.str x, .int a, .int w].length ≤ hW) from (by show 3 ≤ hW; decide), if_true, OR.fin]
    simp only [List.append_assoc]
  · rw [an]
    simp only [← List.append_assoc]
    rw [List.getElem?_append_right (Nat.le_refl _), Nat.sub_self]; rfl
  · simp only [List.length_append]; omega
end
end K47
namespace K47
open HL
open PySem (Str)
local macro_rules | `(tactic| simp! only [$ls,*]) => `(tactic| simp only [kS, lb, jJ, fnOf, aH, aI, aU, eL, aT, aR, et, gq, cB, gk, dB, aa, aj, af, dC, aE, mF, bA, aw, aC, cV, dT, cP, gh, lC, bQ, ig, fg, qa, bW, R.bind, OR.fin, bu, eN, eP, cj, ck, bp, oz, gX, dM, dP, List.map_cons, List.map_nil, List.length_cons, List.length_nil, List.cons_append, List.nil_append, List.replicate, List.getElem?_cons_zero, List.getElem?_cons_succ, List.set_cons_zero, List.set_cons_succ, Nat.reduceAdd, Nat.reduceSub, Nat.zero_add, if_true, if_false, Bool.not_true, Bool.not_false, Bool.false_eq_true, reduceIte, reduceCtorEq, decide_true, decide_false, Bool.and_true, Bool.and_self, $ls,*])
section
variable {h : Sh}
theorem qX {L : List (Nat × SO)} {t : Nat} {ws : List Int} (H : bG h ((t, SO.lst (ws.map .int)) :: L)) : ∃ h', g7 [.ref h.length, .ref t] (h ++ [.ins "Slow" []]) = .ok .non h' ∧ bG h' ((h.length, SO.ins "Slow" [("cells", .ref (h.length + 1)), ("lines_told", .int 0), ("lines_put", .int 0)]) :: (h.length + 1, SO.lst (ws.map .int)) :: L) := by
  have H1 := H.new (.ins "Slow" [])
  have g1 : (h ++ [SO.ins "Slow" []])[h.length]? = some (.ins "Slow" []) := H1.get (List.mem_cons_self ..)
  have l1 : (h ++ [SO.ins "Slow" []]).length = h.length + 1 := by rw [List.length_append]; rfl
  generalize h ++ [SO.ins "Slow" []] = h1 at H1 g1 l1
  have g2 : cy h1 (.ref t) = some (ws.map .int) := by
    have : h1[t]? = some (.lst (ws.map .int)) := H1.get (List.mem_cons_of_mem _ (List.mem_cons_self ..))
    simp only [cy, bE, this, Option.or]
  have H2 := H1.new (.lst (ws.map .int))
  rw [l1] at H2
  have g3 : (h1 ++ [SO.lst (ws.map .int)])[h.length]? = some (.ins "Slow" []) := H2.get (List.mem_cons_of_mem _ (List.mem_cons_self ..))
  have e1 : mI ["Slow"] "cells" (.ref h.length) (.ref (h.length + 1)) (h1 ++ [SO.lst (ws.map .int)]) = .ok .non ((h1 ++ [SO.lst (ws.map .int)]).set h.length (.ins "Slow" [("cells", .ref (h.length + 1))])) := eB g3 (by decide) (by simp only [List.length_nil]; omega)
  have H3 := (H2.perm (List.Perm.swap ..)).set (o' := .ins "Slow" [("cells", .ref (h.length + 1))])
  generalize (h1 ++ [SO.lst (ws.map .int)]).set h.length (.ins "Slow" [("cells", .ref (h.length + 1))]) = h3 at e1 H3
  have e2 : mI ["Slow"] "lines_told" (.ref h.length) (.int 0) h3 = .ok .non (h3.set h.length (.ins "Slow" [("cells", .ref (h.length + 1)), ("lines_told", .int 0)])) := eB (H3.get (List.mem_cons_self ..)) (by decide) (by simp only [List.length_cons, List.length_nil]; omega)
  have H4 := H3.set (o' := .ins "Slow" [("cells", .ref (h.length + 1)), ("lines_told", .int 0)])
  generalize h3.set h.length (.ins "Slow" [("cells", .ref (h.length + 1)), ("lines_told", .int 0)]) = h4 at e2 H4
  have e3 : mI ["Slow"] "lines_put" (.ref h.length) (.int 0) h4 = .ok .non (h4.set h.length (.ins "Slow" [("cells", .ref (h.length + 1)), ("lines_told", .int 0), ("lines_put", .int 0)])) := eB (H4.get (List.mem_cons_self ..)) (by decide) (by simp only [List.length_cons, List.length_nil]; omega)
  have H5 := H4.set (o' := .ins "Slow" [("cells", .ref (h.length + 1)), ("lines_told", .int 0), ("lines_put", .int 0)])
  refine ⟨_, ?_, bG.tail (i := t) (o := SO.lst (ws.map .int)) (H5.perm (List.perm_middle (l₁ := [_, _])))⟩
  simp! only [jF, lP, g2, l1, e1, e2, e3]
def yd : DE := dB cW aj
def nv (ps : List Nat) : List (Nat × SO) := ps.map fun p => (p, SO.lst [])
theorem uf (acc : Nat) {m : Nat} {L : List (Nat × SO)} (n : Nat) : ∀ (lo : Nat) (h : Sh) (ps : List Nat) (y : Option HL.W), bG h ((acc, SO.lst (ps.map .ref)) :: (nv ps ++ L)) → ps.length + n < hW →
    ∃ (h' : Sh) (ps' : List Nat), jA (.fix (cz 0 m)) (bD 0) bQ yd acc (((List.range' lo n).map fun (k : Nat) => HL.W.int (0 + (k : Int)))) [y] h = .ok (.ref acc) h' ∧ bG h' ((acc, SO.lst (ps'.map .ref)) :: (nv ps' ++ L)) ∧ ps'.length = ps.length + n := by
  induction n with
  | zero => intro lo h ps y H _; exact ⟨h, ps, rfl, H, rfl⟩
  | succ n ih =>
    intro lo h ps y H hw
    have H1 := H.new (.lst [])
    have e4 : yd [some (.int (0 + (lo : Int)))] h = .ok (.ref h.length) (h ++ [SO.lst []]) := by
      unfold yd
      simp only [dB, aj, R.bind, cW, List.length_nil, Nat.zero_le, if_true, OR.fin]
    have g1 : (h ++ [SO.lst []])[acc]? = some (.lst (ps.map .ref)) := H1.get (List.mem_cons_of_mem _ (List.mem_cons_self ..))
    have lt : acc < (h ++ [SO.lst []]).length := H1.lt (List.mem_cons_of_mem _ (List.mem_cons_self ..))
    have H2 := (H1.perm (List.Perm.swap ..)).set (o' := .lst ((ps ++ [h.length]).map .ref))
    have H3 : bG ((h ++ [SO.lst []]).set acc (.lst ((ps ++ [h.length]).map .ref))) ((acc, SO.lst ((ps ++ [h.length]).map .ref)) :: (nv (ps ++ [h.length]) ++ L)) := by
      refine H2.perm (List.Perm.cons _ ?_)
      unfold nv
      rw [List.map_append, List.append_assoc]
      exact (List.perm_middle).symm
    obtain ⟨h', ps', e3, H4, l3⟩ := ih (lo + 1) _ (ps ++ [h.length]) (some (.int (0 + (lo : Int)))) H3 (by rw [List.length_append]; simp only [List.length_cons, List.length_nil]; omega)
    refine ⟨h', ps', ?_, H4, by rw [l3, List.length_append]; simp only [List.length_cons, List.length_nil]; omega⟩
    have lw : (ps.map HL.W.ref).length < hW := by rw [List.length_map]; omega
    rw [List.map_append] at e3
    show jA _ _ _ _ _ (HL.W.int (0 + (lo : Int)) :: _) _ _ = _
    rw [jA]
    simp only [bD, List.set_cons_zero, bQ, R.bind, if_true, e4, g1, lw, It.stays, lt, and_self, true_and]
    exact e3
theorem rn {cs : List Str} {f : Str} {o e : DE} {s : Sg} {h h1 h2 h3 : Sh} {v x : HL.W} (he : e s h = .ok v h1) (ho : o s h1 = .ok x h2) (hs : mI cs f x v h2 = .ok .non h3) : cB cs f o e s h = .nx s h3 := by
  unfold cB
  rw [he]
  simp only [R.bind]
  rw [ho]
  simp only [R.bind, hs]
theorem rZ {L : List (Nat × SO)} {s k : Nat} (hk : k = 1 ∨ k = 2 ∨ k = 4) (H : bG h L) : ∃ (h' : Sh) (r : Nat) (ps : List Nat), bO [.ref h.length, .ref s, .int k] (h ++ [.ins "Near" []]) = .ok .non h' ∧ bG h' ((h.length, SO.ins "Near" [("slow", .ref s), ("sets", .int k), ("rooms", .ref r)]) :: (r, SO.lst (ps.map .ref)) :: (nv ps ++ L)) ∧ ps.length = k := by
  have H1 := H.new (.ins "Near" [])
  generalize hn : h.length = n at H1
  generalize h ++ [SO.ins "Near" []] = h1 at H1
  have e1 := j5 (k : Int) h1
  have ei : AV (.int k) [.int 1, .int 2, .int 4] = true := by rcases hk with rfl | rfl | rfl <;> rfl
  have s1 : et (kS (lC (cP (dT (aC cf (aa (af 2) aj)))) (dT (aE jP (af 2) (dB hV (aa (dC (.int 1)) (aa (dC (.int 2)) (aa (dC (.int 4)) aj)))))))) (mX "NoSets" (aa (dC (.str "there are 1, 2 or 4 sets")) aj)) gq (aH 3 [.ref n, .ref s, .int k]) h1 = .nx [some (.ref n), some (.ref s), some (.int k)] (h1 ++ [.tup [.int 1, .int 2, .int 4]]) := by
    simp! only [e1, hV, show (0 + 1 + 1 + 1 ≤ hW) from by decide, jP, nS, kX, List.all_cons, List.all_nil, ei]
  have H2 := H1.app [.tup [.int 1, .int 2, .int 4]]
  generalize h1 ++ [SO.tup [.int 1, .int 2, .int 4]] = h2 at s1 H2
  have e2 : mI ["Near"] "slow" (.ref n) (.ref s) h2 = .ok .non (h2.set n (.ins "Near" [("slow", .ref s)])) := eB (H2.get (List.mem_cons_self ..)) (by decide) (by simp only [List.length_nil]; omega)
  have s2 : cB ["Near"] "slow" (af 0) (af 1) [some (.ref n), some (.ref s), some (.int k)] h2 = .nx [some (.ref n), some (.ref s), some (.int k)] (h2.set n (.ins "Near" [("slow", .ref s)])) := rn rfl rfl e2
  have H3 := H2.set (o' := .ins "Near" [("slow", .ref s)])
  generalize h2.set n (SO.ins "Near" [("slow", .ref s)]) = h3 at s2 H3
  have e3 : mI ["Near"] "sets" (.ref n) (.int k) h3 = .ok .non (h3.set n (.ins "Near" [("slow", .ref s), ("sets", .int k)])) := eB (H3.get (List.mem_cons_self ..)) (by decide) (by simp only [List.length_cons, List.length_nil]; omega)
  have s3 : cB ["Near"] "sets" (af 0) (af 2) [some (.ref n), some (.ref s), some (.int k)] h3 = .nx [some (.ref n), some (.ref s), some (.int k)] (h3.set n (.ins "Near" [("slow", .ref s), ("sets", .int k)])) := rn rfl rfl e3
  have H4 := H3.set (o' := .ins "Near" [("slow", .ref s), ("sets", .int k)])
  generalize h3.set n (SO.ins "Near" [("slow", .ref s), ("sets", .int k)]) = h4 at s3 H4
  have H5 := H4.new (.lst [])
  obtain ⟨h5, ps, e4, H6, l6⟩ := uf h4.length (m := k) k 0 (h4 ++ [.lst []]) [] none H5 (by
    have : (4 : Nat) < hW := by decide
    rw [List.length_nil]; omega)
  have er : cz 0 k = (List.range' 0 k).map fun (k : Nat) => HL.W.int (0 + (k : Int)) := by
    unfold cz; rw [List.range_eq_range']
  rw [← er] at e4
  have d1 : j9 (dI (af 2)) 1 [] (bD 0) bQ yd [some (.ref n), some (.ref s), some (.int k)] h4 = .ok (.ref h4.length) h5 :=
    p7 (m3 (m := k) (by omega) rfl) e4
  have H7 := H6.perm (List.perm_middle (l₁ := (h4.length, SO.lst (ps.map .ref)) :: nv ps) (a := (n, SO.ins "Near" [("slow", .ref s), ("sets", .int k)])) (l₂ := L))
  have e5 : mI ["Near"] "rooms" (.ref n) (.ref h4.length) h5 = .ok .non (h5.set n (.ins "Near" [("slow", .ref s), ("sets", .int k), ("rooms", .ref h4.length)])) := eB (H7.get (List.mem_cons_self ..)) (by decide) (by simp only [List.length_cons, List.length_nil]; omega)
  have s4 : cB ["Near"] "rooms" (af 0) (j9 (dI (af 2)) 1 [] (bD 0) bQ yd) [some (.ref n), some (.ref s), some (.int k)] h4 = .nx [some (.ref n), some (.ref s), some (.int k)] (h5.set n (.ins "Near" [("slow", .ref s), ("sets", .int k), ("rooms", .ref h4.length)])) := rn d1 rfl e5
  refine ⟨h5.set n (.ins "Near" [("slow", .ref s), ("sets", .int k), ("rooms", .ref h4.length)]), h4.length, ps, yx (s' := [some (.ref n), some (.ref s), some (.int k)]) rfl ?_, H7.set, by rw [l6]; exact Nat.zero_add _⟩
  unfold ft
  rw [ay s1]
  refine xr ?_
  rw [ay s2, ay s3]
  exact s4
end
end K47
namespace K47
open HL
open PySem (Str)
local macro_rules | `(tactic| simp! only [$ls,*]) => `(tactic| simp only [kS, lb, jJ, fnOf, aH, aI, aU, eL, aT, aR, et, gq, cB, gk, dB, aa, aj, af, dC, aE, mF, bA, aw, aC, cV, dT, cP, gh, lC, bQ, ig, fg, qa, bW, R.bind, OR.fin, bu, eN, eP, cj, ck, bp, oz, gX, dM, dP, List.map_cons, List.map_nil, List.length_cons, List.length_nil, List.cons_append, List.nil_append, List.replicate, List.getElem?_cons_zero, List.getElem?_cons_succ, List.set_cons_zero, List.set_cons_succ, Nat.reduceAdd, Nat.reduceSub, Nat.zero_add, if_true, if_false, Bool.not_true, Bool.not_false, Bool.false_eq_true, reduceIte, reduceCtorEq, decide_true, decide_false, Bool.and_true, Bool.and_self, $ls,*])
theorem se {t : It} {i : Nat} {b : DS} (I : Sg → Sh → Prop) (ht : ∀ h, t.stays h) : ∀ (xs : List HL.W), (∀ x ∈ xs, ∀ s h, I s h → ∃ s' h', b (s.set i (some x)) h = .nx s' h' ∧ I s' h') → ∀ s h, I s h → ∃ s' h', lh t (bD i) b xs s h = .nx s' h' ∧ I s' h'
  | [], _, s, h, H => ⟨s, h, rfl, H⟩
  | x :: xs, st, s, h, H => by
    obtain ⟨s1, h1, e, H1⟩ := st x (List.mem_cons_self ..) s h H
    obtain ⟨s2, h2, e2, H2⟩ := se I ht xs (fun y hy => st y (List.mem_cons_of_mem _ hy)) s1 h1 H1
    refine ⟨s2, h2, ?_, H2⟩
    rw [lh]
    simp only [bD, e, ht h1, if_true]
    exact e2
theorem u2 {i : DI} {g : DG} {b : DS} {s : Sg} {h h1 : Sh} {t : It} {c : C} (hi : i s h = .ok t h1) (hc : lh t g b t.items s h1 = c) : lg i g b s h = c := by
  unfold lg
  rw [hi]
  exact hc
theorem St.app {m : Co} {rs : List Rm} {F : List (Nat × SO)} {h : Sh} (S : St m rs F h) (l : Sh) : St m rs F (h ++ l) := bG.app S l
theorem St.fresh {m : Co} {rs : List Rm} {F : List (Nat × SO)} {h l : Sh} {t : Nat} {o : SO} (S : St m rs F h) (e : (h ++ l)[t]? = some o) (lt : h.length ≤ t) : St m rs ((t, o) :: F) (h ++ l) := by
  refine (bG.fresh S e lt).perm ?_
  refine (List.perm_middle (l₁ := m.objs)).symm.trans (List.Perm.append_left _ ?_)
  exact (List.Perm.swap ..).trans (List.Perm.cons _ List.perm_middle.symm)
theorem St.tail {m : Co} {rs : List Rm} {F : List (Nat × SO)} {h : Sh} {x : Nat × SO} (S : St m rs (x :: F) h) : St m rs F h :=
  bG.sub S (List.Sublist.append_left (List.Sublist.cons_cons _ (List.Sublist.append_left (List.sublist_cons_self _ _) _)) _)
theorem St.at {m : Co} {rs : List Rm} {F : List (Nat × SO)} {h : Sh} {t : Nat} {o : SO} (S : St m rs F h) (e : (t, o) ∈ F) : h[t]? = some o := bG.get S (List.mem_append_right _ (List.mem_cons_of_mem _ (List.mem_append_right _ e)))
structure aB (ns : List Int) (M p n s : Nat) (here : List Int) (h : Sh) (m : Co) (rs : List Rm) (F : List (Nat × SO)) : Prop where
  st : St m rs F h
  wf : WF m rs
  n : m.n = n
  s : m.s = s
  len : m.cells.length = M
  hl : here.length = M
  eq : ∀ k', aW m.cells rs m.k k' = dm here k'
theorem aB.at {ns : List Int} {M p n s : Nat} {here : List Int} {h : Sh} {m : Co} {rs : List Rm} {F : List (Nat × SO)} (I : aB ns M p n s here h m rs F) {a : Nat} {v : Int} (ha : a < M) (e : (aW m.cells rs m.k (a / 4))[a % 4]? = some v) : here[a]? = some v := by
  rw [I.eq, iT, if_pos (by omega), show 4 * (a / 4) + a % 4 = a by omega] at e
  exact e
theorem aB.kept {ns : List Int} {M p n s : Nat} {here : List Int} {h h' : Sh} {m m' : Co} {rs rs' : List Rm} {F : List (Nat × SO)} (I : aB ns M p n s here h m rs F) (K : lQ m rs m' rs') (S : St m' rs' F h') (L : ∀ k', aW m'.cells rs' m.k k' = aW m.cells rs m.k k') : aB ns M p n s here h' m' rs' F :=
  ⟨S, K.wf, K.n.trans I.n, K.s.trans I.s, K.cl.trans I.len, I.hl, fun k' => by rw [K.k, L]; exact I.eq k'⟩
theorem wY (i : Int) (h : Sh) : fQ [.int i, .int i] h = .ok (.bl true) h := by
  have e1 : iY gG [.int i, .ty "int"] h = .val (.bl true) := rfl
  have e2 : iY gG [.int i, .ty "bool"] h = .val (.bl false) := rfl
  simp! only [iK, e1, e2, jf, nJ]
structure Gp (ns : List Int) (M p n s : Nat) (here : List Int) (x : Str) (a : Nat) (w : Int) (v : HL.W) (h' : Sh) (m' : Co) (rs' : List Rm) (F : List (Nat × SO)) : Prop where
  inv : aB ns M p n s (if x = "put" then here.set a w else here) h' m' rs' F
  non : x = "put" ∨ x = "settle" → v = .non
  val : x = "get" ∨ x = "look" → ∃ i, v = .int i ∧ here[a]? = some i
theorem CJ {ns : List Int} {M p n s t : Nat} {here : List Int} {h : Sh} {m : Co} {rs : List Rm} {F : List (Nat × SO)} {x : Str} {a : Nat} {w : Int} (I : aB ns M p n s here h m rs F) (ht : (t, SO.tup [.str x, .int a, .int w]) ∈ F) (hx : x ∈ eU) (ha : a < M) :
    ∃ (v : HL.W) (h' : Sh) (m' : Co) (rs' : List Rm), iU [.ref n, .ref t] h = .ok v h' ∧ Gp ns M p n s here x a w v h' m' rs' F ∧ m'.k = m.k := by
  have g : cy h (.ref t) = some [.str x, .int a, .int w] := by
    have := I.st.at ht
    simp only [cy, bE, iy, this, Option.or]
  have a0 : qb [.str x, .int a, .int w] 0 = some (.str x) := rfl
  have a1 : qb [.str x, .int a, .int w] 1 = some (.int a) := rfl
  have a2 : qb [.str x, .int a, .int w] 2 = some (.int w) := rfl
  have ha' : a < m.cells.length := by rw [I.len]; exact ha
  have nr := Co.near I.st.core
  have f1 : bH mV "get" (.ref m.n) h = some b4 := aJ nr rfl
  have f2 : bH xb "put" (.ref m.n) h = some cL := aJ nr rfl
  have f3 : bH kf "cost" (.ref m.n) h = some bP := aJ nr rfl
  have f4 : bH kd "look" (.ref m.n) h = some bN := aJ nr rfl
  have f5 : bH qE "settle" (.ref m.n) h = some eR := aJ nr rfl
  have hx' : x = "get" ∨ x = "put" ∨ x = "cost" ∨ x = "look" ∨ x = "settle" := by
    simp only [eU, List.mem_cons, List.not_mem_nil, or_false] at hx
    rcases hx with h | h | h | h | h | h | h | h | h | h | h
    · exact .inl h
    · exact .inl h
    · exact .inl h
    · exact .inr (.inl h)
    · exact .inr (.inl h)
    · exact .inr (.inl h)
    · exact .inr (.inl h)
    · exact .inr (.inr (.inl h))
    · exact .inr (.inr (.inr (.inl h)))
    · exact .inr (.inr (.inr (.inl h)))
    · exact .inr (.inr (.inr (.inr h)))
  rw [← I.n]
  rcases hx' with rfl | rfl | rfl | rfl | rfl
  · obtain ⟨h', m', rs', v, e, S', K, ev, L⟩ := yt I.st I.wf ha'
    refine ⟨.int v, h', m', rs', cD rfl ?_, ⟨by rw [if_neg (by decide)]; rw [I.n]; exact I.kept K S' L, fun h => absurd h (by decide), fun _ => ⟨v, rfl, I.at ha ev⟩⟩, K.k⟩
    unfold dX
    simp! only [gW, g, a0, a1, a2, jf, nJ, f1, e]
  · obtain ⟨h', m', rs', e, S', K, L⟩ := Bv I.st I.wf w ha'
    refine ⟨.non, h', m', rs', cD rfl ?_, ⟨?_, fun _ => rfl, fun h => absurd h (by decide)⟩, K.k⟩
    · unfold dX
      simp! only [gW, g, a0, a1, a2, jf, nJ, f2, e, show decide (("put" : Str) = "get") = false from by decide]
    · rw [if_pos rfl, I.n]
      refine ⟨S', K.wf, K.n.trans I.n, K.s.trans I.s, K.cl.trans I.len, by rw [List.length_set]; exact I.hl, fun k' => ?_⟩
      rw [K.k, L, yv, I.eq]
  · obtain ⟨v, e, _⟩ := vF I.st I.wf ha'
    refine ⟨.int v, h, m, rs, cD rfl ?_, ⟨by rw [if_neg (by decide), I.n]; exact I, fun h => absurd h (by decide), fun h => absurd h (by decide)⟩, rfl⟩
    unfold dX
    simp! only [gW, g, a0, a1, a2, jf, nJ, f3, e, show decide (("cost" : Str) = "get") = false from by decide, show decide (("cost" : Str) = "put") = false from by decide]
  · obtain ⟨v, e, ev⟩ := vm I.st I.wf ha'
    refine ⟨.int v, h, m, rs, cD rfl ?_, ⟨by rw [if_neg (by decide), I.n]; exact I, fun h => absurd h (by decide), fun _ => ⟨v, rfl, I.at ha ev⟩⟩, rfl⟩
    unfold dX
    simp! only [gW, g, a0, a1, a2, jf, nJ, f4, e, show decide (("look" : Str) = "get") = false from by decide, show decide (("look" : Str) = "put") = false from by decide, show decide (("look" : Str) = "cost") = false from by decide]
  · obtain ⟨h', m', rs', e, S', K, L, _⟩ := vU I.st I.wf
    refine ⟨.non, h', m', rs', cD rfl ?_, ⟨by rw [if_neg (by decide), I.n]; exact I.kept K S' L, fun _ => rfl, fun h => absurd h (by decide)⟩, K.k⟩
    unfold dX
    simp! only [gW, g, a0, a1, a2, jf, nJ, f5, e, show decide (("settle" : Str) = "get") = false from by decide, show decide (("settle" : Str) = "put") = false from by decide, show decide (("settle" : Str) = "cost") = false from by decide, show decide (("settle" : Str) = "look") = false from by decide]
end K47
namespace K47
open HL
open PySem (Str)
local macro_rules | `(tactic| simp! only [$ls,*]) => `(tactic| simp only [kS, lb, jJ, fnOf, aH, aI, aU, eL, aT, aR, et, gq, cB, gk, dB, aa, aj, af, dC, aE, mF, bA, aw, aC, cV, dT, cP, gh, lC, bQ, ig, fg, qa, bW, R.bind, OR.fin, bu, eN, eP, cj, ck, bp, oz, gX, dM, dP, List.map_cons, List.map_nil, List.length_cons, List.length_nil, List.cons_append, List.nil_append, List.replicate, List.getElem?_cons_zero, List.getElem?_cons_succ, List.set_cons_zero, List.set_cons_succ, Nat.reduceAdd, Nat.reduceSub, Nat.zero_add, if_true, if_false, Bool.not_true, Bool.not_false, Bool.false_eq_true, reduceIte, reduceCtorEq, decide_true, decide_false, Bool.and_true, Bool.and_self, $ls,*])
theorem fR {f : Fn} {as : DA} {s : Sg} {h h1 : Sh} {xs : List HL.W} {r : R HL.W} (ha : as s h = .ok xs h1) (hf : f xs h1 = r) : aC f as s h = r := by
  unfold aC
  rw [ha]
  exact hf
theorem mx {i : Nat} {e : DE} {s : Sg} {h h' : Sh} {v : HL.W} (x : e s h = .ok v h') : aT i e s h = .nx (s.set i (some v)) h' := by
  unfold aT
  rw [x]
theorem vE {c : Str} {f : Fn} {as : DA} {s : Sg} {h h1 h2 : Sh} {xs : List HL.W} (ha : as s h = .ok xs h1) (hf : f (.ref h1.length :: xs) (h1 ++ [.ins c []]) = .ok .non h2) : cV c f [] as s h = .ok (.ref h1.length) h2 := by
  unfold cV
  rw [ha]
  simp only [R.bind, List.append_nil, hf, if_true]
mutual
def Tv (L : List (Nat × SO)) : D → W → Prop
  | .int i, w => w = .int i
  | .bl b, w => w = .bl b
  | .tup ds, w => ∃ p ws, w = .ref p ∧ (p, SO.tup ws) ∈ L ∧ Tvs L ds ws
  | .non, _ => False
  | .str _, _ => False
  | .lst _, _ => False
def Tvs (L : List (Nat × SO)) : List D → List W → Prop
  | [], ws => ws = []
  | d :: ds, ws => ∃ w r, ws = w :: r ∧ Tv L d w ∧ Tvs L ds r
end
mutual
def dp : D → Nat
  | .int _ => 0
  | .bl _ => 0
  | .tup ds => 1 + dps ds
  | .non => 0
  | .str _ => 0
  | .lst _ => 0
def dps : List D → Nat
  | [] => 0
  | d :: ds => max (dp d) (dps ds)
end
mutual
theorem Tv.mono {L L' : List (Nat × SO)} (h : ∀ p ws, (p, SO.tup ws) ∈ L → (p, SO.tup ws) ∈ L') : ∀ (d : D) (w : W), Tv L d w → Tv L' d w
  | .int i, w, x => by unfold Tv at x ⊢; exact x
  | .bl b, w, x => by unfold Tv at x ⊢; exact x
  | .tup ds, w, x => by
    unfold Tv at x ⊢
    obtain ⟨p, ws, e, m, t⟩ := x
    exact ⟨p, ws, e, h p ws m, Tvs.mono h ds ws t⟩
  | .non, _, x => by unfold Tv at x; exact x.elim
  | .str _, _, x => by unfold Tv at x; exact x.elim
  | .lst _, _, x => by unfold Tv at x; exact x.elim
theorem Tvs.mono {L L' : List (Nat × SO)} (h : ∀ p ws, (p, SO.tup ws) ∈ L → (p, SO.tup ws) ∈ L') : ∀ (ds : List D) (ws : List W), Tvs L ds ws → Tvs L' ds ws
  | [], ws, x => by unfold Tvs at x ⊢; exact x
  | d :: ds, ws, x => by
    unfold Tvs at x ⊢
    obtain ⟨w, r, e, a, b⟩ := x
    exact ⟨w, r, e, Tv.mono h d w a, Tvs.mono h ds r b⟩
end
mutual
theorem Tv.dat {L : List (Nat × SO)} {h : Sh} (H : bG h L) : ∀ (d : D) (w : W) (n : Nat), Tv L d w → dp d ≤ n → dat n h w = some d
  | .int i, w, n, x, _ => by unfold Tv at x; subst x; cases n <;> rfl
  | .bl b, w, n, x, _ => by unfold Tv at x; subst x; cases n <;> rfl
  | .tup ds, w, n, x, hn => by
    unfold Tv at x
    obtain ⟨p, ws, rfl, m, t⟩ := x
    unfold dp at hn
    obtain ⟨k, rfl⟩ : ∃ k, n = k + 1 := ⟨n - 1, by omega⟩
    have g := H.get m
    show (match h[p]? with
      | some (.lst xs) => (du (HL.dat k h) xs).map D.lst
      | some (.rol xs) => (du (HL.dat k h) xs).map D.lst
      | some (.tup xs) => (du (HL.dat k h) xs).map D.tup
      | _ => none) = _
    rw [g]
    show (du (HL.dat k h) ws).map D.tup = _
    rw [Tvs.dat H ds ws k t (by omega)]; rfl
  | .non, _, _, x, _ => by unfold Tv at x; exact x.elim
  | .str _, _, _, x, _ => by unfold Tv at x; exact x.elim
  | .lst _, _, _, x, _ => by unfold Tv at x; exact x.elim
theorem Tvs.dat {L : List (Nat × SO)} {h : Sh} (H : bG h L) : ∀ (ds : List D) (ws : List W) (n : Nat), Tvs L ds ws → dps ds ≤ n → du (HL.dat n h) ws = some ds
  | [], ws, n, x, _ => by unfold Tvs at x; subst x; rfl
  | d :: ds, ws, n, x, hn => by
    unfold Tvs at x
    obtain ⟨w, r, rfl, a, b⟩ := x
    unfold dps at hn
    simp only [du, Tv.dat H d w n a (by omega), Tvs.dat H ds r n b (by omega), Option.bind_some, Option.map_some]
end
mutual
theorem EL : ∀ d : D, D.eq d d = true
  | .int i => by simp only [D.eq, beq_self_eq_true]
  | .bl b => by simp only [D.eq, beq_self_eq_true]
  | .str b => by simp only [D.eq, beq_self_eq_true]
  | .non => by simp only [D.eq]
  | .tup ds => by simp only [D.eq]; exact deqs ds
  | .lst ds => by simp only [D.eq]; exact deqs ds
theorem deqs : ∀ ds : List D, D.eqs ds ds = true
  | [] => by simp only [D.eqs, List.isEmpty_nil]
  | d :: ds => by simp only [D.eqs, EL d, deqs ds, Bool.and_self]
end
theorem Tvs.len {L : List (Nat × SO)} : ∀ {ds : List D} {ws : List W}, Tvs L ds ws → ws.length = ds.length
  | [], ws, x => by unfold Tvs at x; subst x; rfl
  | d :: ds, ws, x => by
    unfold Tvs at x
    obtain ⟨w, r, rfl, a, b⟩ := x
    rw [List.length_cons, List.length_cons, Tvs.len b]
theorem Tvs.get {L : List (Nat × SO)} : ∀ {ds : List D} {ws : List W} (i : Nat) {d : D}, Tvs L ds ws → ds[i]? = some d → ∃ w, ws[i]? = some w ∧ Tv L d w
  | [], ws, i, d, x, e => by cases e
  | d :: ds, ws, 0, d', x, e => by
    unfold Tvs at x
    obtain ⟨w, r, rfl, a, b⟩ := x
    cases e
    exact ⟨w, rfl, a⟩
  | d :: ds, ws, i + 1, d', x, e => by
    unfold Tvs at x
    obtain ⟨w, r, rfl, a, b⟩ := x
    exact Tvs.get i b e
theorem Tvs.snoc {L : List (Nat × SO)} {d : D} {w : W} (hd : Tv L d w) : ∀ {ds : List D} {ws : List W}, Tvs L ds ws → Tvs L (ds ++ [d]) (ws ++ [w])
  | [], ws, x => by
    unfold Tvs at x; subst x
    show Tvs L [d] [w]
    unfold Tvs
    exact ⟨w, [], rfl, hd, by unfold Tvs; rfl⟩
  | d' :: ds, ws, x => by
    unfold Tvs at x
    obtain ⟨w', r, rfl, a, b⟩ := x
    show Tvs L (d' :: (ds ++ [d])) (w' :: (r ++ [w]))
    unfold Tvs
    exact ⟨w', _, rfl, a, Tvs.snoc hd b⟩
theorem Tvs.ints {L : List (Nat × SO)} : ∀ ns : List Int, Tvs L (ns.map .int) (ns.map .int)
  | [] => by unfold Tvs; rfl
  | n :: ns => by
    rw [List.map_cons, List.map_cons]
    unfold Tvs
    exact ⟨_, _, rfl, by unfold Tv; rfl, Tvs.ints ns⟩
theorem Ao {t : It} {e : DE} {acc : Nat} {cs : Sg} {B : List (Nat × SO)} (stay : ∀ h L, bG h (L ++ B) → t.stays h) : ∀ (xs : List W) (ds : List D),
    (∀ (i : Nat) (x : W) (d : D), xs[i]? = some x → ds[i]? = some d → ∀ (h : Sh) (L : List (Nat × SO)), bG h (L ++ B) → ∃ (v : W) (h1 : Sh) (L1 : List (Nat × SO)), e (some x :: cs) h = .ok v h1 ∧ bG h1 (L1 ++ (L ++ B)) ∧ Tv (L1 ++ (L ++ B)) d v) → xs.length = ds.length →
    ∀ (h : Sh) (L : List (Nat × SO)) (ys : List W) (es : List D) (y : Option W), bG h ((acc, SO.lst ys) :: (L ++ B)) → Tvs (L ++ B) es ys → ys.length + xs.length < hW →
    ∃ (h' : Sh) (L' : List (Nat × SO)) (ys' : List W), jA t (bD 0) bQ e acc xs (y :: cs) h = .ok (.ref acc) h' ∧ bG h' ((acc, SO.lst ys') :: (L' ++ (L ++ B))) ∧ Tvs (L' ++ (L ++ B)) (es ++ ds) ys' := by
  intro xs
  induction xs with
  | nil =>
    intro ds _ hl h L ys es y H T _
    have : ds = [] := List.eq_nil_of_length_eq_zero hl.symm
    subst this
    exact ⟨h, [], ys, rfl, H, by rw [List.append_nil]; exact T⟩
  | cons x xs ih =>
    intro ds st hl h L ys es y H T lim
    match ds, hl with
    | d :: ds, hl =>
      obtain ⟨v, h1, L1, e1, H1, t1⟩ := st 0 x d rfl rfl h ((acc, SO.lst ys) :: L) H
      have g1 : h1[acc]? = some (.lst ys) := H1.get (List.mem_append_right _ (List.mem_cons_self ..))
      have lt : acc < h1.length := H1.lt (List.mem_append_right _ (List.mem_cons_self ..))
      have H2 : bG (h1.set acc (.lst (ys ++ [v]))) ((acc, SO.lst (ys ++ [v])) :: ((L1 ++ L) ++ B)) := by
        have := (H1.perm (List.perm_middle)).set (o' := .lst (ys ++ [v]))
        rw [List.append_assoc]; exact this
      have T2 : Tvs ((L1 ++ L) ++ B) (es ++ [d]) (ys ++ [v]) := by
        refine Tvs.snoc ?_ (Tvs.mono (fun p ws m => by rw [List.append_assoc]; exact List.mem_append_right _ m) _ _ T)
        refine Tv.mono (fun p ws m => ?_) _ _ t1
        rw [List.append_assoc]
        rcases List.mem_append.mp m with m | m
        · exact List.mem_append_left _ m
        · rcases List.mem_cons.mp m with m | m
          · cases m
          · exact List.mem_append_right _ m
      have lw : ys.length < hW := by rw [List.length_cons] at lim; omega
      obtain ⟨h', L', ys', e2, H3, T3⟩ := ih ds (fun i x' d' hx hd => st (i + 1) x' d' hx hd) (by simpa using hl) _ (L1 ++ L) (ys ++ [v]) (es ++ [d]) (some x) H2 T2 (by rw [List.length_append]; rw [List.length_cons] at lim; simp only [List.length_cons, List.length_nil]; omega)
      refine ⟨h', L' ++ L1, ys', ?_, ?_, ?_⟩
      · rw [jA]
        have sty : t.stays h1 := stay h1 (L1 ++ ((acc, SO.lst ys) :: L)) (by rw [List.append_assoc]; exact H1)
        simp only [bD, List.set_cons_zero, bQ, R.bind, if_true, e1, g1, lw, sty, lt, and_self, true_and]
        exact e2
      · have : (L' ++ L1) ++ (L ++ B) = L' ++ ((L1 ++ L) ++ B) := by simp only [List.append_assoc]
        rw [this]; exact H3
      · have : (L' ++ L1) ++ (L ++ B) = L' ++ ((L1 ++ L) ++ B) := by simp only [List.append_assoc]
        rw [this, show es ++ d :: ds = (es ++ [d]) ++ ds by simp only [List.append_assoc, List.cons_append, List.nil_append]]; exact T3
end K47
namespace K47
open HL
open PySem (Str)
local macro_rules | `(tactic| simp! only [$ls,*]) => `(tactic| simp only [kS, lb, jJ, fnOf, aH, aI, aU, eL, aT, aR, et, gq, cB, gk, dB, aa, aj, af, dC, aE, mF, bA, aw, aC, cV, dT, cP, gh, lC, bQ, ig, fg, qa, bW, R.bind, OR.fin, bu, eN, eP, cj, ck, bp, oz, gX, dM, dP, List.map_cons, List.map_nil, List.length_cons, List.length_nil, List.cons_append, List.nil_append, List.replicate, List.getElem?_cons_zero, List.getElem?_cons_succ, List.set_cons_zero, List.set_cons_succ, Nat.reduceAdd, Nat.reduceSub, Nat.zero_add, if_true, if_false, Bool.not_true, Bool.not_false, Bool.false_eq_true, reduceIte, reduceCtorEq, decide_true, decide_false, Bool.and_true, Bool.and_self, $ls,*])
theorem Bm {h : Sh} {i : Nat} {xs : List W} (g : h[i]? = some (.lst xs)) : cy h (.ref i) = some xs := by simp only [cy, bE, g, Option.or]
theorem tx {a : DE} {s : Sg} {h h1 : Sh} {i : Nat} {xs : List W} (e : a s h = .ok (.ref i) h1) (g : h1[i]? = some (.lst xs)) : lJ a s h = .ok (.lst i xs) h1 := by
  unfold lJ
  rw [e]
  simp only [R.bind, bE, g]
theorem sI {i : DI} {js : List Nat} {e : DE} {s cs : Sg} {h : Sh} {t : It} {B L : List (Nat × SO)} {ds : List D} (hi : i s h = .ok t h) (hc : sh 1 js s = none :: cs) (stay : ∀ h L, bG h (L ++ B) → t.stays h)
    (st : ∀ (i : Nat) (x : W) (d : D), t.items[i]? = some x → ds[i]? = some d → ∀ (h : Sh) (L : List (Nat × SO)), bG h (L ++ B) → ∃ (v : W) (h1 : Sh) (L1 : List (Nat × SO)), e (some x :: cs) h = .ok v h1 ∧ bG h1 (L1 ++ (L ++ B)) ∧ Tv (L1 ++ (L ++ B)) d v) (hl : t.items.length = ds.length) (lim : t.items.length < hW) (H : bG h (L ++ B)) :
    ∃ (v : W) (h1 : Sh) (L1 : List (Nat × SO)), dB gD (aa (j9 i 1 js (bD 0) bQ e) aj) s h = .ok v h1 ∧ bG h1 (L1 ++ (L ++ B)) ∧ Tv (L1 ++ (L ++ B)) (.tup ds) v := by
  obtain ⟨h', L', ys, e1, H1, T1⟩ := Ao stay t.items ds st hl (h ++ [.lst []]) L [] [] none (H.new (.lst [])) (by unfold Tvs; rfl) (by simpa using lim)
  have c1 : j9 i 1 js (bD 0) bQ e s h = .ok (.ref h.length) h' := p7 hi (by rw [hc]; exact e1)
  have g : h'[h.length]? = some (.lst ys) := H1.get (List.mem_cons_self ..)
  refine ⟨.ref h'.length, h' ++ [.tup ys], (h'.length, SO.tup ys) :: (h.length, SO.lst ys) :: L', ?_, H1.new _, ?_⟩
  · simp only [dB, aa, aj, c1, R.bind, gD, bE, g, OR.fin]
  · unfold Tv
    refine ⟨_, ys, rfl, List.mem_cons_self .., Tvs.mono (fun p ws m => List.mem_cons_of_mem _ (List.mem_cons_of_mem _ m)) _ _ T1⟩
def pV (l : Ln) : D := .tup [.int l.n, .tup (l.ws.map .int), .bl l.ch]
def pC (r : Rm) : D := .tup (r.ls.map pV)
def p3 (rs : List Rm) : D := .tup (rs.map pC)
theorem zd {l : Ln} {B L : List (Nat × SO)} {h : Sh} (hB : ∀ x ∈ l.objs, x ∈ B) (H : bG h (L ++ B)) : ∃ (v : W) (h1 : Sh) (L1 : List (Nat × SO)), hE [.ref l.p] h = .ok v h1 ∧ bG h1 (L1 ++ (L ++ B)) ∧ Tv (L1 ++ (L ++ B)) (pV l) v := by
  have g1 : h[l.p]? = some (.ins "Line" [("number", .int l.n), ("words", .ref l.q), ("changed", .bl l.ch)]) := H.get (List.mem_append_right _ (hB _ (List.mem_cons_self ..)))
  have g2 : h[l.q]? = some (.lst (l.ws.map .int)) := H.get (List.mem_append_right _ (hB _ (List.mem_cons_of_mem _ (List.mem_cons_self ..))))
  have e1 : eF ["Line"] "number" (.ref l.p) h = some (.int l.n) := aX g1 (by decide) rfl
  have e2 : eF ["Line"] "words" (.ref l.p) h = some (.ref l.q) := aX g1 (by decide) rfl
  have H1 := H.new (.tup (l.ws.map .int))
  have g3 : (h ++ [SO.tup (l.ws.map .int)])[l.p]? = some (.ins "Line" [("number", .int l.n), ("words", .ref l.q), ("changed", .bl l.ch)]) := H1.get (List.mem_cons_of_mem _ (List.mem_append_right _ (hB _ (List.mem_cons_self ..))))
  have e3 : eF ["Line"] "changed" (.ref l.p) (h ++ [SO.tup (l.ws.map .int)]) = some (.bl l.ch) := aX g3 (by decide) rfl
  have H2 := H1.new (.tup [.int l.n, .ref h.length, .bl l.ch])
  refine ⟨.ref (h ++ [SO.tup (l.ws.map .int)]).length, h ++ [SO.tup (l.ws.map .int)] ++ [.tup [.int l.n, .ref h.length, .bl l.ch]], [((h ++ [SO.tup (l.ws.map .int)]).length, SO.tup [.int l.n, .ref h.length, .bl l.ch]), (h.length, SO.tup (l.ws.map .int))], cD rfl ?_, H2, ?_⟩
  · unfold jH
    simp! only [e1, e2, gD, bE, g2, e3, hV, show (0 + 1 + 1 + 1 ≤ hW) from by decide]
  · unfold pV Tv
    refine ⟨_, _, rfl, List.mem_cons_self .., ?_⟩
    unfold Tvs
    refine ⟨_, _, rfl, by unfold Tv; rfl, ?_⟩
    unfold Tvs
    refine ⟨_, _, rfl, ?_, ?_⟩
    · unfold Tv
      exact ⟨_, _, rfl, List.mem_cons_of_mem _ (List.mem_cons_self ..), Tvs.ints _⟩
    · unfold Tvs
      exact ⟨_, _, rfl, by unfold Tv; rfl, by unfold Tvs; rfl⟩
theorem qv {r : Rm} {B L : List (Nat × SO)} {h : Sh} (hB : ∀ x ∈ r.objs, x ∈ B) (h2 : r.ls.length ≤ 2) (H : bG h (L ++ B)) : ∃ (v : W) (h1 : Sh) (L1 : List (Nat × SO)), fO [.ref r.p] h = .ok v h1 ∧ bG h1 (L1 ++ (L ++ B)) ∧ Tv (L1 ++ (L ++ B)) (pC r) v := by
  have rB : (r.p, SO.lst (r.ls.map fun (l : Ln) => W.ref l.p)) ∈ B := hB _ (List.mem_cons_self ..)
  have lB : ∀ l ∈ r.ls, ∀ x ∈ l.objs, x ∈ B := fun l hl x hx => hB _ (List.mem_cons_of_mem _ (List.mem_flatMap.mpr ⟨l, hl, hx⟩))
  have g : h[r.p]? = some (.lst (r.ls.map fun (l : Ln) => W.ref l.p)) := H.get (List.mem_append_right _ rB)
  have lim : (2 : Nat) < hW := by decide
  obtain ⟨v, h1, L1, e, H1, T1⟩ := sI (i := lJ (af 0)) (js := []) (e := aw qT "told" (af 0) aj) (s := aH 1 [.ref r.p]) (cs := []) (t := .lst r.p (r.ls.map fun (l : Ln) => W.ref l.p)) (ds := r.ls.map pV) (B := B) (L := L) (h := h) (tx rfl g) rfl
    (fun h L H => by have := H.get (List.mem_append_right L rB); simp only [It.stays, bE, this])
    (fun i x d hx hd h L H => by
      have hx : (r.ls.map fun (l : Ln) => W.ref l.p)[i]? = some x := hx
      rw [List.getElem?_map] at hx hd
      cases el : r.ls[i]? with
      | none => rw [el] at hx; cases hx
      | some l =>
        rw [el] at hx hd
        cases hx; cases hd
        have ml := List.mem_of_getElem? el
        obtain ⟨v, h1, L1, e, H1, T⟩ := zd (lB l ml) H
        have f : bH qT "told" (.ref l.p) h = some hE := aJ (H.get (List.mem_append_right _ (lB l ml _ (List.mem_cons_self ..)))) rfl
        refine ⟨v, h1, L1, ?_, H1, T⟩
        simp only [aw, aj, af, List.getElem?_cons_zero, R.bind, f, e])
    (by simp only [It.items, List.length_map]) (by simp only [It.items, List.length_map]; omega) H
  exact ⟨v, h1, L1, cD rfl (kl e), H1, T1⟩
section
variable {h : Sh} {F : List (Nat × SO)} {m : Co} {rs : List Rm}
theorem zZ (S : St m rs F h) (W : WF m rs) (k4 : m.k ≤ 4) : ∃ (v : HL.W) (h1 : Sh) (L1 : List (Nat × SO)), g9 [.ref m.n] h = .ok v h1 ∧ St m rs (L1 ++ F) h1 ∧ Tv (L1 ++ F) (p3 rs) v := by
  have rB : (m.r, SO.lst ((rs.map Rm.p).map .ref)) ∈ m.objs ++ ((m.r, SO.lst ((rs.map Rm.p).map .ref)) :: (rs.flatMap Rm.objs ++ F)) := List.mem_append_right _ (List.mem_cons_self ..)
  have e1 : eF ["Near"] "rooms" (.ref m.n) h = some (.ref m.r) := aX (Co.near S.core) (by decide) rfl
  have g : h[m.r]? = some (.lst ((rs.map Rm.p).map .ref)) := S.core.get rB
  have lim : (4 : Nat) < hW := by decide
  have len := W.len
  obtain ⟨v, h1, L1, e, H1, T1⟩ := sI (i := lJ (bA ["Near"] "rooms" (af 0))) (js := []) (e := aC fO (aa (af 0) aj)) (s := aH 1 [.ref m.n]) (cs := []) (t := .lst m.r ((rs.map Rm.p).map .ref)) (ds := rs.map pC) (B := m.objs ++ ((m.r, SO.lst ((rs.map Rm.p).map .ref)) :: (rs.flatMap Rm.objs ++ F))) (L := []) (h := h)
    (tx (by simp only [bA, af, aH, List.map_cons, List.map_nil, List.cons_append, List.nil_append, List.getElem?_cons_zero, R.bind, e1]) g) rfl
    (fun h L H => by have := H.get (List.mem_append_right L rB); simp only [It.stays, bE, this])
    (fun i x d hx hd h L H => by
      have hx : ((rs.map Rm.p).map HL.W.ref)[i]? = some x := hx
      rw [List.getElem?_map, List.getElem?_map] at hx
      rw [List.getElem?_map] at hd
      cases el : rs[i]? with
      | none => rw [el] at hx; cases hx
      | some r =>
        rw [el] at hx hd
        cases hx; cases hd
        obtain ⟨v, h1, L1, e, H1, T⟩ := qv (r := r) (fun x hx => List.mem_append_right _ (List.mem_cons_of_mem _ (List.mem_append_left _ (List.mem_flatMap.mpr ⟨r, List.mem_of_getElem? el, hx⟩)))) (W.ok _ _ el).two H
        refine ⟨v, h1, L1, ?_, H1, T⟩
        simp only [aC, aa, aj, af, List.getElem?_cons_zero, R.bind, e])
    (by simp only [It.items, List.length_map]) (by simp only [It.items, List.length_map]; omega) (by rw [List.nil_append]; exact S)
  rw [List.nil_append] at H1 T1
  refine ⟨v, h1, L1, cD rfl (kl e), ?_, ?_⟩
  · refine bG.perm H1 ?_
    refine List.perm_append_comm_assoc L1 m.objs _ |>.trans (List.Perm.append_left _ ?_)
    refine List.perm_middle.trans (List.Perm.cons _ ?_)
    exact List.perm_append_comm_assoc L1 _ _
  · refine Tv.mono (fun p ws mm => ?_) _ _ T1
    have noT : ∀ {p : Nat} {ws : List HL.W}, (p, SO.tup ws) ∈ m.objs ++ ((m.r, SO.lst ((rs.map Rm.p).map .ref)) :: (rs.flatMap Rm.objs ++ F)) → (p, SO.tup ws) ∈ F := by
      intro p ws mm
      rcases List.mem_append.mp mm with mm | mm
      · simp only [Co.objs, List.mem_cons, List.not_mem_nil, or_false] at mm
        rcases mm with mm | mm | mm <;> cases mm
      · rcases List.mem_cons.mp mm with mm | mm
        · cases mm
        · rcases List.mem_append.mp mm with mm | mm
          · obtain ⟨r, _, hr⟩ := List.mem_flatMap.mp mm
            rcases List.mem_cons.mp hr with hr | hr
            · cases hr
            · obtain ⟨l, _, hl⟩ := List.mem_flatMap.mp hr
              simp only [Ln.objs, List.mem_cons, List.not_mem_nil, or_false] at hl
              rcases hl with hl | hl <;> cases hl
          · exact mm
    rcases List.mem_append.mp mm with mm | mm
    · exact List.mem_append_left _ mm
    · exact List.mem_append_right _ (noT mm)
end
end K47
namespace K47
open HL
open PySem (Str)
local macro_rules | `(tactic| simp! only [$ls,*]) => `(tactic| simp only [kS, lb, jJ, fnOf, aH, aI, aU, eL, aT, aR, et, gq, cB, gk, dB, aa, aj, af, dC, aE, mF, bA, aw, aC, cV, dT, cP, gh, lC, bQ, ig, fg, qa, bW, R.bind, OR.fin, bu, eN, eP, cj, ck, bp, oz, gX, dM, dP, List.map_cons, List.map_nil, List.length_cons, List.length_nil, List.cons_append, List.nil_append, List.replicate, List.getElem?_cons_zero, List.getElem?_cons_succ, List.set_cons_zero, List.set_cons_succ, Nat.reduceAdd, Nat.reduceSub, Nat.zero_add, if_true, if_false, Bool.not_true, Bool.not_false, Bool.false_eq_true, reduceIte, reduceCtorEq, decide_true, decide_false, Bool.and_true, Bool.and_self, $ls,*])
section
variable {B : List (Nat × SO)}
theorem uT {ds : List D} {u : W} (T : Tv B (.tup ds) u) : ∃ z ws, u = .ref z ∧ (z, SO.tup ws) ∈ B ∧ Tvs B ds ws := by
  unfold Tv at T
  exact T
end
end K47
namespace K47
open HL
open PySem (Str)
local macro_rules | `(tactic| simp! only [$ls,*]) => `(tactic| simp only [kS, lb, jJ, fnOf, aH, aI, aU, eL, aT, aR, et, gq, cB, gk, dB, aa, aj, af, dC, aE, mF, bA, aw, aC, cV, dT, cP, gh, lC, bQ, ig, fg, qa, bW, R.bind, OR.fin, bu, eN, eP, cj, ck, bp, oz, gX, dM, dP, List.map_cons, List.map_nil, List.length_cons, List.length_nil, List.cons_append, List.nil_append, List.replicate, List.getElem?_cons_zero, List.getElem?_cons_succ, List.set_cons_zero, List.set_cons_succ, Nat.reduceAdd, Nat.reduceSub, Nat.zero_add, if_true, if_false, Bool.not_true, Bool.not_false, Bool.false_eq_true, reduceIte, reduceCtorEq, decide_true, decide_false, Bool.and_true, Bool.and_self, $ls,*])
theorem St.tvUp {m : Co} {rs : List Rm} {F : List (Nat × SO)} {d : D} {w : W} (T : Tv F d w) : Tv (m.objs ++ ((m.r, SO.lst ((rs.map Rm.p).map .ref)) :: (rs.flatMap Rm.objs ++ F))) d w :=
  Tv.mono (fun p ws m => List.mem_append_right _ (List.mem_cons_of_mem _ (List.mem_append_right _ m))) _ _ T
theorem pe {α : Type} (f : α → D) (n : Nat) (hf : ∀ x, dp (f x) ≤ n) : ∀ xs : List α, dps (xs.map f) ≤ n
  | [] => Nat.zero_le _
  | x :: xs => by
    rw [List.map_cons]
    unfold dps
    exact Nat.max_le.mpr ⟨hf x, pe f n hf xs⟩
theorem Ai (rs : List Rm) : dp (p3 rs) ≤ o5 := by
  have a : ∀ ns : List Int, dps (ns.map D.int) ≤ 0 := pe _ 0 fun x => by unfold dp; exact Nat.le_refl _
  have b : ∀ l : Ln, dp (pV l) ≤ 2 := fun l => by
    have := a l.ws
    simp only [pV, dp, dps]; omega
  have c : ∀ r : Rm, dp (pC r) ≤ 3 := fun r => by
    have := pe pV 2 b r.ls
    simp only [pC, dp]; omega
  have := pe pC 3 c rs
  show dp (p3 rs) ≤ 8
  simp only [p3, dp]; omega
theorem Ee {L : List (Nat × SO)} {h : Sh} {ds : List D} {w v : W} (H : bG h L) (a : Tv L (.tup ds) w) (b : Tv L (.tup ds) v) (hd : dp (.tup ds) ≤ o5) : nJ w v h = some true := by
  have e1 := Tv.dat H _ _ o5 a hd
  have e2 := Tv.dat H _ _ o5 b hd
  obtain ⟨p, ws, rfl, _, _⟩ := uT a
  obtain ⟨q, us, rfl, _, _⟩ := uT b
  simp only [nJ, e1, e2, EL]
theorem p6 {f : O2} {a b : DE} {s : Sg} {h h1 h2 : Sh} {x y v : HL.W} (ha : a s h = .ok x h1) (hb : b s h1 = .ok y h2) (hf : f x y h2 = .val v) : aE f a b s h = .ok v h2 := by
  unfold aE
  rw [ha]
  simp only [R.bind]
  rw [hb]
  simp only [R.bind, hf, OR.fin]
theorem iX {tb : List (Str × Fn)} {mn : Str} {o : DE} {as : DA} {s : Sg} {h h1 h2 : Sh} {x : W} {xs : List W} {f : Fn} {r : R W} (ho : o s h = .ok x h1) (hf : bH tb mn x h1 = some f) (ha : as s h1 = .ok xs h2) (hr : f (x :: xs) h2 = r) : aw tb mn o as s h = r := by
  unfold aw
  rw [ho]
  simp only [R.bind, hf]
  rw [ha]
  exact hr
theorem AY {a : DE} {s : Sg} {h h' : Sh} {b : Bool} (e : a s h = .ok (.bl b) h') : dT a s h = .ok b h' := by
  unfold dT
  rw [e]
  rfl
theorem Dg {a b : DT} {s : Sg} {h h' : Sh} {r : R Bool} (e : a s h = .ok false h') (e2 : b s h' = r) : lC a b s h = r := by
  unfold lC
  rw [e]
  exact e2
theorem ud {c : DT} {a : DS} {s : Sg} {h h' : Sh} (e : c s h = .ok false h') : et c a gq s h = .nx s h' := by
  unfold et
  rw [e]
  rfl
theorem xu {e : DE} {s : Sg} {h h' : Sh} {v : HL.W} (x : e s h = .ok v h') : aR e s h = .nx s h' := by
  unfold aR
  rw [x]
theorem CK {a b : DE} {s : Sg} {h h1 : Sh} {r : R HL.W} (ha : a s h = .ok (.bl true) h1) (hb : b s h1 = r) : fg a b s h = r := by
  unfold fg
  rw [ha]
  simp only [R.bind, if_true]
  exact hb
section
variable {m : Co} {rs : List Rm} {F : List (Nat × SO)} {h : Sh} {s : Sg}
theorem yq {i : Nat} (S : St m rs F h) (W : WF m rs) (k4 : m.k ≤ 4) (hs : s[i]? = some (some (.ref m.n))) : ∃ (v : HL.W) (h1 : Sh) (N : List (Nat × SO)), aw ke "held" (af i) aj s h = .ok v h1 ∧ St m rs (N ++ F) h1 ∧ Tv (N ++ F) (p3 rs) v := by
  obtain ⟨v, h1, N, e, S1, T⟩ := zZ S W k4
  have f1 : bH ke "held" (.ref m.n) h = some g9 := aJ (Co.near S.core) rfl
  exact ⟨v, h1, N, iX (xs := []) (by simp only [af, hs]) f1 rfl e, S1, T⟩
end
theorem AQ {x y : W} {h : Sh} (e : nJ x y h = some true) : td x y h = .val (.bl false) := by simp only [td, e, Bool.not_true]
theorem D2 {x y : W} {h : Sh} (e : nJ x y h = some true) : jf x y h = .val (.bl true) := by simp only [jf, e]
section
variable {ns : List Int} {M p nn sp : Nat} {here : List Int}
theorem aB.more {h h' : Sh} {m : Co} {rs : List Rm} {F F' : List (Nat × SO)} (I : aB ns M p nn sp here h m rs F) (S : St m rs F' h') : aB ns M p nn sp here h' m rs F' := ⟨S, I.wf, I.n, I.s, I.len, I.hl, I.eq⟩
end
theorem St.drop {m : Co} {rs : List Rm} {F N : List (Nat × SO)} {h : Sh} (S : St m rs (N ++ F) h) : St m rs F h :=
  bG.sub S (List.Sublist.append_left (List.Sublist.cons_cons _ (List.Sublist.append_left (List.sublist_append_right _ _) _)) _)
end K47
namespace K47
open HL
open PySem (Str)
local macro_rules | `(tactic| simp! only [$ls,*]) => `(tactic| simp only [kS, lb, jJ, fnOf, aH, aI, aU, eL, aT, aR, et, gq, cB, gk, dB, aa, aj, af, dC, aE, mF, bA, aw, aC, cV, dT, cP, gh, lC, bQ, ig, fg, qa, bW, R.bind, OR.fin, bu, eN, eP, cj, ck, bp, oz, gX, dM, dP, List.map_cons, List.map_nil, List.length_cons, List.length_nil, List.cons_append, List.nil_append, List.replicate, List.getElem?_cons_zero, List.getElem?_cons_succ, List.set_cons_zero, List.set_cons_succ, Nat.reduceAdd, Nat.reduceSub, Nat.zero_add, if_true, if_false, Bool.not_true, Bool.not_false, Bool.false_eq_true, reduceIte, reduceCtorEq, decide_true, decide_false, Bool.and_true, Bool.and_self, $ls,*])
section
variable {h : Sh} {a : Nat} {c : Str} {fs : List (Str × W)} {w : W}
theorem r8 {x : Str} {b : Bool} (g : h[a]? = some (.exc c fs)) (e : lI gG (.own true c) (.gl x) = some b) : iY gG [.ref a, .gl x] h = .val (.bl b) := by
  have t : uS h (.ref a) = some (.own true c) := by simp only [uS, g]
  simp only [iY, isi, t, e]
theorem Cw {x : String} {b : Bool} (g : h[a]? = some (.exc c fs)) (e : lI gG (.own true c) (.ty x) = some b) : iY gG [.ref a, .ty x] h = .val (.bl b) := by
  have t : uS h (.ref a) = some (.own true c) := by simp only [uS, g]
  simp only [iY, isi, t, e]
theorem uE {x y z : Bool} (g : h[a]? = some (.exc c fs)) (e1 : lI gG (.own true c) (.gl "MillError") = some true) (e2 : lI gG (.own true c) (.ty "ValueError") = some true) (e3 : lI gG (.own true c) (.gl "NoSets") = some x) (e4 : lI gG (.own true c) (.gl "NoPlace") = some y) (e5 : lI gG (.own true c) (.gl "NoLine") = some z) :
    bV [.ref a] h = .ok (.ref h.length) (h ++ [.lst [.bl x, .bl y, .bl z]]) := by
  refine cD rfl ?_
  unfold fU
  simp! only [r8 g e1, Cw g e2, r8 g e3, r8 g e4, r8 g e5, cW, show (0 + 1 + 1 + 1 ≤ hW) from by decide]
theorem CF {i j : Nat} {x y z : Bool} (e1 : h[i]? = some (.lst [.bl x, .bl y, .bl z])) (e2 : h[j]? = some (.lst [.bl x, .bl y, .bl z])) : nJ (.ref i) (.ref j) h = some true := by
  have d : ∀ k, h[k]? = some (.lst [.bl x, .bl y, .bl z]) → dat o5 h (.ref k) = some (.lst [.bl x, .bl y, .bl z]) := fun k e => by
    show (match h[k]? with | some (.lst xs) => (du (dat 7 h) xs).map D.lst | some (.rol xs) => (du (dat 7 h) xs).map D.lst | some (.tup xs) => (du (dat 7 h) xs).map D.tup | _ => none) = _
    rw [e]; rfl
  simp only [nJ, d i e1, d j e2, EL]
theorem yy {s : Sg} {k : Nat} {x y z : Bool} (hs : s[k]? = some (some (.ref a))) (g : h[a]? = some (.exc c fs)) (e1 : lI gG (.own true c) (.gl "MillError") = some true) (e2 : lI gG (.own true c) (.ty "ValueError") = some true) (e3 : lI gG (.own true c) (.gl "NoSets") = some x) (e4 : lI gG (.own true c) (.gl "NoPlace") = some y) (e5 : lI gG (.own true c) (.gl "NoLine") = some z) :
    aU (aE jf (aC bV (aa (af k) aj)) (dB cW (aa (dC (.bl x)) (aa (dC (.bl y)) (aa (dC (.bl z)) aj))))) s h = .rt (.bl true) (h ++ [.lst [.bl x, .bl y, .bl z]] ++ [.lst [.bl x, .bl y, .bl z]]) := by
  have c1 : aC bV (aa (af k) aj) s h = .ok (.ref h.length) (h ++ [.lst [.bl x, .bl y, .bl z]]) := fR (xs := [.ref a]) (by simp only [aa, af, hs, R.bind, aj]) (uE g e1 e2 e3 e4 e5)
  have c2 : dB cW (aa (dC (.bl x)) (aa (dC (.bl y)) (aa (dC (.bl z)) aj))) s (h ++ [.lst [.bl x, .bl y, .bl z]]) = .ok (.ref (h ++ [SO.lst [.bl x, .bl y, .bl z]]).length) (h ++ [.lst [.bl x, .bl y, .bl z]] ++ [.lst [.bl x, .bl y, .bl z]]) := rfl
  refine kl (p6 c1 c2 (D2 (CF (x := x) (y := y) (z := z) ?_ ?_)))
  · rw [List.getElem?_append_left (by simp only [List.length_append, List.length_cons, List.length_nil]; omega), List.getElem?_append_right (Nat.le_refl _), Nat.sub_self]; rfl
  · rw [List.getElem?_append_right (Nat.le_refl _), Nat.sub_self]; rfl
theorem nK {e : DE} {s : Sg} {h h1 : Sh} {a : Nat} (x : e s h = .ex a h1) : aR e s h = .ex a h1 := by unfold aR; rw [x]
theorem pA {a b : DS} {s : Sg} {h h1 : Sh} {k : Nat} (x : a s h = .ex k h1) : aI a b s h = .ex k h1 := by unfold aI; rw [x]
theorem qL {p n : Nat} {b : DS} {vs : List W} {h h' : Sh} {a : Nat} (hp : vs.length = p) (e : b (aH n vs) h = .ex a h') : fnOf p n b vs h = .ex a h' := by simp only [fnOf, hp, if_true, e]
theorem AW {c : DT} {a b : DS} {s : Sg} {h h1 h2 : Sh} {k : Nat} (e : c s h = .ok true h1) (x : a s h1 = .ex k h2) : et c a b s h = .ex k h2 := by unfold et; rw [e]; exact x
def kE (h : Sh) (w : W) : Prop := (∃ b, w = .bl b) ∨ w = .non ∨ (∃ s, w = .str s) ∨ ∃ i o, w = .ref i ∧ h[i]? = some o ∧ ((∃ xs, o = .lst xs) ∨ ∃ xs, o = .tup xs)
theorem kE.app {l : Sh} (x : kE h w) : kE (h ++ l) w := by
  rcases x with x | x | x | ⟨i, o, e, g, x⟩
  · exact .inl x
  · exact .inr (.inl x)
  · exact .inr (.inr (.inl x))
  · exact .inr (.inr (.inr ⟨i, o, e, by rw [List.getElem?_append_left (List.getElem?_eq_some_iff.mp g).1]; exact g, x⟩))
theorem kE.is (x : kE h w) : cf [w] h = .ok (.bl false) h := by
  rcases x with ⟨b, rfl⟩ | rfl | ⟨s, rfl⟩ | ⟨i, o, rfl, g, hl⟩
  · rfl
  · rfl
  · rfl
  · have : iY gG [.ref i, .ty "int"] h = .val (.bl false) := by
      rcases hl with ⟨xs, rfl⟩ | ⟨xs, rfl⟩
      · have t : uS h (.ref i) = some (.bi "list") := by simp only [uS, g]
        simp only [iY, isi, t]; rfl
      · have t : uS h (.ref i) = some (.bi "tuple") := by simp only [uS, g]
        simp only [iY, isi, t]; rfl
    refine cD rfl ?_
    unfold jB
    simp! only [this]
def Ba (h : Sh) (w : W) : Prop := kE h w ∨ ∃ v : Int, w = .int v ∧ v ≠ 1 ∧ v ≠ 2 ∧ v ≠ 4
theorem Ba.app {l : Sh} (x : Ba h w) : Ba (h ++ l) w := x.imp kE.app id
theorem yN {n s : Nat} (b : Ba h w) : ∃ l, bO [.ref n, .ref s, w] h = .ex (h ++ l).length (h ++ l ++ [.exc "NoSets" []]) := by
  have t : ∃ l, kS (lC (cP (dT (aC cf (aa (af 2) aj)))) (dT (aE jP (af 2) (dB hV (aa (dC (.int 1)) (aa (dC (.int 2)) (aa (dC (.int 4)) aj))))))) (aH 3 [.ref n, .ref s, w]) h = .ok true (h ++ l) := by
    rcases b with b | ⟨v, rfl, v1, v2, v4⟩
    · refine ⟨[], ?_⟩
      simp! only [b.is, List.append_nil]
    · refine ⟨[.tup [.int 1, .int 2, .int 4]], ?_⟩
      have iw : AV (.int v) [.int 1, .int 2, .int 4] = false := by
        have a : ((1 : Int) == v) = false := beq_eq_false_iff_ne.mpr fun z => v1 z.symm
        have b : ((2 : Int) == v) = false := beq_eq_false_iff_ne.mpr fun z => v2 z.symm
        have c : ((4 : Int) == v) = false := beq_eq_false_iff_ne.mpr fun z => v4 z.symm
        simp only [AV, List.any_cons, List.any_nil, Ft, a, b, c, Bool.or_false]
      simp! only [j5 v h, hV, show (0 + 1 + 1 + 1 ≤ hW) from by decide, jP, nS, kX, List.all_cons, List.all_nil, iw]
  obtain ⟨l, t⟩ := t
  exact ⟨l, qL rfl (pA (AW t rfl))⟩
theorem ui {s : Nat} (b : Ba h w) : ∃ l, cR [.ref s, w] h = .ok (.bl true) (h ++ l) := by
  obtain ⟨l, e⟩ := yN (n := h.length) (s := s) (b.app (l := [.ins "Near" []]))
  generalize hh : h ++ [SO.ins "Near" []] ++ l = h1 at e
  have e0 : cV "Near" bO [] (jJ (aa (af 0) (aa (af 1) aj))) [some (.ref s), some w, none] h = .ex h1.length (h1 ++ [.exc "NoSets" []]) := by
    unfold cV
    simp only [jJ, aa, af, aj, List.getElem?_cons_zero, List.getElem?_cons_succ, R.bind, List.append_nil, e]
  have g : (h1 ++ [SO.exc "NoSets" []])[h1.length]? = some (.exc "NoSets" []) := by rw [List.getElem?_append_right (Nat.le_refl _), Nat.sub_self]; rfl
  have c := yy (s := [none, none, some (.ref h1.length)]) (k := 2) (x := true) (y := false) (z := false) rfl g rfl rfl rfl rfl rfl
  refine ⟨[SO.ins "Near" []] ++ l ++ [.exc "NoSets" []] ++ [.lst [.bl true, .bl false, .bl false]] ++ [.lst [.bl true, .bl false, .bl false]], cD rfl ?_⟩
  unfold fS aI zm
  have st : aH 3 [.ref s, w] = [some (.ref s), some w, none] := rfl
  rw [st, e0]
  simp only [g]
  have hc : List.contains (["NoLine", "NoSets", "NoPlace"] : List Str) "NoSets" = true := by decide
  simp only [hc, if_true]
  have sl : (List.replicate 3 (none : Option W)).set 2 (some (.ref h1.length)) = [none, none, some (.ref h1.length)] := rfl
  rw [sl, c]
  simp only [← hh, List.append_assoc]
def yY (M : Nat) (h : Sh) (w : W) : Prop := kE h w ∨ ∃ v : Int, w = .int v ∧ (v < 0 ∨ (M : Int) ≤ v)
theorem B9 {m : Co} {F : List (Nat × SO)} {M : Nat} (H : bG h (m.objs ++ F)) (hM : m.cells.length = M) (o : yY M h w) : ah [.ref m.n, w] h = .ex h.length (h ++ [.exc "NoPlace" []]) := by
  have e1 : eF ["Near"] "slow" (.ref m.n) h = some (.ref m.s) := aX (Co.near H) (by decide) rfl
  have e2 : bH o6 "size" (.ref m.s) h = some dS := aJ (Co.slow H) rfl
  have e3 := uY H
  rw [hM] at e3
  have wi : cE [w, .int 0, .int ((M : Int) - 1)] h = .ok (.bl false) h := by
    refine cD rfl ?_
    unfold hU
    rcases o with o | ⟨v, rfl, o⟩
    · simp! only [o.is]
    · by_cases z : 0 ≤ v
      · have z2 : ¬ v ≤ (M : Int) - 1 := by omega
        simp! only [j5 v h, z, z2]
      · simp! only [j5 v h, z]
  have t : kS (cP (dT (aC cE (aa (af 1) (aa (dC (.int 0)) (aa (aE eN (aw o6 "size" (bA ["Near"] "slow" (af 0)) aj) (dC (.int 1))) aj)))))) (aH 2 [.ref m.n, w]) h = .ok true h := by
    simp! only [e1, e2, e3, wi]
  exact qL rfl (AW t rfl)
theorem nE {c mn : Str} {f : Fn} {i j : Nat} {s : Sg} {as : DA} {xs : List W} {gs : List (Str × W)} {a : Nat} {h h1 : Sh} (hs : s[i]? = some (some (.ref j))) (g : h[j]? = some (.ins c gs)) (hl : gs.lookup mn = none) (ha : as s h = .ok xs h) (e : f (.ref j :: xs) h = .ex a h1) : aw [(c, f)] mn (af i) (jJ as) s h = .ex a h1 := by
  have fm : bH [(c, f)] mn (.ref j) h = some f := by rw [aJ g hl]; simp only [List.lookup, beq_self_eq_true]
  unfold aw af
  rw [hs]
  simp only [R.bind, fm]
  unfold jJ
  rw [ha]
  exact e
section
variable {m : Co} {F : List (Nat × SO)} {M : Nat}
theorem o7 {s : Sg} (H : bG h (m.objs ++ F)) (hM : m.cells.length = M) (o : yY M h w) (h0 : s[0]? = some (some (.ref m.n))) (h1 : s[1]? = some (some w)) : aR (aw [("Near", ah)] "refuse_no_place" (af 0) (jJ (aa (af 1) aj))) s h = .ex h.length (h ++ [.exc "NoPlace" []]) :=
  nK (nE h0 (Co.near H) rfl (by simp only [aa, af, h1, R.bind, aj]) (B9 H hM o))
theorem Cz (H : bG h (m.objs ++ F)) (hM : m.cells.length = M) (o : yY M h w) : b4 [.ref m.n, w] h = .ex h.length (h ++ [.exc "NoPlace" []]) := qL rfl (pA (o7 H hM o rfl rfl))
theorem Bw (x : W) (H : bG h (m.objs ++ F)) (hM : m.cells.length = M) (o : yY M h w) : cL [.ref m.n, w, x] h = .ex h.length (h ++ [.exc "NoPlace" []]) := qL rfl (pA (o7 H hM o rfl rfl))
theorem An (H : bG h (m.objs ++ F)) (hM : m.cells.length = M) (o : yY M h w) : bP [.ref m.n, w] h = .ex h.length (h ++ [.exc "NoPlace" []]) := qL rfl (pA (o7 H hM o rfl rfl))
theorem zV (H : bG h (m.objs ++ F)) (hM : m.cells.length = M) (o : yY M h w) : bN [.ref m.n, w] h = .ex h.length (h ++ [.exc "NoPlace" []]) := qL rfl (pA (o7 H hM o rfl rfl))
theorem tj (k : Int) (H : bG h (m.objs ++ F)) (hM : m.cells.length = M) (o : yY M h w) : ∃ l, cA [.ref m.n, .int k, w] h = .ok (.bl true) (h ++ l) := by
  have g : (h ++ [SO.exc "NoPlace" []])[h.length]? = some (.exc "NoPlace" []) := by rw [List.getElem?_append_right (Nat.le_refl _), Nat.sub_self]; rfl
  have c := yy (s := [none, none, none, some (.ref h.length)]) (k := 3) (x := false) (y := true) (z := false) rfl g rfl rfl rfl rfl rfl
  have st : aH 4 [.ref m.n, .int k, w] = [some (.ref m.n), some (.int k), some w, none] := rfl
  have i0 : ∀ (j : Int), kS (dT (aE jf (af 1) (dC (.int j)))) [some (.ref m.n), some (.int k), some w, none] h = .ok (decide (k = j)) h := fun j => by simp! only [jf, nJ]
  have nr := Co.near H
  have b : ∀ (x y z u : DS), (∀ d ∈ [x, y, z, u], d [some (.ref m.n), some (.int k), some w, none] h = .ex h.length (h ++ [.exc "NoPlace" []])) → et (kS (dT (aE jf (af 1) (dC (.int 0))))) x (et (kS (dT (aE jf (af 1) (dC (.int 1))))) y (et (kS (dT (aE jf (af 1) (dC (.int 2))))) z u)) [some (.ref m.n), some (.int k), some w, none] h = .ex h.length (h ++ [.exc "NoPlace" []]) := fun x y z u hd => by
    unfold et
    rw [i0 0]
    by_cases z0 : k = 0
    · simp only [z0, decide_true, if_true]; rw [← z0]; exact hd x (by simp)
    · simp only [z0, decide_false, Bool.false_eq_true, if_false]
      rw [i0 1]
      by_cases z1 : k = 1
      · simp only [z1, decide_true, if_true]; rw [← z1]; exact hd y (by simp)
      · simp only [z1, decide_false, Bool.false_eq_true, if_false]
        rw [i0 2]
        by_cases z2 : k = 2
        · simp only [z2, decide_true, if_true]; rw [← z2]; exact hd z (by simp)
        · simp only [z2, decide_false, Bool.false_eq_true, if_false]; exact hd u (by simp)
  refine ⟨[.exc "NoPlace" []] ++ [.lst [.bl false, .bl true, .bl false]] ++ [.lst [.bl false, .bl true, .bl false]], cD rfl ?_⟩
  unfold fb aI u1
  rw [st, b _ _ _ _ (fun d hd => by
    simp only [List.mem_cons, List.not_mem_nil, or_false] at hd
    rcases hd with rfl | rfl | rfl | rfl
    · exact nK (nE rfl nr rfl rfl (Cz H hM o))
    · exact nK (nE rfl nr rfl rfl (Bw _ H hM o))
    · exact nK (nE rfl nr rfl rfl (An H hM o))
    · exact nK (nE rfl nr rfl rfl (zV H hM o)))]
  simp only [g]
  have hc : List.contains (["NoLine", "NoSets", "NoPlace"] : List Str) "NoPlace" = true := by decide
  simp only [hc, if_true]
  have sl : (List.replicate 4 (none : Option W)).set 3 (some (.ref h.length)) = [none, none, none, some (.ref h.length)] := rfl
  rw [sl, c]
  simp only [List.append_assoc]
end
end
end K47
namespace K47
open HL
open PySem (Str)
local macro_rules | `(tactic| simp! only [$ls,*]) => `(tactic| simp only [kS, lb, jJ, fnOf, aH, aI, aU, eL, aT, aR, et, gq, cB, gk, dB, aa, aj, af, dC, aE, mF, bA, aw, aC, cV, dT, cP, gh, lC, bQ, ig, fg, qa, bW, R.bind, OR.fin, bu, eN, eP, cj, ck, bp, oz, gX, dM, dP, List.map_cons, List.map_nil, List.length_cons, List.length_nil, List.cons_append, List.nil_append, List.replicate, List.getElem?_cons_zero, List.getElem?_cons_succ, List.set_cons_zero, List.set_cons_succ, Nat.reduceAdd, Nat.reduceSub, Nat.zero_add, if_true, if_false, Bool.not_true, Bool.not_false, Bool.false_eq_true, reduceIte, reduceCtorEq, decide_true, decide_false, Bool.and_true, Bool.and_self, $ls,*])
def E2 : DS := (aT 1 (aE bu (dC (.int 4)) (aE cj (dC (.int 4)) (aE bp (aC aL (aa (af 0) (aa (dC (.int 1)) aj))) (dC (.int 16))))))
def FP : DS := (aT 2 (aC fP (aa (af 0) (aa (dC (.int 200)) (aa (af 1) aj)))))
def FO : DS := (aT 3 (cV "Slow" g7 [] (aa (af 2) aj)))
def FN : DS := (aT 4 (aC aL (aa (af 0) (aa (dC (.int 9)) aj))))
def C9 : DS := (aT 5 (aE gW (dB cW (aa (dC (.int 0)) (aa (dC (.int 3)) (aa (dC (.int 5)) (aa (dC (.int 8)) (aa (mF dP (dC (.int 1))) (aa (dC (.bl true)) (aa (dC (.bl false)) (aa (dC .non) (aa (dC (.str "2")) (aa (dB hV (aa (dC (.int 2)) aj)) (aa (aE bu (dC (.int 6)) (aE bp (aE ck (af 4) (dC (.int 11))) (dC (.int 99)))) aj)))))))))))) (aE bp (af 4) (dC (.int 11)))))
def FL : DS := (et (cP (dT (aC cR (aa (af 3) (aa (af 5) aj))))) (aU (dC (.bl false))) gq)
def FK : DS := (aT 6 (cV "Near" bO [] (aa (af 3) (aa (aE gW (dB cW (aa (dC (.int 1)) (aa (dC (.int 2)) (aa (dC (.int 4)) aj)))) (aE bp (aC aL (aa (af 0) (aa (dC (.int 2)) aj))) (dC (.int 3)))) aj))))
def C8 : DS := (aR (aC iU (aa (af 6) (aa (aC cS (aa (af 0) (aa (af 7) (aa (af 1) aj)))) aj))))
def xf : DS := C8
def FJ : DS := (lg (dI (dB mS (aa (dB gi (aa (af 0) aj)) (aa (dC (.int 12)) aj)))) (bD 7) xf)
def FI : DS := (aT 8 (aw ke "held" (af 6) aj))
def FH : DS := (aT 9 (dB hV (aa (aw gQ "reads" (af 3) aj) (aa (aw fh "writes" (af 3) aj) (aa (aw gP "whole" (af 3) aj) aj)))))
def t7 : DS := (aT 10 (aC aL (aa (af 0) (aa (aE bu (dC (.int 20)) (af 7)) aj))))
def xh : DS := (et (cP (dT (aC cA (aa (af 6) (aa (aE bp (af 10) (dC (.int 4))) (aa (aC dQ (aa (af 10) (aa (af 1) aj))) aj)))))) (aU (dC (.bl false))) gq)
def xg : DS := (et (lC (dT (aE td (aw ke "held" (af 6) aj) (af 8))) (dT (aE td (dB hV (aa (aw gQ "reads" (af 3) aj) (aa (aw fh "writes" (af 3) aj) (aa (aw gP "whole" (af 3) aj) aj)))) (af 9)))) (aU (dC (.bl false))) gq)
def qW : DS := (aI t7 (aI xh xg))
def Dd : DS := (lg (dI (dC (.int 6))) (bD 7) qW)
def Dc : DS := (aU (fg (aE zS (aw kf "cost" (af 6) (aa (aE eN (af 1) (dC (.int 1))) aj)) (dB hV (aa (dC (.int 1)) (aa (dC (.int 5)) (aa (dC (.int 9)) aj))))) (aC fQ (aa (aw kd "look" (af 6) (aa (dC (.int 0)) aj)) (aa (aw mV "get" (af 6) (aa (dC (.int 0)) aj)) aj)))))
theorem EY : vK = (aI E2 (aI FP (aI FO (aI FN (aI C9 (aI FL (aI FK (aI FJ (aI FI (aI FH (aI Dd Dc))))))))))) := rfl
section
variable {h : Sh} {m : Co} {rs : List Rm} {F : List (Nat × SO)} {ns : List Int} {M p n sp : Nat} {here : List Int} {s : Sg}
theorem Ca (c : Int) (hM : 0 < M) (hM2 : M ≤ 64) (h : Sh) : ∃ w l, dQ [.int c, .int M] h = .ok w (h ++ l) ∧ yY M (h ++ l) w := by
  have p20 : (10 : Int) ^ (20 : Int).toNat = 100000000000000000000 := by decide
  have s1 : aT 2 (dB cW (aa (af 1) (aa (aE bu (af 1) (aE bp (aE ck (af 0) (dC (.int 60))) (dC (.int 300)))) (aa (mF dP (dC (.int 1))) (aa (aE eN (mF dP (dC (.int 1))) (aE bp (aE ck (af 0) (dC (.int 60))) (dC (.int 64)))) (aa (dC (.bl true)) (aa (dC (.bl false)) (aa (dC .non) (aa (dC (.str "0")) (aa (dC (.str "")) (aa (dB hV (aa (dC (.int 1)) aj)) (aa (dB cW (aa (dC (.int 0)) aj)) (aa (aE rX (dC (.int 10)) (dC (.int 20))) aj))))))))))))) (aH 3 [.int c, .int M]) h = .nx [some (.int c), some (.int M), some (.ref (h ++ [SO.tup [.int 1]] ++ [SO.lst [.int 0]]).length)] (h ++ [SO.tup [.int 1]] ++ [SO.lst [.int 0]] ++ [SO.lst [.int M, .int ((M : Int) + c / 60 % 300), .int (-1), .int (-1 - c / 60 % 64), .bl true, .bl false, .non, .str "0", .str "", .ref h.length, .ref (h ++ [SO.tup [.int 1]]).length, .int 100000000000000000000]]) := by
    simp! only [cW, hV, rX, p20, show decide ((0 : Int) < 60) = true from rfl, show decide ((60 : Int) < 1073741824) = true from rfl, show decide ((0 : Int) < 300) = true from rfl, show decide ((0 : Int) < 64) = true from rfl, show (decide ((0 : Int) ≤ 20) && decide ((20 : Int) ≤ 1000000) && decide ((10 : Int).natAbs < 2 ^ 64)) = true from by decide, show (1 ≤ hW) from by decide, show (12 ≤ hW) from by decide, show (0 + 1 ≤ hW) from by decide]
  generalize hh : h ++ [SO.tup [.int 1]] ++ [SO.lst [.int 0]] = h1 at s1
  have g1 : h1[h.length]? = some (.tup [.int 1]) := by
    rw [← hh, List.getElem?_append_left (by simp only [List.length_append, List.length_cons, List.length_nil]; omega), List.getElem?_append_right (Nat.le_refl _), Nat.sub_self]; rfl
  have g2 : h1[(h ++ [SO.tup [.int 1]]).length]? = some (.lst [.int 0]) := by
    rw [← hh, List.getElem?_append_right (Nat.le_refl _), Nat.sub_self]; rfl
  generalize (h ++ [SO.tup [.int 1]]).length = i2 at s1 g2
  generalize hL : ([.int M, .int ((M : Int) + c / 60 % 300), .int (-1), .int (-1 - c / 60 % 64), .bl true, .bl false, .non, .str "0", .str "", .ref h.length, .ref i2, .int 100000000000000000000] : List W) = L at s1
  have gl : (h1 ++ [SO.lst L] ++ [SO.lst [.int (-100000000000000000000)]])[h1.length]? = some (.lst L) := by
    rw [List.getElem?_append_left (by simp only [List.length_append, List.length_cons, List.length_nil]; omega), List.getElem?_append_right (Nat.le_refl _), Nat.sub_self]; rfl
  have gm : (h1 ++ [SO.lst L] ++ [SO.lst [.int (-100000000000000000000)]])[(h1 ++ [SO.lst L]).length]? = some (.lst [.int (-100000000000000000000)]) := by
    rw [List.getElem?_append_right (Nat.le_refl _), Nat.sub_self]; rfl
  have ll : L.length = 12 := by rw [← hL]; rfl
  have fin : ∀ w, qb (L ++ [.int (-100000000000000000000)]) (c / 4 % 13) = some w → aU (aE gW (aE bu (af 2) (dB cW (aa (mF dP (aE rX (dC (.int 10)) (dC (.int 20)))) aj))) (aE bp (aE ck (af 0) (dC (.int 4))) (dC (.int 13)))) [some (.int c), some (.int M), some (.ref h1.length)] (h1 ++ [SO.lst L]) = .rt w (h1 ++ [SO.lst L] ++ [SO.lst [.int (-100000000000000000000)]] ++ [SO.lst (L ++ [.int (-100000000000000000000)])]) := fun w hw => by
    refine kl (p6 (x := .ref (h1 ++ [SO.lst L] ++ [SO.lst [.int (-100000000000000000000)]]).length) (y := .int (c / 4 % 13)) (h1 := h1 ++ [SO.lst L] ++ [SO.lst [.int (-100000000000000000000)]] ++ [SO.lst (L ++ [.int (-100000000000000000000)])]) ?_ ?_ ?_)
    · have e2 : dB cW (aa (mF dP (aE rX (dC (.int 10)) (dC (.int 20)))) aj) [some (.int c), some (.int M), some (.ref h1.length)] (h1 ++ [SO.lst L]) = .ok (.ref (h1 ++ [SO.lst L]).length) (h1 ++ [SO.lst L] ++ [SO.lst [.int (-100000000000000000000)]]) := by
        simp! only [cW, rX, p20, show (decide ((0 : Int) ≤ 20) && decide ((20 : Int) ≤ 1000000) && decide ((10 : Int).natAbs < 2 ^ 64)) = true from by decide, show (0 + 1 ≤ hW) from by decide]
      simp only [aE, af, List.getElem?_cons_zero, List.getElem?_cons_succ, R.bind, e2, bu, gl, gm, ll, List.length_cons, List.length_nil, show (12 + (0 + 1) ≤ hW) from by decide, if_true, OR.fin]
    · simp! only [show decide ((0 : Int) < 4) = true from rfl, show decide ((4 : Int) < 1073741824) = true from rfl, show decide ((0 : Int) < 13) = true from rfl]
    · simp only [gW, nj, hw]
  have out : ∀ w, qb (L ++ [.int (-100000000000000000000)]) (c / 4 % 13) = some w → yY M h1 w → ∃ w l, dQ [.int c, .int M] h = .ok w (h ++ l) ∧ yY M (h ++ l) w := fun w hw ho => by
    refine ⟨w, [SO.tup [.int 1]] ++ [SO.lst [.int 0]] ++ [SO.lst L] ++ [SO.lst [.int (-100000000000000000000)]] ++ [SO.lst (L ++ [.int (-100000000000000000000)])], cD rfl ?_, ?_⟩
    · unfold kC
      rw [ay s1, fin w hw, ← hh]
      simp only [List.append_assoc]
    · have e : h ++ ([SO.tup [.int 1]] ++ [SO.lst [.int 0]] ++ [SO.lst L] ++ [SO.lst [.int (-100000000000000000000)]] ++ [SO.lst (L ++ [.int (-100000000000000000000)])]) = h1 ++ ([.lst L] ++ [SO.lst [.int (-100000000000000000000)]] ++ [SO.lst (L ++ [.int (-100000000000000000000)])]) := by rw [← hh]; simp only [List.append_assoc]
      rw [e]
      exact ho.imp kE.app id
  rw [← hL] at out
  have q := Int.emod_nonneg (c / 60) (show (300 : Int) ≠ 0 by decide)
  have q2 := Int.emod_nonneg (c / 60) (show (64 : Int) ≠ 0 by decide)
  rcases (by omega : c / 4 % 13 = 0 ∨ c / 4 % 13 = 1 ∨ c / 4 % 13 = 2 ∨ c / 4 % 13 = 3 ∨ c / 4 % 13 = 4 ∨ c / 4 % 13 = 5 ∨ c / 4 % 13 = 6 ∨ c / 4 % 13 = 7 ∨ c / 4 % 13 = 8 ∨ c / 4 % 13 = 9 ∨ c / 4 % 13 = 10 ∨ c / 4 % 13 = 11 ∨ c / 4 % 13 = 12) with e | e | e | e | e | e | e | e | e | e | e | e | e <;> rw [e] at out
  · exact out _ rfl (.inr ⟨_, rfl, .inr (Int.le_refl _)⟩)
  · exact out _ rfl (.inr ⟨_, rfl, .inr (by omega)⟩)
  · exact out _ rfl (.inr ⟨_, rfl, .inl (by omega)⟩)
  · exact out _ rfl (.inr ⟨_, rfl, .inl (by omega)⟩)
  · exact out _ rfl (.inl (.inl ⟨_, rfl⟩))
  · exact out _ rfl (.inl (.inl ⟨_, rfl⟩))
  · exact out _ rfl (.inl (.inr (.inl rfl)))
  · exact out _ rfl (.inl (.inr (.inr (.inl ⟨_, rfl⟩))))
  · exact out _ rfl (.inl (.inr (.inr (.inl ⟨_, rfl⟩))))
  · exact out _ rfl (.inl (.inr (.inr (.inr ⟨_, _, rfl, g1, .inr ⟨_, rfl⟩⟩))))
  · exact out _ rfl (.inl (.inr (.inr (.inr ⟨_, _, rfl, g2, .inl ⟨_, rfl⟩⟩))))
  · exact out _ rfl (.inr ⟨_, rfl, .inr (by omega)⟩)
  · exact out _ rfl (.inr ⟨_, rfl, .inl (by omega)⟩)
end
end K47
namespace K47
open HL
open PySem (Str)
local macro_rules | `(tactic| simp! only [$ls,*]) => `(tactic| simp only [kS, lb, jJ, fnOf, aH, aI, aU, eL, aT, aR, et, gq, cB, gk, dB, aa, aj, af, dC, aE, mF, bA, aw, aC, cV, dT, cP, gh, lC, bQ, ig, fg, qa, bW, R.bind, OR.fin, bu, eN, eP, cj, ck, bp, oz, gX, dM, dP, List.map_cons, List.map_nil, List.length_cons, List.length_nil, List.cons_append, List.nil_append, List.replicate, List.getElem?_cons_zero, List.getElem?_cons_succ, List.set_cons_zero, List.set_cons_succ, Nat.reduceAdd, Nat.reduceSub, Nat.zero_add, if_true, if_false, Bool.not_true, Bool.not_false, Bool.false_eq_true, reduceIte, reduceCtorEq, decide_true, decide_false, Bool.and_true, Bool.and_self, $ls,*])
theorem ue (ps : List Nat) : (ps.map fun p => (⟨p, []⟩ : Rm)).flatMap Rm.objs = nv ps := by
  induction ps with
  | nil => rfl
  | cons p ps ih => rw [List.map_cons, List.flatMap_cons, ih]; rfl
theorem xy (ps : List Nat) : (ps.map fun p => (⟨p, []⟩ : Rm)).map Rm.p = ps := by
  rw [List.map_map]; exact List.map_id'' (fun _ => rfl) ps
section
variable {h : Sh} {m : Co} {rs : List Rm} {F : List (Nat × SO)} {ns : List Int} {M p n sp : Nat} {here : List Int} {s : Sg}
theorem Eb {h l : Sh} {i : Nat} {o : SO} (e : h[i]? = some o) : (h ++ l)[i]? = some o := by
  rw [List.getElem?_append_left (List.getElem?_eq_some_iff.mp e).1]; exact e
theorem vo {h : Sh} {o : SO} : (h ++ [o])[h.length]? = some o := by rw [List.getElem?_append_right (Nat.le_refl _), Nat.sub_self]; rfl
theorem oq {i : Nat} {w : W} (e : s[i]? = some (some w)) : af i s h = .ok w h := by unfold af; rw [e]
def CN : DE := dB hV (aa (aw gQ "reads" (af 3) aj) (aa (aw fh "writes" (af 3) aj) (aa (aw gP "whole" (af 3) aj) aj)))
theorem yI (S : St m rs F h) (hs : s[3]? = some (some (.ref m.s))) : CN s h = .ok (.ref (h ++ [SO.lst (m.cells.map .int)]).length) (h ++ [SO.lst (m.cells.map .int)] ++ [SO.tup [.int m.told, .int m.put, .ref h.length]]) ∧ St m rs (((h ++ [SO.lst (m.cells.map .int)]).length, SO.tup [.int m.told, .int m.put, .ref h.length]) :: (h.length, SO.lst (m.cells.map .int)) :: F) (h ++ [SO.lst (m.cells.map .int)] ++ [SO.tup [.int m.told, .int m.put, .ref h.length]]) := by
  have sl := Co.slow S.core
  have f1 : bH gQ "reads" (.ref m.s) h = some iI := aJ sl rfl
  have f2 : bH fh "writes" (.ref m.s) h = some gL := aJ sl rfl
  have f3 : bH gP "whole" (.ref m.s) h = some iH := aJ sl rfl
  have c1 : eF ["Slow"] "lines_told" (.ref m.s) h = some (.int m.told) := aX sl (by decide) rfl
  have c2 : eF ["Slow"] "lines_put" (.ref m.s) h = some (.int m.put) := aX sl (by decide) rfl
  have c3 : eF ["Slow"] "cells" (.ref m.s) h = some (.ref m.c) := aX sl (by decide) rfl
  have c4 := Co.cellsAt S.core
  have e1 : aw gQ "reads" (af 3) aj s h = .ok (.int m.told) h := iX (xs := []) (oq hs) f1 rfl (by simp! only [iM, c1])
  have e2 : aw fh "writes" (af 3) aj s h = .ok (.int m.put) h := iX (xs := []) (oq hs) f2 rfl (by simp! only [gN, c2])
  have e3 : aw gP "whole" (af 3) aj s h = .ok (.ref h.length) (h ++ [.lst (m.cells.map .int)]) := iX (xs := []) (oq hs) f3 rfl (by simp! only [iL, c3, lP, cy, bE, c4, Option.or])
  have ea : (aa (aw gQ "reads" (af 3) aj) (aa (aw fh "writes" (af 3) aj) (aa (aw gP "whole" (af 3) aj) aj))) s h = .ok [.int m.told, .int m.put, .ref h.length] (h ++ [.lst (m.cells.map .int)]) := by
    unfold aa
    rw [e1]
    simp only [R.bind]
    rw [e2]
    simp only [R.bind]
    rw [e3]
    rfl
  constructor
  · unfold CN dB
    rw [ea]
    rfl
  · exact (S.fresh vo (Nat.le_refl _)).fresh vo (Nat.le_refl _)
theorem vC {i q : Nat} {a b : Int} {ns : List Int} (g : h[i]? = some (.tup [.int a, .int b, .ref q])) (g2 : h[q]? = some (.lst (ns.map .int))) : dat o5 h (.ref i) = some (.tup [.int a, .int b, .lst (ns.map .int)]) := by
  have e : dat 7 h (.ref q) = some (.lst (ns.map .int)) := by
    show (match h[q]? with | some (.lst xs) => (du (dat 6 h) xs).map D.lst | some (.rol xs) => (du (dat 6 h) xs).map D.lst | some (.tup xs) => (du (dat 6 h) xs).map D.tup | _ => none) = _
    rw [g2]
    show (du (dat 6 h) (ns.map W.int)).map D.lst = _
    rw [og (dat 6 h) (fun i => rfl)]; rfl
  show (match h[i]? with | some (.lst xs) => (du (dat 7 h) xs).map D.lst | some (.rol xs) => (du (dat 7 h) xs).map D.lst | some (.tup xs) => (du (dat 7 h) xs).map D.tup | _ => none) = _
  rw [g]
  show (du (dat 7 h) [.int a, .int b, .ref q]).map D.tup = _
  simp only [du, e]
  rfl
theorem CD {i q j r : Nat} {a b : Int} {ns : List Int} (g : h[i]? = some (.tup [.int a, .int b, .ref q])) (g2 : h[q]? = some (.lst (ns.map .int))) (k : h[j]? = some (.tup [.int a, .int b, .ref r])) (k2 : h[r]? = some (.lst (ns.map .int))) : nJ (.ref i) (.ref j) h = some true := by
  simp only [nJ, vC g g2, vC k k2, EL]
def NM (M p sp n : Nat) (y4 y5 y7 y8 y9 y10 : Option W) : Sg := [some (.ref 0), some (.int M), some (.ref p), some (.ref sp), y4, y5, some (.ref n), y7, y8, y9, y10]
theorem ya {q9 t9 : Nat} {v8 : W} {y4 y5 y10 : Option W} (hl : ns.length ≤ 63) (j : Nat) (hn : m.n = n) (hsp : m.s = sp) (hM : m.cells.length = M) (h0 : 0 < M) (h64 : M ≤ 64) (k4 : m.k ≤ 4) (Wf : WF m rs) (S : St m rs F h) (hs : (0, SO.rol (ns.map .int)) ∈ F) (T8 : Tv F (p3 rs) v8) (m9 : (t9, SO.tup [.int m.told, .int m.put, .ref q9]) ∈ F) (mq : (q9, SO.lst (m.cells.map .int)) ∈ F) :
    ∃ h' y10', qW (NM M p sp n y4 y5 (some (.int j)) (some v8) (some (.ref t9)) y10) h = .nx (NM M p sp n y4 y5 (some (.int j)) (some v8) (some (.ref t9)) y10') h' ∧ St m rs F h' := by
  obtain ⟨c, e1, c0, _⟩ := gM (S.at hs) hl (20 + j) (by omega)
  have s1 : t7 (NM M p sp n y4 y5 (some (.int j)) (some v8) (some (.ref t9)) y10) h = .nx (NM M p sp n y4 y5 (some (.int j)) (some v8) (some (.ref t9)) (some (.int c))) (h ++ [.lst []]) := by
    unfold t7
    simp only [NM, aT, aC, aa, aj, af, aE, dC, List.getElem?_cons_zero, List.getElem?_cons_succ, R.bind, bu, OR.fin, e1, List.set_cons_succ, List.set_cons_zero]
  have S1 := S.app [.lst []]
  generalize h ++ [SO.lst []] = h1 at s1 S1
  obtain ⟨w, l, e2, o⟩ := Ca c h0 h64 h1
  have S2 := S1.app l
  obtain ⟨l2, e3⟩ := tj (c % 4) S2.core hM o
  rw [hn] at e3
  have s2 : xh (NM M p sp n y4 y5 (some (.int j)) (some v8) (some (.ref t9)) (some (.int c))) h1 = .nx (NM M p sp n y4 y5 (some (.int j)) (some v8) (some (.ref t9)) (some (.int c))) (h1 ++ l ++ l2) := by
    refine ud ?_
    have : aC cA (aa (af 6) (aa (aE bp (af 10) (dC (.int 4))) (aa (aC dQ (aa (af 10) (aa (af 1) aj))) aj))) (NM M p sp n y4 y5 (some (.int j)) (some v8) (some (.ref t9)) (some (.int c))) h1 = .ok (.bl true) (h1 ++ l ++ l2) := by
      refine fR (xs := [.ref n, .int (c % 4), w]) (h1 := h1 ++ l) ?_ e3
      have eo : aC dQ (aa (af 10) (aa (af 1) aj)) (NM M p sp n y4 y5 (some (.int j)) (some v8) (some (.ref t9)) (some (.int c))) h1 = .ok w (h1 ++ l) := fR (xs := [.int c, .int M]) rfl e2
      simp only [aa, aj, aE, dC, R.bind, eo, show af 6 (NM M p sp n y4 y5 (some (.int j)) (some v8) (some (.ref t9)) (some (.int c))) h1 = .ok (.ref n) h1 from rfl, show af 10 (NM M p sp n y4 y5 (some (.int j)) (some v8) (some (.ref t9)) (some (.int c))) h1 = .ok (.int c) h1 from rfl, bp, eP, show decide ((0 : Int) < 4) = true from rfl, if_true, OR.fin]
    simp only [cP, dT, this, R.bind, dM, Bool.not_true]
  have S3 := S2.app l2
  generalize h1 ++ l ++ l2 = h3 at s2 S3
  obtain ⟨v', h4, N, e4, S4, T4⟩ := yq (i := 6) (s := NM M p sp n y4 y5 (some (.int j)) (some v8) (some (.ref t9)) (some (.int c))) S3 Wf k4 (by rw [hn]; rfl)
  have T8' : Tv (N ++ F) (p3 rs) v8 := Tv.mono (fun _ _ mm => List.mem_append_right _ mm) _ _ T8
  have q1 : nJ v' v8 h4 = some true := Ee (ds := rs.map pC) S4.core (St.tvUp T4) (St.tvUp T8') (Ai rs)
  have x1 : aE td (aw ke "held" (af 6) aj) (af 8) (NM M p sp n y4 y5 (some (.int j)) (some v8) (some (.ref t9)) (some (.int c))) h3 = .ok (.bl false) h4 := p6 e4 (oq rfl) (AQ q1)
  obtain ⟨e5, S5⟩ := yI (s := NM M p sp n y4 y5 (some (.int j)) (some v8) (some (.ref t9)) (some (.int c))) S4 (by rw [hsp]; rfl)
  have g1 := S5.at (List.mem_cons_self ..)
  have g2 := S5.at (List.mem_cons_of_mem _ (List.mem_cons_self ..))
  have g3 := S5.at (List.mem_cons_of_mem _ (List.mem_cons_of_mem _ (List.mem_append_right N m9)))
  have g4 := S5.at (List.mem_cons_of_mem _ (List.mem_cons_of_mem _ (List.mem_append_right N mq)))
  have x2 : aE td CN (af 9) (NM M p sp n y4 y5 (some (.int j)) (some v8) (some (.ref t9)) (some (.int c))) h4 = .ok (.bl false) _ := p6 e5 (oq rfl) (AQ (CD g1 g2 g3 g4))
  have s3 : xg (NM M p sp n y4 y5 (some (.int j)) (some v8) (some (.ref t9)) (some (.int c))) h3 = .nx (NM M p sp n y4 y5 (some (.int j)) (some v8) (some (.ref t9)) (some (.int c))) _ := ud (Dg (AY x1) (AY x2))
  refine ⟨_, some (.int c), ?_, S5.tail.tail.drop⟩
  unfold qW
  rw [ay s1, ay s2, s3]
theorem wI {y4 y5 y8 y9 y10 : Option W} (hl : ns.length ≤ 63) (j : Nat) (h0 : 0 < M) (I : aB ns M p n sp here h m rs F) (hs : (0, SO.rol (ns.map .int)) ∈ F) :
    ∃ h' here' m' rs', xf (NM M p sp n y4 y5 (some (.int j)) y8 y9 y10) h = .nx (NM M p sp n y4 y5 (some (.int j)) y8 y9 y10) h' ∧ aB ns M p n sp here' h' m' rs' F ∧ m'.k = m.k := by
  obtain ⟨x, a, w, t, l, e1, g1, lt, xm, am⟩ := Aj (I.st.at hs) hl j h0
  have I1 : aB ns M p n sp here (h ++ l) m rs ((t, SO.tup [.str x, .int a, .int w]) :: F) := ⟨I.st.fresh g1 lt, I.wf, I.n, I.s, I.len, I.hl, I.eq⟩
  obtain ⟨v, h2, m', rs', e2, D, kk⟩ := CJ I1 (List.mem_cons_self ..) xm am
  refine ⟨h2, _, m', rs', ?_, ⟨D.inv.st.tail, D.inv.wf, D.inv.n, D.inv.s, D.inv.len, D.inv.hl, D.inv.eq⟩, kk⟩
  refine xu (v := v) (fR (xs := [.ref n, .ref t]) (h1 := h ++ l) ?_ e2)
  have ed : aC cS (aa (af 0) (aa (af 7) (aa (af 1) aj))) (NM M p sp n y4 y5 (some (.int j)) y8 y9 y10) h = .ok (.ref t) (h ++ l) := fR (xs := [.ref 0, .int j, .int M]) rfl e1
  simp only [aa, aj, R.bind, ed, show af 6 (NM M p sp n y4 y5 (some (.int j)) y8 y9 y10) h = .ok (.ref n) h from rfl]
end
end K47
namespace K47
open HL
open PySem (Str)
local macro_rules | `(tactic| simp! only [$ls,*]) => `(tactic| simp only [kS, lb, jJ, fnOf, aH, aI, aU, eL, aT, aR, et, gq, cB, gk, dB, aa, aj, af, dC, aE, mF, bA, aw, aC, cV, dT, cP, gh, lC, bQ, ig, fg, qa, bW, R.bind, OR.fin, bu, eN, eP, cj, ck, bp, oz, gX, dM, dP, List.map_cons, List.map_nil, List.length_cons, List.length_nil, List.cons_append, List.nil_append, List.replicate, List.getElem?_cons_zero, List.getElem?_cons_succ, List.set_cons_zero, List.set_cons_succ, Nat.reduceAdd, Nat.reduceSub, Nat.zero_add, if_true, if_false, Bool.not_true, Bool.not_false, Bool.false_eq_true, reduceIte, reduceCtorEq, decide_true, decide_false, Bool.and_true, Bool.and_self, $ls,*])
section
variable {h : Sh} {m : Co} {rs : List Rm} {F : List (Nat × SO)} {ns : List Int} {M p n sp : Nat} {here : List Int} {s : Sg}
theorem CI {y4 y5 y7 y8 y9 y10 : Option W} (h0 : 0 < M) (I : aB ns M p n sp here h m rs F) : ∃ h', Dc (NM M p sp n y4 y5 y7 y8 y9 y10) h = .rt (.bl true) h' := by
  obtain ⟨c, e1, hc⟩ := vF I.st I.wf (a := M - 1) (by rw [I.len]; omega)
  rw [I.n] at e1
  have eM : (((M - 1 : Nat) : Int)) = (M : Int) - 1 := by omega
  rw [eM] at e1
  have nr := Co.near I.st.core
  rw [I.n] at nr
  have f1 : bH kf "cost" (.ref n) h = some bP := aJ nr rfl
  have x1 : aw kf "cost" (af 6) (aa (aE eN (af 1) (dC (.int 1))) aj) (NM M p sp n y4 y5 y7 y8 y9 y10) h = .ok (.int c) h := iX (xs := [.int ((M : Int) - 1)]) (oq rfl) f1 (by simp! only [NM]) e1
  have x2 : dB hV (aa (dC (.int 1)) (aa (dC (.int 5)) (aa (dC (.int 9)) aj))) (NM M p sp n y4 y5 y7 y8 y9 y10) h = .ok (.ref h.length) (h ++ [.tup [.int 1, .int 5, .int 9]]) := rfl
  have iw : AV (.int c) [.int 1, .int 5, .int 9] = true := by rcases hc with rfl | rfl | rfl <;> rfl
  have x3 : aE zS (aw kf "cost" (af 6) (aa (aE eN (af 1) (dC (.int 1))) aj)) (dB hV (aa (dC (.int 1)) (aa (dC (.int 5)) (aa (dC (.int 9)) aj)))) (NM M p sp n y4 y5 y7 y8 y9 y10) h = .ok (.bl true) (h ++ [.tup [.int 1, .int 5, .int 9]]) := p6 x1 x2 (by simp only [zS, nS, kX, List.all_cons, List.all_nil, Bool.and_self, if_true, iw])
  have S1 := I.st.app [.tup [.int 1, .int 5, .int 9]]
  generalize h ++ [SO.tup [.int 1, .int 5, .int 9]] = h1 at x3 S1
  obtain ⟨v, e2, l2⟩ := vm S1 I.wf (a := 0) (by rw [I.len]; omega)
  obtain ⟨h2, m2, rs2, v2, e3, S2, K2, l3, _⟩ := yt S1 I.wf (a := 0) (by rw [I.len]; omega)
  rw [l2] at l3
  cases l3
  rw [I.n] at e2 e3
  have nr1 := Co.near S1.core
  rw [I.n] at nr1
  have f2 : bH kd "look" (.ref n) h1 = some bN := aJ nr1 rfl
  have f3 : bH mV "get" (.ref n) h1 = some b4 := aJ nr1 rfl
  have x4 : aw kd "look" (af 6) (aa (dC (.int 0)) aj) (NM M p sp n y4 y5 y7 y8 y9 y10) h1 = .ok (.int v) h1 := iX (xs := [.int 0]) (oq rfl) f2 rfl e2
  have x5 : aw mV "get" (af 6) (aa (dC (.int 0)) aj) (NM M p sp n y4 y5 y7 y8 y9 y10) h1 = .ok (.int v) h2 := iX (xs := [.int 0]) (oq rfl) f3 rfl e3
  have ea : (aa (aw kd "look" (af 6) (aa (dC (.int 0)) aj)) (aa (aw mV "get" (af 6) (aa (dC (.int 0)) aj)) aj)) (NM M p sp n y4 y5 y7 y8 y9 y10) h1 = .ok [.int v, .int v] h2 := by
    rw [aa, x4]
    simp only [R.bind]
    rw [aa, x5]
    rfl
  exact ⟨h2, kl (CK x3 (fR ea (wY v h2)))⟩
theorem good (ns : List Int) (hl : ns.length ≤ 63) : ∃ h', vx [.ref lM.length] (lM ++ [.rol (ns.map HL.W.int)]) = .ok (.bl true) h' := by
  show ∃ h', vx [.ref 0] [.rol (ns.map HL.W.int)] = .ok (.bl true) h'
  have H0 : bG [SO.rol (ns.map HL.W.int)] [(0, SO.rol (ns.map HL.W.int))] := bG.new (h := []) (L := []) ⟨List.nodup_nil, fun x hx => nomatch hx⟩ _
  have hs0 : [SO.rol (ns.map HL.W.int)][0]? = some (.rol (ns.map .int)) := rfl
  generalize [SO.rol (ns.map HL.W.int)] = h0 at H0 hs0
  obtain ⟨c, e1, c0, _⟩ := gM hs0 hl 1 (by omega)
  obtain ⟨q, hq⟩ : ∃ q : Nat, (q : Int) = c % 16 := ⟨(c % 16).toNat, by omega⟩
  have d16 : decide ((0 : Int) < 16) = true := rfl
  have x1 : E2 (aH 11 [.ref 0]) h0 = .nx [some (.ref 0), some (.int (4 + 4 * q : Nat)), none, none, none, none, none, none, none, none, none] (h0 ++ [.lst []]) := by
    have em : (4 : Int) + 4 * (c % 16) = ((4 + 4 * q : Nat) : Int) := by omega
    unfold E2
    simp only [aT, aH, List.map_cons, List.map_nil, List.cons_append, List.nil_append, aE, dC, aC, aa, aj, af, List.getElem?_cons_zero, R.bind, e1, bp, eP, d16, if_true, OR.fin, cj, show fL 4 (c % 16) = true from rfl, bu, em]
    rfl
  obtain ⟨M, hM⟩ : ∃ M, M = 4 + 4 * q := ⟨_, rfl⟩
  have q16 : q < 16 := by omega
  rw [← hM] at x1
  have H1 := H0.app [.lst []]
  generalize h0 ++ [SO.lst []] = h1 at x1 H1
  obtain ⟨h2, ws, e2, H2, lw⟩ := wX hl (m := M) (by omega) H1
  obtain ⟨p, hp⟩ : ∃ p, p = h1.length := ⟨_, rfl⟩
  rw [← hp] at e2 H2
  have x2 : FP [some (.ref 0), some (.int M), none, none, none, none, none, none, none, none, none] h1 = .nx [some (.ref 0), some (.int M), some (.ref p), none, none, none, none, none, none, none, none] h2 := mx (fR (xs := [.ref 0, .int 200, .int M]) rfl e2)
  -- the slow one
  obtain ⟨h4, e4, H4⟩ := qX H2
  obtain ⟨sp, hsp⟩ : ∃ sp, sp = h2.length := ⟨_, rfl⟩
  rw [← hsp] at H4
  have x3 : FO [some (.ref 0), some (.int M), some (.ref p), none, none, none, none, none, none, none, none] h2 = .nx [some (.ref 0), some (.int M), some (.ref p), some (.ref sp), none, none, none, none, none, none, none] h4 := by
    rw [hsp]
    exact mx (vE (xs := [.ref p]) rfl e4)
  -- a bad number of sets
  have hs4 : h4[0]? = some (.rol (ns.map .int)) := H4.get (List.mem_cons_of_mem _ (List.mem_cons_of_mem _ (List.mem_cons_self ..)))
  obtain ⟨d, e5, d0, _⟩ := gM hs4 hl 9 (by omega)
  have x4 : FN [some (.ref 0), some (.int M), some (.ref p), some (.ref sp), none, none, none, none, none, none, none] h4 = .nx [some (.ref 0), some (.int M), some (.ref p), some (.ref sp), some (.int d), none, none, none, none, none, none] (h4 ++ [.lst []]) := mx (fR (xs := [.ref 0, .int 9]) rfl e5)
  have H5 := H4.app [.lst []]
  generalize h4 ++ [SO.lst []] = h5 at x4 H5
  have x5 : ∃ w l, C9 [some (.ref 0), some (.int M), some (.ref p), some (.ref sp), some (.int d), none, none, none, none, none, none] h5 = .nx [some (.ref 0), some (.int M), some (.ref p), some (.ref sp), some (.int d), some w, none, none, none, none, none] (h5 ++ l) ∧ Ba (h5 ++ l) w := by
    have gt : (h5 ++ [SO.tup [.int 2]] ++ [.lst [.int 0, .int 3, .int 5, .int 8, .int (-1), .bl true, .bl false, .non, .str "2", .ref h5.length, .int (6 + d / 11 % 99)]])[h5.length]? = some (.tup [.int 2]) := Eb vo
    have ev : ∀ w, qb [.int 0, .int 3, .int 5, .int 8, .int (-1), .bl true, .bl false, .non, .str "2", .ref h5.length, .int (6 + d / 11 % 99)] (d % 11) = some w → C9 [some (.ref 0), some (.int M), some (.ref p), some (.ref sp), some (.int d), none, none, none, none, none, none] h5 = .nx [some (.ref 0), some (.int M), some (.ref p), some (.ref sp), some (.int d), some w, none, none, none, none, none] (h5 ++ [SO.tup [.int 2]] ++ [.lst [.int 0, .int 3, .int 5, .int 8, .int (-1), .bl true, .bl false, .non, .str "2", .ref h5.length, .int (6 + d / 11 % 99)]]) := fun w hw => by
      unfold C9
      simp! only [cW, hV, show decide ((0 : Int) < 11) = true from rfl, show decide ((11 : Int) < 1073741824) = true from rfl, show decide ((0 : Int) < 99) = true from rfl, show (0 + 1 ≤ hW) from by decide, show (1 ≤ hW) from by decide, show (11 ≤ hW) from by decide, gW, nj, hw]
    have out : ∀ w, qb [.int 0, .int 3, .int 5, .int 8, .int (-1), .bl true, .bl false, .non, .str "2", .ref h5.length, .int (6 + d / 11 % 99)] (d % 11) = some w → Ba (h5 ++ [SO.tup [.int 2]] ++ [.lst [.int 0, .int 3, .int 5, .int 8, .int (-1), .bl true, .bl false, .non, .str "2", .ref h5.length, .int (6 + d / 11 % 99)]]) w → _ := fun w hw hb => (⟨w, [SO.tup [.int 2]] ++ [.lst [.int 0, .int 3, .int 5, .int 8, .int (-1), .bl true, .bl false, .non, .str "2", .ref h5.length, .int (6 + d / 11 % 99)]], by rw [ev w hw, List.append_assoc], by rw [← List.append_assoc]; exact hb⟩ : ∃ w l, C9 [some (.ref 0), some (.int M), some (.ref p), some (.ref sp), some (.int d), none, none, none, none, none, none] h5 = .nx [some (.ref 0), some (.int M), some (.ref p), some (.ref sp), some (.int d), some w, none, none, none, none, none] (h5 ++ l) ∧ Ba (h5 ++ l) w)
    have q99 := Int.emod_nonneg (d / 11) (show (99 : Int) ≠ 0 by decide)
    rcases (by omega : d % 11 = 0 ∨ d % 11 = 1 ∨ d % 11 = 2 ∨ d % 11 = 3 ∨ d % 11 = 4 ∨ d % 11 = 5 ∨ d % 11 = 6 ∨ d % 11 = 7 ∨ d % 11 = 8 ∨ d % 11 = 9 ∨ d % 11 = 10) with e | e | e | e | e | e | e | e | e | e | e <;> rw [e] at out
    · exact out _ rfl (.inr ⟨_, rfl, by omega, by omega, by omega⟩)
    · exact out _ rfl (.inr ⟨_, rfl, by omega, by omega, by omega⟩)
    · exact out _ rfl (.inr ⟨_, rfl, by omega, by omega, by omega⟩)
    · exact out _ rfl (.inr ⟨_, rfl, by omega, by omega, by omega⟩)
    · exact out _ rfl (.inr ⟨_, rfl, by omega, by omega, by omega⟩)
    · exact out _ rfl (.inl (.inl ⟨_, rfl⟩))
    · exact out _ rfl (.inl (.inl ⟨_, rfl⟩))
    · exact out _ rfl (.inl (.inr (.inl rfl)))
    · exact out _ rfl (.inl (.inr (.inr (.inl ⟨_, rfl⟩))))
    · exact out _ rfl (.inl (.inr (.inr (.inr ⟨_, _, rfl, gt, .inr ⟨_, rfl⟩⟩))))
    · exact out _ rfl (.inr ⟨_, rfl, by omega, by omega, by omega⟩)
  obtain ⟨w, l5, x5, bw⟩ := x5
  have H6 := H5.app l5
  generalize h5 ++ l5 = h6 at x5 bw H6
  obtain ⟨l6, e6⟩ := ui (s := sp) bw
  have x6 : FL [some (.ref 0), some (.int M), some (.ref p), some (.ref sp), some (.int d), some w, none, none, none, none, none] h6 = .nx [some (.ref 0), some (.int M), some (.ref p), some (.ref sp), some (.int d), some w, none, none, none, none, none] (h6 ++ l6) := by
    refine ud ?_
    have : aC cR (aa (af 3) (aa (af 5) aj)) [some (.ref 0), some (.int M), some (.ref p), some (.ref sp), some (.int d), some w, none, none, none, none, none] h6 = .ok (.bl true) (h6 ++ l6) := fR (xs := [.ref sp, w]) rfl e6
    simp only [cP, dT, this, R.bind, dM, Bool.not_true]
  have H7 := H6.app l6
  generalize h6 ++ l6 = h7 at x6 H7
  -- the near one
  have hs7 : (h7 ++ [SO.lst [.int 1, .int 2, .int 4]])[0]? = some (.rol (ns.map .int)) := (H7.app _).get (List.mem_cons_of_mem _ (List.mem_cons_of_mem _ (List.mem_cons_self ..)))
  obtain ⟨d2, e7, d20, _⟩ := gM hs7 hl 2 (by omega)
  have ek : ∃ k : Nat, qb [.int 1, .int 2, .int 4] (d2 % 3) = some (.int k) ∧ (k = 1 ∨ k = 2 ∨ k = 4) := by
    rcases (by omega : d2 % 3 = 0 ∨ d2 % 3 = 1 ∨ d2 % 3 = 2) with e | e | e <;> rw [e]
    · exact ⟨1, rfl, .inl rfl⟩
    · exact ⟨2, rfl, .inr (.inl rfl)⟩
    · exact ⟨4, rfl, .inr (.inr rfl)⟩
  obtain ⟨k, ek, hk⟩ := ek
  have H8 := (H7.app [.lst [.int 1, .int 2, .int 4]]).app [.lst []]
  obtain ⟨h9, r, ps, e8, H9, lp⟩ := rZ (s := sp) hk H8
  obtain ⟨n, hn⟩ : ∃ n, n = (h7 ++ [SO.lst [.int 1, .int 2, .int 4]] ++ [SO.lst []]).length := ⟨_, rfl⟩
  have sq : cy (h7 ++ [SO.lst [.int 1, .int 2, .int 4]] ++ [SO.lst []]) (.ref h7.length) = some [.int 1, .int 2, .int 4] := Bm (Eb vo)
  have x7 : FK [some (.ref 0), some (.int M), some (.ref p), some (.ref sp), some (.int d), some w, none, none, none, none, none] h7 = .nx (NM M p sp n (some (.int d)) (some w) none none none none) h9 := by
    rw [hn]
    refine mx (vE (xs := [.ref sp, .int k]) ?_ e8)
    simp only [aa, aj, af, aE, dB, dC, aC, List.getElem?_cons_zero, List.getElem?_cons_succ, R.bind, cW, List.length_cons, List.length_nil, show (0 + 1 + 1 + 1 ≤ hW) from by decide, if_true, OR.fin, e7, bp, eP, show decide ((0 : Int) < 3) = true from rfl, gW, sq, ek]
  rw [← hn] at H9
  let F0 : List (Nat × SO) := [(0, .rol (ns.map .int))]
  have S : St { n := n, s := sp, c := sp + 1, r := r, k := k, cells := ws, told := 0, put := 0 } (ps.map fun p => (⟨p, []⟩ : Rm)) F0 h9 := by
    unfold St
    rw [ue, xy]
    refine H9.perm (List.Perm.cons _ ?_)
    refine (List.perm_middle (l₁ := (r, SO.lst (ps.map .ref)) :: nv ps)).trans (List.Perm.cons _ ?_)
    refine (List.perm_middle (l₁ := (r, SO.lst (ps.map .ref)) :: nv ps)).trans (List.Perm.cons _ ?_)
    exact List.Perm.refl _
  have k0 : 0 < k := by rcases hk with h | h | h <;> omega
  have k4 : k ≤ 4 := by rcases hk with h | h | h <;> omega
  have W : WF { n := n, s := sp, c := sp + 1, r := r, k := k, cells := ws, told := 0, put := 0 } (ps.map fun p => (⟨p, []⟩ : Rm)) := by
    refine ⟨k0, by rw [List.length_map]; exact lp, by show ws.length % 4 = 0; omega, fun j rm hj => ?_⟩
    rw [List.getElem?_map] at hj
    cases hp : ps[j]? with
    | none => rw [hp] at hj; cases hj
    | some x =>
      rw [hp] at hj
      cases hj
      exact ⟨Nat.zero_le _, List.nodup_nil, (fun _ h => nomatch h), (fun _ h => nomatch h), (fun _ h => nomatch h), (fun _ h => nomatch h), (fun _ h => nomatch h)⟩
  have I : aB ns M p n sp ws h9 { n := n, s := sp, c := sp + 1, r := r, k := k, cells := ws, told := 0, put := 0 } (ps.map fun p => (⟨p, []⟩ : Rm)) F0 := by
    refine ⟨S, W, rfl, rfl, lw, lw, fun k' => ?_⟩
    unfold aW
    rw [List.getElem?_map]
    cases ps[k' % k]? <;> rfl
  have f0 : (0, SO.rol (ns.map .int)) ∈ F0 := List.mem_cons_self ..
  -- the eU
  have gs : cy h9 (.ref 0) = some (ns.map .int) := by
    have : h9[0]? = some (.rol (ns.map .int)) := S.at f0
    simp only [cy, bE, this, Option.or]
  have em : ∃ N : Nat, N ≤ 1000 ∧ dB mS (aa (dB gi (aa (af 0) aj)) (aa (dC (.int 12)) aj)) (NM M p sp n (some (.int d)) (some w) none none none none) h9 = .ok (.int N) h9 := by
    by_cases h12 : (12 : Int) < (ns.length : Int)
    · refine ⟨12, by omega, ?_⟩
      simp! only [NM, gi, gs, List.length_map, mS, h12]
      rfl
    · refine ⟨ns.length, by omega, ?_⟩
      simp! only [NM, gi, gs, List.length_map, mS, h12]
  obtain ⟨N, hN, em⟩ := em
  obtain ⟨s10, h10, e10, here, m, rs, y7, rfl, I10, kk⟩ := se (t := .fix (cz 0 N)) (i := 7) (b := xf) (fun s h' => ∃ here' m' rs' y7, s = NM M p sp n (some (.int d)) (some w) y7 none none none ∧ aB ns M p n sp here' h' m' rs' F0 ∧ m'.k = k) (fun _ => trivial) (cz 0 N) (by
    rintro x hx s h' ⟨here1, m1, rs1, z7, rfl, I1, k1⟩
    obtain ⟨j, _, rfl⟩ := List.mem_map.mp hx
    obtain ⟨h2, here2, m2, rs2, e2, I2, k2⟩ := wI (y4 := some (.int d)) (y5 := some w) (y8 := none) (y9 := none) (y10 := none) hl j (by omega) I1 f0
    rw [Int.zero_add]
    exact ⟨_, h2, e2, here2, m2, rs2, _, rfl, I2, k2.trans k1⟩) (NM M p sp n (some (.int d)) (some w) none none none none) h9 ⟨ws, _, _, none, rfl, I, rfl⟩
  have x8 : FJ (NM M p sp n (some (.int d)) (some w) none none none none) h9 = _ := u2 (m3 hN em) e10
  -- what is held, and counted
  obtain ⟨v8, h11, N8, e11, S11, T11⟩ := yq (i := 6) (s := NM M p sp n (some (.int d)) (some w) y7 none none none) I10.st I10.wf (by rw [kk]; exact k4) (by rw [I10.n]; rfl)
  have x9 : FI (NM M p sp n (some (.int d)) (some w) y7 none none none) h10 = .nx (NM M p sp n (some (.int d)) (some w) y7 (some v8) none none) h11 := mx e11
  obtain ⟨e12, S12⟩ := yI (s := NM M p sp n (some (.int d)) (some w) y7 (some v8) none none) S11 (by rw [I10.s]; rfl)
  generalize (h11 ++ [SO.lst (m.cells.map .int)]).length = t9 at e12 S12
  generalize h11.length = q9 at e12 S12
  generalize h11 ++ [SO.lst (m.cells.map .int)] ++ [SO.tup [.int m.told, .int m.put, .ref q9]] = h12 at e12 S12
  have x10 : FH (NM M p sp n (some (.int d)) (some w) y7 (some v8) none none) h11 = .nx (NM M p sp n (some (.int d)) (some w) y7 (some v8) (some (.ref t9)) none) h12 := mx e12
  obtain ⟨s13, h13, e13, y7', y10, rfl, S13⟩ := se (t := .fix (cz 0 6)) (i := 7) (b := qW) (fun s h' => ∃ y7 y10, s = NM M p sp n (some (.int d)) (some w) y7 (some v8) (some (.ref t9)) y10 ∧ St m rs ((t9, SO.tup [.int m.told, .int m.put, .ref q9]) :: (q9, SO.lst (m.cells.map .int)) :: (N8 ++ F0)) h') (fun _ => trivial) (cz 0 6) (by
    rintro x hx s h' ⟨z7, z10, rfl, S1⟩
    obtain ⟨j, _, rfl⟩ := List.mem_map.mp hx
    obtain ⟨h2, z10', e2, S2⟩ := ya (p := p) (y4 := some (.int d)) (y5 := some w) (y10 := z10) hl j I10.n I10.s I10.len (by omega) (by omega) (by rw [kk]; exact k4) I10.wf S1 (List.mem_cons_of_mem _ (List.mem_cons_of_mem _ (List.mem_append_right _ f0))) (Tv.mono (fun _ _ mm => List.mem_cons_of_mem _ (List.mem_cons_of_mem _ mm)) _ _ T11) (List.mem_cons_self ..) (List.mem_cons_of_mem _ (List.mem_cons_self ..))
    rw [Int.zero_add]
    exact ⟨_, h2, e2, _, z10', rfl, S2⟩) (NM M p sp n (some (.int d)) (some w) y7 (some v8) (some (.ref t9)) none) h12 ⟨y7, none, rfl, S12⟩
  have x11 : Dd (NM M p sp n (some (.int d)) (some w) y7 (some v8) (some (.ref t9)) none) h12 = _ := u2 (t := .fix (cz 0 6)) rfl e13
  obtain ⟨h14, x12⟩ := CI (y4 := some (.int d)) (y5 := some w) (y7 := y7') (y8 := some v8) (y9 := some (.ref t9)) (y10 := y10) (by omega) (I10.more S13)
  refine ⟨h14, cD rfl ?_⟩
  rw [EY, ay x1, ay x2, ay x3, ay x4, ay x5, ay x6, ay x7, ay x8, ay x9, ay x10, ay x11, x12]
end
end K47
namespace K47
open PySem L2
def qS (gf cI cq je fz hZ cY : Addr) : List (Str × Addr × List HL.W) := [("Line", gf, [.gl "Line"]), ("MillError", cI, [.gl "MillError", .ty "ValueError"]), ("Near", cq, [.gl "Near"]), ("NoLine", je, [.gl "NoLine", .gl "MillError", .ty "ValueError"]), ("NoPlace", fz, [.gl "NoPlace", .gl "MillError", .ty "ValueError"]), ("NoSets", hZ, [.gl "NoSets", .gl "MillError", .ty "ValueError"]), ("Slow", cY, [.gl "Slow"])]
theorem Fx {P : Program} {w : World} {K : PySem.W.Frag} {mg : Str → Option Value} {gf cI cq je fz hZ cY : Addr} (iW : mg "Line" = some (.ref gf)) (fq : mg "MillError" = some (.ref cI)) (cU : mg "Near" = some (.ref cq)) (j8 : mg "NoLine" = some (.ref je)) (gA : mg "NoPlace" = some (.ref fz)) (iV : mg "NoSets" = some (.ref hZ)) (dW : mg "Slow" = some (.ref cY)) (fA : mg "ValueError" = none) (nP : mg "bool" = none) (gO : mg "enumerate" = none) (qA : mg "int" = none) (bh : mg "isinstance" = none) (lr : mg "len" = none) (mU : mg "list" = none) (sC : mg "min" = none) (jk : mg "range" = none) (jj : mg "tuple" = none) (hi : ∀ p ∈ qS gf cI cq je fz hZ cY, p.2.2.contains (.ty "ValueError") = false → vL K p.2.1) (hx : ∀ p ∈ qS gf cI cq je fz hZ cY, p.2.2.contains (.ty "ValueError") = true → qR K p.2.1) (hb : Cy K (qS gf cI cq je fz hZ cY) = true) (bI : pj K cY) (nC : A8 K mg "Slow" cY) (aA : pj K cq) (ku : A8 K mg "Near" cq) (hJ : pj K gf) (nD : A8 K mg "Line" gf) (nI : sv K gf) (jQ : dZ K cY "cells") (ie : dZ K gf "changed") (fK : dZ K cY "lines_put") (ff : dZ K cY "lines_told") (iS : dZ K gf "number") (jR : dZ K cq "rooms") (kr : dZ K cq "sets") (kq : dZ K cq "slow") (jS : dZ K gf "words") (lN : ∃ u, mg "ROOM" = some u ∧ bJ (.int 2) u) (exm_MillError_NoLine : PySem.W.exmOne K (.ref je) (.ref cI) = some true) (exm_MillError_NoSets : PySem.W.exmOne K (.ref hZ) (.ref cI) = some true) (exm_MillError_NoPlace : PySem.W.exmOne K (.ref fz) (.ref cI) = some true) (j0 : wO K mg "NoSets" hZ) (iO : wO K mg "NoPlace" fz) (lV : aQ K mg "_law_cell" jq) (lU : aQ K mg "_law_word" jo) (kG : aQ K mg "_law_words" iB) (lX : aG K cY "__init__" "Slow.__init__" jt ["self", "words"]) (lT : aQ K mg "is_number" jn) (jL : aG K cq "__init__" "Near.__init__" gT ["self", "slow", "sets"]) (i7 : aQ K mg "_law_classes" fF) (iZ : aQ K mg "_law_no_sets" fD) (lS : aQ K mg "is_within" jm) (lW : aG K cY "size" "Slow.size" jr ["self"]) (cb : aG K cq "refuse_no_place" "Near.refuse_no_place" bL ["self", "address"]) (ja : aG K cq "room_of" "Near.room_of" fI ["self", "number"]) (kM : aG K cq "found" "Near.found" iF ["self", "number"]) (dF : aG K cY "refuse_no_line" "Slow.refuse_no_line" cu ["self", "k"]) (iq : aG K cY "put_four" "Slow.put_four" eY ["self", "k", "words"]) (f9 : aG K cq "write_back" "Near.write_back" dH ["self", "line"]) (md : aG K gf "__init__" "Line.__init__" jx ["self", "number", "words", "changed"]) (lY : aG K cY "four" "Slow.four" ju ["self", "k"]) (kN : aG K cq "asked" "Near.asked" iG ["self", "number"]) (kL : aG K cq "get" "Near.get" iR ["self", "address"]) (kK : aG K cq "put" "Near.put" iQ ["self", "address", "word"]) (jM : aG K cq "cost" "Near.cost" gU ["self", "address"]) (i9 : aG K cY "word_at" "Slow.word_at" fH ["self", "address"]) (jK : aG K cq "look" "Near.look" gS ["self", "address"]) (jV : aG K cq "settle" "Near.settle" gJ ["self"]) (m7 : aQ K mg "_law_did" kj) (i8 : aQ K mg "_law_address" fG) (i6 : aQ K mg "_law_deed_by" fE) (ma : aG K gf "told" "Line.told" jw ["self"]) (kF : aQ K mg "lines_told" iA) (lZ : aG K cq "held" "Near.held" jv ["self"]) (kJ : aG K cY "reads" "Slow.reads" iE ["self"]) (jU : aG K cY "writes" "Slow.writes" gI ["self"]) (kI : aG K cY "whole" "Slow.whole" iD ["self"]) (il : aQ K mg "_law_no_place" eW) (m6 : aQ K mg "_law_odd" ki) (kH : aQ K mg "_law_whole" iC) (yS : aQ K mg "law" u0) : yR P w K mg 9 :=
  all (γ := gm mg) (ρ := fun _ => 0) ⟨fA,
    nP,
    gO,
    qA,
    bh,
    lr,
    mU,
    sC,
    jk,
    jj,
    wA (by intro p hp; simp only [qS, List.mem_cons, List.not_mem_nil, or_false] at hp; rcases hp with rfl | rfl | rfl | rfl | rfl | rfl | rfl <;> (first | exact aP iW | exact aP fq | exact aP cU | exact aP j8 | exact aP gA | exact aP iV | exact aP dW)) hi hx hb,
    (by rw [aP dW]; exact bI),
    (by rw [aP dW]; exact nC),
    (by rw [aP cU]; exact aA),
    (by rw [aP cU]; exact ku),
    (by rw [aP iW]; exact hJ),
    (by rw [aP iW]; exact nD),
    (by rw [aP iW]; exact nI),
    (by rw [aP fq]; exact fq),
    (by rw [aP j8]; exact j8),
    (by rw [aP gA]; exact gA),
    (by rw [aP iV]; exact iV),
    (by intro c hc; rw [List.mem_singleton.mp hc, aP dW]; exact ⟨bI, jQ⟩),
    (by intro c hc; rw [List.mem_singleton.mp hc, aP iW]; exact ⟨hJ, ie⟩),
    (by intro c hc; rw [List.mem_singleton.mp hc, aP dW]; exact ⟨bI, fK⟩),
    (by intro c hc; rw [List.mem_singleton.mp hc, aP dW]; exact ⟨bI, ff⟩),
    (by intro c hc; rw [List.mem_singleton.mp hc, aP iW]; exact ⟨hJ, iS⟩),
    (by intro c hc; rw [List.mem_singleton.mp hc, aP cU]; exact ⟨aA, jR⟩),
    (by intro c hc; rw [List.mem_singleton.mp hc, aP cU]; exact ⟨aA, kr⟩),
    (by intro c hc; rw [List.mem_singleton.mp hc, aP cU]; exact ⟨aA, kq⟩),
    (by intro c hc; rw [List.mem_singleton.mp hc, aP iW]; exact ⟨hJ, jS⟩),
    lN,
    (by intro c hc; simp only [List.contains_cons, List.contains_nil, Bool.or_false, Bool.or_eq_true, beq_iff_eq] at hc; rcases hc with rfl | rfl | rfl <;> (rw [aP fq]; first | (rw [aP j8]; exact exm_MillError_NoLine) | (rw [aP iV]; exact exm_MillError_NoSets) | (rw [aP gA]; exact exm_MillError_NoPlace))),
    (by rw [aP iV]; exact j0),
    (by rw [aP gA]; exact iO)⟩ m8.nil lV
    lU
    kG
    (by rw [aP dW]; exact lX)
    lT
    (by rw [aP cU]; exact jL)
    i7
    iZ
    lS
    (by rw [aP dW]; exact lW)
    (by rw [aP cU]; exact cb)
    (by rw [aP cU]; exact ja)
    (by rw [aP cU]; exact kM)
    (by rw [aP dW]; exact dF)
    (by rw [aP dW]; exact iq)
    (by rw [aP cU]; exact f9)
    (by rw [aP iW]; exact md)
    (by rw [aP dW]; exact lY)
    (by rw [aP cU]; exact kN)
    (by rw [aP cU]; exact kL)
    (by rw [aP cU]; exact kK)
    (by rw [aP cU]; exact jM)
    (by rw [aP dW]; exact i9)
    (by rw [aP cU]; exact jK)
    (by rw [aP cU]; exact jV)
    m7
    i8
    i6
    (by rw [aP iW]; exact ma)
    kF
    (by rw [aP cU]; exact lZ)
    (by rw [aP dW]; exact kJ)
    (by rw [aP dW]; exact jU)
    (by rw [aP dW]; exact kI)
    il
    m6
    kH
    yS good
end K47
open PySem PySem.W PyProof.Rows
set_option maxRecDepth 100000 in
set_option maxHeartbeats 0 in
theorem PySem.Challenge.cw_rowmill_k47_near_refused_holds : PySem.Challenge.rw_rowmill_k47_near_refused.Holds := by
  w_on; o_law; k_head; (case hw => w_witness2)
  k_fill
  refine L2.vN (l := PySem.Challenge.rw_rowmill_k47_near_refused) (k := 9) rfl rfl ⟨rfl, by decide, by decide⟩ (fun w h Y => PySem.W.kIn_of Y) rfl ?F
  case F =>
    intro w mg h KX G
    refine' K47.Fx ?iW ?fq ?cU ?j8 ?gA ?iV ?dW ?fA ?nP ?gO ?qA ?bh ?lr ?mU ?sC ?jk ?jj ?hi ?hx ?hb ?bI ?nC ?aA ?ku ?hJ ?nD ?nI ?jQ ?ie ?fK ?ff ?iS ?jR ?kr ?kq ?jS ?lN ?exm_MillError_NoLine ?exm_MillError_NoSets ?exm_MillError_NoPlace ?j0 ?iO (L2.cm KX G ?a0 ?l0 ?c0 ?k0) (L2.cm KX G ?a1 ?l1 ?c1 ?k1) (L2.cm KX G ?a2 ?l2 ?c2 ?k2) (L2.bb ?a3 ?l3 ?c3 ?k3 ?n3 ?b3) (L2.cm KX G ?a4 ?l4 ?c4 ?k4) (L2.bb ?a5 ?l5 ?c5 ?k5 ?n5 ?b5) (L2.cm KX G ?a6 ?l6 ?c6 ?k6) (L2.cm KX G ?a7 ?l7 ?c7 ?k7) (L2.cm KX G ?a8 ?l8 ?c8 ?k8) (L2.bb ?a9 ?l9 ?c9 ?k9 ?n9 ?b9) (L2.bb ?a10 ?l10 ?c10 ?k10 ?n10 ?b10) (L2.bb ?a11 ?l11 ?c11 ?k11 ?n11 ?b11) (L2.bb ?a12 ?l12 ?c12 ?k12 ?n12 ?b12) (L2.bb ?a13 ?l13 ?c13 ?k13 ?n13 ?b13) (L2.bb ?a14 ?l14 ?c14 ?k14 ?n14 ?b14) (L2.bb ?a15 ?l15 ?c15 ?k15 ?n15 ?b15) (L2.bb ?a16 ?l16 ?c16 ?k16 ?n16 ?b16) (L2.bb ?a17 ?l17 ?c17 ?k17 ?n17 ?b17) (L2.bb ?a18 ?l18 ?c18 ?k18 ?n18 ?b18) (L2.bb ?a19 ?l19 ?c19 ?k19 ?n19 ?b19) (L2.bb ?a20 ?l20 ?c20 ?k20 ?n20 ?b20) (L2.bb ?a21 ?l21 ?c21 ?k21 ?n21 ?b21) (L2.bb ?a22 ?l22 ?c22 ?k22 ?n22 ?b22) (L2.bb ?a23 ?l23 ?c23 ?k23 ?n23 ?b23) (L2.bb ?a24 ?l24 ?c24 ?k24 ?n24 ?b24) (L2.cm KX G ?a25 ?l25 ?c25 ?k25) (L2.cm KX G ?a26 ?l26 ?c26 ?k26) (L2.cm KX G ?a27 ?l27 ?c27 ?k27) (L2.bb ?a28 ?l28 ?c28 ?k28 ?n28 ?b28) (L2.cm KX G ?a29 ?l29 ?c29 ?k29) (L2.bb ?a30 ?l30 ?c30 ?k30 ?n30 ?b30) (L2.bb ?a31 ?l31 ?c31 ?k31 ?n31 ?b31) (L2.bb ?a32 ?l32 ?c32 ?k32 ?n32 ?b32) (L2.bb ?a33 ?l33 ?c33 ?k33 ?n33 ?b33) (L2.cm KX G ?a34 ?l34 ?c34 ?k34) (L2.cm KX G ?a35 ?l35 ?c35 ?k35) (L2.cm KX G ?a36 ?l36 ?c36 ?k36) (L2.cm KX G ?a37 ?l37 ?c37 ?k37)
    case iW | fq | cU | j8 | gA | iV | dW => exact PySem.W.mg_of KX G (by k_is)
    case fA | nP | gO | qA | bh | lr | mU | sC | jk | jj => exact PySem.W.mg_none_of KX G (by k_is)
    case hi => intro p hp hv; simp only [K47.qS, List.mem_cons, List.not_mem_nil, or_false] at hp; rcases hp with rfl | rfl | rfl | rfl | rfl | rfl | rfl <;> first | (exfalso; revert hv; decide) | exact ⟨⟨by k_is, by k_is, by k_is, by k_is⟩, by k_is, by k_is, by k_is, by k_is⟩
    case hx => intro p hp hv; simp only [K47.qS, List.mem_cons, List.not_mem_nil, or_false] at hp; rcases hp with rfl | rfl | rfl | rfl | rfl | rfl | rfl <;> first | (exfalso; revert hv; decide) | exact { cl := by kernel_rfl, sa := by k_is, ga := by k_is, gt := by k_is, ha := by k_is, hn := by k_is, htk := by k_is }
    case hb | exm_MillError_NoLine | exm_MillError_NoSets | exm_MillError_NoPlace => kernel_rfl
    case bI | aA | hJ => exact ⟨by k_is, by k_is, by k_is, by k_is⟩
    case nC | ku | nD => exact ⟨PySem.W.mg_of KX G (by k_is), by k_is, by k_is⟩
    case nI => exact ⟨by k_is, by k_is⟩
    case jQ | ie | fK | ff | iS | jR | kr | kq | jS => unfold L2.dZ; k_is
    case lN => exact ⟨_, PySem.W.mg_of KX G (by k_is), _, rfl⟩
    case j0 | iO => exact ⟨PySem.W.mg_of KX G (by k_is), by kernel_rfl, by k_is⟩
    case a0 | l0 | c0 | k0 | a1 | l1 | c1 | k1 | a2 | l2 | c2 | k2 | a3 | l3 | c3 | k3 | n3 | a4 | l4 | c4 | k4 | a5 | l5 | c5 | k5 | n5 | a6 | l6 | c6 | k6 | a7 | l7 | c7 | k7 | a8 | l8 | c8 | k8 | a9 | l9 | c9 | k9 | n9 | a10 | l10 | c10 | k10 | n10 | a11 | l11 | c11 | k11 | n11 | a12 | l12 | c12 | k12 | n12 | a13 | l13 | c13 | k13 | n13 | a14 | l14 | c14 | k14 | n14 | a15 | l15 | c15 | k15 | n15 | a16 | l16 | c16 | k16 | n16 | a17 | l17 | c17 | k17 | n17 | a18 | l18 | c18 | k18 | n18 | a19 | l19 | c19 | k19 | n19 | a20 | l20 | c20 | k20 | n20 | a21 | l21 | c21 | k21 | n21 | a22 | l22 | c22 | k22 | n22 | a23 | l23 | c23 | k23 | n23 | a24 | l24 | c24 | k24 | n24 | a25 | l25 | c25 | k25 | a26 | l26 | c26 | k26 | a27 | l27 | c27 | k27 | a28 | l28 | c28 | k28 | n28 | a29 | l29 | c29 | k29 | a30 | l30 | c30 | k30 | n30 | a31 | l31 | c31 | k31 | n31 | a32 | l32 | c32 | k32 | n32 | a33 | l33 | c33 | k33 | n33 | a34 | l34 | c34 | k34 | a35 | l35 | c35 | k35 | a36 | l36 | c36 | k36 | a37 | l37 | c37 | k37 => k_is
    case b3 | b10 | b11 | b12 | b13 | b15 | b17 | b18 | b19 | b21 | b22 | b23 => exact fun s us X hl => match us, hl with | [_, _], _ => PySem.W.kp_binds X (fun S => by kernel_rfl)
    case b5 | b14 | b20 => exact fun s us X hl => match us, hl with | [_, _, _], _ => PySem.W.kp_binds X (fun S => by kernel_rfl)
    case b9 | b24 | b28 | b30 | b31 | b32 | b33 => exact fun s us X hl => match us, hl with | [_], _ => PySem.W.kp_binds X (fun S => by kernel_rfl)
    case b16 => exact fun s us X hl => match us, hl with | [_, _, _, _], _ => PySem.W.kp_binds X (fun S => by kernel_rfl)
