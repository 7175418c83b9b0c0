import PyProof.Rows.All
import Wide.All
import OpenK.AllK
import Wide.FinOn
import HandS.Words
import HandS.WordsExc
import KE.KExcInit
import KE.KExcIs
import KE.KExcSuper
import HandS.Property
import HandS.WideBits
import KE.KStateDown
import HandS.Head0
import HandS.Head1
import HandS.Head2
import HandS.Head3
import HandS.HeadHook1
import HandS.ForMost
import HandS.Exc
import HandS.ExcInit
import HandS.IsInst
import HandS.Walk
import HandS.Steps
import HandS.TupSets
import KE.SortCalls
import HandS.SortOrd
import HandS.TupLe
import HandS.SortRule
import HandS.DictTup
import HandS.DeepEq
import KE.GoesEnum
import HandS.TryOnly
import HandS.TryMany
import HandS.Text
import HandS.Style
import HandS.FStr
import HandS.RaiseMore
import PyProof.Rows.StrDigitsNeg
import PyProof.Rows.StrJoinMade
import HandS.Deep
import HandS.HeadEnd
import PySem.Challenge.RW_anyshape_k40_terms
set_option Elab.async false
set_option linter.all false
set_option maxRecDepth 100000
set_option maxHeartbeats 8000000
namespace K40
open PySem PySem.Spec PyProof.Rows L2 He
def abc : Str := "abcdefghijklmnopqrstuvwxyz"
def top (i : Nat) : Stmt := PySem.Challenge.pw_anyshape_k40_terms.main.body.getD i (.Pass ⟨0, 0, 0, 0⟩)
abbrev sSize : Stmt := top 0
/-! ### what is looked at behind the top -/
/-- an object that a namespace names -/
def gNs (g : Addr → Option Obj) (ns : Addr) (x : Str) : Addr := match g ns with
  | some ⟨_, _, .dict es _, _⟩ => (match es.toList.find? (·.key.isStr x) with
    | some e => (match e.val with
      | .ref a => a
      | _ => 0)
    | none => 0)
  | _ => 0
/-- a function, its code, its defaults -/
def gFn (g : Addr → Option Obj) (f : Addr) : List Addr := f :: (match g f with
  | some ⟨_, _, .func fd, _⟩ => (match fd.code with
    | .ref c => [c]
    | _ => []) ++ (match fd.defaults with
    | .ref t => [t]
    | _ => []) ++ fd.closure.map (·.2)
  | _ => [])
/-- .., or a record over it -/
def gMb (g : Addr → Option Obj) (p : Addr) : List Addr := match g p with
  | some ⟨_, _, .fields vs, _⟩ => (match vs[0]? with
    | some (Value.ref f) => p :: gFn g f
    | _ => [p])
  | _ => gFn g p
def meths : List (Str × Nat) := []
def xCl (g : Addr → Option Obj) (C : Addr) : List Addr := C :: (match g C with
  | some ⟨_, _, .cls cd, _⟩ => cd.ns :: gFn g (gNs g cd.ns "__init__")
  | _ => [])
def om : List (Str × Str × Str × Nat × Nat) := []
def opl : List (Str × Str) := []
def opr : List (Str × Str) := []
def oi : List (Str × Str × Nat × Nat) := []
def ocl : List (Str × List Str) := []
def osup : List (Str × Str) := []
def odf : List Str := []
def okit : List (Str × Str × Bool) := []
def onf : List (Str × Str) := []
def oway : List (Str × Str × Str) := []
/-- another own class: it, its names, its methods -/
def gOc (g : Addr → Option Obj) (c : Str) : List Addr := gNs g mainGlobals c :: (match g (gNs g mainGlobals c) with
  | some ⟨_, _, .cls cd, _⟩ => cd.ns :: gMb g (gNs g cd.ns "__init__") ++ (om.filter fun p => decide (p.1 = c)).flatMap fun p => gMb g (gNs g cd.ns p.2.1)
  | _ => [])
/-- what the defaults of its __init__ are -/
def gDf (g : Addr → Option Obj) (c : Str) : List Addr := match g (gNs g mainGlobals c) with
  | some ⟨_, _, .cls cd, _⟩ => (match g (gNs g cd.ns "__init__") with
    | some ⟨_, _, .func fd, _⟩ => (match fd.defaults with
      | .ref t => (match g t with
        | some ⟨_, _, .seq its _, _⟩ => its.toList.filterMap fun v => match v with
          | .ref a => some a
          | _ => none
        | _ => [])
      | _ => [])
    | _ => [])
  | _ => []
def fns0 : List (Str × Nat) := [("decimal_text", 3), ("is_integer", 10), ("is_count", 11), ("is_list", 12), ("is_name", 16), ("is_term", 20), ("put_together", 21), ("word_over", 22), ("reads_of", 23), ("term_text", 24), ("check_term", 25), ("_reads_in", 26), ("_text_of", 27), ("_law_rng", 29), ("_law_draw", 30), ("_law_choice", 31)]
def fns1 : List (Str × Nat) := [("_law_put", 32), ("_law_term", 33), ("_law_bag", 34), ("_law_reads", 35), ("_law_text", 36), ("_law_odd", 37), ("_law_told", 38), ("_law_refused", 39), ("_law_bag_right", 40), ("_law_wrong_right", 41), ("_law_right", 42), ("law", 43)]
def fns : List (Str × Nat) := fns0 ++ fns1
def xcs : List Str := ["AnyshapeError", "InvalidTerm", "InvalidTerms", "InvalidWord"]
def addrs (g : Addr → Option Obj) : List Addr := [mainGlobals, sysModules, cStatics] ++ [gNs g mainGlobals "WORDS"] ++ (xcs.flatMap fun x => xCl g (gNs g mainGlobals x)) ++ (ocl.flatMap fun p => gOc g p.1) ++ (odf.flatMap fun c => gDf g c) ++ fns.flatMap fun p => gFn g (gNs g mainGlobals p.1)
def KX (g : Addr → Option Obj) : PySem.W.Frag := He.frG g (addrs g)

/-! ### the facts -/
abbrev FnX : Type := Option (Str × Str × Arguments × FuncBody × Scope × Addr × Addr)
def fnX (K : PySem.W.Frag) (f : Addr) : FnX := match K.lookup f with
  | some ⟨_, _, .func fd, _⟩ => some (fd.name, fd.qualname, fd.params, fd.body, fd.scope, fd.globals, fd.builtins)
  | _ => none
def fnT (x qual : Str) (st : Stmt) : FnX := some (x, qual, defArgs st, .stmts (defBody st), defScope st, mainGlobals, builtinsNs)
def fnB (K : PySem.W.Frag) (f : Addr) (qual : Str) : Bool := PySem.W.keepIn K (.ref f) && match K.lookup f with
  | some ⟨_, _, .func fd, _⟩ => (match fd.closure, fd.defaults with
    | [], .none => PySem.W.codeIn K fd.code qual
    | _, _ => false)
  | _ => false
abbrev caK (K : PySem.W.Frag) : Addr := ga K "Size"
def eO (a b : Option (Option Value)) : Bool := decide (a = b)
def eB (a b : Option Bool) : Bool := decide (a = b)
/-- the function of a record -/
def rcF (K : PySem.W.Frag) (p : Addr) (T : String) : Addr := match PySem.W.recIn K p T with
  | some (.ref g :: _) => g
  | _ => 0
def rcB (K : PySem.W.Frag) (p : Addr) (T : String) : Bool := match PySem.W.recIn K p T with
  | some (.ref _ :: _) => true
  | _ => false
def cmB (K : PySem.W.Frag) (m : Str) : Bool := match PySem.W.findCls K (.ref (caK K)) (.type "type") m with
  | some (.get g a o t) => decide (g = .builtin "classmethod.__get__") && (decide (a = .ref (ma K (caK K) m)) && (decide (o = .none) && decide (t = .ref (caK K))))
  | _ => false
/-- a method's function -/
def meA (K : PySem.W.Frag) (m : Str) : Addr := ma K (caK K) m
def props : List Str := []
def cms : List Str := []
def plain : List Str := []
def faM (K : PySem.W.Frag) (m : Str) : Addr := if decide (m ∈ props) then rcF K (meA K m) "property" else if decide (m ∈ cms) then rcF K (meA K m) "classmethod" else meA K m
def quM (m : Str) : Str := ("Size." : Str) ++ m
def clB (K : PySem.W.Frag) : Bool :=
  true
def plB (K : PySem.W.Frag) (m : Str) : Bool := eO (PySem.W.findIn K (.ref (caK K)) m) (some (some (.ref (meA K m)))) && PySem.W.isFn K (.ref (meA K m))
def prB (K : PySem.W.Frag) (m : Str) : Bool := eO (PySem.W.findIn K (.ref (caK K)) m) (some (some (.ref (meA K m)))) && (eO (PySem.W.specialIn K (.ref (meA K m)) "__get__") (some (some (.builtin "property.__get__"))) &&
  (eB (PySem.W.takesIn K (.ref (meA K m))) (some true) && rcB K (meA K m) "property"))
def cmmB (K : PySem.W.Frag) (m : Str) : Bool := cmB K m && (rcB K (meA K m) "classmethod" && PySem.W.fnIn K (rcF K (meA K m) "classmethod"))
def bltN : List Str := ["len", "max", "min", "abs", "int", "divmod", "repr", "isinstance", "range", "enumerate", "all", "any", "bool", "str", "dict", "sorted", "list", "set", "tuple", "super"]
def conB (K : PySem.W.Frag) : Bool := (match PySem.W.nsIn K mainGlobals "LETTERS" with
  | some (some (.str x _)) => decide (x = abc)
  | _ => false) && ((match PySem.W.nsIn K mainGlobals "LONGEST_NAME" with
  | some (some (.int i _)) => decide (i = 8)
  | _ => false) && ((match PySem.W.nsIn K mainGlobals "CHUNK" with
  | some (some (.int i _)) => decide (i = 10 ^ 60)
  | _ => false) && ((match PySem.W.nsIn K mainGlobals "MOST_JOINED" with
  | some (some (.int i _)) => decide (i = 3)
  | _ => false))))

/-! ### own exceptions -/
def inB (K : PySem.W.Frag) (file : Str) (C f : Addr) (qual : Str) : Bool := match K.lookup f with
  | some ⟨_, _, .func fd, _⟩ => (match fd.closure, fd.defaults, fd.code with
    | [(x, cc)], .none, .ref cda => decide (x = "__class__") && (match K.lookup cc with
      | some ⟨_, _, .cell (some (.ref D)), _⟩ => decide (D = C)
      | _ => false) && PySem.W.codeIn K (.ref cda) qual && (match K.lookup cda with
      | some ⟨_, _, .fields vs, _⟩ => (match vs[2]? with
        | some (Value.str fl _) => file == fl
        | _ => false)
      | _ => false)
    | _, _, _ => false)
  | _ => false
def bmL (B : String) : List Value := [.type B, .type "Exception", .type "BaseException", .type "object"]
def fileK : Str := PySem.Challenge.pw_anyshape_k40_terms.main.file
def xB (K : PySem.W.Frag) (nm qu : Str) (B nw it : String) (fs : List Str) : Bool :=
  eO (PySem.W.nsIn K mainGlobals nm) (some (some (.ref (ga K nm)))) &&
  (eO (PySem.W.findIn K (.ref (ga K nm)) "__init__") (some (some (.ref (ma K (ga K nm) "__init__")))) &&
  (decide (PySem.W.typeIn K (.ref (ma K (ga K nm) "__init__")) = some (.type "function")) &&
  (inB K fileK (ga K nm) (ma K (ga K nm) "__init__") qu &&
  (PySem.W.excInitIn K (ga K nm) (bmL B) nw &&
  (PySem.W.excOver K (ga K nm) (bmL B) &&
  (PySem.W.hasDictIn K (ga K nm) &&
  (eO (PySem.W.findIn K (.ref (ga K nm)) "__setattr__") (some (some (.builtin "object.__setattr__"))) &&
  (PySem.W.keepIn K (.ref (ga K nm)) &&
  ((PySem.W.clsIn K (ga K nm)).isSome &&
  (eB (PySem.W.mroIn K (ga K nm) (.ref (ga K nm))) (some true) &&
  (eB (PySem.W.subIn K (.ref (ga K nm)) (.type B)) (some true) &&
  (eO (PySem.W.ks_superIn K (ga K nm) (ga K nm) "__init__") (some (some (.builtin it))) &&
  (eO (PySem.W.findIn K (.ref (ga K nm)) "__getattribute__") (some (some (.builtin "BaseException.__getattribute__"))) &&
  (eO (PySem.W.findIn K (.ref (ga K nm)) "__getattr__") (some none) &&
  (eB (PySem.W.subIn K (.ref (ga K nm)) (.type "BaseException")) (some true) &&
  (eO (PySem.W.findIn K (.ref (ga K nm)) "__class__") (some (some (.builtin "object.__class__"))) &&
  (eB (PySem.W.mroIn K (ga K nm) (.type "object")) (some true) &&
  (decide (PySem.W.typeIn K (.ref (ga K nm)) = some (.type "type")) &&
  (fs.all fun f => decide (PySem.W.findIn K (.ref (ga K nm)) f = some none))))))))))))))))))))
/-- WORDS: a tuple of three texts -/
def wordsB (K : PySem.W.Frag) : Bool := match K.lookup (ga K "WORDS") with
  | some ⟨c, _, .seq its _, _⟩ => decide (c = .type "tuple") && (match its.toList with
    | [.str a _, .str b _, .str d _] => decide (a = "sum") && (decide (b = "greatest") && decide (d = "least"))
    | _ => false)
  | _ => false
def exB (K : PySem.W.Frag) : Bool := xB K "InvalidTerm" "InvalidTerm.__init__" "ValueError" "ValueError.__new__" "ValueError.__init__" ["value"] && (xB K "InvalidTerms" "InvalidTerms.__init__" "ValueError" "ValueError.__new__" "ValueError.__init__" ["position"] && (xB K "InvalidWord" "InvalidWord.__init__" "ValueError" "ValueError.__new__" "ValueError.__init__" ["value"] && (eB (PySem.W.exmOne K (.ref (ga K "InvalidWord")) (.ref (ga K "InvalidWord"))) (some true) && (eB (PySem.W.exmOne K (.ref (ga K "InvalidTerms")) (.ref (ga K "InvalidWord"))) (some false) && (eB (PySem.W.exmOne K (.ref (ga K "InvalidTerms")) (.ref (ga K "InvalidTerms"))) (some true) && (eB (PySem.W.exmOne K (.ref (ga K "InvalidTerm")) (.ref (ga K "InvalidTerm"))) (some true) && (eB (PySem.W.kitOne K (.ref (ga K "InvalidWord")) (.ref (ga K "AnyshapeError"))) (some true) && (eB (PySem.W.kitOne K (.ref (ga K "InvalidTerms")) (.ref (ga K "AnyshapeError"))) (some true) && (eB (PySem.W.kitAny K (.ref (ga K "InvalidWord")) [.ref (ga K "InvalidTerms"), .ref (ga K "InvalidTerm")]) (some false) && (eB (PySem.W.kitAny K (.ref (ga K "InvalidTerms")) [.ref (ga K "InvalidWord"), .ref (ga K "InvalidTerm")]) (some false) && (eO (PySem.W.nsIn K mainGlobals "AnyshapeError") (some (some (.ref (ga K "AnyshapeError")))) && (eO (PySem.W.nsIn K mainGlobals "WORDS") (some (some (.ref (ga K "WORDS")))) && (wordsB K && (eO (PySem.W.nsIn K cStatics "thirdparty.any") (some none)))))))))))))))

/-! ### facts of other own classes -/
def oma (K : PySem.W.Frag) (p : Str × Str) : Addr := ma K (ga K p.1) p.2
def ofa (K : PySem.W.Frag) (p : Str × Str) : Addr := if decide (p ∈ opr) then rcF K (oma K p) "property" else oma K p
def oB (K : PySem.W.Frag) (c : Str) (fs : List Str) : Bool :=
  eO (PySem.W.nsIn K mainGlobals c) (some (some (.ref (ga K c)))) &&
  (PySem.W.plainGet K (ga K c) Str.empty &&
  (PySem.W.hasDictIn K (ga K c) &&
  (PySem.W.plainOver K (ga K c) &&
  (eO (PySem.W.findIn K (.ref (ga K c)) "__setattr__") (some (some (.builtin "object.__setattr__"))) &&
  (eO (PySem.W.findIn K (.ref (ga K c)) "__class__") (some (some (.builtin "object.__class__"))) &&
  (eB (PySem.W.mroIn K (ga K c) (.type "object")) (some true) &&
  (PySem.W.makesIn K (ga K c) &&
  (PySem.W.keepIn K (.ref (ga K c)) &&
  (eO (PySem.W.findIn K (.ref (ga K c)) "__ne__") (some (some (.builtin "object.__ne__"))) &&
  (eO (PySem.W.findIn K (.ref (ga K c)) "__init__") (some (some (.ref (oma K (c, "__init__"))))) &&
  (PySem.W.isFn K (.ref (oma K (c, "__init__"))) &&
  (fs.all fun f => decide (PySem.W.findIn K (.ref (ga K c)) f = some none)))))))))))))
def oplB (K : PySem.W.Frag) (p : Str × Str) : Bool := eO (PySem.W.findIn K (.ref (ga K p.1)) p.2) (some (some (.ref (oma K p)))) && PySem.W.isFn K (.ref (oma K p))
def oprB (K : PySem.W.Frag) (p : Str × Str) : Bool := eO (PySem.W.findIn K (.ref (ga K p.1)) p.2) (some (some (.ref (oma K p)))) && (eO (PySem.W.specialIn K (.ref (oma K p)) "__get__") (some (some (.builtin "property.__get__"))) &&
  (eB (PySem.W.takesIn K (.ref (oma K p))) (some true) && rcB K (oma K p) "property"))
/-- a class whose __init__ calls super().__init__ of the base -/
def supB (K : PySem.W.Frag) (p : Str × Str) : Bool :=
  inB K fileK (ga K p.1) (oma K (p.1, "__init__")) (p.1 ++ (".__init__" : Str)) &&
  ((PySem.W.clsIn K (ga K p.1)).isSome &&
  (eB (PySem.W.mroIn K (ga K p.1) (.ref (ga K p.1))) (some true) &&
  (eO (PySem.W.ks_superIn K (ga K p.1) (ga K p.1) "__init__") (some (some (.ref (oma K (p.2, "__init__"))))) &&
  (decide (PySem.W.typeIn K (.ref (oma K (p.2, "__init__"))) = some (.type "function")) && PySem.W.fnIn K (oma K (p.2, "__init__"))))))
def wayB (K : PySem.W.Frag) (p : Str × Str × Str) : Bool := match PySem.W.findIn K (.ref (ga K p.1)) p.2.1 with
  | some (some (.str x t)) => decide (x = p.2.2) && eO (PySem.W.specialIn K (.str x t) "__get__") (some none)
  | _ => false
/-- a def whose one default is () -/
def fnE (K : PySem.W.Frag) (f : Addr) (qual : Str) : Bool := PySem.W.keepIn K (.ref f) && match K.lookup f with
  | some ⟨_, _, .func fd, _⟩ => (match fd.closure, fd.defaults with
    | [], .ref T => PySem.W.codeIn K fd.code qual && (match K.lookup T with
      | some ⟨_, _, .seq its _, _⟩ => (match its.toList with
        | [.ref E] => (match K.lookup E with
          | some ⟨cE, _, .seq itE _, _⟩ => decide (cE = .type "tuple") && decide (itE.toList = [])
          | _ => false)
        | _ => false)
      | _ => false)
    | _, _ => false)
  | _ => false
def othB (K : PySem.W.Frag) : Bool :=
  om.all (fun p => fnB K (ofa K (p.1, p.2.1)) p.2.2.1) &&
  (opl.all (oplB K) &&
  (opr.all (oprB K) &&
  (ocl.all (fun p => oB K p.1 p.2) &&
  (osup.all (supB K) &&
  (okit.all (fun p => eB (PySem.W.kitOne K (.ref (ga K p.1)) (.ref (ga K p.2.1))) (some p.2.2)) &&
  (onf.all (fun p => PySem.W.notFirst K (ga K p.1) (.ref (ga K p.2))) &&
  (oway.all (wayB K) &&
  (odf.all (fun c => fnE K (oma K (c, "__init__")) (c ++ (".__init__" : Str)))))))))))
def gloB (K : PySem.W.Frag) : Bool :=
  bltN.all (fun x => eO (PySem.W.nsIn K mainGlobals x) (some none)) &&
  (fns.all (fun p => eO (PySem.W.nsIn K mainGlobals p.1) (some (some (.ref (ga K p.1)))) && fnB K (ga K p.1) p.1) &&
  ((K.lookup sysModules).isSome &&
  (eO (PySem.W.specialIn K (.builtin "object.__class__") "__get__") (some (some (.builtin "getset_descriptor.__get__"))) &&
  (eB (PySem.W.takesIn K (.builtin "object.__class__")) (some true) &&
  (conB K &&
  (true &&
  (meths.all (fun p => fnB K (faM K p.1) (quM p.1)) &&
  (plain.all (plB K) &&
  (props.all (prB K) &&
  (cms.all (cmmB K)))))))))))
def allB (K : PySem.W.Frag) : Bool := othB K && (gloB K && (clB K && exB K))
def obF (K : PySem.W.Frag) : List FnX := fnX K (ma K (ga K "InvalidTerm") "__init__") :: fnX K (ma K (ga K "InvalidTerms") "__init__") :: fnX K (ma K (ga K "InvalidWord") "__init__") :: meths.foldr (fun p r => fnX K (faM K p.1) :: r) (fns.foldr (fun p r => fnX K (ga K p.1) :: r) (om.foldr (fun p r => fnX K (ofa K (p.1, p.2.1)) :: r) (oi.foldr (fun p r => fnX K (oma K (p.1, "__init__")) :: r) [])))
abbrev sXInvalidTerm : Stmt := inClass (top 6) 0
abbrev sXInvalidTerms : Stmt := inClass (top 7) 0
abbrev sXInvalidWord : Stmt := inClass (top 8) 0
def vaF : List FnX := fnT "__init__" "InvalidTerm.__init__" sXInvalidTerm :: fnT "__init__" "InvalidTerms.__init__" sXInvalidTerms :: fnT "__init__" "InvalidWord.__init__" sXInvalidWord :: ((meths.map fun p => fnT p.1 (quM p.1) (inClass sSize p.2)) ++ ((fns.map fun p => fnT p.1 p.1 (top p.2)) ++ ((om.map fun p => fnT p.2.1 p.2.2.1 (inClass (top p.2.2.2.1) p.2.2.2.2)) ++ oi.map fun p => fnT "__init__" p.2.1 (inClass (top p.2.2.1) p.2.2.2))))
abbrev AlX : Type := Bool × List FnX
def obK (K : PySem.W.Frag) : AlX := (allB K, obF K)
def vaX : AlX := (true, vaF)
def hk : PySem.W.Hook where
  α := AlX
  obs := fun s => obK (KX s.heap.get?)
  val := fun _ => vaX
  says := fun _ h => ∃ K : PySem.W.Frag, K.In h ∧ obK K = vaX
  of := fun _ _ e => ⟨_, frG_in, e⟩
  keeps := fun _ _ _ ⟨K, hK, c⟩ k => ⟨K, PySem.W.Frag.In.keeps hK k, c⟩
def ob (s : PySem.W.SharedT) : AlX := obK (KX (HandSHeadRun.getT s))
end K40
set_option maxHeartbeats 0
namespace K40
open PySem PySem.W PySem.Calls PyProof.Rows
abbrev R : OpenRow := OpenLaw.row PySem.Challenge.rw_anyshape_k40_terms
abbrev qv : Program := view R.prog [43]
def names1 : List PySem.Str := ["CHUNK_DIGITS", "CHUNK", "decimal_text", "AnyshapeError", "InvalidTerm", "InvalidTerms", "InvalidWord", "is_integer", "is_count", "is_list", "LETTERS", "LONGEST_NAME", "is_name", "WORDS", "MOST_JOINED", "is_term", "put_together", "word_over", "reads_of", "term_text", "check_term", "_reads_in", "_text_of", "_law_rng"]
def names2 : List PySem.Str := ["_law_draw", "_law_choice", "_law_put", "_law_term", "_law_bag", "_law_reads", "_law_text", "_law_odd", "_law_told", "_law_refused", "_law_bag_right", "_law_wrong_right", "_law_right"]
def names : List PySem.Str := names1 ++ names2
theorem run (w : World) : HandSHeadRun.RunEq R qv hk ob 12500 names w := by
  intro os
  kernel_rfl
end K40
set_option maxHeartbeats 8000000
/-! own exceptions whose body says super().__init__('..') and then stores its fields -/
namespace Xc
open PySem PySem.W PySem.Calls PyProof.Rows

/-- what the written part says of an own exception class at C, over the built-in B -/
structure XC (K : Frag) (C : Addr) (B newId initId : String) (bmB : List Value) : Prop where
  FB : ExcBaseFacts B newId initId bmB
  SF : StoreFacts B bmB "object.__setattr__" "object"
  KF : KxsFacts B initId
  ini : excInitIn K C bmB newId = true
  ovr : excOver K C bmB = true
  hdc : hasDictIn K C = true
  sa : findIn K (.ref C) "__setattr__" = some (some (.builtin "object.__setattr__"))

section
open Builtin Builtin.ObjectAttr
variable {prog : Program} {w : World} {A : Around} {E : Value → Shared → Prop}
variable {hp : Heap} {g : Array GenState} {d : Drawn} {t : Nat} {os : OsState}
variable {K : Frag} {C x t0 : Addr} {B newId initId : String} {bmB : List Value}
variable {name : Str} {v : Value}

/-- the first field -/
theorem sto0 (T : XC K C B newId initId bmB) (X : K.In hp)
    (hx : hp.get? x = some (excObj C t0 none .none)) (ha : takerIn K C name = some none)
    {Q : Unit → Shared → Prop}
    (hq : ∀ h' tk dx, (∀ b o, b ≠ x → hp.get? b = some o → h'.get? b = some o) →
      hp.objs.size ≤ dx → dx ≠ x → h'.get? x = some (excObj C t0 (some dx) .none) →
      h'.Ns1 dx (fun y => if y = name then some v else none) → Q () ⟨h', g, d, tk, os⟩) :
    wpAny (model prog w) A (setAttr (.ref x) name v) Q E ⟨hp, g, d, t, os⟩ := by
  have hxs : x ≠ hp.objs.size := Nat.ne_of_lt (Heap.lt_size hx)
  have I : W.InstAt hp x (excObj C t0 none .none) C none := ⟨hx, rfl, rfl, trivial⟩
  refine set_plain X I T.sa ?_
  refine osa_openX (r := none) T.SF X I T.ovr ha fun b => ?_
  obtain ⟨cd, hc, hd⟩ := any_some T.hdc
  refine wpAny_bind (wpAny_pure (wpAny_bind
    (instanceDict_exc (s := ⟨hp, g, d, t + 1, os⟩) hx (looks_clsIn X hc) hd ?_)))
  refine HandSPX.store_in_new ?_ fun h' tk hn hs => ?_
  · refine ⟨_, #[], _, (Heap.get?_update_ne _ _ _ _ hxs.symm).trans (Heap.get?_push_at rfl rfl), rfl, ?_, fun _ => rfl⟩
    intro e he
    exact absurd he (by simp)
  · have hx1 : (hp.push (dictOf [] 0)).get? x = some (excObj C t0 none .none) :=
      Heap.get?_push_of_some _ hx
    refine hq h' tk hp.objs.size (fun b o hb ho => ?_) (Nat.le_refl _) hxs.symm ?_ hn
    · have e1 := Heap.get?_push_of_some (dictOf [] 0) ho
      have e2 := (Heap.get?_update_ne _ _ _ (fun o => { o with dict := some hp.objs.size }) hb).trans e1
      exact (hs.2 b (Nat.ne_of_lt (Heap.lt_size ho))).trans e2
    · exact (hs.2 x hxs).trans (Heap.get?_update_self _ hx1 rfl)

end
end Xc
set_option maxHeartbeats 8000000
namespace Xc
open PySem PySem.W PySem.Calls PyProof.Rows

section
variable {prog : Program} {w : World} {A : Around} {E : Value → Shared → Prop}
variable {hp : Heap} {g : Array GenState} {d : Drawn} {t : Nat} {os : OsState}
variable {K : Frag} {C x t0 : Addr} {B newId initId : String} {bmB : List Value}

/-- the bound built-in __init__ is called: the args are laid anew -/
theorem call_mw (T : XC K C B newId initId bmB) (X : K.In hp) {u : Addr} {rest : List Value}
    (hu : hp.get? u = some (kxs_mw initId x)) (hx : hp.get? x = some (excObj C t0 none .none))
    (hz : rest.length ≤ sizeLine) {Q : Value → Shared → Prop}
    (hq : ∀ h' t1, (∀ b o, b ≠ x → hp.get? b = some o → h'.get? b = some o) →
      h'.get? x = some (excObj C t1 none .none) → Q .none ⟨h', g, d, t, os⟩) :
    wpAny (model prog w) A (call (.ref u) rest) Q E ⟨hp, g, d, t, os⟩ := by
  obtain ⟨nm, N', qn, bs, bm, hdct, sn, sub, ab, col, dd, k0, k1, k2, k3, k5, hC, hT⟩ := excInit_of X T.ini
  refine wpAny_call (codeAny_of_tree ?_)
  show wpAny _ A.in1 (callAny (.ref u) ⟨rest, []⟩) _ _ _
  simp only [callAny]
  refine wpAny_bind (wpAny_load hu ?_)
  simp only [kxs_mw, show (Value.type "method-wrapper" == Value.type "method"
    || Value.type "method-wrapper" == Value.type "builtin_function_or_method"
    || Value.type "method-wrapper" == Value.type "method-wrapper") = true by decide, if_true]
  refine KFB.if_so (by decide) ?_
  refine wpAny_bind (check_bound_init T.FB.toExcCallFacts hC hx rfl ?_)
  refine wpAny_bind (wpAny_pure (wpAny_pure ?_))
  refine ⟨plainId_quiet T.FB.init.plain _, codeAny_builtin T.FB.initEntry ?_⟩
  refine exc_init_tree (cls := .ref C) (t0 := t0) (dv := none) (c2 := .none) (c3 := .none)
    (b4 := .bool false) hx hz fun h' k e1 _ => ?_
  exact hq h' hp.objs.size k e1

/-- what the written part says of an __init__ with super() in it -/
structure XI (prog : Program) (K : Frag) (mg : Str → Option Value) (C fI cc cda : Addr)
    (qual : Str) (params : Arguments) (body : List Stmt) (scope : Scope) (B initId : String) : Prop where
  fn : ∃ (oc : Value) (od : Option Addr) (kV doc pm ct : Value) (an : Option Addr)
    (osl : Array (Option Value)), K.lookup fI = some ⟨oc, od,
      .func (ksFn "__init__" qual params body scope .none kV doc pm an (.ref cda) ct cc), osl⟩
  cod : codeIn K (.ref cda) qual = true
  code : ∃ ccl cdd vs ccs file tf, K.lookup cda = some ⟨ccl, cdd, .fields vs, ccs⟩ ∧
    vs[2]? = some (.str file tf) ∧ ((prog.main.file : Str) == file) = true
  cell : ∃ cl cld csl, K.lookup cc = some ⟨cl, cld, .cell (some (.ref C)), csl⟩
  cls : (clsIn K C).isSome = true
  self : mroIn K C (.ref C) = some true
  isB : subIn K (.ref C) (.type B) = some true
  sup : ks_superIn K C C "__init__" = some (some (.builtin initId))
  opq : nsIn K cStatics "thirdparty.any" = some none
  nosup : mg "super" = none
  top : (prog.main.scope.names.lookup ("super" : Str)).isSome = false

/-- the module's facts at a heap -/
structure MH (K : Frag) (mg : Str → Option Value) (h : Heap) : Prop where
  kin : K.In h
  glob : h.Ns mainGlobals mg
  blt : ∃ mb, h.Ns builtinsNs mb ∧ ∀ y : Str, y ≠ "__name__" → mb y = bootBuiltins y
theorem MH.keeps {K : Frag} {mg : Str → Option Value} {h h' : Heap} (m : MH K mg h)
    (k : ∀ b o, h.get? b = some o → h'.get? b = some o) : MH K mg h' := by
  obtain ⟨mb, h1, h2⟩ := m.blt
  exact ⟨m.kin.keeps k, m.glob.keeps k, mb, h1.keeps k, h2⟩

abbrev supS (msg : Str) (j : Nat) (p0 p1 p2 p3 p4 p5 : Pos) : Stmt :=
  .Expr (.Call (.Attribute (.Call (.Name "super" p0) [] [] p1) "__init__" p2)
    [.Constant (.str msg) j p3] [] p4) p5

/-- super().__init__('..') -/
theorem sup_run {mg m : Str → Option Value} {fI cc cda L : Addr} {qual q : Str} {params : Arguments}
    {body body' : List Stmt} {scope : Scope} {ar : Arg} {msg : Str} {j : Nat} {p0 p1 p2 p3 p4 p5 : Pos}
    (T : XC K C B newId initId bmB) (S : XI prog K mg C fI cc cda qual params body scope B initId)
    (Mh : MH K mg hp) (hn : hp.Ns L m) (hx : hp.get? x = some (excObj C t0 none .none))
    (hp1 : (params.posonlyargs ++ params.args).head? = some ar) (hv : m ar.arg = some (.ref x))
    (hks : scope.names.lookup ("super" : Str) = some .globalImplicit)
    (hkc : scope.names.lookup ("__class__" : Str) = some .free)
    (hka : scope.names.lookup ar.arg = some .local) (hk : scope.kind = .function)
    {Q : Flow → Shared → Prop}
    (hq : ∀ h' tk t1, (∀ b o, b ≠ x → hp.get? b = some o → h'.get? b = some o) →
      h'.get? x = some (excObj C t1 none .none) → Q .next ⟨h', g, d, tk, os⟩)
    {pl : Sem Bool}
    (he : eval (.Call (.Attribute (.Call (.Name "super" p0) [] [] p1) "__init__" p2)
        [.Constant (.str msg) j p3] [] p4) (ksEnv q scope L fI (.ref cda) cc) = (do
      let ov ← attributeBase (.Call (.Name "super" p0) [] [] p1) "__init__" (ksEnv q scope L fI (.ref cda) cc)
        (eval (.Call (.Name "super" p0) [] [] p1) (ksEnv q scope L fI (.ref cda) cc))
      standAt p2.atName
      let (f, first) ← holding [ov] (getMethod ov "__init__" pl)
      callWith p4 f first (backTo p4 (starEach [.Constant (.str msg) j p3] (ksEnv q scope L fI (.ref cda) cc))) []))
    (hi : interactive (ksEnv q scope L fI (.ref cda) cc) = false := by rfl)
    (hs : swapsWith (.Call (.Attribute (.Call (.Name "super" p0) [] [] p1) "__init__" p2)
      [.Constant (.str msg) j p3] [] p4) none p5.line (ksEnv q scope L fI (.ref cda) cc) = pure false := by rfl) :
    PySem.wpAt (model prog w) A (.func body' (ksEnv q scope L fI (.ref cda) cc))
      (exec (supS msg j p0 p1 p2 p3 p4 p5) (ksEnv q scope L fI (.ref cda) cc)) Q E ⟨hp, g, d, t, os⟩ := by
  obtain ⟨oc, od, kV, doc, pm, ct, an, osl, hf⟩ := S.fn
  obtain ⟨ccl, cdd, vs, ccs, file, tf, hcode, hvs, hfile⟩ := S.code
  obtain ⟨cl, cld, csl, hcell⟩ := S.cell
  obtain ⟨cdD, hD⟩ := Option.isSome_iff_exists.mp S.cls
  obtain ⟨mb, hmb, hbt⟩ := Mh.blt
  have X := Mh.kin
  obtain ⟨oD, hD1, hD2⟩ : ∃ oD, hp.get? C = some oD ∧ oD.data = .cls cdD := by
    unfold clsIn at hD
    split at hD
    · rename_i c d cd' sl ho
      cases hD
      exact ⟨_, X _ _ ho, rfl⟩
    · cases hD
  have I : W.InstAt hp x (excObj C t0 none .none) C none := ⟨hx, rfl, rfl, trivial⟩
  refine ks_wpAt_Expr_any ?_ hi hs
  refine ks_wpAt_MethodCall (pl := pl) ?_ he
  refine ks_wpAt_super_base (env := ksEnv q scope L fI (.ref cda) cc) hks hkc rfl rfl (X _ _ hf) rfl hp1 rfl
    (X _ _ hcode) rfl hvs hfile S.top ?_
  refine ks_loadName_global hk hks (loadGlobal_builtin (env := ksEnv q scope L fI (.ref cda) cc)
    Mh.glob S.nosup hmb ((hbt _ (by decide +kernel)).trans (by first | rfl | kernel_rfl)) ⟨rfl, ?_⟩)
  refine wpAny_loadName_free hk hkc rfl ⟨_, X _ _ hcell, rfl⟩ ?_
  refine wpAny_loadName_local hk hka hn hv ?_
  refine ks_wpAny_isType_cls hD1 hD2 ⟨rfl, ?_⟩
  refine ks_wpAny_call_super hD1 hD2 hx rfl (fun c e => by cases e) (looks_mroIn X S.self) (fun h1 e1 k1 => ?_)
  have X1 : K.In h1 := X.keeps k1
  have I1 : W.InstAt h1 x (excObj C t0 none .none) C none := ⟨k1 _ _ hx, rfl, rfl, trivial⟩
  have hm := S.sup
  unfold ks_superIn at hm
  rw [hD] at hm
  have hxC : x ≠ C := ks_ne X I hD
  refine kxs_getMethod T.KF e1 (looks_opaque X1 S.opq) (l₀ := cdD.mro) ?_ rfl X1 hm
    (I1.type.andThen (looks_subIn X1 S.isB)) hxC rfl ?_
  · exact fun A Q E s k q => wpAny_bind ((looks_clsIn X1 hD) A _ E s k (wpAny_pure q))
  have hu : (h1.push (kxs_mw initId x)).get? h1.objs.size = some (kxs_mw initId x) := Heap.get?_push_at rfl rfl
  have hx2 : (h1.push (kxs_mw initId x)).get? x = some (excObj C t0 none .none) :=
    Heap.get?_push_of_some _ (k1 _ _ hx)
  have X2 : K.In (h1.push (kxs_mw initId x)) := X1.keeps fun b o e => Heap.get?_push_of_some _ e
  refine kxs_callWith (i := initId) (x := x) (by rfl) ?_
  refine evalArgs_plain ?_
  refine spliced_cons (Constant_str (k := j) (pos := p3) (spliced_nil ⟨hu, ?_⟩))
  refine call_mw T X2 hu hx2 (by rw [sizeLine_eq]; exact (by decide : 1 ≤ 16777216)) fun h' t1 k2 e2 => ?_
  exact hq h' _ t1 (fun b o hb ho => k2 b o hb (Heap.get?_push_of_some _ (k1 b o ho))) e2
end
end Xc
set_option maxHeartbeats 8000000
namespace Xc
open PySem PySem.W PySem.Calls PyProof.Rows

/-! the text of such an __init__ -/
def iArgs (ps : List (Str × Pos)) : Arguments :=
  { posonlyargs := [], args := ps.map fun p => { arg := p.1, annotation := none, pos := p.2 },
    vararg := none, kwonlyargs := [], kw_defaults := [], kwarg := none, defaults := [] }
def iScope (ps : List Str) : Scope :=
  { kind := .function, names := ps.map (fun p => (p, NameKind.local)) ++
      [(PySem.Str.ofString "__class__", .free), (PySem.Str.ofString "super", .globalImplicit)],
    isGenerator := false, isCoroutine := false, more := [] }
abbrev stS (p : Str) (q1 q2 q3 q4 : Pos) : Stmt :=
  .Assign [.Attribute (.Name "self" q1) p q2] (.Name p q3) q4

theorem ns_ne {h : Heap} {L x C t0 : Addr} {dd : Option Addr} {m : Str → Option Value} (hn : h.Ns L m)
    (hx : h.get? x = some (excObj C t0 dd .none)) : L ≠ x := by
  rintro rfl
  obtain ⟨o, es, ep, ho, hd, _⟩ := hn
  rw [hx] at ho
  cases ho
  cases hd
theorem ns_keep {h h' : Heap} {L x : Addr} {m : Str → Option Value} (hn : h.Ns L m) (ne : L ≠ x)
    (k : ∀ b o, b ≠ x → h.get? b = some o → h'.get? b = some o) : h'.Ns L m := by
  obtain ⟨o, es, ep, ho, r⟩ := hn
  exact ⟨o, es, ep, k _ _ ne ho, r⟩
theorem mh_keep {K : Frag} {mg : Str → Option Value} {h h' : Heap} {x : Addr} (Mh : MH K mg h)
    (hx : K.lookup x = none) (hg : x ≠ mainGlobals) (hb : x ≠ builtinsNs)
    (k : ∀ b o, b ≠ x → h.get? b = some o → h'.get? b = some o) : MH K mg h' := by
  obtain ⟨mb, h1, h2⟩ := Mh.blt
  exact ⟨fun a o e => k a o (fun z => by rw [z, hx] at e; cases e) (Mh.kin a o e),
    ns_keep Mh.glob (Ne.symm hg) k, mb, ns_keep h1 (Ne.symm hb) k, h2⟩

section
variable {prog : Program} {w : World} {A : Around} {E : Value → Shared → Prop}
variable {hp : Heap} {g : Array GenState} {d : Drawn} {t : Nat} {os : OsState}
variable {K : Frag} {C x t0 : Addr} {B newId initId : String} {bmB : List Value}

theorem ldN {s : Shared} {q : Str} {scope : Scope} {L fI cc : Addr} {cda : Value} {m : Str → Option Value}
    {y : Str} {p : Pos} {v : Value} {Q : Value → Shared → Prop} {M : Model} (hn : s.heap.Ns L m)
    (hv : m y = some v) (hk : scope.kind = .function) (hl : scope.names.lookup y = some .local)
    (hd : (y == ("__debug__" : Str)) = false) (h : Q v s) :
    wpAny M A (eval (.Name y p) (ksEnv q scope L fI cda cc)) Q E s :=
  wpAny_Name (wpAny_loadName_local hk hl hn hv h) hd

/-- self.f = f, the first one -/
theorem st0 {q : Str} {scope : Scope} {L fI cc : Addr} {cda : Value} {m : Str → Option Value}
    {f : Str} {q1 q2 q3 q4 : Pos} {v : Value} (T : XC K C B newId initId bmB) (X : K.In hp) (hn : hp.Ns L m)
    (hx : hp.get? x = some (excObj C t0 none .none)) (hs : m "self" = some (.ref x)) (hv : m f = some v)
    (hk : scope.kind = .function) (ls : scope.names.lookup ("self" : Str) = some .local)
    (lf : scope.names.lookup f = some .local) (hd : (f == ("__debug__" : Str)) = false)
    (ha : takerIn K C f = some none) {Q : Flow → Shared → Prop}
    (hq : ∀ h' tk dx, (∀ b o, b ≠ x → hp.get? b = some o → h'.get? b = some o) →
      hp.objs.size ≤ dx → dx ≠ x → h'.get? x = some (excObj C t0 (some dx) .none) →
      h'.Ns1 dx (fun y => if y = f then some v else none) → Q .next ⟨h', g, d, tk, os⟩)
    (hw : swapsWith (.Name f q3) (some (.Attribute (.Name "self" q1) f q2)) q4.line
      (ksEnv q scope L fI cda cc) = pure false) :
    wpAny (model prog w) A (exec (stS f q1 q2 q3 q4) (ksEnv q scope L fI cda cc)) Q E ⟨hp, g, d, t, os⟩ :=
  plainObj_wpAny_Assign_Attribute (ldN hn hv hk lf hd (ldN hn hs hk ls (by decide) (sto0 T X hx ha hq))) hw

end

/-- what an __init__ leaves of the fresh exception at x: the fields by fs -/
structure IEnd (h h' : Heap) (x C : Addr) (fs : List (Str × Value)) : Prop where
  keep : ∀ b o, b ≠ x → h.get? b = some o → h'.get? b = some o
  obj : match fs with
    | [] => ∃ t1, h'.get? x = some (excObj C t1 none .none)
    | _ :: _ => ∃ t1 dx, h'.get? x = some (excObj C t1 (some dx) .none) ∧ h.objs.size ≤ dx ∧ dx ≠ x ∧
        h'.Ns1 dx fun y => fs.lookup y

section
variable {prog : Program} {w : World} {A : Around} {R : Result → Shared → Prop} {s : Shared}
variable {K : Frag} {mg : Str → Option Value} {C x t0 fI cc cda : Addr} {B newId initId : String} {bmB : List Value}
variable {qual msg : Str} {j : Nat} {p0 p1 p2 p3 p4 p5 : Pos} {args : Args}

theorem he_of {env : Env} (h : (p2.endLine == p4.line) = true) :
    eval (.Call (.Attribute (.Call (.Name "super" p0) [] [] p1) "__init__" p2)
        [.Constant (.str msg) j p3] [] p4) env = (do
      let ov ← attributeBase (.Call (.Name "super" p0) [] [] p1) "__init__" env
        (eval (.Call (.Name "super" p0) [] [] p1) env)
      standAt p2.atName
      let (f, first) ← holding [ov] (getMethod ov "__init__" (do return (← importBound (.Call (.Name "super" p0) [] [] p1) env).getD true))
      callWith p4 f first (backTo p4 (starEach [.Constant (.str msg) j p3] env)) []) := by
  have e : ∀ b, methodCallPos b (.Call (.Name "super" p0) [] [] p1) env p2 p4 = pure p4 := fun b => by
    unfold methodCallPos
    rw [h, Bool.or_true]
    rfl
  show (do
    let ov ← attributeBase (.Call (.Name "super" p0) [] [] p1) "__init__" env
      (eval (.Call (.Name "super" p0) [] [] p1) env)
    standAt p2.atName
    methodCall (.Call (.Name "super" p0) [] [] p1) "__init__" p2 p4 env ov 1
      (backTo p4 (starEach [.Constant (.str msg) j p3] env)) []) = _
  unfold methodCall
  simp only [e, pure_bind]
  rfl

/-- into the body of such a def -/
theorem enter {params : Arguments} {body : List Stmt} {scope : Scope} {binds : List (Str × Value)}
    (S : XI prog K mg C fI cc cda qual params body scope B initId) (Mh : MH K mg s.heap)
    (hlim : s.heap.NoLimit) (hroom : A.depth < recursionLimit)
    (hbind : ∀ kV doc pm ct an, BindsTo s
      (ksFn "__init__" qual params body scope .none kV doc pm an (.ref cda) ct cc) args binds)
    (hcell : ∀ y ∈ scope.names, y.2 ≠ .cell) (hloc : ∀ y ∈ binds, scope.names.lookup y.1 = some .local)
    (hco : scope.isCoroutine = false) (hge : scope.isGenerator = false) (hk : scope.kind = .function)
    (h : ∀ h1 tk L, h1.Ns L (fun y => binds.reverse.lookup y) → s.heap.objs.size ≤ L →
      (∀ b o, s.heap.get? b = some o → h1.get? b = some o) →
      PySem.wpAt (model prog w) (A.deeper (ksEnv qual scope L fI (.ref cda) cc))
        (.func body (ksEnv qual scope L fI (.ref cda) cc)) (execs body (ksEnv qual scope L fI (.ref cda) cc))
        (fun f s' => R (.ok (.ret (match f with | .ret v => v | _ => .none))) s')
        (fun e s' => wpAny (model prog w) (A.deeper (ksEnv qual scope L fI (.ref cda) cc))
          (leaving (ksEnv qual scope L fI (.ref cda) cc) e) (fun _ s'' => R (.error e) s'')
          (fun e' s'' => R (.error e') s'') s') { s with heap := h1, toks := tk }) :
    codeAny (model prog w) A (.call (.ref fI) args) R s := by
  obtain ⟨oc, od, kV, doc, pm, ct, an, osl, hf⟩ := S.fn
  refine ks_codeAny_call_defAt (fd := ksFn "__init__" qual params body scope .none kV doc pm an (.ref cda) ct cc)
    (body := body) (binds := binds) hroom (Mh.kin _ _ hf) rfl hlim (codeRec_of Mh.kin S.cod) rfl
    (hbind kV doc pm ct an) hcell hloc (fun h1 hns k1 => ?_) hco hge hk
  exact h h1 _ _ hns (Nat.le_refl _) k1

end
end Xc
set_option maxHeartbeats 8000000
namespace Xc
open PySem PySem.W PySem.Calls PyProof.Rows

/-- a name that may be a field -/
structure Nm (p : Str) : Prop where
  s : p ≠ "self"
  u : p ≠ "super"
  c : p ≠ "__class__"
  d : p ≠ "__debug__"
theorem bq {a b : Str} (h : a ≠ b) : (a == b) = false := by simpa using h
theorem lk1 {α : Type} {y p : Str} {v : α} {r : List (Str × α)} (h : y ≠ p) :
    List.lookup y ((p, v) :: r) = List.lookup y r := by
  show (match y == p with | true => some v | false => List.lookup y r) = _
  rw [bq h]
theorem lk0 {α : Type} {p : Str} {v : α} {r : List (Str × α)} : List.lookup p ((p, v) :: r) = some v := by
  unfold List.lookup
  simp
theorem ns_of (a b : Str) (h : (a == b) = false) : a ≠ b := by simpa using h

section
variable {prog : Program} {w : World} {A : Around} {R : Result → Shared → Prop} {s : Shared}
variable {K : Frag} {mg : Str → Option Value} {C x t0 fI cc cda : Addr} {B newId initId : String} {bmB : List Value}
variable {qual msg f1 f2 f3 : Str} {j : Nat} {p0 p1 p2 p3 p4 p5 : Pos} {args : Args} {v1 v2 v3 : Value}

theorem hself : ("self" : Str) ≠ "super" := ns_of _ _ (by decide)
theorem hself2 : ("self" : Str) ≠ "__class__" := ns_of _ _ (by decide)
theorem hcs : ("super" : Str) ≠ "__class__" := ns_of _ _ (by decide)

/-- one field -/
theorem init1 {a0 a1 q1 q2 q3 q4 : Pos} (n1 : Nm f1) (T : XC K C B newId initId bmB)
    (S : XI prog K mg C fI cc cda qual (iArgs [("self", a0), (f1, a1)])
      [supS msg j p0 p1 p2 p3 p4 p5, stS f1 q1 q2 q3 q4] (iScope ["self", f1]) B initId)
    (Mh : MH K mg s.heap) (hlim : s.heap.NoLimit) (hroom : A.depth < recursionLimit)
    (hln : (p2.endLine == p4.line) = true) (hx : s.heap.get? x = some (excObj C t0 none .none))
    (nx : K.lookup x = none) (ng : x ≠ mainGlobals) (nb : x ≠ builtinsNs) (ha : takerIn K C f1 = some none)
    (hb : ∀ kV doc pm ct an, BindsTo s (ksFn "__init__" qual (iArgs [("self", a0), (f1, a1)])
      [supS msg j p0 p1 p2 p3 p4 p5, stS f1 q1 q2 q3 q4] (iScope ["self", f1]) .none kV doc pm an (.ref cda) ct cc)
      args [("self", .ref x), (f1, v1)])
    (hq : ∀ h' tk, IEnd s.heap h' x C [(f1, v1)] → R (.ok (.ret .none)) { s with heap := h', toks := tk }) :
    codeAny (model prog w) A (.call (.ref fI) args) R s := by
  have l0 : (iScope ["self", f1]).names.lookup ("self" : Str) = some .local := lk0
  have l1 : (iScope ["self", f1]).names.lookup f1 = some .local := (lk1 n1.s).trans lk0
  have lc : (iScope ["self", f1]).names.lookup ("__class__" : Str) = some .free :=
    (lk1 hself2.symm).trans ((lk1 n1.c.symm).trans lk0)
  have lsu : (iScope ["self", f1]).names.lookup ("super" : Str) = some .globalImplicit :=
    (lk1 hself.symm).trans ((lk1 n1.u.symm).trans ((lk1 hcs).trans lk0))
  have m0 : List.lookup ("self" : Str) [(f1, v1), ("self", Value.ref x)] = some (.ref x) := (lk1 n1.s.symm).trans lk0
  have m1 : List.lookup f1 [(f1, v1), ("self", Value.ref x)] = some v1 := lk0
  refine enter (binds := [("self", .ref x), (f1, v1)]) S Mh hlim hroom hb
    (by simp [iScope]) (fun y hy => ?_) rfl rfl rfl fun h1 tk L hn hL k1 => ?_
  · rcases List.mem_cons.mp hy with rfl | hy
    · exact l0
    · rcases List.mem_cons.mp hy with rfl | hy
      · exact l1
      · cases hy
  obtain ⟨hp, g, d, t, os⟩ := s
  refine ks_wpAt_execs_cons ?_
  refine sup_run T S (Mh.keeps k1) hn (k1 _ _ hx) (ar := ⟨"self", none, a0⟩) rfl m0 lsu lc l0 rfl
    (fun h2 tk2 t1 k2 e2 => ?_) (he_of hln) (by rfl) (by rfl)
  have nL : L ≠ x := ns_ne hn (k1 _ _ hx)
  have M2 : MH K mg h2 := mh_keep (Mh.keeps k1) nx ng nb k2
  have hn2 := ns_keep hn nL k2
  refine wpAt_of_wpAny (wpAny_execs_cons ?_)
  refine st0 T M2.kin hn2 e2 m0 m1 rfl l0 l1 (bq n1.d) ha (fun h3 tk3 dx k3 hd ne e3 n3 => ?_) (by rfl)
  refine wpAny_execs_nil ?_
  have z : hp.objs.size ≤ dx := Nat.le_trans hL (Nat.le_trans (Nat.le_of_lt hn2.lt) hd)
  refine hq h3 tk3 ⟨fun b o hb ho => k3 b o hb (k2 b o hb (k1 b o ho)), t1, dx, e3, z, ne, ?_⟩
  have e : (fun y => List.lookup y [(f1, v1)]) = fun y => if y = f1 then some v1 else none := by
    funext y
    by_cases h : y = f1
    · rw [h, if_pos rfl, lk0]
    · rw [if_neg h, lk1 h]; rfl
  rw [e]
  exact n3
end
end Xc
set_option maxHeartbeats 8000000
namespace Xc
open PySem PySem.W PySem.Calls PyProof.Rows

theorem wi1 {f : Str} {v : Value} : Within (fun y => if y = f then some v else none) [f] :=
  Within.cons f v Within.nil
section
variable {prog : Program} {w : World} {A : Around} {R : Result → Shared → Prop} {s : Shared}
variable {K : Frag} {mg : Str → Option Value} {C x t0 fI cc cda : Addr} {B newId initId : String} {bmB : List Value}
variable {qual msg f1 f2 f3 : Str} {j : Nat} {p0 p1 p2 p3 p4 p5 : Pos} {args : Args} {v1 v2 v3 : Value}

end
end Xc
set_option maxHeartbeats 8000000
/-! an own exception class is called, with keywords too -/
namespace Xc
open PySem PySem.W PySem.Calls PyProof.Rows PySem.PX

section
variable {prog : Program} {w : World} {M : Model} {A : Around} {E : Value → Shared → Prop}
variable {R : Result → Shared → Prop} {hp : Heap} {g : Array GenState} {d : Drawn} {t : Nat} {os : OsState}
variable {K : Frag} {C x t0 fI : Addr} {B newId initId : String} {bmB : List Value}
variable {nm q : Str} {N : Addr} {bs bm : List Value} {hdct : Bool} {sn : List Str} {sub : List Value}
variable {ab : Bool} {col : Option Bool} {dd : Option Addr} {k0 k1 k2 k3 k5 : Option Value}
variable {rest : List Value} {kw : List (Str × Value)}

abbrev clsO (nm q : Str) (C N : Addr) (bs bm : List Value) (hdct : Bool) (sn : List Str) (sub : List Value)
    (ab : Bool) (col : Option Bool) (dd : Option Addr) (k0 k1 k2 k3 k5 : Option Value) (newId : String) : Obj :=
  excClassObj nm q C N bs bm hdct sn sub ab col dd k0 k1 k2 k3 k5 newId

theorem ckNewK (F : ExcBaseFacts B newId initId bmB)
    (hT : ∀ X : String, bm.contains (.type X) = bmB.contains (.type X)) {Q : Unit → Shared → Prop}
    (hC : hp.get? C = some (clsO nm q C N bs bm hdct sn sub ab col dd k0 k1 k2 k3 k5 newId))
    (hq : Q () ⟨hp, g, d, t, os⟩) :
    wpAny M A (checkBuiltinCall newId ⟨.ref C :: rest, kw⟩) Q E ⟨hp, g, d, t, os⟩ := by
  have hin : (Value.ref C :: bm).contains (.type B) = true := by
    rw [List.contains_cons, hT, F.hasB]
    exact Bool.or_true _
  have hstar := F.noStar
  simp only [checkBuiltinCall, F.newKind, F.newSplit, F.newRow]
  repeat (first
    | refine wpAny_loadPart_at hC ?_
    | (refine wpAny_isSubtype_exc hC ?_; rw [hin])
    | refine wpAny_staticBase_exc hC ?_
    | refine wpAny_madeBy_exc hC ?_
    | simp only [bne_self_eq_false, Bool.false_eq_true, if_false]
    | wp_step)
  exact hq

theorem newK (F : ExcBaseFacts B newId initId bmB)
    (hT : ∀ X : String, bm.contains (.type X) = bmB.contains (.type X))
    (hC : hp.get? C = some (clsO nm q C N bs bm hdct sn sub ab col dd k0 k1 k2 k3 k5 newId))
    (hz : rest.length ≤ sizeLine)
    (hq : R (.ok (.ret (.ref (hp.objs.size + 1))))
      ⟨(hp.push (excTup rest)).push (excObj C hp.objs.size none .none), g, d, t, os⟩) :
    codeAny (model prog w) A (.builtin newId ⟨.ref C :: rest, kw⟩) R ⟨hp, g, d, t, os⟩ := by
  have hends := F.ends
  have i1 : (Value.ref C :: bm).contains (.type B) = true := by
    rw [List.contains_cons, hT, F.hasB]
    exact Bool.or_true _
  have i2 : (Value.ref C :: bm).contains (.type "AttributeError") = false := by
    rw [List.contains_cons, hT, F.noAttr]
    rfl
  have i3 : (Value.ref C :: bm).contains (.type "NameError") = false := by
    rw [List.contains_cons, hT, F.noName]
    rfl
  refine codeAny_builtinAt F.entry ?_
  unfold Builtin.«BaseException.__new__»
  refine PySem.wpAt_bind ?_
  show PySem.wpAt _ _ _ (stack >>= _) _ _ _
  refine PySem.wpAt_bind (PySem.wpAt_stack fun p below => PySem.wpAt_of_wpAny ?_)
  wp_walk
  refine PySem.wpAt_of_wpAny ?_
  rw [F.owner]
  repeat (first
    | with_reducible refine wpAny_madeHere_exc F.canon hC ?_
    | with_reducible refine wpAny_loadPart_at hC ?_
    | (with_reducible refine wpAny_isSubtype_exc hC ?_; first | rw [i1] | rw [i2] | rw [i3])
    | wp_step)
  show R _ _
  rw [Heap.size_push]
  exact hq

theorem typeK (F : ExcBaseFacts B newId initId bmB)
    (hT : ∀ X : String, bm.contains (.type X) = bmB.contains (.type X)) {Q : Fin → Shared → Prop}
    (hC : hp.get? C = some (clsO nm q C N bs bm hdct sn sub ab col dd k0 k1 k2 k3 k5 newId))
    (hi : W.Looks (model prog w) hp (typeLookup (.ref C) "__init__") (some (.ref fI)))
    (hb : ∀ self, W.Looks (model prog w) hp (bindSpecial (.ref fI) self) (.ref fI, [self]))
    (hz : rest.length ≤ sizeLine)
    (hq : codeAny (model prog w) A (.call (.ref fI) ⟨.ref (hp.objs.size + 1) :: rest, kw⟩)
      (fun r s' => match r with
        | .ok (.ret v) => v = .none ∧ Q (.done (.ret (.ref (hp.objs.size + 1)))) s'
        | .ok _ => False
        | .error e => E e s')
      ⟨(hp.push (excTup rest)).push (excObj C hp.objs.size none .none), g, d, t, os⟩) :
    wpAny (model prog w) A (Builtin.«type.__call__» ⟨.ref C :: rest, kw⟩) Q E ⟨hp, g, d, t, os⟩ := by
  repeat (first
    | with_reducible refine wpAny_loadPart_at hC ?_
    | with_reducible refine wpAny_madeBy_exc hC ?_
    | wp_step)
  refine codeAny_call_builtin_code (Code.quiet_builtin _ F.quiet) (ckNewK F hT hC ?_)
  refine newK F hT hC hz ?_
  show wpAny _ _ _ _ _ _
  have k : ∀ b o, hp.get? b = some o →
      ((hp.push (excTup rest)).push (excObj C hp.objs.size none .none)).get? b = some o :=
    fun b o e => Heap.get?_push_of_some _ (Heap.get?_push_of_some _ e)
  have hC1 := k _ _ hC
  have hg : ((hp.push (excTup rest)).push (excObj C hp.objs.size none .none)).get? (hp.objs.size + 1)
      = some (excObj C hp.objs.size none .none) := by heap_get
  have hcC : (Value.ref C :: bm).contains (.ref C) = true := by simp
  have i1 := hi.keeps k
  have b1 := (hb (.ref (hp.objs.size + 1))).keeps k
  unfold isInstance
  repeat (first
    | with_reducible refine wpAny_loadPart_at hg ?_
    | (with_reducible refine wpAny_isSubtype_exc hC1 ?_; rw [hcC])
    | wp_step)
  show wpAny _ _ (typeLookup (.ref C) _) _ _ _
  refine i1.at ?_
  refine wpAny_holding (wpAny_bind (b1.at ?_))
  refine wpAny_bind (wpAny_call (codeAny_mono hq fun r s' z => ?_))
  rcases r with e | (v | _ | _ | _) <;> first
    | exact z
    | exact z.elim
    | (obtain ⟨rfl, z⟩ := z
       first
         | exact wpAny_pure (wpAny_pure z)
         | (wp_walk; exact z))

theorem callK (F : ExcBaseFacts B newId initId bmB)
    (hT : ∀ X : String, bm.contains (.type X) = bmB.contains (.type X))
    (hC : hp.get? C = some (clsO nm q C N bs bm hdct sn sub ab col dd k0 k1 k2 k3 k5 newId))
    (hi : W.Looks (model prog w) hp (typeLookup (.ref C) "__init__") (some (.ref fI)))
    (hb : ∀ self, W.Looks (model prog w) hp (bindSpecial (.ref fI) self) (.ref fI, [self]))
    (hz : rest.length ≤ sizeLine)
    (hq : codeAny (model prog w) (A.under (.builtin "type.__call__" ⟨.ref C :: rest, kw⟩))
      (.call (.ref fI) ⟨.ref (hp.objs.size + 1) :: rest, kw⟩) (W.InitBack (hp.objs.size + 1) R)
      ⟨(hp.push (excTup rest)).push (excObj C hp.objs.size none .none), g, d, t, os⟩) :
    codeAny (model prog w) A (.call (.ref C) ⟨rest, kw⟩) R ⟨hp, g, d, t, os⟩ := by
  have f1 := tc_lookup
  have f2 := tc_bind (.ref C)
  have hTy : (⟨hp, g, d, t, os⟩ : Shared).TypeIs (.ref C) "type" := ⟨_, hC, rfl⟩
  refine codeAny_of_tree ?_
  show wpAny _ _ (callAny (.ref C) _) _ _ _
  repeat (any_goals (first | assumption | with_reducible refine wpAny_loadPart_at hC ?_ | wp_step))
  refine ⟨rfl, ?_⟩
  refine codeAny_call_builtin_at (Code.quiet_builtin _ (by decide +kernel)) entry_typeCall
    (wpAny_check_type_call_sub hC (typeK F hT hC hi hb hz ?_))
  refine codeAny_mono hq fun r s' z => ?_
  rcases r with e | (v | _ | _ | _) <;> exact z
end
end Xc
set_option maxHeartbeats 8000000
namespace Xc
open PySem PySem.W PySem.Calls PyProof.Rows PySem.PX

/-- behind the call of the class: a new exception e, its fields fs -/
structure MkEnd (h h' : Heap) (e C : Addr) (fs : List (Str × Value)) : Prop where
  keep : ∀ b o, h.get? b = some o → h'.get? b = some o
  new : h.objs.size ≤ e
  obj : match fs with
    | [] => ∃ t1, h'.get? e = some (excObj C t1 none .none)
    | _ :: _ => ∃ t1 dx, h'.get? e = some (excObj C t1 (some dx) .none) ∧ h.objs.size ≤ dx ∧ dx ≠ e ∧
        h'.Ns1 dx fun y => fs.lookup y

/-- what calls of the class C do, for the fields fs bound from us and kw -/
def Mk (prog : Program) (w : World) (K : Frag) (mg : Str → Option Value) (C : Addr) (us : List Value)
    (kw : List (Str × Value)) (fs : List (Str × Value)) : Prop :=
  ∀ (A : Around) (R : Result → Shared → Prop) (s : Shared), MH K mg s.heap → s.heap.NoLimit →
    A.depth + 1 < recursionLimit →
    (∀ h' tk e, MkEnd s.heap h' e C fs → R (.ok (.ret (.ref e))) { s with heap := h', toks := tk }) →
    codeAny (model prog w) A (.call (.ref C) ⟨us, kw⟩) R s

section
variable {prog : Program} {w : World} {A : Around} {R : Result → Shared → Prop} {s : Shared}
variable {K : Frag} {mg : Str → Option Value} {C x t0 fI cc cda : Addr} {B newId initId : String} {bmB : List Value}
variable {qual msg f1 f2 f3 : Str} {j : Nat} {p0 p1 p2 p3 p4 p5 : Pos} {us : List Value} {kw : List (Str × Value)} {v1 v2 v3 : Value}

/-- the common way in -/
theorem mk_of (T : XC K C B newId initId bmB) (iC : findIn K (.ref C) "__init__" = some (some (.ref fI)))
    (tI : typeIn K (.ref fI) = some (.type "function")) (hz : us.length ≤ sizeLine) {fs : List (Str × Value)}
    (h : ∀ (A : Around) (R : Result → Shared → Prop) (s : Shared) (x t0 : Addr), MH K mg s.heap → s.heap.NoLimit →
      A.depth < recursionLimit → s.heap.get? x = some (excObj C t0 none .none) → K.lookup x = none →
      x ≠ mainGlobals → x ≠ builtinsNs →
      (∀ h' tk, IEnd s.heap h' x C fs → R (.ok (.ret .none)) { s with heap := h', toks := tk }) →
      codeAny (model prog w) A (.call (.ref fI) ⟨.ref x :: us, kw⟩) R s) : Mk prog w K mg C us kw fs := by
  intro A R s Mh hlim hroom hq
  have X := Mh.kin
  obtain ⟨nm, N', qn, bs, bm, hdct, sn, sub, ab, col, dd, k0, k1, k2, k3, k5, hC, hT⟩ := excInit_of X T.ini
  obtain ⟨hp, g, d, t, os⟩ := s
  have kk : ∀ b o, hp.get? b = some o →
      ((hp.push (excTup us)).push (excObj C hp.objs.size none .none)).get? b = some o :=
    fun b o e => Heap.get?_push_of_some _ (Heap.get?_push_of_some _ e)
  have hg : ((hp.push (excTup us)).push (excObj C hp.objs.size none .none)).get? (hp.objs.size + 1)
      = some (excObj C hp.objs.size none .none) := by heap_get
  have big : ∀ {b : Addr} {o : Obj}, hp.get? b = some o → hp.objs.size + 1 ≠ b := fun {b o} e z => by
    have q := Heap.lt_size e
    rw [← z] at q
    exact absurd (Nat.lt_of_succ_lt q) (Nat.lt_irrefl _)
  have hnx : K.lookup (hp.objs.size + 1) = none := by
    cases e : K.lookup (hp.objs.size + 1) with
    | none => rfl
    | some o => exact absurd rfl (big (X _ _ e))
  have hmg : hp.objs.size + 1 ≠ mainGlobals := by
    obtain ⟨o, _, _, e, _⟩ := Mh.glob
    exact big e
  have hbn : hp.objs.size + 1 ≠ builtinsNs := by
    obtain ⟨mb, ⟨o, _, _, e, _⟩, _⟩ := Mh.blt
    exact big e
  refine callK T.FB hT hC (looks_findIn X iC) (fun self => bind_fn X self tI) hz ?_
  refine h _ _ ⟨(hp.push (excTup us)).push (excObj C hp.objs.size none .none), g, d, t, os⟩ (hp.objs.size + 1) hp.objs.size
    (Mh.keeps kk) (hlim.keeps kk) hroom hg hnx hmg hbn fun h' tk Z => ?_
  refine ⟨rfl, hq h' tk (hp.objs.size + 1) ⟨fun b o e => Z.keep b o (Ne.symm (big e)) (kk b o e), Nat.le_succ _, ?_⟩⟩
  have zo := Z.obj
  cases fs with
  | nil => exact zo
  | cons f r =>
    obtain ⟨t1, dx, e1, e2, e3, e4⟩ := zo
    refine ⟨t1, dx, e1, ?_, e3, e4⟩
    rw [Heap.size_push, Heap.size_push] at e2
    exact Nat.le_trans (Nat.le_trans (Nat.le_succ _) (Nat.le_succ _)) e2

theorem mk1 {a0 a1 q1 q2 q3 q4 : Pos} (n1 : Nm f1) (T : XC K C B newId initId bmB)
    (iC : findIn K (.ref C) "__init__" = some (some (.ref fI))) (tI : typeIn K (.ref fI) = some (.type "function"))
    (S : XI prog K mg C fI cc cda qual (iArgs [("self", a0), (f1, a1)])
      [supS msg j p0 p1 p2 p3 p4 p5, stS f1 q1 q2 q3 q4] (iScope ["self", f1]) B initId)
    (hln : (p2.endLine == p4.line) = true) (ha : takerIn K C f1 = some none) (hz : us.length ≤ sizeLine)
    (hb : ∀ s x kV doc pm ct an, BindsTo s (ksFn "__init__" qual (iArgs [("self", a0), (f1, a1)])
      [supS msg j p0 p1 p2 p3 p4 p5, stS f1 q1 q2 q3 q4] (iScope ["self", f1]) .none kV doc pm an (.ref cda) ct cc)
      ⟨.ref x :: us, kw⟩ [("self", .ref x), (f1, v1)]) : Mk prog w K mg C us kw [(f1, v1)] :=
  mk_of T iC tI hz fun A R s x t0 Mh hlim hroom hx nx ng nb hq =>
    init1 n1 T S Mh hlim hroom hln hx nx ng nb ha (hb s x) hq

end
end Xc
set_option maxHeartbeats 8000000
/-! exceptions as values, over the abstract heap -/
namespace L2
open PySem PySem.Spec PyProof.Rows

theorem kv_lookup : ∀ {fv : List (Str × V)} {fs : List (Str × Value)}, KV fv fs → ∀ y, RelO (fv.lookup y) (fs.lookup y)
  | _, _, .nil, _ => True.intro
  | (f, v) :: fv, (g, u) :: fs, .cons r t, y => by
    obtain ⟨e, rv⟩ := r
    have e' : f = g := e
    subst e'
    rw [lookup_put]
    by_cases h : y = f
    · subst h
      rw [if_pos rfl, Xc.lk0]
      exact rv
    · rw [if_neg h, Xc.lk1 h]
      exact kv_lookup t y

theorem paired_snoc {α β : Type} {R : α → β → Prop} : ∀ {xs : List α} {ys : List β} {x : α} {y : β},
    Paired R xs ys → R x y → Paired R (xs ++ [x]) (ys ++ [y])
  | _, _, _, _, .nil, r => .cons r .nil
  | _, _, _, _, .cons q t, r => .cons q (paired_snoc t r)
theorem vals_rev : ∀ {xs : List V} {us : List Value}, Vals xs us → Vals xs.reverse us.reverse
  | _, _, .nil => .nil
  | _ :: _, _ :: _, .cons r t => by
    rw [List.reverse_cons, List.reverse_cons]
    exact paired_snoc (vals_rev t) r
theorem zip_kv : ∀ (ps : List Str) {xs : List V} {us : List Value}, Vals xs us → KV (ps.zip xs) (ps.zip us)
  | [], _, _, _ => by simp only [List.zip_nil_left]; exact Paired.nil
  | _ :: _, _, _, .nil => .nil
  | p :: ps, _ :: _, _ :: _, .cons r t => .cons ⟨rfl, r⟩ (zip_kv ps t)

section
variable {X : Cx} {pins : List (Addr × Obj)} {σ : St} {H : Hp} {s : Shared} {e C : Addr}

theorem Inv.mh (I : Inv X pins σ H s) : Xc.MH X.K X.mg s.heap := by
  obtain ⟨mb, h1, h2⟩ := I.mod.blt
  exact ⟨I.kIn, I.mod.glob.keeps I.bk, mb, h1.keeps I.bk, h2⟩

end

/-- what is known of calls of the class at C; ps: its fields, the last parameter first -/
structure MkAll (P : Program) (w : World) (K : PySem.W.Frag) (mg : Str → Option Value) (C : Addr) (ps : List Str) : Prop where
  pos : ∀ fs : List (Str × Value), fs.map (·.1) = ps → Xc.Mk P w K mg C (fs.reverse.map (·.2)) [] fs
  kws : ∀ fs : List (Str × Value), fs.map (·.1) = ps → Xc.Mk P w K mg C [] fs fs
  kp : PySem.W.keepIn K (.ref C) = true

theorem zip_rev {ps : List Str} {us : List Value} (h : us.length = ps.length) :
    ((ps.zip us.reverse).reverse.map (·.2)) = us := by
  have e : (ps.zip us.reverse).map (·.2) = us.reverse := by
    rw [List.map_snd_zip]
    rw [List.length_reverse]
    exact Nat.le_of_eq h
  rw [List.map_reverse, e, List.reverse_reverse]
theorem zip_fst {ps : List Str} {us : List Value} (h : us.length = ps.length) : (ps.zip us).map (·.1) = ps := by
  rw [List.map_fst_zip]
  exact Nat.le_of_eq h.symm

section
variable {X : Cx} {C : Addr} {ps : List Str} {k : Nat} {x : Str} {p pos : Pos} {e : Expr} {es : List Expr}
variable {kws : List Keyword} {ta : TA}

end

/-- what the written part says of a field's reading, and of isinstance -/
structure XG (K : PySem.W.Frag) (C : Addr) : Prop where
  ga : PySem.W.findIn K (.ref C) "__getattribute__" = some (some (.builtin "BaseException.__getattribute__"))
  gg : PySem.W.findIn K (.ref C) "__getattr__" = some none
  ex : PySem.W.subIn K (.ref C) (.type "BaseException") = some true
  hd : PySem.W.hasDictIn K C = true
  cl : (PySem.W.clsIn K C).isSome = true
  cc : PySem.W.findIn K (.ref C) "__class__" = some (some (.builtin "object.__class__"))
  cn : PySem.W.specialIn K (.builtin "object.__class__") "__get__" = some (some (.builtin "getset_descriptor.__get__"))
  ct : PySem.W.takesIn K (.builtin "object.__class__") = some true
  co : PySem.W.mroIn K C (.type "object") = some true

end L2
set_option maxHeartbeats 8000000
/-! defs that are known to run outside of any repr; repr of data -/
namespace L2
open PySem PySem.Spec PyProof.Rows

/-- as FnOk, for calls outside of any repr; nothing is raised -/
structure FnG (P : Program) (w : World) (K : PySem.W.Frag) (mg : Str → Option Value) (base : Heap) (k : Nat)
    (f : Addr) (fd : FuncData) (ps : List Str) (sp : Sp) : Prop where
  len : ∀ vs H Q, sp vs H Q E0 → vs.length = ps.length
  run : ∀ (A : Around) (outer : List Env) (s : Shared) (H : Hp) (args : Args) (us : List Value) (vs : List V) (Q : VK),
    A.guards = some [] → Room k A → Env0 P w K mg base A outer s H → BindsTo s fd args (ps.zip us) → Vals vs us →
    sp vs H Q E0 → codeAny (model P w) A (.call (.ref f) args) (CR CX0 outer P w H s Q E0) s

section
variable {P : Program} {w : World} {K : PySem.W.Frag} {mg : Str → Option Value} {base : Heap}

theorem fnG_of {k : Nat} {f : Addr} {name qual : Str} {params : Arguments} {body : List Stmt} {scope : Scope}
    {dV kV doc pm cdv ct oc : Value} {an od : Option Addr} {osl : Array (Option Value)} {N ps : List Str} {sp : Sp}
    (lk : K.lookup f = some ⟨oc, od, .func (PySem.W.fnOf name qual params body scope dV kV doc pm an cdv ct), osl⟩)
    (hcd : PySem.W.codeIn K cdv qual = true) (S : FnScope N ps scope)
    (len : ∀ vs H Q, sp vs H Q E0 → vs.length = ps.length)
    (hbody : ∀ (A : Around) (outer : List Env) (s : Shared) (H : Hp) (vs : List V) (Q : VK), A.guards = some [] →
      Room k (A.deeper (envOfC qual scope s.heap.objs.size f cdv)) → sp vs H Q E0 →
      ∃ t, PSs (cxOf CX0 P w K mg base N qual scope f cdv A outer s H E0) body t ∧
        t { nx := fun _ H' => Q .non H', rt := Q } (start N vs) H) :
    FnG P w K mg base (k + 1) f (PySem.W.fnOf name qual params body scope dV kV doc pm an cdv ct) ps sp := by
  refine ⟨len, fun A outer s H args us vs Q hgu hr e0 hb r hsp => ?_⟩
  have hl := len _ _ _ hsp
  have kb : ∀ b o, base.get? b = some o → s.heap.get? b = some o := fun b o e => (e0.bs b o e).1
  have KX := e0.mod.kin.keeps kb
  have lim := e0.mod.nolimit.keeps kb
  have hkind : ∀ y ∈ ps.zip us, scope.names.lookup y.1 = some .local ∨
      (scope.names.lookup y.1 = some .cell ∧
        ((cellsFrom (s.heap.objs.size + 1) scope.names []).lookup y.1).isSome = true) := by
    rintro ⟨n, v⟩ hy
    rcases S.par n (List.of_mem_zip hy).1 with q | q
    · exact Or.inl q
    · exact Or.inr ⟨q, PySem.W.cellsFrom_some _ _ _ (Or.inl q)⟩
  refine codeAny_call_function hr.depth (KX _ _ lk) rfl S.co S.gen rfl
    (PySem.W.codeRec_of KX hcd) (hb _ _ _ _ ?_)
  refine wpAny_newFunctionEnv_cells S.kind hkind fun env he s1 x => ?_
  cases he
  refine ⟨lim.keeps x.toInCall.keep, codeAny_func ?_⟩
  obtain ⟨t, ht, hq⟩ := hbody A outer s H vs Q hgu (hr.deeper _) hsp
  have I : Inv (cxOf CX0 P w K mg base N qual scope f cdv A outer s H E0) [] (start N vs) H s1 :=
    inv_start S hr.hd e0 hl r x
  refine wpAny_mono (ht.run [] s1 (start N vs) H _ I hq) (fun fl s' hs => ?_) fun e s' hs => hs
  cases fl with
  | ret u =>
    obtain ⟨v, σ', H', J, rv, q⟩ := hs
    exact ⟨v, H', J.os, J.bare, J.base, J.hok, rv, q⟩
  | next =>
    obtain ⟨σ', H', J, q⟩ := hs
    exact ⟨V.non, H', J.os, J.bare, J.base, J.hok, rfl, q⟩
  | brk => exact hs.choose_spec.choose_spec.2.elim
  | cont => exact hs.choose_spec.choose_spec.2.elim

theorem Fun.okG {x qual : Str} {st : Stmt} {f : Addr} {fd : FuncData} {N ps : List Str} {k : Nat} {sp : Sp}
    (F : Fun K x qual st f fd) (S : FnScope N ps (defScope st)) (len : ∀ vs H Q, sp vs H Q E0 → vs.length = ps.length)
    (hbody : ∀ (cdv : Value) (A : Around) (outer : List Env) (s : Shared) (H : Hp) (vs : List V) (Q : VK),
      A.guards = some [] → Room k (A.deeper (envOfC qual (defScope st) s.heap.objs.size f cdv)) → sp vs H Q E0 →
      ∃ t, PSs (cxOf CX0 P w K mg base N qual (defScope st) f cdv A outer s H E0).nox (defBody st) t ∧
        t { nx := fun _ H' => Q .non H', rt := Q } (start N vs) H) : FnG P w K mg base (k + 1) f fd ps sp := by
  obtain ⟨oc, od, kV, doc, pm, an, cdv, ct, osl, rfl, lk, hcd⟩ := F.ex
  refine fnG_of lk hcd S len fun A outer s H vs Q hgu hr hsp => ?_
  obtain ⟨t, h, q⟩ := hbody cdv A outer s H vs Q hgu hr hsp
  exact ⟨t, h.nox, q⟩
end

section
variable {X : Cx} {k : Nat} {f : Addr} {fd : FuncData} {ps : List Str} {sp : Sp} {x : Str} {p pos : Pos}
variable {e : Expr} {es : List Expr} {t : TA}

theorem run_fnG {pins : List (Addr × Obj)} {σ : St} {H : Hp} {s : Shared} {Q : VK} {us : List Value} {vs : List V}
    (F : FnG X.prog X.w X.K X.mg X.base k f fd ps sp) (hgu : X.A.guards = some []) (hr : Room k X.A)
    (hb : Binds X.K fd ps []) (I : Inv X pins σ H s) (r : Vals vs us) (h : sp vs H Q E0) :
    wpAny (model X.prog X.w) X.A (call (.ref f) us) (EP X pins σ Q) X.xe s := by
  have hl : (us ++ []).length = ps.length := by
    rw [List.append_nil, ← r.length]
    exact F.len _ _ _ h
  have hb' := hb s us I.kIn hl
  rw [List.append_nil] at hb'
  refine wpAny_call (codeAny_mono (F.run X.A X.stack s H ⟨us, []⟩ us vs Q hgu hr I.env0 hb' r h) fun r s' hq => ?_)
  cases r with
  | error e => exact False.elim hq
  | ok fl =>
    cases fl with
    | ret u => exact I.after hq
    | next => exact False.elim hq
    | brk => exact False.elim hq
    | cont => exact False.elim hq

theorem pe_callG (F : FnG X.prog X.w X.K X.mg X.base k f fd ps sp) (hgu : X.A.guards = some []) (hr : Room k X.A)
    (hg : Gl X x) (hm : X.mg x = some (.ref f)) (hk : PySem.W.keepIn X.K (.ref f) = true) (hb : Binds X.K fd ps [])
    (ha : PA X (e :: es) t) (hdb : (x == ("__debug__" : Str)) = false := by decide)
    (he : starEach (e :: es) X.env = (false, eval e X.env) :: starEach es X.env := by rfl)
    (hpl : (backTo pos (starEach es X.env)).any (·.1) = false := by rfl) :
    PE X (.Call (.Name x p) (e :: es) [] pos) (tCall sp [] E0 t) := by
  refine ⟨fun pins s σ H Q I h => ?_⟩
  refine wpAny_Call_Name_kw (ld_glob I hg hm ?_ hdb)
  refine PySem.W.callWith_K (h₀ := X.base) I.ok.mod.kin hk
    (thn (ha.run pos pins s σ H _ I h) fun us s1 ⟨vs, H1, I1, r, q⟩ => ⟨I1.kIn, ?_⟩) he hpl
  have q' : sp (vs ++ []) H1 Q E0 := q
  rw [List.append_nil] at q'
  exact run_fnG F hgu hr hb I1 r q'
end

/-! ### data, a dict among it -/
def kD : Key → PyData
  | .inl i => .int i
  | .inr x => .str x
mutual
inductive Dw (H : Hp) : V → PyData → Prop
  | non : Dw H .non .none
  | bl (b : Bool) : Dw H (.bl b) (.bool b)
  | int (i : Int) : Dw H (.int i) (.int i)
  | str (x : Str) : Dw H (.str x) (.str x)
  | lst {a : Addr} {xs : List V} {ds : List PyData} : H a = some (.lst xs) → DwAll H xs ds → Dw H (.ref a) (.list ds)
  | tup {a : Addr} {xs : List V} {ds : List PyData} : H a = some (.tup xs) → DwAll H xs ds → Dw H (.ref a) (.tuple ds)
  | dct {a : Addr} {kvs : List (Key × V)} {ds : List PyData} : H a = some (.dK kvs) → DwAll H (kvs.map (·.2)) ds →
      Dw H (.ref a) (.dict ((kvs.map fun p => kD p.1).zip ds))
inductive DwAll (H : Hp) : List V → List PyData → Prop
  | nil : DwAll H [] []
  | cons {v : V} {vs : List V} {d : PyData} {ds : List PyData} : Dw H v d → DwAll H vs ds → DwAll H (v :: vs) (d :: ds)
end
end L2
set_option maxHeartbeats 8000000
namespace L2
open PySem PySem.Spec PyProof.Rows

theorem keys_read {P : Program} {w : World} {h : Heap} : ∀ {es : List DictEntry} {kvs : List (Key × V)} {vs : List (Key × Value)},
    KV kvs vs → Pairs (mixKind P w) es vs → ReadsAll h (es.map (·.key)) (kvs.map fun p => kD p.1) []
  | _, _, _, .nil, .nil => .nil
  | _, p :: _, _ :: _, .cons r t, .cons hk _ hp => by
    have ih := keys_read (h := h) t hp
    have hk' := keyIs_shape (show keyIs _ _ = true from hk)
    have e1 := r.1
    refine ReadsAll.cons (as := []) (bs := []) ?_ ih
    rcases hk' with ⟨i, tk, e, e2⟩ | ⟨x, tk, e, e2⟩
    · show Reads h _ (kD p.1) []
      rw [e1, e]
      dsimp only
      rw [e2]
      exact Reads.int i tk
    · show Reads h _ (kD p.1) []
      rw [e1, e]
      dsimp only
      rw [e2]
      exact Reads.str x tk
theorem vals_of_kv {P : Program} {w : World} : ∀ {es : List DictEntry} {kvs : List (Key × V)} {vs : List (Key × Value)},
    KV kvs vs → Pairs (mixKind P w) es vs → Vals (kvs.map (·.2)) (es.map (·.val))
  | _, _, _, .nil, .nil => .nil
  | _, p :: _, q :: _, .cons r t, .cons _ hv hp => by
    have z := r.2
    rw [← hv] at z
    exact Paired.cons z (vals_of_kv t hp)
theorem zip_fs {α β : Type} : ∀ {as : List α} {bs : List β}, as.length = bs.length → (as.zip bs).map (·.1) = as := fun h => by
  rw [List.map_fst_zip]
  exact Nat.le_of_eq h
theorem zip_sd {α β : Type} : ∀ {as : List α} {bs : List β}, as.length = bs.length → (as.zip bs).map (·.2) = bs := fun h => by
  rw [List.map_snd_zip]
  exact Nat.le_of_eq h.symm
theorem DwAll.length {H : Hp} : ∀ {vs : List V} {ds : List PyData}, DwAll H vs ds → vs.length = ds.length
  | _, _, .nil => rfl
  | _ :: _, _ :: _, .cons _ t => congrArg (· + 1) (DwAll.length t)

section
variable {P : Program} {w : World} {H : Hp} {h : Heap}
mutual
theorem Dw.reads (ok : HOk P w H h) : ∀ {v : V} {d : PyData}, Dw H v d → ∀ {u : Value}, RelV v u →
    ∃ as, Reads h u d as ∧ ∀ a ∈ as, (H a).isSome = true
  | _, _, .non, _, r => by
    cases (show _ = Value.none from r)
    exact ⟨_, Reads.none, fun a z => absurd z (by simp)⟩
  | _, _, .bl b, _, r => by
    cases (show _ = Value.bool b from r)
    exact ⟨_, Reads.bool b, fun a z => absurd z (by simp)⟩
  | _, _, .int i, _, r => by
    obtain ⟨t, rfl⟩ := (show ∃ t, _ = Value.int i t from r)
    exact ⟨_, Reads.int i t, fun a z => absurd z (by simp)⟩
  | _, _, .str x, _, r => by
    obtain ⟨t, rfl⟩ := (show ∃ t, _ = Value.str x t from r)
    exact ⟨_, Reads.str x t, fun a z => absurd z (by simp)⟩
  | _, _, .lst (a := a) e hd, _, r => by
    cases (show _ = Value.ref a from r)
    obtain ⟨_, its, n, rv, ho⟩ := (show ObjOk P w H h a (.lst _) from ok a _ e)
    obtain ⟨as, q1, q2⟩ := DwAll.reads ok hd rv
    refine ⟨_, Reads.list ho rfl rfl q1, fun b z => ?_⟩
    rcases List.mem_cons.mp z with rfl | z
    · rw [e]
      rfl
    · exact q2 b z
  | _, _, .tup (a := a) e hd, _, r => by
    cases (show _ = Value.ref a from r)
    obtain ⟨_, its, rv, o, ho, hc, n, hdt⟩ := (show ObjOk P w H h a (.tup _) from ok a _ e)
    obtain ⟨as, q1, q2⟩ := DwAll.reads ok hd rv
    exact ⟨_, Reads.tuple ho hc hdt q1, q2⟩
  | _, _, .dct (a := a) e hd, _, r => by
    cases (show _ = Value.ref a from r)
    obtain ⟨_, _, vs, kv, o, es, ep, ho, hex, hdt, _, hp, _⟩ := (show ObjOk P w H h a (.dK _) from ok a _ e)
    obtain ⟨as, q1, q2⟩ := DwAll.reads ok hd (vals_of_kv kv hp)
    have hl := hd.length
    rw [List.length_map] at hl
    have k1 := keys_read (h := h) kv hp
    refine ⟨_, Reads.dict (as := []) (bs := as) ho hex.1 hdt ?_ ?_, fun b z => ?_⟩
    · rw [zip_fs (by rw [List.length_map]; exact hl)]
      exact k1
    · rw [zip_sd (by rw [List.length_map]; exact hl)]
      exact q1
    · rcases List.mem_cons.mp z with rfl | z
      · rw [e]
        rfl
      · exact q2 b z
theorem DwAll.reads (ok : HOk P w H h) : ∀ {vs : List V} {ds : List PyData}, DwAll H vs ds → ∀ {us : List Value}, Vals vs us →
    ∃ as, ReadsAll h us ds as ∧ ∀ a ∈ as, (H a).isSome = true
  | _, _, .nil, _, .nil => ⟨_, ReadsAll.nil, fun a z => absurd z (by simp)⟩
  | _, _, .cons hd ht, _, .cons r t => by
    obtain ⟨as, q1, q2⟩ := Dw.reads ok hd r
    obtain ⟨bs, q3, q4⟩ := DwAll.reads ok ht t
    refine ⟨_, ReadsAll.cons q1 q3, fun a z => ?_⟩
    rcases List.mem_append.mp z with z | z
    · exact q2 a z
    · exact q4 a z
end
end

mutual
theorem Dw.same {H H' : Hp} (S : Same H H') : ∀ {v : V} {d : PyData}, Dw H v d → Dw H' v d
  | _, _, .non => .non
  | _, _, .bl b => .bl b
  | _, _, .int i => .int i
  | _, _, .str x => .str x
  | _, _, .lst e hd => .lst (S _ _ e) (DwAll.same S hd)
  | _, _, .tup e hd => .tup (S _ _ e) (DwAll.same S hd)
  | _, _, .dct e hd => .dct (S _ _ e) (DwAll.same S hd)
theorem DwAll.same {H H' : Hp} (S : Same H H') : ∀ {vs : List V} {ds : List PyData}, DwAll H vs ds → DwAll H' vs ds
  | _, _, .nil => .nil
  | _, _, .cons hd ht => .cons (Dw.same S hd) (DwAll.same S ht)
end

/-- repr(x), x a list, tuple or dict of data -/
def rRepr : List V → Hp → VK → Prop := fun xs H Q => ∃ (a : Addr) (d : PyData), xs = [.ref a] ∧ Dw H (.ref a) d ∧
  d.showable = true ∧ d.depth ≤ 60 ∧ d.shown.length ≤ sizeLine ∧ Q (.str d.shown) H
theorem call_reprD {X : Cx} (hgu : X.A.guards = some []) (hu : X.A.units + 64 < cLine)
    (hsys : (X.K.lookup sysModules).isSome = true) : CallR X (.builtin "repr") rRepr := by
  intro pins s σ H xs us Q I r h
  obtain ⟨a, d, rfl, hd, h1, h2, h3, q⟩ := h
  obtain ⟨u, rfl, ru⟩ := vals1 r
  have ru' : u = Value.ref a := ru
  subst ru'
  obtain ⟨as, hr, hm⟩ := Dw.reads I.hok hd ru
  have hno : sysModules ∉ as := fun z => by
    have e := hm _ z
    obtain ⟨o, ho⟩ := Option.isSome_iff_exists.mp hsys
    rw [(I.bs _ _ (I.mod.kin _ _ ho)).2] at e
    cases e
  refine repr_of_reads' hr h1 (fun _ => hno) hgu (by omega) (fun b o e => e) (fun h' tk1 tk k => ?_) h3
  exact ⟨.str d.shown, H, I.kept k, ⟨_, rfl⟩, q⟩
end L2
set_option maxHeartbeats 8000000
/-! the law's own call, which is outside of any repr -/
namespace L2
open PySem PySem.Spec PyProof.Rows

theorem law_callG {P : Program} {w : World} {K : PySem.W.Frag} {mg mb : Str → Option Value} {k : Nat} {fa a : Addr}
    {fd : FuncData} {x : Str} {sp : Sp} {s1 : Shared} {vs : List Value} {ns : List Int}
    (KX : K.In s1.heap) (hns : s1.heap.Ns mainGlobals mg) (hb : s1.heap.Ns builtinsNs mb)
    (hbb : ∀ x : Str, x ≠ "__name__" → mb x = bootBuiltins x) (hlim : s1.heap.NoLimit) (hg : s1.gens = #[])
    (ha : s1.heap.get? a = some { cls := .type "list", data := .seq vs.toArray }) (hi : IntsAre vs ns)
    (hl : ns.length ≤ sizeLine) (hr : Room k callerA)
    (F : ∀ base : Heap, K.In base → base.Ns mainGlobals mg → FnG P w K mg base k fa fd [x] sp)
    (hbind : ∀ (s : Shared) (u : Value), BindsTo s fd ⟨[u], []⟩ [(x, u)])
    (hsp : ∀ H : Hp, Only H → SqL K H a (ns.map V.int) → sp [.ref a] H (fun v _ => v = .bl true) E0) :
    codeAny (model P w) callerA (.call (.ref fa) ⟨[.ref a], []⟩)
      (fun r s' => r = .ok (.ret (.bool true)) ∧ OldK s1.heap s'.heap ∧ s'.os = s1.os ∧ AllBare s'.gens) s1 := by
  have rv := vals_ints hi
  have lenV := hi.length
  have core : ∀ H : Hp, Only H → SqL K H a (ns.map V.int) → HOk P w H s1.heap →
      (∀ b, H b ≠ none → b = a) → (H a ≠ none → K.lookup a = none) →
      codeAny (model P w) callerA (.call (.ref fa) ⟨[.ref a], []⟩)
        (fun r s' => r = .ok (.ret (.bool true)) ∧ OldK s1.heap s'.heap ∧ s'.os = s1.os ∧ AllBare s'.gens) s1 := by
    intro H hO hS hok hA hK
    have nowhere : ∀ b, b ≠ a → H b = none := fun b ne => by
      cases q : H b with
      | none => rfl
      | some u => exact absurd (hA b (by rw [q]; simp)) ne
    have baseOf : ∀ {b : Addr} {o : Obj}, s1.heap.get? b = some o → H b = none →
        (hidT s1.heap H).get? b = some o := fun e n => hidT_get e n
    have noA : ∀ {b : Addr} {o : Obj} {es : Array DictEntry} {ep : Nat}, s1.heap.get? b = some o →
        o.data = .dict es ep → H b = none := fun {b o es ep} e d => by
      refine nowhere b fun z => ?_
      rw [z, ha] at e
      cases e
      exact nomatch (show Data.seq vs.toArray _ = Data.dict es ep from d)
    have nsK : ∀ {b : Addr} {m : Str → Option Value}, s1.heap.Ns b m → (hidT s1.heap H).Ns b m :=
      fun {b m} ⟨o, es, ep, e, d, r⟩ => ⟨o, es, ep, baseOf e (noA e d), d, r⟩
    have hKb : K.In (hidT s1.heap H) := fun b o e => baseOf (KX b o e) (by
      cases q : H b with
      | none => rfl
      | some u =>
        have e' : b = a := hA b (by rw [q]; simp)
        have n1 := hK (by rw [← e', q]; simp)
        rw [← e', e] at n1
        cases n1)
    have hM : Mod K mg (hidT s1.heap H) := by
      obtain ⟨mc, h1, h2⟩ := hlim
      exact ⟨hKb, nsK hns, ⟨mb, nsK hb, hbb⟩, ⟨mc, nsK h1, h2⟩⟩
    have e0 : Env0 P w K mg (hidT s1.heap H) callerA [] s1 H :=
      ⟨rfl, hM, fun b o e => of_hidT e, Nat.le_of_eq (hidT_size _ _), trivial,
        fun b hb => absurd (show b ∈ ([] : List Addr) from hb) (by simp), hok, .of_eq hg⟩
    have run := (F _ hKb (nsK hns)).run callerA [] s1 H ⟨[.ref a], []⟩ [.ref a] [.ref a] _ rfl hr e0
      (hbind s1 (.ref a)) (.cons rfl .nil) (hsp H hO hS)
    refine codeAny_mono run fun r s' h => ?_
    cases r with
    | error e => exact False.elim h
    | ok fl =>
      cases fl with
      | next => exact False.elim h
      | brk => exact False.elim h
      | cont => exact False.elim h
      | ret u =>
        obtain ⟨v, H', os, bare, un, hok', r', q⟩ := h
        have q' : v = .bl true := q
        subst q'
        have eu : u = Value.bool true := r'
        subst eu
        refine ⟨rfl, OldK.of_keep fun b o e => ?_, os, bare⟩
        cases q : H b with
        | none => exact un.keep b o e q (fun z => absurd (show b ∈ ([] : List Addr) from z) (by simp)) (by simp)
        | some u =>
          rcases hO b with z | ⟨ob, xs, z⟩
          · rw [q] at z
            cases z
          · obtain ⟨e1, _⟩ := hok b _ z
            obtain ⟨e2, _⟩ := hok' b _ (un.frzs b ob _ z)
            rw [e] at e1
            rw [Option.some.inj e1]
            exact e2
  cases hk : K.lookup a with
  | some o =>
    have e := KX a o hk
    rw [ha] at e
    cases e
    refine core (fun _ => none) (fun _ => .inl rfl) (.inr ⟨_, vs.toArray, _, hk, rfl, rfl, rfl, ?_, ?_⟩)
      (fun b u z => nomatch (show (none : Option HO) = some u from z)) (fun b z => absurd rfl z) fun z => absurd rfl z
    · rw [List.size_toArray, lenV]
      exact hl
    · simpa using rv
  | none =>
    let Hs : Hp := fun b => if b = a then
      some (.frz { cls := .type "list", data := .seq vs.toArray } (.lst (ns.map V.int))) else none
    have Hs1 : Hs a = some (.frz { cls := .type "list", data := .seq vs.toArray } (.lst (ns.map V.int))) := if_pos rfl
    have Hs2 : ∀ {b}, b ≠ a → Hs b = none := fun ne => if_neg ne
    refine core Hs (fun b => ?_) (.inl (.inr ⟨_, Hs1⟩)) (fun b u z => ?_) (fun b z => ?_) fun _ => hk
    · by_cases hb : b = a
      · subst hb
        exact .inr ⟨_, _, Hs1⟩
      · exact .inl (Hs2 hb)
    · by_cases hb : b = a
      · subst hb
        rw [Hs1] at z
        cases z
        refine ⟨ha, ?_, vs, _, rv, ha⟩
        rw [List.length_map]
        exact hl
      · rw [Hs2 hb] at z
        cases z
    · by_cases hb : b = a
      · exact hb
      · exact absurd (Hs2 hb) z

end L2
set_option maxHeartbeats 8000000
namespace K40
open PySem PySem.Spec PyProof.Rows L2

abbrev sRng : Stmt := top 29
abbrev sDraw : Stmt := top 30
abbrev sChoice : Stmt := top 31
/-- the built-in names that are still built-in -/
structure Nb (mg : Str → Option Value) : Prop where
  len : mg "len" = none
  max : mg "max" = none
  min : mg "min" = none
  abs : mg "abs" = none
  int : mg "int" = none
  divmod : mg "divmod" = none
  repr : mg "repr" = none
  isi : mg "isinstance" = none
  range : mg "range" = none
  enum : mg "enumerate" = none
  all : mg "all" = none

/-! ### the promises -/
/-- _law_rng(script, k): a new list of two numbers -/
def spRng (K : PySem.W.Frag) : Sp := fun vs H Q _ => ∃ (a : Addr) (ns : List Int) (k : Int), vs = [.ref a, .int k] ∧
  SqL K H a (ns.map V.int) ∧ 0 ≤ k ∧ k ≤ 100 ∧ ns.length ≤ 1000 ∧
  ∀ (p : Addr) (x y : Int), H p = none → 0 ≤ x → 0 ≤ y → y < 4294967296 → Q (.ref p) (upd H p (.lst [.int x, .int y]))
/-- the numbers at r -/
def Rg (H : Hp) (r : Addr) : Prop := ∃ x y : Int, H r = some (.lst [.int x, .int y]) ∧ 0 ≤ x ∧ 0 ≤ y ∧ y < 4294967296
/-- all but what stands at r is kept -/
def But (r : Addr) (H H' : Hp) : Prop := ∀ b o, b ≠ r → H b = some o → H' b = some o
theorem But.trans {r : Addr} {H H1 H2 : Hp} (a : But r H H1) (b : But r H1 H2) : But r H H2 :=
  fun c o ne e => b c o ne (a c o ne e)
/-- _law_draw(rng, many) -/
def spDraw : Sp := fun vs H Q _ => ∃ (r : Addr) (m : Int), vs = [.ref r, .int m] ∧ Rg H r ∧ 0 < m ∧ m ≤ 1000000 ∧
  ∀ (H' : Hp) (d : Int), 0 ≤ d → d < m → Rg H' r → But r H H' → Q (.int d) H'
/-- _law_choice(rng, some), some a list -/
def spChoice : Sp := fun vs H Q _ => ∃ (r l : Addr) (xs : List V), vs = [.ref r, .ref l] ∧ Rg H r ∧ l ≠ r ∧
  H l = some (.lst xs) ∧ 0 < xs.length ∧ xs.length < 1000000 ∧
  ∀ (H' : Hp) (v : V), v ∈ xs → Rg H' r → But r H H' → Q v H'

section
variable {P : Program} {w : World} {K : PySem.W.Frag} {mg : Str → Option Value} {base : Heap}

theorem scRng : FnScope ["_law_script", "_law_k", "_law_cell"] ["_law_script", "_law_k"] (defScope sRng) :=
  ⟨rfl, rfl, rfl, by decide +kernel, rfl, by decide +kernel, by decide +kernel⟩

theorem rng_end {c k : Int} (hk : 0 ≤ k) (hk2 : k ≤ 100) :
    (0 ≤ (if (if c < 0 then -c else c) - 10 ^ 18 > 0 then (if c < 0 then -c else c) - 10 ^ 18 else (0 : Int))) ∧
    (∀ z : Int, 0 ≤ z → 0 ≤ z * (2 * k + 7) ^ 3 % 2147483489 + 1) ∧
    (∀ z : Int, z * (2 * k + 7) ^ 3 % 2147483489 + 1 < 4294967296) := by
  refine ⟨?_, fun z hz => ?_, fun z => ?_⟩
  · split <;> omega
  · have := Int.emod_nonneg (z * (2 * k + 7) ^ 3) (show (2147483489 : Int) ≠ 0 by decide)
    omega
  · have := Int.emod_lt_of_pos (z * (2 * k + 7) ^ 3) (show (0 : Int) < 2147483489 by decide)
    omega

theorem ok_rng {f : Addr} {fd : FuncData} (F : Fun K "_law_rng" "_law_rng" sRng f fd) (T : Nb mg) :
    FnOk P w K mg base CX0 1 f fd ["_law_script", "_law_k"] (spRng K) := by
  refine F.ok scRng (fun vs H Q E h => ?_) (fun cdv A outer s H vs Q E hr h => ?_)
  · obtain ⟨a, ns, k, rfl, _⟩ := h
    rfl
  · obtain ⟨a, ns, k, rfl, hS, hk, hk2, hn, q⟩ := h
    refine ⟨_, pss_cons (ps_set (i := 2) scRng.nd rfl (.inl rfl) (pe_op op_add (pe_op op_mul pe_int (pv 1)) pe_int))
      (pss_cons (ps_if (pt_cmpR op_lt (pv 1) (pe_callB call_len_seq (by rfl) T.len PySem.boot_len (pa_cons (pv 0) pa_nil)) (nomark _))
        (pss_one (ps_set (i := 2) scRng.nd rfl (.inl rfl) (pe_ix ix_list (pv 0) (pv 1) (fun _ _ => rfl)))) pss_nil)
      (pss_one (ps_ret (pe_lst (pa_cons
        (pe_callB (call_max2 rfl) (by rfl) T.max (by decide +kernel) (pa_cons pe_int (pa_cons
          (pe_op op_sub (pe_callB call_abs (by rfl) T.abs (by decide +kernel) (pa_cons (pv 2) pa_nil)) (pe_op op_pow pe_int pe_int)) pa_nil)))
        (pa_cons (pe_op op_add (pe_op op_mod (pe_op op_mul
          (pe_callTy call_int1 (by rfl) T.int (by decide +kernel) (pa_cons
            (pe_op op_add (pe_op op_mod (pe_callTy call_int1 (by rfl) T.int (by decide +kernel) (pa_cons
              (pe_callB call_abs (by rfl) T.abs (by decide +kernel) (pa_cons (pv 2) pa_nil)) pa_nil)) pe_int) pe_int) pa_nil))
          (pe_op op_pow (pe_op op_add (pe_op op_mul pe_int (pv 1)) pe_int) pe_int)) pe_int) pe_int) pa_nil)))))), ?_⟩
    have fin : ∀ c : Int, ∀ p : Addr, H p = none → Q (.ref p) (upd H p (.lst [
        .int (if (if c < 0 then -c else c) - 10 ^ 18 > 0 then (if c < 0 then -c else c) - 10 ^ 18 else 0),
        .int (((if c < 0 then -c else c) % 2147483549 + 1) * (2 * k + 7) ^ 3 % 2147483489 + 1)])) := fun c p hp => by
      obtain ⟨h1, h2, h3⟩ := rng_end (c := c) hk hk2
      refine q p _ _ hp h1 (h2 _ ?_) (h3 _)
      have := Int.emod_nonneg (if c < 0 then -c else c) (show (2147483549 : Int) ≠ 0 by decide)
      omega
    have ret : ∀ c : Int, ∀ σ : L2.St, σ = [some (.ref a), some (.int k), some (.int c)] →
        tRet (tLst (tCons
            (tCB (fun xs H Q => ∃ i j, xs = [V.int i, V.int j] ∧ Q (V.int (if j > i then j else i)) H)
              (tCons (tC (V.int 0)) (tCons (tOp (rI0 fun i j => V.int (i - j))
                (tCB (fun xs H Q => ∃ i, xs = [V.int i] ∧ Q (V.int (if i < 0 then -i else i)) H) (tCons (tVar 2) tNil))
                (tOp (rI CPow fun i j => V.int (i ^ j.toNat)) (tC (V.int 10)) (tC (V.int 18)))) tNil)))
            (tCons (tOp (rI0 fun i j => V.int (i + j)) (tOp (rI (fun x j => 0 < j) fun i j => V.int (i % j))
              (tOp (rI CMul fun i j => V.int (i * j))
                (tCB (fun xs H Q => (∃ i, xs = [V.int i] ∧ Q (V.int i) H) ∨ ∃ k, xs = [V.bl k] ∧ Q (V.int (if k = true then 1 else 0)) H)
                  (tCons (tOp (rI0 fun i j => V.int (i + j)) (tOp (rI (fun x j => 0 < j) fun i j => V.int (i % j))
                    (tCB (fun xs H Q => (∃ i, xs = [V.int i] ∧ Q (V.int i) H) ∨ ∃ k, xs = [V.bl k] ∧ Q (V.int (if k = true then 1 else 0)) H)
                      (tCons (tCB (fun xs H Q => ∃ i, xs = [V.int i] ∧ Q (V.int (if i < 0 then -i else i)) H) (tCons (tVar 2) tNil)) tNil))
                    (tC (V.int 2147483549))) (tC (V.int 1))) tNil))
                (tOp (rI CPow fun i j => V.int (i ^ j.toNat)) (tOp (rI0 fun i j => V.int (i + j))
                  (tOp (rI CMul fun i j => V.int (i * j)) (tC (V.int 2)) (tVar 1)) (tC (V.int 7))) (tC (V.int 3))))
              (tC (V.int 2147483489))) (tC (V.int 1))) tNil)))
          { nx := fun x H' => Q V.non H', rt := Q } σ H := by
      intro c σ hσ
      subst hσ
      have b1 := Int.emod_nonneg (if c < 0 then -c else c) (show (2147483549 : Int) ≠ 0 by decide)
      have b2 := Int.emod_lt_of_pos (if c < 0 then -c else c) (show (0 : Int) < 2147483549 by decide)
      refine ⟨_, rfl, _, rfl, _, _, rfl, rfl, ⟨by decide, by decide, by decide⟩, _, _, rfl, rfl, _, _, rfl, ?_⟩
      refine ⟨_, rfl, _, rfl, .inl ⟨_, rfl, ?_⟩⟩
      refine ⟨_, _, rfl, rfl, (by show (0 : Int) < 2147483549; decide), _, _, rfl, rfl, .inl ⟨_, rfl, ?_⟩⟩
      refine ⟨_, rfl, _, _, rfl, rfl, .inl ⟨by decide, by decide⟩, _, _, rfl, rfl, _, _, rfl, rfl, ⟨by decide, by decide, by omega⟩, ?_⟩
      refine ⟨_, _, rfl, rfl, .inl ⟨by omega, by omega⟩, _, _, rfl, rfl, (by show (0 : Int) < 2147483489; decide), _, _, rfl, rfl, ?_⟩
      refine ⟨by show 2 ≤ sizeLine; rw [sizeLine_eq]; decide, fun p hp => ?_⟩
      exact fin c p hp
    refine ⟨_, rfl, _, _, rfl, rfl, .inl ⟨by decide, by decide⟩, _, _, rfl, rfl, ?_⟩
    refine ⟨_, rfl, _, rfl, a, _, rfl, .inl hS, _, _, rfl, rfl, _, rfl, ?_⟩
    refine ite2 (fun hlt => ?_) fun _ => ?_
    · have hlt' := of_decide_eq_true hlt
      rw [List.length_map] at hlt'
      obtain ⟨j, rfl⟩ : ∃ j : Nat, k = (j : Int) := ⟨k.toNat, by omega⟩
      have hj : j < ns.length := by omega
      refine ⟨_, rfl, _, rfl, a, _, _, .int ns[j], rfl, rfl, hS, atI_nat ?_, ?_⟩
      · rw [List.getElem?_map, List.getElem?_eq_getElem hj]
        rfl
      · exact ret ns[j] _ rfl
    · exact ret (17 * k + 5) _ rfl
end
end K40
set_option maxHeartbeats 8000000
namespace K40
open PySem PySem.Spec PyProof.Rows L2
section
variable {P : Program} {w : World} {K : PySem.W.Frag} {mg : Str → Option Value} {base : Heap}

theorem scDraw : FnScope ["_law_rng_here", "_law_many", "_law_digit"] ["_law_rng_here", "_law_many"] (defScope sDraw) :=
  ⟨rfl, rfl, rfl, by decide +kernel, rfl, by decide +kernel, by decide +kernel⟩
theorem at0 (x y : Int) : atI [V.int x, V.int y] 0 = some (.int x) := rfl
theorem at1 (x y : Int) : atI [V.int x, V.int y] 1 = some (.int y) := rfl

theorem ok_draw {f : Addr} {fd : FuncData} (F : Fun K "_law_draw" "_law_draw" sDraw f fd) (T : Nb mg) :
    FnOk P w K mg base CX0 1 f fd ["_law_rng_here", "_law_many"] spDraw := by
  refine F.ok scDraw (fun vs H Q E h => ?_) (fun cdv A outer s H vs Q E hr h => ?_)
  · obtain ⟨r, m, rfl, _⟩ := h
    rfl
  · obtain ⟨r, m, rfl, ⟨x, y, hR, hx, hy, hy2⟩, hm, hm2, q⟩ := h
    refine ⟨_, pss_cons (ps_if (pt_cmpR op_gt (pe_ix ix_list (pv 0) pe_int (fun _ _ => rfl)) pe_int (nomark _))
        (pss_cons (ps_asg (pe_callB call_divmod (by rfl) T.divmod (by decide +kernel)
            (pa_cons (pe_ix ix_list (pv 0) pe_int (fun _ _ => rfl)) (pa_cons (pv 1) pa_nil)))
          (pg_tup rfl (pgs_cons (pg_sub (pv 0) pe_int set_list) (pgs_cons (pg_name (i := 2) scDraw.nd rfl (Or.inl rfl)) pgs_nil))))
        (pss_one (ps_ret (pv 2)))) pss_nil)
      (pss_cons (ps_asg (pe_op op_mod (pe_callTy call_int1 (by rfl) T.int (by decide +kernel) (pa_cons
          (pe_op op_add (pe_op op_mul (pe_ix ix_list (pv 0) pe_int (fun _ _ => rfl)) pe_int) pe_int) pa_nil)) pe_int)
          (pg_sub (pv 0) pe_int set_list))
      (pss_one (ps_ret (pe_op op_mod (pe_op op_fdiv (pe_op op_mod (pe_callTy call_int1 (by rfl) T.int (by decide +kernel)
        (pa_cons (pe_op op_mul (pe_ix ix_list (pv 0) pe_int (fun _ _ => rfl)) (pe_ix ix_list (pv 0) pe_int (fun _ _ => rfl))) pa_nil))
        pe_int) pe_int) (pv 1))))), ?_⟩
    refine ⟨_, rfl, r, _, _, _, rfl, rfl, SqL.of hR, at0 x y, _, _, rfl, rfl, _, rfl, ?_⟩
    refine ite2 (fun hgt => ?_) fun _ => ?_
    · refine ⟨_, rfl, r, _, _, _, rfl, rfl, SqL.of hR, at0 x y, _, rfl, _, _, rfl, ⟨hm, by omega⟩, fun p hp => ?_⟩
      have npr : p ≠ r := Ne.symm (ne_of_none hR hp)
      have hR1 : upd H p (.tup [.int (x / m), .int (x % m)]) r = some (.lst [.int x, .int y]) := by
        rw [upd_ne npr.symm]
        exact hR
      refine ⟨p, _, rfl, SqT.of upd_same, rfl, ?_⟩
      refine ⟨_, _, rfl, ⟨_, rfl, r, _, _, _, rfl, rfl, hR1, rfl, ?_⟩⟩
      refine ⟨_, _, rfl, rfl, ?_⟩
      refine ⟨_, rfl, ?_⟩
      refine q _ _ (Int.emod_nonneg _ (by omega)) (Int.emod_lt_of_pos _ hm) ⟨x / m, y, upd_same, Int.ediv_nonneg hx (by omega), hy, hy2⟩ ?_
      intro b o ne e
      rw [upd_ne ne, upd_ne (ne_of_none e hp)]
      exact e
    · have c1 := Int.emod_nonneg (y * 40693 + 27017) (show (2147483563 : Int) ≠ 0 by decide)
      have c2 := Int.emod_lt_of_pos (y * 40693 + 27017) (show (0 : Int) < 2147483563 by decide)
      refine ⟨_, rfl, r, _, _, _, rfl, rfl, SqL.of hR, at1 x y, _, _, rfl, rfl, .inl ⟨by omega, by omega⟩, _, _, rfl, rfl, .inl ⟨_, rfl, ?_⟩⟩
      refine ⟨_, _, rfl, rfl, (by show (0 : Int) < 2147483563; decide), ?_⟩
      refine ⟨_, rfl, r, _, _, _, rfl, rfl, hR, rfl, ?_⟩
      refine ⟨_, rfl, r, _, _, _, rfl, rfl, SqL.of upd_same, at1 x _, _, rfl, r, _, _, _, rfl, rfl, SqL.of upd_same, at1 x _, ?_⟩
      refine ⟨_, _, rfl, rfl, .inl ⟨by omega, by omega⟩, .inl ⟨_, rfl, ?_⟩⟩
      refine ⟨_, _, rfl, rfl, (by show (0 : Int) < 2147483477; decide), _, _, rfl, rfl, ⟨by decide, by decide⟩, _, rfl, _, _, rfl, rfl, hm, ?_⟩
      refine q _ _ (Int.emod_nonneg _ (by omega)) (Int.emod_lt_of_pos _ hm) ⟨x, _, upd_same, hx, c1, by omega⟩ ?_
      intro b o ne e
      rw [upd_ne ne]
      exact e

/-! ### _law_choice -/
theorem scChoice : FnScope ["_law_rng_here", "_law_some"] ["_law_rng_here", "_law_some"] (defScope sChoice) :=
  ⟨rfl, rfl, rfl, by decide +kernel, rfl, by decide +kernel, by decide +kernel⟩
theorem ok_choice {f fD : Addr} {fd fdD : FuncData} (F : Fun K "_law_choice" "_law_choice" sChoice f fd) (T : Nb mg)
    (FD : Fun K "_law_draw" "_law_draw" sDraw fD fdD) (bD : Binds K fdD ["_law_rng_here", "_law_many"] [])
    (gD : mg "_law_draw" = some (.ref fD)) :
    FnOk P w K mg base CX0 2 f fd ["_law_rng_here", "_law_some"] spChoice := by
  have GD : FnOk P w K mg base CX0 1 fD fdD ["_law_rng_here", "_law_many"] spDraw := ok_draw FD T
  refine F.ok scChoice (fun vs H Q E h => ?_) (fun cdv A outer s H vs Q E hr h => ?_)
  · obtain ⟨r, l, xs, rfl, _⟩ := h
    rfl
  · obtain ⟨r, l, xs, rfl, hR, hne, hl, h0, h1, q⟩ := h
    refine ⟨_, pss_one (ps_ret (pe_ix ix_list (pv 1) (pe_call GD hr rfl gD FD.kp bD .nil pass0
      (pa_cons (pv 0) (pa_cons (pe_callB call_len_seq (by rfl) T.len PySem.boot_len (pa_cons (pv 1) pa_nil)) pa_nil)))
      (fun _ _ => rfl))), ?_⟩
    refine ⟨_, rfl, _, rfl, _, rfl, l, _, rfl, .inl (SqL.of hl), ?_⟩
    refine ⟨r, _, rfl, hR, by omega, by omega, fun H' d d0 d1 hR' hB => ?_⟩
    obtain ⟨j, rfl⟩ : ∃ j : Nat, d = (j : Int) := ⟨d.toNat, by omega⟩
    have hj : j < xs.length := by omega
    refine ⟨l, xs, _, xs[j], rfl, rfl, SqL.of (hB _ _ hne hl), atI_nat (List.getElem?_eq_getElem hj), ?_⟩
    exact q H' _ (List.getElem_mem hj) hR' hB
end
end K40
set_option maxHeartbeats 8000000
namespace K40
open PySem PySem.Spec PyProof.Rows L2

abbrev sIsInt : Stmt := top 10
abbrev sIsCount : Stmt := top 11
abbrev sIsName : Stmt := top 16

/-- a statement that is never come to -/
theorem ps_no {X : Cx} {st : Stmt} : PS X st (fun _ _ _ => False) := ⟨fun _ _ _ _ _ _ h => h.elim⟩

/-- the built-in names of the kinds -/
structure Nk (mg : Str → Option Value) : Prop where
  isi : mg "isinstance" = none
  int : mg "int" = none
  bool : mg "bool" = none
  str : mg "str" = none
  dict : mg "dict" = none
  len : mg "len" = none
  all : mg "all" = none

/-- one to eight letters -/
def isNm (x : Str) : Bool := decide (1 ≤ x.length) && (decide (x.length ≤ 8) && x.cps.toList.all fun c => decide (c ∈ abc.cps.toList))
def spIsName (K : PySem.W.Frag) : Sp := fun vs H Q _ => (∃ x : Str, vs = [.str x] ∧ x.length ≤ 1000000 ∧ ∀ H', Same H H' → Q (.bl (isNm x)) H') ∨
  (∃ (v : V) (t : Value), vs = [v] ∧ TyX K H v t ∧ PySem.W.kitOne K t (.type "str") = some false ∧ Q (.bl false) H)

section
variable {P : Program} {w : World} {K : PySem.W.Frag} {mg : Str → Option Value} {base : Heap}
theorem scInt : FnScope ["value"] ["value"] (defScope sIsInt) :=
  ⟨rfl, rfl, rfl, by decide +kernel, rfl, by decide +kernel, by decide +kernel⟩
theorem scCount : FnScope ["value"] ["value"] (defScope sIsCount) :=
  ⟨rfl, rfl, rfl, by decide +kernel, rfl, by decide +kernel, by decide +kernel⟩
theorem iteT' {c : Bool} {A B : Prop} (hc : c = true) (h : A) : if c = true then A else B := by
  rw [if_pos hc]
  exact h
theorem iteN' {c : Prop} [Decidable c] {A B : Prop} (hc : ¬ c) (h : B) : if decide c = true then A else B := by
  rw [decide_eq_false hc]
  exact iteF h
theorem fresh_upd {H : Hp} {p : Addr} {o : HO} (n : H p = none) : Same H (upd H p o) := fun b u e => by
  rw [upd_ne (ne_of_none e n)]
  exact e
structure Nn2 (mg : Str → Option Value) : Prop where
  lng : ∃ t, mg "LONGEST_NAME" = some (.int 8 t)
  let_ : ∃ t, mg "LETTERS" = some (.str abc t)
def NIn : List Str := ["value", "letter"]
theorem scName : FnScope NIn ["value"] (defScope sIsName) :=
  ⟨rfl, rfl, rfl, by decide +kernel, rfl, by decide +kernel, by decide +kernel⟩
theorem ok_isname {f : Addr} {fd : FuncData} (F : Fun K "is_name" "is_name" sIsName f fd) (T : Nk mg) (T2 : Nn2 mg) :
    FnOk P w K mg base CX0 1 f fd ["value"] (spIsName K) := by
  obtain ⟨tl, gl⟩ := T2.lng
  obtain ⟨ta, ga⟩ := T2.let_
  refine F.ok scName (fun vs H Q E h => ?_) (fun cdv A outer s H vs Q E hr h => ?_)
  · rcases h with ⟨x, rfl, _⟩ | ⟨v, t, rfl, _⟩
    · rfl
    · rfl
  · refine ⟨_, pss_cons (ps_if (PW.pt (pw_or (pt_not (pt_val (pe_callB call_isi (by rfl) T.isi (by decide +kernel) (pa_cons (pv 0) (pa_cons (pe_bltn (v := .ty "str") (u := .type "str") (by rfl) T.str (by decide +kernel) rfl) pa_nil)))))
        (pw_or (pt_cmpR op_lt (pe_callB call_len_str (by rfl) T.len PySem.boot_len (pa_cons (pv 0) pa_nil)) pe_int (nomark _))
          (pw_or1 (pt_cmpR op_gt (pe_callB call_len_str (by rfl) T.len PySem.boot_len (pa_cons (pv 0) pa_nil)) (pe_glob (v := .int 8) (by rfl) gl ⟨tl, rfl⟩) (nomark _))))))
        (pss_one (ps_ret pe_bl)) pss_nil)
      (pss_one (ps_ret (pe_callB (cr_all rfl) (by rfl) T.all (by decide +kernel) (pa_cons
        (pe_lc (own := [("letter", 1)]) (g := gName 1) (tt := tYes) (te := tOp rInS (tVar 1) (tC (.str abc))) rfl scName.nd (pi_str (pv 0))
          (blkOk_by (own := [("letter", 1)]) (N := NIn) (sc := defScope sIsName) (by decide +kernel)) (fun _ _ _ _ _ => pg_name (i := 1) scName.nd rfl (Or.inl rfl))
          (fun _ _ _ _ _ => pts_nil) (fun _ _ _ _ _ => by exact pe_cmpR op_inS (pv 1) (pe_glob (v := .str abc) (by rfl) ga ⟨ta, rfl⟩) rfl)) pa_nil)))), ?_⟩
    rcases h with ⟨x, rfl, hx, q⟩ | ⟨v, t, rfl, ht, hk, q⟩
    · refine ⟨_, rfl, _, _, _, _, true, rfl, .ty _, .base (.str x), kit_ty (by decide +kernel), _, rfl, ?_⟩
      refine iteF ?_
      refine ⟨_, rfl, _, rfl, by rw [sizeLine_eq]; omega, _, _, rfl, rfl, _, rfl, ?_⟩
      refine ite2 (fun h1 => ?_) fun h1 => ?_
      · have h1' := of_decide_eq_true h1
        refine iteT' rfl ?_
        have e : isNm x = false := by
          unfold isNm
          rw [decide_eq_false (by omega)]
          rfl
        rw [← e]
        exact q H (Same.refl H)
      · refine ⟨_, rfl, _, rfl, by rw [sizeLine_eq]; omega, _, _, rfl, rfl, _, rfl, ?_⟩
        have h1' : ¬ ((x.length : Nat) : Int) < 1 := fun z => h1 (decide_eq_true z)
        by_cases h2 : (8 : Int) < ((x.length : Nat) : Int)
        · have e : isNm x = false := by
            unfold isNm
            rw [decide_eq_false (show ¬ x.length ≤ 8 by omega), Bool.false_and, Bool.and_false]
          refine iteT' (decide_eq_true h2) ?_
          rw [← e]
          exact q H (Same.refl H)
        · refine iteN' h2 ?_
          refine ⟨_, rfl, x, rfl, fun D hD => ?_⟩
          refine lc_it walk_str (fun i H2 => H2 D = some (.lst (((x.cps.toList.take i).map fun c => decide (c ∈ abc.cps.toList)).map V.bl)) ∧ Same H H2)
            ⟨upd_same, fresh_upd hD⟩ (fun _ _ _ _ => trivial) ?_ ?_
          · rintro i v H2 H3 hi ⟨hD2, S2⟩ ⟨rfl, c, hc, rfl⟩
            refine ⟨rfl, ?_⟩
            unfold tYes
            dsimp only
            rw [if_pos rfl]
            refine ⟨_, rfl, c, abc, rfl, rfl, _, hD2, ?_, ?_, fun b o e => ?_⟩
            · rw [List.length_map, List.length_map, List.length_take, sizeLine_eq]
              have hl : x.length = x.cps.size := rfl
              have hm := Nat.min_le_left i x.cps.toList.length
              omega
            · have hc2 : x.cps.toList[i]? = some c := by rw [Array.getElem?_toList]; exact hc
              rw [upd_same, List.take_add_one, hc2]
              simp
            · rw [upd_ne (ne_of_none e hD)]
              exact S2 b o e
          · rintro H2 ⟨hD2, S2⟩
            refine ⟨D, _, rfl, SqL.of hD2, ?_⟩
            have e : ((x.cps.toList.take x.cps.size).map fun c => decide (c ∈ abc.cps.toList)).all id = isNm x := by
              unfold isNm
              rw [decide_eq_true (show 1 ≤ x.length by omega), decide_eq_true (show x.length ≤ 8 by omega), Bool.true_and, Bool.true_and,
                show x.cps.size = x.cps.toList.length from (Array.length_toList ..).symm, List.take_length, List.all_map]
              rfl
            rw [e]
            exact q H2 S2
    · refine ⟨_, rfl, _, _, _, _, false, rfl, .ty _, ht, hk, _, rfl, ?_⟩
      refine iteT' rfl ?_
      exact q
end
end K40
set_option maxHeartbeats 8000000
namespace K40
open PySem PySem.Spec PyProof.Rows L2

/-! ### sets of tuples, whatever is in them -/
section
variable {P : Program} {w : World} {α : Type} [DecidableEq α]
/-- what is asked of the items -/
structure Qt (κ : PySem.KeyKind P w α) : Prop where
  cl : ∀ {k : α} {v : Value}, κ.is k v = true → ∀ n, ofAClassStatement n v = pure false
  hb : ∀ {k : α} {v : Value}, κ.is k v = true → ∀ n, ∃ b, hashByValue n v = pure b
theorem qt_mix : Qt (mixKind P w) := by
  refine ⟨fun {k v} h n => ?_, fun {k v} h n => ?_⟩
  · rcases keyIs_shape (show keyIs k v = true from h) with ⟨i, t, _, e⟩ | ⟨x, t, _, e⟩ <;> (subst e; cases n <;> rfl)
  · rcases keyIs_shape (show keyIs k v = true from h) with ⟨i, t, _, e⟩ | ⟨x, t, _, e⟩
    · subst e
      exact ⟨true, by cases n <;> rfl⟩
    · subst e
      exact ⟨false, by cases n <;> rfl⟩
variable {κ : PySem.KeyKind P w α} {A : Around} {E : Value → Shared → Prop} {s : Shared}
theorem its_some {ks : List α} {vs : List Value} (h : ItemsAre κ ks vs) : ∀ v ∈ vs, ∃ k, κ.is k v = true := by
  induction h with
  | nil => exact fun v hv => absurd hv List.not_mem_nil
  | @cons k u ks vs h1 _ ih => exact fun v hv => (List.mem_cons.mp hv).elim (fun e => ⟨k, e ▸ h1⟩) (ih v)
/-- a loop that answers early or at the end -/
theorem tk_cls (q : Qt κ) {k : List α} {b : Addr} {Q : Bool → Shared → Prop} (hk : IsTupleKey κ s.heap k b) (h : Q false s) : wpAny (model P w) A (ofAClassStatement 8 (.ref b)) Q E s := by
  have ty := hk.typeIs
  obtain ⟨ob, its, m, hob, _, hdt, hits⟩ := hk
  unfold ofAClassStatement
  refine wpAny_bind (wpAny_typeOf ty ?_)
  dsimp only
  rw [show (("tuple" : String) == "tuple") = true by decide]
  simp only [if_true, Bool.not_true, Bool.false_eq_true, if_false]
  try refine wpAny_bind (wpAny_pure ?_)
  try simp only [Bool.not_true, Bool.false_eq_true, if_false]
  refine (show wpAny (model P w) A (seqItems? (.ref b) >>= _) Q E s from wpAny_bind (wpAny_seqItems hob hdt ?_))
  dsimp only
  refine wpAny_bind (show wpAny (model P w) A (forIn its _ _) _ E s from ?_)
  rw [← Array.forIn_toList]
  refine wpAny_forIn_list _ (fun l r z => (r.1 = none ∧ z = s) ∧ ∀ v ∈ l, ∃ k, κ.is k v = true) _ ?_ ?_ _ _ ⟨⟨rfl, rfl⟩, its_some hits⟩
  · intro v l r z hz
    obtain ⟨⟨_, e⟩, hl⟩ := hz
    subst e
    obtain ⟨k1, h1⟩ := hl v (List.mem_cons_self ..)
    rw [q.cl h1]
    refine wpAny_bind (wpAny_pure ?_)
    rw [if_neg Bool.false_ne_true]
    exact wpAny_pure ⟨⟨rfl, rfl⟩, fun u hu => hl u (List.mem_cons_of_mem _ hu)⟩
  · intro r z hz
    obtain ⟨r1, r2⟩ := r
    obtain ⟨⟨e1, e2⟩, _⟩ := hz
    dsimp only at e1
    subst e1 e2
    exact wpAny_pure h
theorem tk_hbv (q : Qt κ) {k : List α} {b : Addr} {Q : Bool → Shared → Prop} (hk : IsTupleKey κ s.heap k b) (h : ∀ c, Q c s) : wpAny (model P w) A (hashByValue 8 (.ref b)) Q E s := by
  have ty := hk.typeIs
  obtain ⟨ob, its, m, hob, _, hdt, hits⟩ := hk
  unfold hashByValue
  refine wpAny_bind (wpAny_specialOf ty F.slot_tuple_hash.lookup ?_)
  refine (show wpAny (model P w) A (seqItems? (.ref b) >>= _) Q E s from wpAny_bind (wpAny_seqItems hob hdt ?_))
  refine wpAny_bind (show wpAny (model P w) A (forIn its _ _) _ E s from ?_)
  rw [← Array.forIn_toList]
  refine wpAny_forIn_list _ (fun l r z => (z = s) ∧ ∀ v ∈ l, ∃ k, κ.is k v = true) _ ?_ ?_ _ _ ⟨rfl, its_some hits⟩
  · intro v l r z hz
    obtain ⟨e, hl⟩ := hz
    subst e
    obtain ⟨k1, h1⟩ := hl v (List.mem_cons_self ..)
    obtain ⟨c, hc⟩ := q.hb h1 7
    rw [hc]
    refine wpAny_bind (wpAny_pure ?_)
    cases c with
    | true =>
      simp only [Bool.not_true, Bool.false_eq_true, if_false]
      exact wpAny_pure ⟨rfl, fun u hu => hl u (List.mem_cons_of_mem _ hu)⟩
    | false =>
      simp only [Bool.not_false, if_true]
      exact wpAny_pure (wpAny_pure (h _))
  · intro r z hz
    obtain ⟨r1, r2⟩ := r
    obtain ⟨e2, _⟩ := hz
    subst e2
    dsimp only
    cases r1 with
    | none => exact wpAny_pure (h _)
    | some c => exact wpAny_pure (h _)
/-- no search among such tuples shows the table -/
theorem tk_seen (q : Qt κ) {k : List α} {b : Addr} {ys : List Value} {Q : Bool → Shared → Prop} (hk : IsTupleKey κ s.heap k b) (hy : ∀ y ∈ ys, ∃ c k', y = Value.ref c ∧ IsTupleKey κ s.heap k' c) (h : Q false s) :
    wpAny (model P w) A (searchCouldBeSeen (.ref b) ys) Q E s := by
  unfold searchCouldBeSeen
  refine wpAny_bind (wpAny_forIn_list _ (fun l r z => (r.1 = none ∧ z = s) ∧ ∀ y ∈ l, ∃ c k', y = Value.ref c ∧ IsTupleKey κ s.heap k' c) _ ?_ ?_ _ _ ⟨⟨rfl, rfl⟩, hy⟩)
  · intro v l r z hz
    obtain ⟨⟨_, e⟩, hl⟩ := hz
    subst e
    obtain ⟨c, k', e, hc⟩ := hl v (List.mem_cons_self ..)
    subst e
    have left : ∀ y ∈ l, ∃ c k', y = Value.ref c ∧ IsTupleKey κ z.heap k' c := fun u hu => hl u (List.mem_cons_of_mem _ hu)
    dsimp only
    rcases bq : (b == c || (carriedByValue (.ref b) && carriedByValue (.ref c))) with _ | _
    · rw [if_neg Bool.false_ne_true]
      refine wpAny_bind (wpAny_eqIsQuiet_tuple hk ?_)
      rw [if_neg (by decide)]
      refine wpAny_bind (wpAny_eqIsQuiet_tuple hc ?_)
      rw [if_neg (by decide)]
      refine wpAny_bind (tk_cls q hk ?_)
      rw [if_neg (by decide)]
      refine wpAny_bind (tk_cls q hc ?_)
      rw [if_neg (by decide)]
      exact wpAny_pure ⟨⟨rfl, rfl⟩, left⟩
    · rw [if_pos rfl]
      exact wpAny_pure ⟨⟨rfl, rfl⟩, left⟩
  · intro r z hz
    obtain ⟨r1, r2⟩ := r
    obtain ⟨⟨e1, e2⟩, _⟩ := hz
    dsimp only at e1
    subst e1 e2
    exact wpAny_pure h

/-! ### what such a set is -/
abbrev tH (κ : PySem.KeyKind P w α) (k : List α) : Int := tupleKeyHash κ k
def tRow (κ : PySem.KeyKind P w α) (p : Addr × List α) : Int × Value := (tH κ p.2, Value.ref p.1)
structure TSet (κ : PySem.KeyKind P w α) (h : Heap) (a : Addr) (L : List (Addr × List α)) (es : Array (Int × Value)) (t : SetTable) : Prop where
  obj : ∃ o ep, h.get? a = some o ∧ o.ExactSet ∧ o.data = .set es ep t
  row : es.toList = L.map (tRow κ)
  tab : TabOk t (L.map fun p => tH κ p.2)
  nd : (L.map (·.2)).Nodup
  tup : ∀ p ∈ L, IsTupleKey κ h p.2 p.1
  led : w.params.followText "set-order" = true ∨ t.led = true
  room : L.length * 5 < t.mask * 3
  few : L.length < 64
variable {a : Addr} {L : List (Addr × List α)} {es : Array (Int × Value)} {t : SetTable}
theorem row_sz (h : es.toList = L.map (tRow κ)) : es.size = L.length := by
  rw [← Array.length_toList, h, List.length_map]
theorem row_at {i : Nat} {p : Addr × List α} (h : es.toList = L.map (tRow κ)) (hp : L[i]? = some p) : es[i]? = some (tRow κ p) := by
  rw [← Array.getElem?_toList, h, List.getElem?_map, hp]
  rfl
theorem fits_of (h1 : t.place.size = es.size) (h2 : t.dummies = #[]) (h3 : es.size ≤ t.mask) : t.fits es.size = true := by
  unfold SetTable.fits SetTable.fill
  rw [h2]
  simp only [Bool.and_eq_true, beq_iff_eq, decide_eq_true_eq]
  exact ⟨h1, by rw [h1]; exact h3⟩
theorem TSet.psz (R : TSet κ s.heap a L es t) : t.place.size = L.length := by
  rw [R.tab.sz, List.length_map]
theorem TSet.fits (R : TSet κ s.heap a L es t) : t.fits es.size = true := by
  have h1 := row_sz R.row
  have h2 := R.room
  exact fits_of (by rw [R.psz, h1]) R.tab.dm (by omega)
theorem TSet.way_ok (R : TSet κ s.heap a L es t) : ¬ t.gaveWay = true := by
  unfold SetTable.gaveWay
  rw [mask_odd R.tab.mok]
  decide
end
end K40
set_option maxHeartbeats 8000000
namespace K40
open PySem PySem.Spec PyProof.Rows L2

/-! ### looking for a tuple -/
abbrev stp (t : SetTable) (h : Int) (c : Nat) : SetTable.Probe := nth t.mask (runAt t.mask (SetTable.bits h % (t.mask + 1)) (SetTable.bits h)) c
theorem stp_dm (t : SetTable) (h : Int) (c : Nat) : (stp t h c).dummy = none := by
  have g : ∀ (n : Nat) (p : SetTable.Probe), p.dummy = none → (nth t.mask p n).dummy = none := fun n => by
    induction n with
    | zero => exact fun p e => e
    | succ n ih => exact fun p e => ih _ (by unfold adv; split <;> exact e)
  exact g c _ rfl
section
variable {P : Program} {w : World} {α : Type} [DecidableEq α] {κ : PySem.KeyKind P w α} {A : Around} {E : Value → Shared → Prop} {s : Shared}
variable {a : Addr} {L : List (Addr × List α)} {es : Array (Int × Value)} {t : SetTable}
theorem ts_search (q : Qt κ) (R : TSet κ s.heap a L es t) {x : Addr} {k : List α} (hx : IsTupleKey κ s.heap k x) (hu : A.units < cLine) {N : Nat} (hN : N < 10 * SetTable.turns t.mask)
    (out : way t.mask (tH κ k) N ∉ t.place.toList) (inn : ∀ c, c < N → way t.mask (tH κ k) c ∈ t.place.toList) {Q : SetFound → Shared → Prop}
    (yes : k ∈ L.map (·.2) → Q (.there none) s) (no : k ∉ L.map (·.2) → Q (.free (way t.mask (tH κ k) N) false) s) :
    ∀ (f c : Nat) (from_ : Option SetTable.Probe), N - c < f → c ≤ N → from_.getD (t.probeStart (tH κ k)) = stp t (tH κ k) c →
      (∀ (i : Nat) (p : Addr × List α), L[i]? = some p → p.2 = k → ∃ d, c ≤ d ∧ d < N ∧ t.place.toList[i]? = some (way t.mask (tH κ k) d)) →
      wpAny (model P w) A (setSearchFrom a (.ref x) (tH κ k) true f from_) Q E s := by
  intro f
  induction f with
  | zero => exact fun c z h => absurd h (Nat.not_lt_zero _)
  | succ f ih =>
    intro c from_ hf hc hs hl
    obtain ⟨o, ep, ho, hex, hd⟩ := R.obj
    have rt : ∀ {i : Nat} {p : Addr × List α}, L[i]? = some p → es[i]? = some (tRow κ p) := fun hp => row_at R.row hp
    have jj : ∀ n, (nth t.mask (stp t (tH κ k) c) n).j = way t.mask (tH κ k) (c + n) := fun n => congrArg SetTable.Probe.j (nth_add t.mask c _ n).symm
    have hat : ∀ {i : Nat} {p : Addr × List α}, L[i]? = some p → (fun i => (es[i]?.map (·.1)).getD 0) i = tH κ p.2 := fun {i p} hp => by
      show (es[i]?.map (·.1)).getD 0 = _
      rw [rt hp]
      rfl
    have eN : c + (N - c) = N := by omega
    have met := go_spec t R.tab.ris R.tab.dm (fun i => (es[i]?.map (·.1)).getD 0) (tH κ k) (10 * SetTable.turns t.mask) (N - c) (stp t (tH κ k) c) (stp_dm t _ c) (by omega)
      (fun n hn => by rw [jj]; exact inn _ (by omega)) (by rw [jj, eN]; exact out)
    rw [setSearchFrom_succ]
    refine wpAny_bind (wpAny_setState_of ho hd R.fits ?_)
    dsimp only
    refine wp_if_neg R.way_ok ?_
    try refine wpAny_bind (wpAny_pure ?_)
    rcases met with ⟨n, i, hn, hi, hh, hno, hpr⟩ | ⟨hno, hpr⟩
    · have e0 : t.probe (fun i => (es[i]?.map (·.1)).getD 0) (tH κ k) (from_.getD (t.probeStart (tH κ k))) = some (.candidate (way t.mask (tH κ k) (c + n)) i (stp t (tH κ k) (c + (n + 1)))) := by
        rw [hs, ← jj n]
        exact hpr.trans (by rw [show nth t.mask (stp t (tH κ k) c) (n + 1) = stp t (tH κ k) (c + (n + 1)) from (nth_add t.mask c _ (n + 1)).symm])
      rw [e0]
      dsimp only
      rw [jj] at hi
      have hil : i < L.length := by
        have z := (List.getElem?_eq_some_iff.mp hi).1
        rw [Array.length_toList, R.psz] at z
        exact z
      obtain ⟨p, hp⟩ : ∃ p, L[i]? = some p := ⟨_, List.getElem?_eq_getElem hil⟩
      have pin := List.mem_of_getElem? hp
      have go : wpAny (model P w) A (searchRest a (.ref x) (tH κ k) true f es t (way t.mask (tH κ k) (c + n)) i (stp t (tH κ k) (c + (n + 1)))) Q E s := by
        unfold searchRest
        rw [rt hp]
        unfold tRow
        dsimp only
        refine wpAny_bind (wpAny_holding (wpAny_eqBool_tuple hu (R.tup p pin) hx ?_))
        refine wpAny_bind (wpAny_setState_of ho hd R.fits ?_)
        dsimp only
        rcases Classical.em (p.2 = k) with pk | pk
        · exact wp_if_pos (by simp [pk]) (wpAny_pure (yes (List.mem_map.mpr ⟨p, pin, pk⟩)))
        · refine wp_if_neg (by simp [pk]) ?_
          try refine wpAny_bind (wpAny_pure ?_)
          have live := slot_live R.tab.ris hi
          have rtp := rt hp
          unfold tRow at rtp
          rw [sameMem]
          dsimp only
          simp only [if_true, live, rtp]
          refine wpAny_bind (wpAny_isSame_ref_self (wpAny_bind (wpAny_pure ?_)))
          simp only [if_true]
          refine wp_if_neg (by simp [pk]) ?_
          refine ih (c + (n + 1)) _ (by omega) (by omega) rfl fun i0 p0 h0 k0 => ?_
          obtain ⟨d, d1, d2, d3⟩ := hl i0 p0 h0 k0
          have past : c + n < d := by
            rcases Nat.lt_trichotomy d (c + n) with z | z | z
            · refine absurd ((hat h0).trans (congrArg (tH κ) k0)) (hno (d - c) i0 (by omega) ?_)
              rw [jj, show c + (d - c) = d by omega]
              exact d3
            · rw [z] at d3
              have l0 := slot_live R.tab.ris d3
              rw [live] at l0
              injection l0 with l0
              rw [← l0, hp] at h0
              cases h0
              exact absurd k0 pk
            · exact z
          exact ⟨d, by omega, d2, d3⟩
      rcases bl : t.led with _ | _
      · refine wp_if_pos (by simp [bl]) (wpAny_bind (tk_seen q hx (fun y hy => ?_) ?_))
        · obtain ⟨e, he, rfl⟩ := List.mem_map.mp hy
          have h1 : e ∈ es.toList := by
            have z : e ∈ es ∧ e.1 = tH κ k := by simpa using he
            simpa using z.1
          rw [R.row] at h1
          obtain ⟨p2, hp2, rfl⟩ := List.mem_map.mp h1
          exact ⟨p2.1, p2.2, rfl, R.tup p2 hp2⟩
        · refine wp_if_neg Bool.false_ne_true ?_
          try refine wpAny_bind (wpAny_pure ?_)
          exact go
      · refine wp_if_neg (by simp [bl]) ?_
        try refine wpAny_bind (wpAny_pure ?_)
        exact go
    · have e0 : t.probe (fun i => (es[i]?.map (·.1)).getD 0) (tH κ k) (from_.getD (t.probeStart (tH κ k))) = some (.empty (way t.mask (tH κ k) N) none) := by
        rw [hs]
        refine Eq.trans hpr ?_
        rw [jj, eN]
      rw [e0]
      dsimp only
      refine wpAny_pure (no fun hm => ?_)
      obtain ⟨p0, m0, k0⟩ := List.mem_map.mp hm
      obtain ⟨i0, hi0, e2⟩ := List.getElem_of_mem m0
      have h0 : L[i0]? = some p0 := by rw [List.getElem?_eq_getElem hi0, e2]
      obtain ⟨d, d1, d2, d3⟩ := hl i0 p0 h0 k0
      refine hno (d - c) i0 (by omega) ?_ ((hat h0).trans (congrArg (tH κ) k0))
      rw [jj, show c + (d - c) = d by omega]
      exact d3
/-- as adding asks -/
theorem ts_find (q : Qt κ) (R : TSet κ s.heap a L es t) {x : Addr} {k : List α} (hx : IsTupleKey κ s.heap k x) (hu : A.units < cLine) {Q : SetFound → Shared → Prop} (yes : k ∈ L.map (·.2) → Q (.there none) s)
    (no : ∀ N, k ∉ L.map (·.2) → way t.mask (tH κ k) N ∉ t.place.toList → (∀ c, c < N → way t.mask (tH κ k) c ∈ t.place.toList) → Q (.free (way t.mask (tH κ k) N) false) s) :
    wpAny (model P w) A (setSearch a (.ref x) (tH κ k) true) Q E s := by
  have rm := R.room
  obtain ⟨N, n1, n2, n3⟩ := R.tab.first (by rw [List.length_map]; omega) (tH κ k)
  have nb : N < 100000 := by
    have z : 10 * SetTable.turns t.mask ≤ 2000 := by
      unfold SetTable.turns
      rcases R.tab.mok with e | e | e <;> omega
    omega
  unfold setSearch
  refine ts_search q R hx hu n1 n2 n3 yes (fun h => no N h n2 n3) _ 0 none (by omega) (Nat.zero_le _) rfl fun i p hp hk => ?_
  have hi : (L.map fun p => tH κ p.2)[i]? = some (tH κ k) := by
    rw [List.getElem?_map, hp, ← hk]
    rfl
  have il : i < t.place.toList.length := by
    have z := (List.getElem?_eq_some_iff.mp hp).1
    rw [Array.length_toList, R.psz]
    exact z
  obtain ⟨c, c1, c2⟩ := R.tab.before n2 hi (List.getElem?_eq_getElem il)
  exact ⟨c, Nat.zero_le _, c1, by rw [List.getElem?_eq_getElem il, c2]⟩
end
end K40
set_option maxHeartbeats 8000000
namespace K40
open PySem PySem.Spec PyProof.Rows L2

/-! ### rows in another order -/
theorem all_there {β : Type} : ∀ L : List β, (List.range L.length).filterMap (fun i => L[i]?) = L
  | [] => rfl
  | x :: r => by
    rw [List.length_cons, List.range_succ_eq_map, List.filterMap_cons, List.filterMap_map]
    show x :: (List.range r.length).filterMap (fun i => r[i]?) = x :: r
    rw [all_there r]
theorem pick_rows {β : Type} {L : List β} {f : β → Int × Value} {es : Array (Int × Value)} {order : Array Nat} (he : es.toList = L.map f) (hp : order.toList.Perm (List.range L.length)) :
    ∃ L2 : List β, L2.Perm L ∧ (order.filterMap fun i => es[i]?).toList = L2.map f ∧ (L2.map fun p => (f p).1) = order.toList.map fun i => (es.map (·.1)).getD i 0 := by
  have at_ : ∀ i, es[i]? = (L[i]?).map f := fun i => by rw [← Array.getElem?_toList, he, List.getElem?_map]
  have hin : ∀ i ∈ order.toList, i < L.length := fun i hi => List.mem_range.mp (hp.mem_iff.mp hi)
  refine ⟨order.toList.filterMap fun i => L[i]?, ?_, ?_, ?_⟩
  · have z := hp.filterMap fun i => L[i]?
    rw [all_there] at z
    exact z
  · rw [Array.toList_filterMap, List.map_filterMap]
    exact congrArg (fun g => List.filterMap g order.toList) (funext at_)
  · generalize order.toList = l at hin
    induction l with
    | nil => rfl
    | cons i l ih =>
      have hi := hin i (List.mem_cons_self ..)
      have e1 : (es.map (·.1)).getD i 0 = (f L[i]).1 := by
        have z : (es.map (·.1))[i]? = some (f L[i]).1 := by
          rw [Array.getElem?_map, at_, List.getElem?_eq_getElem hi]
          rfl
        rw [Array.getD_eq_getD_getElem?, z]
        rfl
      rw [List.filterMap_cons, List.getElem?_eq_getElem hi, List.map_cons, List.map_cons, e1, ih fun j hj => hin j (List.mem_cons_of_mem _ hj)]

section
variable {P : Program} {w : World} {α : Type} [DecidableEq α] {κ : PySem.KeyKind P w α} {A : Around} {E : Value → Shared → Prop} {s : Shared}
variable {a : Addr} {L : List (Addr × List α)} {es : Array (Int × Value)} {t : SetTable}
theorem tk_off {h h' : Heap} {k : List α} {b : Addr} {o : Obj} {ep : Nat} (hb : IsTupleKey κ h k b) (ho : h.get? a = some o) (hd : o.data = .set es ep t) (hs : Heap.SameBut a h h') : IsTupleKey κ h' k b := by
  obtain ⟨ob, its, m, hob, r⟩ := hb
  refine ⟨ob, its, m, (hs.2 b fun e => ?_).trans hob, r⟩
  subst e
  rw [ho] at hob
  cases hob
  have z := r.2.1
  rw [hd] at z
  cases z
/-! ### laid anew -/
theorem ts_relay {o : Obj} {ep : Nat} (ho : s.heap.get? a = some o) (hex : o.ExactSet) (hd : o.data = .set es ep t) (hr : es.toList = L.map (tRow κ)) (psz : t.place.size = es.size) (dm : t.dummies = #[]) (le : es.size ≤ t.mask)
    (nd : (L.map (·.2)).Nodup) (tup : ∀ p ∈ L, IsTupleKey κ s.heap p.2 p.1) (led : w.params.followText "set-order" = true ∨ t.led = true) (few : L.length < 64) {wanted M : Nat}
    (hM : MaskOk M) (hw : SetTable.sizeAbove wanted = M + 1) (rm : L.length * 5 < M * 3) {Q : Unit → Shared → Prop}
    (k : ∀ h' L' es' t', Heap.SameBut a s.heap h' → L'.Perm L → TSet κ h' a L' es' t' → Q () { s with heap := h' }) : wpAny (model P w) A (setRelay a wanted) Q E s := by
  have sz := row_sz hr
  have mb : M ≤ 127 := by rcases hM with e | e | e <;> omega
  obtain ⟨t2, order, e1, e2, e3, e4, e5, _, _⟩ := relaid_ok t (hs := es.map (·.1)) (wanted := wanted) (M := M) (by omega) hM (by rw [Array.size_map, sz]; omega)
  rw [Array.size_map, sz] at e2
  obtain ⟨L2, p1, p2, p3⟩ := pick_rows hr e2
  rw [← p3] at e3
  have sz2 : (order.filterMap fun i => es[i]?).size = es.size := by rw [row_sz p2, p1.length_eq, sz]
  have sb : Heap.SameBut a s.heap (s.heap.update a (Obj.putSet (order.filterMap fun i => es[i]?) t2)) := Heap.SameBut.update ..
  rw [setRelay_eq]
  refine wpAny_bind (wpAny_setState_of ho hd (fits_of psz dm le) ?_)
  dsimp only
  refine wp_if_neg (by rw [sizeLine_eq, hw]; omega) ?_
  try refine wpAny_bind (wpAny_pure ?_)
  rw [e1]
  dsimp only
  refine wpAny_bind (wp_if_neg (by simp [sz2]) ?_)
  try refine wpAny_bind (wpAny_pure ?_)
  refine wpAny_pure ?_
  dsimp only
  refine wpAny_storeSet_of ho hd (k _ L2 _ t2 sb p1 ⟨⟨_, _, store_at ho hd, hex, rfl⟩, p2, e3, (p1.map (·.2)).nodup_iff.mpr nd, fun p hp => tk_off (tup p (p1.mem_iff.mp hp)) ho hd sb, by rw [e5]; exact led, ?_, ?_⟩) (by rw [sz2, sz, sizeLine_eq]; omega)
  · rw [p1.length_eq, e4]
    exact rm
  · rw [p1.length_eq]
    exact few
end
end K40
set_option maxHeartbeats 8000000
namespace K40
open PySem PySem.Spec PyProof.Rows L2

/-! ### one more -/
section
variable {P : Program} {w : World} {α : Type} [DecidableEq α] {κ : PySem.KeyKind P w α} {A : Around} {E : Value → Shared → Prop} {s : Shared}
variable {a : Addr} {L : List (Addr × List α)} {es : Array (Int × Value)} {t : SetTable}
theorem perm_in {β : Type} (l : List β) (n : Nat) (x : β) : (l.take n ++ x :: l.drop n).Perm (x :: l) := by
  have z : (l.take n ++ x :: l.drop n).Perm (x :: (l.take n ++ l.drop n)) := List.perm_middle
  rw [List.take_append_drop] at z
  exact z
theorem full_at {t : SetTable} {n : Nat} (hf : t.fill = n) : t.tooFull = true ↔ n * 5 ≥ t.mask * 3 := by
  unfold SetTable.tooFull
  rw [decide_eq_true_eq, hf]
theorem ts_put (q : Qt κ) (R : TSet κ s.heap a L es t) {x : Addr} {k : List α} (hx : IsTupleKey κ s.heap k x) (hf : L.length + 1 < 64) (hm : k ∉ L.map (·.2)) {N : Nat} (out : way t.mask (tH κ k) N ∉ t.place.toList)
    (inn : ∀ c, c < N → way t.mask (tH κ k) c ∈ t.place.toList) {b : Bool} {t1 : SetTable} (h1 : t1 = (if b = true then (t.put (way t.mask (tH κ k) N)).1 else { (t.put (way t.mask (tH κ k) N)).1 with plain := false }))
    {Q : Bool → Shared → Prop} (k' : ∀ h' L' es' t', Heap.SameBut a s.heap h' → TSet κ h' a L' es' t' → L'.Perm ((x, k) :: L) → Q true { s with heap := h' }) :
    wpAny (model P w) A (do
      storeSet a (SetTable.insertAt es (t.put (way t.mask (tH κ k) N)).2 (tH κ k, Value.ref x)) t1
      if (!false && t1.tooFull) = true then do
          setRelay a (SetTable.grown (es.size + 1))
          pure true
        else pure true) Q E s := by
  obtain ⟨o, ep, ho, hex, hd⟩ := R.obj
  have sz := row_sz R.row
  have rm := R.room
  obtain ⟨q1, q2, q3, q4, q5, q6, q7, q8, q9⟩ := R.tab.put out inn
  have f1 : t1.place = (t.put (way t.mask (tH κ k) N)).1.place ∧ t1.dummies = (t.put (way t.mask (tH κ k) N)).1.dummies ∧ t1.mask = t.mask ∧ t1.led = t.led := by
    cases b with
    | true =>
      rw [if_pos rfl] at h1
      rw [h1]
      exact ⟨rfl, rfl, q4, q5⟩
    | false =>
      rw [if_neg Bool.false_ne_true] at h1
      rw [h1]
      exact ⟨rfl, rfl, q4, q5⟩
  obtain ⟨f1, f2, f3, f4⟩ := f1
  rw [q1]
  generalize SetTable.below t.place (way t.mask (tH κ k) N) = n at q2 q3
  have pm := perm_in L n (x, k)
  have pl := pm.length_eq
  have hes : (SetTable.insertAt es n (tH κ k, Value.ref x)).toList = (L.take n ++ (x, k) :: L.drop n).map (tRow κ) := by
    rw [SetTable.toList_insertAt, R.row, List.map_append, List.map_cons, List.map_take, List.map_drop]
    rfl
  have hhs : (L.take n ++ (x, k) :: L.drop n).map (fun p => tH κ p.2) = (L.map fun p => tH κ p.2).take n ++ tH κ k :: (L.map fun p => tH κ p.2).drop n := by rw [List.map_append, List.map_cons, List.map_take, List.map_drop]
  rw [← hhs] at q3
  have T1 : TabOk t1 ((L.take n ++ (x, k) :: L.drop n).map fun p => tH κ p.2) := by
    refine ⟨by rw [f1]; exact q3.ris, by rw [f2]; exact q3.dm, by rw [f1]; exact q3.sz, ?_, ?_, ?_⟩
    · have z := q3.mok
      rw [q4] at z
      rw [f3]
      exact z
    · have z := q3.bd
      rw [q4] at z
      rw [f1, f3]
      exact z
    · have z := q3.reach
      rw [q4] at z
      rw [f1, f3]
      exact z
  generalize SetTable.insertAt es n (tH κ k, Value.ref x) = es1 at hes
  generalize L.take n ++ (x, k) :: L.drop n = L1 at pm pl hes T1
  have sz1 := row_sz hes
  have nd1 : (L1.map (·.2)).Nodup := (pm.map (·.2)).nodup_iff.mpr (by rw [List.map_cons]; exact List.nodup_cons.mpr ⟨hm, R.nd⟩)
  refine wpAny_bind (wpAny_storeSet_of ho hd ?_ (by rw [sz1, pl, sizeLine_eq, List.length_cons]; omega))
  have sb : Heap.SameBut a s.heap (s.heap.update a (Obj.putSet es1 t1)) := Heap.SameBut.update ..
  have ho1 := store_at (es' := es1) (t' := t1) ho hd
  generalize s.heap.update a (Obj.putSet es1 t1) = g1 at sb ho1 ⊢
  have tup1 : ∀ p ∈ L1, IsTupleKey κ g1 p.2 p.1 := fun p hp => (List.mem_cons.mp (pm.mem_iff.mp hp)).elim (fun e => by rw [e]; exact tk_off hx ho hd sb) fun m => tk_off (R.tup p m) ho hd sb
  have psz1 : t1.place.size = L1.length := by rw [T1.sz, List.length_map]
  have fl : t1.fill = L1.length := by
    unfold SetTable.fill
    rw [psz1, T1.dm]
    rfl
  have lc : L1.length = L.length + 1 := by rw [pl, List.length_cons]
  rcases bf : t1.tooFull with _ | _
  · have nf : ¬ (L1.length * 5 ≥ t1.mask * 3) := fun z => by
      rw [(full_at fl).mpr z] at bf
      cases bf
    refine wp_if_neg (by simp [bf]) (wpAny_pure (k' g1 L1 es1 t1 sb ⟨⟨_, _, ho1, hex, rfl⟩, hes, T1, nd1, tup1, by rw [f4]; exact R.led, by omega, by omega⟩ pm))
  · have nf := (full_at fl).mp bf
    rw [f3] at nf
    have two : (t.mask = 7 ∧ L.length = 4) ∨ (t.mask = 31 ∧ L.length = 18) := by
      rcases R.tab.mok with e | e | e
      · rw [e] at nf rm
        exact .inl ⟨e, by omega⟩
      · rw [e] at nf rm
        exact .inr ⟨e, by omega⟩
      · rw [e] at nf
        omega
    refine wp_if_pos (by simp [bf]) (wpAny_bind ?_)
    have go : ∀ M, MaskOk M → SetTable.sizeAbove (SetTable.grown (es.size + 1)) = M + 1 → L1.length * 5 < M * 3 → wpAny (model P w) A (setRelay a (SetTable.grown (es.size + 1))) (fun _ s' => wpAny (model P w) A (pure true) Q E s') E { s with heap := g1 } := fun M m1 m2 m3 =>
      ts_relay (s := { s with heap := g1 }) ho1 hex rfl hes (by rw [psz1, sz1]) T1.dm (by rw [sz1, lc, f3]; rcases two with ⟨e, e2⟩ | ⟨e, e2⟩ <;> omega) nd1 tup1 (by rw [f4]; exact R.led) (by omega) m1 m2 m3
        fun h' L' es' t' sb' pm' R' => wpAny_pure (k' h' L' es' t' (sb.trans sb') R' (pm'.trans pm))
    rcases two with ⟨_, e2⟩ | ⟨_, e2⟩
    · exact go 31 (.inr (.inl rfl)) (by rw [sz, e2]; exact size_20) (by omega)
    · exact go 127 (.inr (.inr rfl)) (by rw [sz, e2]; exact size_76) (by omega)
theorem ts_add (q : Qt κ) (R : TSet κ s.heap a L es t) {x : Addr} {k : List α} (hx : IsTupleKey κ s.heap k x) (hu : A.units < cLine) (hf : k ∉ L.map (·.2) → L.length + 1 < 64) {Q : Bool → Shared → Prop}
    (k' : ∀ b h' L' es' t', Heap.SameBut a s.heap h' → TSet κ h' a L' es' t' → (k ∈ L.map (·.2) ∧ L' = L ∨ k ∉ L.map (·.2) ∧ L'.Perm ((x, k) :: L)) → Q b { s with heap := h' }) :
    wpAny (model P w) A (setAddHashed a (.ref x) (tH κ k)) Q E s := by
  obtain ⟨o, ep, ho, hex, hd⟩ := id R.obj
  unfold setAddHashed
  refine wpAny_holding ?_
  rw [show (100000 : Nat) = 99999 + 1 from rfl, setAddHashedIn_succ]
  refine wpAny_bind (wpAny_setState_of ho hd R.fits ?_)
  dsimp only
  refine wp_if_neg (by simp [byScan, Value.scannable]) ?_
  try refine wpAny_bind (wpAny_pure ?_)
  refine wpAny_bind (ts_find q R hx hu (fun hm => ?_) fun N hm out inn => ?_)
  · exact wpAny_pure (k' false s.heap L es t (Heap.SameBut.refl a s.heap) R (.inl ⟨hm, rfl⟩))
  · dsimp only
    refine wpAny_bind (wpAny_setState_of ho hd R.fits ?_)
    dsimp only
    have last : ∀ b : Bool, wpAny (model P w) A (do
        storeSet a (SetTable.insertAt es (t.put (way t.mask (tH κ k) N)).2 (tH κ k, Value.ref x)) (if b = true then (t.put (way t.mask (tH κ k) N)).1 else { (t.put (way t.mask (tH κ k) N)).1 with plain := false })
        if (!false && (if b = true then (t.put (way t.mask (tH κ k) N)).1 else { (t.put (way t.mask (tH κ k) N)).1 with plain := false }).tooFull) = true then do
            setRelay a (SetTable.grown (es.size + 1))
            pure true
          else pure true) Q E s := fun b =>
      ts_put q R hx (hf hm) hm out inn rfl fun h' L' es' t' sb R' pm => k' true h' L' es' t' sb R' (.inr ⟨hm, pm⟩)
    rcases bp : (t.put (way t.mask (tH κ k) N)).1.plain with _ | _
    · exact wp_if_neg Bool.false_ne_true (wpAny_bind (wpAny_pure (last true)))
    · exact wp_if_pos rfl (wpAny_bind (tk_hbv q hx last))
end
end K40
set_option maxHeartbeats 8000000
namespace K40
open PySem PySem.SeqAt
open PySem.AutoSeq1 (wpAny_loadPart')
open PySem.MeetsSeq PySem.MeetsSeq2 PySem.MeetsSeq3

/-! ### t < u of tuples whose items need only be comparable as far as the first place that differs -/
inductive Lx (A : Around) (s : Shared) (fin : Bool) : List (Value × Value) → Bool → Prop
  | nil : Lx A s fin [] fin
  | eq {y x : Value} {r : List (Value × Value)} {b : Bool} : EqAt A s y x true → Lx A s fin r b → Lx A s fin ((y, x) :: r) b
  | ne {y x : Value} {r : List (Value × Value)} {b : Bool} : EqAt A s y x false → RcLt A s y x b → Lx A s fin ((y, x) :: r) b

theorem ltL_at (l b : Addr) (xs ys : Array Value) (n n2 : Nat) (dd dd2 : Option Addr) (sl sl2 : Array (Option Value)) (k : Bool) :
    Meets (Builtin.«tuple.__lt__» ⟨[.ref l, .ref b], []⟩)
      (fun A R s => s.heap.get? l = some { cls := .type "tuple", dict := dd, data := .seq xs n, slots := sl } ∧ s.heap.get? b = some { cls := .type "tuple", dict := dd2, data := .seq ys n2, slots := sl2 } ∧
        Lx A.in1 s (decide (xs.size < ys.size)) (xs.toList.zip ys.toList) k ∧ R (.ok (.ret (.bool k))) s) :=
  .of_wp fun prog w A R s h => by
    obtain ⟨hp, g, d, tk, os⟩ := s; obtain ⟨hl, hb, L, h⟩ := h
    have f2 := AutoSeq1.sub_tuple_tuple
    wp_walk using wpAny_loadPart' hl, wpAny_loadPart' hb, wpAny_forIn_list _ (fun rest b s' => b.1 = none ∧ s' = ⟨hp, g, d, tk, os⟩ ∧ Lx A.in1 ⟨hp, g, d, tk, os⟩ (decide (xs.size < ys.size)) rest k) _
    case turn =>
      rintro ⟨y, x⟩ rest b s' ⟨hb', rfl, M⟩
      cases M with
      | eq he hr =>
        refine wpAny_bind (he prog w _ _ ?_)
        wp_walk
        exact ⟨rfl, rfl, hr⟩
      | ne he hr =>
        refine wpAny_bind (he prog w _ _ ?_)
        have hri := hr prog w
        wp_walk using hri
        exact ⟨_, rfl, by simpa using h⟩
    case fin =>
      rintro ⟨b1, b2⟩ s' ⟨hb', rfl, M⟩
      simp only at hb'
      subst hb'
      cases M
      wp_walk
      exact ⟨_, rfl, by simpa [Builtin.Tuple.tupleCompareSizes] using h⟩
    case h =>
      exact ⟨rfl, rfl, L⟩
theorem rcLt_tup {A : Around} {s : Shared} {l b : Addr} {xs ys : Array Value} {k : Bool} (hl : s.heap.IsTuple l xs) (hb : s.heap.IsTuple b ys) (hu : A.units < cLine) (L : Lx A.in1 s (decide (xs.size < ys.size)) (xs.toList.zip ys.toList) k) :
    RcLt A s (.ref l) (.ref b) k := fun prog w E Q h => by
  obtain ⟨⟨cls, dd, data, sl⟩, ho, hc, n, hd⟩ := id hl
  obtain ⟨⟨cls2, dd2, data2, sl2⟩, ho2, hc2, n2, hd2⟩ := id hb
  simp only at hc hd hc2 hd2
  subst hc hd hc2 hd2
  exact richCompare_meets_room (op := .Lt) ⟨_, ho, rfl⟩ ⟨_, ho2, rfl⟩ F.slot_tuple_lt F.entry_tuple_lt (F.args_tuple_lt_2 _ _) (ltL_at l b xs ys n n2 dd dd2 sl sl2 k)
    ⟨ho, ho2, L, show Value.bool k ≠ Value.notImplemented ∧ Q (.bool k) s from ⟨(fun x => nomatch x), h⟩⟩ hu
end K40
set_option maxHeartbeats 8000000
namespace K40
open PySem PySem.Spec PyProof.Rows L2
open PySem.SeqAt (EqAt RcLt eqAt_reads)
open PySem.W (keyToks keyToksAll lex_atom lex_pre toks_all_cons dataLt dataLt_int dataLt_str dataLt_tuple KatLex)

/-! ### data that can be compared as far as the first place that differs -/
mutual
def lik : PyData → PyData → Bool
  | .int _, .int _ => true
  | .str _, .str _ => true
  | .tuple xs, .tuple ys => liks xs ys
  | _, _ => false
def liks : List PyData → List PyData → Bool
  | x :: xs, y :: ys => lik x y && (!PyData.eqv x y || liks xs ys)
  | [], _ => true
  | _ :: _, [] => true
end
theorem liks_cons {x y : PyData} {xs ys : List PyData} (h : liks (x :: xs) (y :: ys) = true) : lik x y = true ∧ (PyData.eqv x y = true → liks xs ys = true) := by
  rw [liks, Bool.and_eq_true, Bool.or_eq_true] at h
  refine ⟨h.1, fun e => h.2.elim (fun z => ?_) id⟩
  rw [e] at z
  exact nomatch z
theorem liks_mk {x y : PyData} {xs ys : List PyData} (h : lik x y = true) (t : PyData.eqv x y = true → liks xs ys = true) : liks (x :: xs) (y :: ys) = true := by
  rw [liks, Bool.and_eq_true, Bool.or_eq_true]
  refine ⟨h, ?_⟩
  cases e : PyData.eqv x y with
  | true => exact .inr (t e)
  | false => exact .inl rfl
theorem eqvs_cons (x y : PyData) (xs ys : List PyData) : PyData.eqvAll (x :: xs) (y :: ys) = (PyData.eqv x y && PyData.eqvAll xs ys) := by rw [PyData.eqvAll]
mutual
theorem lik_eq : ∀ (x y : PyData), lik x y = true → PyData.eqv x y = true → x = y
  | .int a, y, h, e => by
    cases y <;> first | (exfalso; revert h; simp [lik]; done) | skip
    rename_i b
    have : a = b := by simpa [PyData.eqv] using e
    rw [this]
  | .str a, y, h, e => by
    cases y <;> first | (exfalso; revert h; simp [lik]; done) | skip
    rename_i b
    have : a = b := by simpa [PyData.eqv] using e
    rw [this]
  | .tuple xs, y, h, e => by
    cases y <;> first | (exfalso; revert h; simp [lik]; done) | skip
    rename_i ys
    rw [liks_eq xs ys (by simpa [lik] using h) (by simpa [PyData.eqv] using e)]
  | .none, y, h, _ => absurd h (by cases y <;> simp [lik])
  | .bool _, y, h, _ => absurd h (by cases y <;> simp [lik])
  | .list _, y, h, _ => absurd h (by cases y <;> simp [lik])
  | .dict _, y, h, _ => absurd h (by cases y <;> simp [lik])
theorem liks_eq : ∀ (xs ys : List PyData), liks xs ys = true → PyData.eqvAll xs ys = true → xs = ys
  | [], [], _, _ => rfl
  | [], _ :: _, _, e => absurd e (by simp [PyData.eqvAll])
  | _ :: _, [], _, e => absurd e (by simp [PyData.eqvAll])
  | x :: xs, y :: ys, h, e => by
    obtain ⟨h1, h2⟩ := liks_cons h
    rw [eqvs_cons, Bool.and_eq_true] at e
    rw [lik_eq x y h1 e.1, liks_eq xs ys (h2 e.1) e.2]
end
mutual
theorem lik_toks : ∀ (x y : PyData), lik x y = true → PyData.eqv x y = false → ∀ l m, PyProof.Rows.lexLt itemOrd (keyToks x ++ l) (keyToks y ++ m) = PyProof.Rows.lexLt itemOrd (keyToks x) (keyToks y)
  | .int a, y, h, e, l, m => by
    cases y <;> first | (exfalso; revert h; simp [lik]; done) | skip
    rename_i b
    have ne : a ≠ b := fun q => by subst q; simp [PyData.eqv] at e
    simp only [keyToks, List.cons_append, List.nil_append]
    exact lex_atom (fun q => ne (Sum.inl.inj q)) l m
  | .str a, y, h, e, l, m => by
    cases y <;> first | (exfalso; revert h; simp [lik]; done) | skip
    rename_i b
    have ne : a ≠ b := fun q => by subst q; simp [PyData.eqv] at e
    simp only [keyToks, List.cons_append, List.nil_append]
    exact lex_atom (fun q => ne (PySem.W.str_of_cps (Sum.inr.inj q))) l m
  | .tuple xs, y, h, e, l, m => by
    cases y <;> first | (exfalso; revert h; simp [lik]; done) | skip
    rename_i ys
    simp only [keyToks]
    exact liks_toks xs ys (by simpa [lik] using h) (by simpa [PyData.eqv] using e) l m
  | .none, y, h, _, _, _ => absurd h (by cases y <;> simp [lik])
  | .bool _, y, h, _, _, _ => absurd h (by cases y <;> simp [lik])
  | .list _, y, h, _, _, _ => absurd h (by cases y <;> simp [lik])
  | .dict _, y, h, _, _, _ => absurd h (by cases y <;> simp [lik])
theorem liks_toks : ∀ (xs ys : List PyData), liks xs ys = true → PyData.eqvAll xs ys = false → ∀ l m, PyProof.Rows.lexLt itemOrd (keyToksAll xs ++ l) (keyToksAll ys ++ m) = PyProof.Rows.lexLt itemOrd (keyToksAll xs) (keyToksAll ys)
  | [], [], _, e, _, _ => absurd e (by simp [PyData.eqvAll])
  | [], _ :: _, _, _, l, m => by
    simp only [keyToksAll, List.cons_append, List.nil_append]
    exact (lex_atom (by simp) _ _).trans (lex_atom (by simp) _ _).symm
  | _ :: _, [], _, _, l, m => by
    simp only [keyToksAll, List.cons_append, List.nil_append]
    exact (lex_atom (by simp) _ _).trans (lex_atom (by simp) _ _).symm
  | x :: xs, y :: ys, h, e, l, m => by
    obtain ⟨h1, h2⟩ := liks_cons h
    rw [eqvs_cons] at e
    rw [toks_all_cons, toks_all_cons]
    simp only [List.cons_append, List.append_assoc]
    refine (lex_self (O := itemOrd) _ _ _).trans (Eq.trans ?_ (lex_self (O := itemOrd) _ _ _).symm)
    cases q : PyData.eqv x y with
    | true =>
      rw [lik_eq x y h1 q]
      rw [q, Bool.true_and] at e
      exact (lex_pre _ _ _).trans ((liks_toks xs ys (h2 q) e l m).trans (lex_pre _ _ _).symm)
    | false => exact (lik_toks x y h1 q _ _).trans (lik_toks x y h1 q _ _).symm
end
theorem lx_yes {x y : PyData} {xs ys : List PyData} (h : x = y) : PyProof.Rows.lexLt itemOrd (keyToksAll (x :: xs)) (keyToksAll (y :: ys)) = PyProof.Rows.lexLt itemOrd (keyToksAll xs) (keyToksAll ys) := by
  rw [toks_all_cons, toks_all_cons, h]
  exact (lex_self (O := itemOrd) _ _ _).trans (lex_pre _ _ _)
theorem lx_no {x y : PyData} {xs ys : List PyData} (h : lik x y = true) (e : PyData.eqv x y = false) : PyProof.Rows.lexLt itemOrd (keyToksAll (x :: xs)) (keyToksAll (y :: ys)) = dataLt x y := by
  rw [toks_all_cons, toks_all_cons]
  exact (lex_self (O := itemOrd) _ _ _).trans (lik_toks x y h e _ _)
/-- signs that are the same come of the same -/
theorem toks_inj {x y : PyData} (h : lik x y = true) (e : keyToks x = keyToks y) : x = y := by
  cases q : PyData.eqv x y with
  | true => exact lik_eq x y h q
  | false =>
    have z := lik_toks x y h q [] [.inl 0]
    rw [e, lex_pre, lex_irrefl] at z
    exact nomatch z
theorem lt_total {x y : PyData} (h : lik x y = true) (h1 : dataLt x y = false) (h2 : dataLt y x = false) : x = y := toks_inj h (lex_total (O := itemOrd) _ _ h1 h2)

/-! ### .. as Python compares them -/
mutual
theorem rcLt_lik : ∀ (da db : PyData) (A : Around) (s : Shared) (a b : Value) (as bs : List Addr), Reads s.heap a da as → Reads s.heap b db bs → lik da db = true → da.canLay0 = true → db.canLay0 = true →
    A.units + min da.depth db.depth < cLine → RcLt A s a b (dataLt da db)
  | .int x, db, A, s, a, b, as, bs, ra, rb, h, _, _, hu => by
    cases db <;> first | (exfalso; revert h; simp [lik]; done) | skip
    cases ra
    cases rb
    intro prog w E Q hq
    rw [dataLt_int] at hq
    exact P.lt_int hq
  | .str x, db, A, s, a, b, as, bs, ra, rb, h, _, _, hu => by
    cases db <;> first | (exfalso; revert h; simp [lik]; done) | skip
    cases ra
    cases rb
    intro prog w E Q hq
    rw [dataLt_str] at hq
    exact P.lt_str hq
  | .tuple xs, db, A, s, a, b, as, bs, ra, rb, h, ca, cb, hu => by
    cases db <;> first | (exfalso; revert h; simp [lik]; done) | skip
    rename_i ys
    cases ra with
    | @tuple l o vs n _ as₁ h1 h2 h3 h4 =>
      cases rb with
      | @tuple l' o' vs' n' _ bs₁ k1 k2 k3 k4 =>
        have n1 : vs.size = xs.length := by simpa using SeqAt.ReadsAll.length _ _ _ h4
        have n2 : vs'.size = ys.length := by simpa using SeqAt.ReadsAll.length _ _ _ k4
        rw [dataLt_tuple]
        refine rcLt_tup ⟨_, h1, h2, _, h3⟩ ⟨_, k1, k2, _, k3⟩ (SeqAt.room_here hu) ?_
        exact lx_lik xs ys A.in1 s _ vs.toList vs'.toList _ _ (by rw [n1, n2]) h4 k4 (by simpa [lik] using h) (by simpa [PyData.canLay0] using ca) (by simpa [PyData.canLay0] using cb) (SeqAt.room_in hu)
  | .none, db, _, _, _, _, _, _, _, _, h, _, _, _ => absurd h (by cases db <;> simp [lik])
  | .bool _, db, _, _, _, _, _, _, _, _, h, _, _, _ => absurd h (by cases db <;> simp [lik])
  | .list _, db, _, _, _, _, _, _, _, _, h, _, _, _ => absurd h (by cases db <;> simp [lik])
  | .dict _, db, _, _, _, _, _, _, _, _, h, _, _, _ => absurd h (by cases db <;> simp [lik])
theorem lx_lik : ∀ (xs ys : List PyData) (A : Around) (s : Shared) (fin : Bool) (vs ws : List Value) (as bs : List Addr), fin = decide (xs.length < ys.length) → ReadsAll s.heap vs xs as → ReadsAll s.heap ws ys bs → liks xs ys = true →
    PyData.canLayAll0 xs = true → PyData.canLayAll0 ys = true → A.units + min (PyData.depthAll xs) (PyData.depthAll ys) < cLine → Lx A s fin (vs.zip ws) (PyProof.Rows.lexLt itemOrd (keyToksAll xs) (keyToksAll ys))
  | [], [], A, s, fin, _, _, _, _, hf, ra, rb, _, _, _, _ => by
    cases ra
    cases rb
    rw [lex_irrefl]
    have e : fin = false := by rw [hf]; rfl
    rw [e]
    exact .nil
  | [], y :: ys, A, s, fin, _, _, _, _, hf, ra, rb, _, _, _, _ => by
    cases ra
    have e : fin = true := by rw [hf]; exact decide_eq_true (Nat.succ_pos _)
    have q : PyProof.Rows.lexLt itemOrd (keyToksAll []) (keyToksAll (y :: ys)) = true := by
      rw [toks_all_cons]
      simp only [keyToksAll]
      rw [lex_diff (O := itemOrd) (by simp)]
      simp [itemLt]
    rw [q, List.zip_nil_left, e]
    exact .nil
  | x :: xs, [], A, s, fin, _, _, _, _, hf, ra, rb, _, _, _, _ => by
    cases rb
    have e : fin = false := by rw [hf]; exact decide_eq_false (Nat.not_lt_zero _)
    have q : PyProof.Rows.lexLt itemOrd (keyToksAll (x :: xs)) (keyToksAll []) = false := by
      rw [toks_all_cons]
      simp only [keyToksAll]
      rw [lex_diff (O := itemOrd) (by simp)]
      simp [itemLt]
    rw [q, List.zip_nil_right, e]
    exact .nil
  | x :: xs, y :: ys, A, s, fin, _, _, _, _, hf, ra, rb, h, ca, cb, hu => by
    obtain ⟨h1, h2⟩ := liks_cons h
    have ca' : x.canLay0 = true ∧ PyData.canLayAll0 xs = true := by simpa [PyData.canLayAll0] using ca
    have cb' : y.canLay0 = true ∧ PyData.canLayAll0 ys = true := by simpa [PyData.canLayAll0] using cb
    have hf' : fin = decide (xs.length < ys.length) := by
      rw [hf]
      simp only [List.length_cons, Nat.add_lt_add_iff_right]
    cases ra with
    | cons r rs =>
      cases rb with
      | cons r' rs' =>
        rw [List.zip_cons_cons]
        have eq := eqAt_reads x y A s _ _ _ _ r r' ca'.1 cb'.1 (SeqAt.room_head hu)
        cases hx : PyData.eqv x y with
        | true =>
          rw [hx] at eq
          rw [lx_yes (lik_eq x y h1 hx)]
          exact .eq eq (lx_lik xs ys A s fin _ _ _ _ hf' rs rs' (h2 hx) ca'.2 cb'.2 (SeqAt.room_tail hu))
        | false =>
          rw [hx] at eq
          rw [lx_no h1 hx]
          exact .ne eq (rcLt_lik x y A s _ _ _ _ r r' h1 ca'.1 cb'.1 (SeqAt.room_head hu))
end
end K40
set_option maxHeartbeats 8000000
namespace K40
open PySem PySem.Spec PyProof.Rows L2
open PySem.SeqAt (EqAt RcLt eqAt_reads)
open PySem.W (keyToks keyToksAll lex_atom lex_pre toks_all_cons dataLt dataLt_int dataLt_str dataLt_tuple KatLex KatTups kat_nil kat_cons kat_yes kat_no kat_one)

/-! ### sorted of a list of such tuples -/
section
variable {prog : Program} {w : World} {A : Around} {s : Shared}
theorem kl_of {fin : Bool} {Q : Bool → Shared → Prop} : ∀ {l : List (Value × Value)} {b : Bool}, Lx A s fin l b → ∀ {i : Nat}, i ≠ 0 → Q b s → KatLex prog w A true fin Q l i s
  | _, _, .nil, _, _, h => kat_nil h
  | _, _, .eq he hr, i, hi, h => kat_cons (he prog w _ _ (kat_yes (kl_of hr (Nat.succ_ne_zero i) h)))
  | _, _, .ne he hr, i, hi, h => kat_cons (he prog w _ _ (kat_no (by
      have e : (true && i == 0) = false := by
        rw [Bool.true_and]
        exact beq_false_of_ne hi
      rw [e]
      exact kat_one _ _ (hr prog w _ _ (show PySem.W.BoolBack Q (.bool _) s from h)))))
/-- what is asked of the tuples -/
structure Tt (d : PyData) : Prop where
  hd : ∃ x r, d = .tuple (.str x :: r)
  lay : d.canLay0 = true
  dep : d.depth ≤ 60
theorem kl_tt {x y : Str} {r t : List PyData} {vs ws : List Value} {as bs : List Addr} {Q : Bool → Shared → Prop} (ra : ReadsAll s.heap vs (.str x :: r) as) (rb : ReadsAll s.heap ws (.str y :: t) bs) (h : liks (.str x :: r) (.str y :: t) = true)
    (ca : PyData.canLayAll0 (.str x :: r) = true) (cb : PyData.canLayAll0 (.str y :: t) = true) (hu : A.units + min (PyData.depthAll (.str x :: r)) (PyData.depthAll (.str y :: t)) < cLine)
    (q : Q (dataLt (.tuple (.str x :: r)) (.tuple (.str y :: t))) s) : KatLex prog w A true (decide (r.length < t.length)) Q (vs.zip ws) 0 s := by
  obtain ⟨h1, h2⟩ := liks_cons h
  obtain ⟨cx, ca'⟩ : (PyData.str x).canLay0 = true ∧ PyData.canLayAll0 r = true := by rw [PyData.canLayAll0, Bool.and_eq_true] at ca; exact ca
  obtain ⟨cy, cb'⟩ : (PyData.str y).canLay0 = true ∧ PyData.canLayAll0 t = true := by rw [PyData.canLayAll0, Bool.and_eq_true] at cb; exact cb
  rw [dataLt_tuple] at q
  cases ra with
  | @cons v vs' _ _ as1 as2 r1 r2 =>
    cases rb with
    | @cons v2 ws' _ _ bs1 bs2 k1 k2 =>
      have eq := eqAt_reads (.str x) (.str y) A s _ _ _ _ r1 k1 cx cy (SeqAt.room_head hu)
      rw [List.zip_cons_cons]
      refine kat_cons (eq prog w _ _ ?_)
      cases e : PyData.eqv (.str x) (.str y) with
      | true =>
        rw [lx_yes (lik_eq _ _ h1 e)] at q
        exact kat_yes (kl_of (lx_lik r t A s _ _ _ _ _ rfl r2 k2 (h2 e) ca' cb' (SeqAt.room_tail hu)) (Nat.succ_ne_zero 0) q)
      | false =>
        rw [lx_no h1 e, dataLt_str] at q
        cases r1
        cases k1
        exact kat_no (oneLt_str q)
theorem tt_kinds {h : Heap} : ∀ {vs : List Value}, (∀ v ∈ vs, ∃ d as, Tt d ∧ Reads h v d as) → ∃ fs, KatTups h vs fs ∧ fs.length = vs.length ∧ ∀ f ∈ fs, ∃ x t, f = Value.str x t
  | [], _ => ⟨[], KatTups.nil, rfl, fun _ z => nomatch z⟩
  | v :: vs, hv => by
    obtain ⟨fs, h1, h2, h3⟩ := tt_kinds (vs := vs) fun u hu => hv u (List.mem_cons_of_mem _ hu)
    obtain ⟨d, as, ⟨⟨x, r, rfl⟩, _, _⟩, rd⟩ := hv v List.mem_cons_self
    cases rd with
    | @tuple l o xs n _ _ e1 e2 e3 e4 =>
      cases hx : xs.toList with
      | nil =>
        rw [hx] at e4
        cases e4
      | cons f rest =>
        rw [hx] at e4
        cases e4 with
        | cons k1 k2 =>
          refine ⟨f :: fs, KatTups.cons e1 e2 e3 (by rw [← Array.getElem?_toList, hx]; rfl) h1, by rw [List.length_cons, List.length_cons, h2], fun g hg => ?_⟩
          rcases List.mem_cons.mp hg with rfl | hg
          · cases k1
            exact ⟨_, _, rfl⟩
          · exact h3 g hg
theorem swo_toks {α : Type} (k : α → PyData) : SrtO.Swo fun v u => dataLt (k v) (k u) := by
  refine ⟨fun x y h => ?_, fun x y z h1 h2 => ?_⟩
  · cases e : dataLt (k y) (k x) with
    | false => rfl
    | true =>
      have z := lex_trans (O := itemOrd) _ _ _ h e
      rw [lex_irrefl] at z
      exact nomatch z
  · cases e : dataLt (k z) (k x) with
    | false => rfl
    | true =>
      rcases lex_negTrans (O := itemOrd) _ (keyToks (k y)) _ e with q | q
      · exact absurd q (by rw [show PyProof.Rows.lexLt itemOrd (keyToks (k z)) (keyToks (k y)) = false from h2]; exact Bool.false_ne_true)
      · exact absurd q (by rw [show PyProof.Rows.lexLt itemOrd (keyToks (k y)) (keyToks (k x)) = false from h1]; exact Bool.false_ne_true)
theorem tt_sortable {a : Addr} {vs : List Value} {k : Value → PyData} (h0 : 0 < vs.length) (hp : ∀ v ∈ vs, Tt (k v) ∧ ∀ h' : Heap, (∀ b o, b ≠ a → s.heap.get? b = some o → h'.get? b = some o) → ∃ as, Reads h' v (k v) as)
    (hl : ∀ v ∈ vs, ∀ u ∈ vs, lik (k v) (k u) = true) (hu : A.units + 62 < cLine) : SrtO.SortableO prog w A s a vs fun v u => dataLt (k v) (k u) := by
  intro h' keep
  obtain ⟨fs, h1, h2, h3⟩ := tt_kinds (h := h') (vs := vs) fun v hv => ⟨k v, ((hp v hv).2 h' keep).choose, (hp v hv).1, ((hp v hv).2 h' keep).choose_spec⟩
  refine ⟨tuples' true, fun Q E hq => ?_, fun p q hm hm' => ?_⟩
  · refine PySem.W.kat_kind (T := .type "str") h1 (by omega) (fun f hm => ?_) (by rfl) ?_
    · obtain ⟨x, t, rfl⟩ := h3 f hm
      exact PySem.W.Looks.now
    · have e : (Value.type "str" != Value.type "tuple") = true := by first | decide +kernel | rfl | decide
      rw [e]
      exact hq
  · obtain ⟨⟨⟨x, r, e1⟩, l1, d1⟩, g1⟩ := hp _ hm
    obtain ⟨⟨⟨y, t, e2⟩, l2, d2⟩, g2⟩ := hp _ hm'
    obtain ⟨as, r1⟩ := g1 h' keep
    obtain ⟨bs, r2⟩ := g2 h' keep
    have hk := hl _ hm _ hm'
    show wpAny (model prog w) A (keyLt' (tuples' true) p.1 q.1) (fun r s' => s' = { s with heap := h' } ∧ r = dataLt (k p.1) (k q.1)) (fun _ _ => False) { s with heap := h' }
    generalize p.1 = v at *
    generalize q.1 = u at *
    rw [e1] at r1 l1 d1 hk ⊢
    rw [e2] at r2 l2 d2 hk ⊢
    cases r1 with
    | @tuple la o xs n _ _ a1 a2 a3 a4 =>
      cases r2 with
      | @tuple lb o' ys n' _ _ b1 b2 b3 b4 =>
        have n1 : xs.size = r.length + 1 := by simpa using SeqAt.ReadsAll.length _ _ _ a4
        have n2 : ys.size = t.length + 1 := by simpa using SeqAt.ReadsAll.length _ _ _ b4
        refine PySem.W.kat_lt (s := { s with heap := h' }) a1 a3 b1 b3 ?_
        have ed : decide (xs.size < ys.size) = decide (r.length < t.length) := by
          rw [n1, n2]
          simp only [Nat.add_lt_add_iff_right]
        rw [ed]
        refine kl_tt (s := { s with heap := h' }) a4 b4 (by simpa [lik] using hk) (by simpa [PyData.canLay0] using l1) (by simpa [PyData.canLay0] using l2) ?_ ⟨rfl, rfl⟩
        have q1 : PyData.depthAll (.str x :: r) ≤ 60 := by
          have : PyData.depth (.tuple (.str x :: r)) = PyData.depthAll (.str x :: r) + 1 := by rw [PyData.depth]
          omega
        omega
end
end K40
set_option maxHeartbeats 8000000
namespace K40
open PySem PySem.Spec PyProof.Rows L2
open PySem.W (dataLt)

/-! ### what a value stands for is one datum -/
mutual
theorem Dw.uniq {H : Hp} : ∀ {v : V} {d d' : PyData}, Dw H v d → Dw H v d' → d = d'
  | _, _, _, .non, .non => rfl
  | _, _, _, .bl b, .bl _ => rfl
  | _, _, _, .int i, .int _ => rfl
  | _, _, _, .str x, .str _ => rfl
  | _, _, _, .lst e h, h' => by
    cases h' with
    | lst e' k =>
      cases e.symm.trans e'
      rw [DwAll.uniq h k]
    | tup e' k => cases e.symm.trans e'
    | dct e' k => cases e.symm.trans e'
  | _, _, _, .tup e h, h' => by
    cases h' with
    | lst e' k => cases e.symm.trans e'
    | tup e' k =>
      cases e.symm.trans e'
      rw [DwAll.uniq h k]
    | dct e' k => cases e.symm.trans e'
  | _, _, _, .dct e h, h' => by
    cases h' with
    | lst e' k => cases e.symm.trans e'
    | tup e' k => cases e.symm.trans e'
    | dct e' k =>
      cases e.symm.trans e'
      rw [DwAll.uniq h k]
theorem DwAll.uniq {H : Hp} : ∀ {vs : List V} {ds ds' : List PyData}, DwAll H vs ds → DwAll H vs ds' → ds = ds'
  | _, _, _, .nil, .nil => rfl
  | _, _, _, .cons h t, .cons h' t' => by rw [Dw.uniq h h', DwAll.uniq t t']
end
open Classical in
/-- .. that datum -/
noncomputable def dOf (H : Hp) (v : V) : PyData := if h : ∃ d, Dw H v d then h.choose else .none
theorem dOf_eq {H : Hp} {v : V} {d : PyData} (h : Dw H v d) : dOf H v = d := by
  have z : ∃ d, Dw H v d := ⟨d, h⟩
  unfold dOf
  rw [dif_pos z]
  exact Dw.uniq z.choose_spec h
theorem dOf_all {H : Hp} : ∀ {vs : List V} {ds : List PyData}, DwAll H vs ds → vs.map (dOf H) = ds
  | _, _, .nil => rfl
  | _, _, .cons h t => by rw [List.map_cons, dOf_eq h, dOf_all t]
theorem dw_in {H : Hp} : ∀ {vs : List V} {ds : List PyData}, DwAll H vs ds → ∀ v ∈ vs, ∃ d ∈ ds, Dw H v d
  | _, _, .cons h t, v, hv => by
    rcases List.mem_cons.mp hv with rfl | hv
    · exact ⟨_, List.mem_cons_self, h⟩
    · obtain ⟨d, h1, h2⟩ := dw_in t v hv
      exact ⟨d, List.mem_cons_of_mem _ h1, h2⟩
theorem dw_of {H : Hp} : ∀ {vs : List V}, (∀ v ∈ vs, ∃ d, Dw H v d) → DwAll H vs (vs.map (dOf H))
  | [], _ => .nil
  | v :: vs, h => by
    obtain ⟨d, hd⟩ := h v List.mem_cons_self
    rw [List.map_cons, dOf_eq hd]
    exact .cons hd (dw_of fun u hu => h u (List.mem_cons_of_mem _ hu))

/-! ### sorted lists of data -/
def insD (x : PyData) : List PyData → List PyData
  | [] => [x]
  | y :: r => if dataLt y x = true then y :: insD x r else x :: y :: r
def srtD : List PyData → List PyData
  | [] => []
  | x :: r => insD x (srtD r)
theorem ins_perm (x : PyData) : ∀ l : List PyData, (insD x l).Perm (x :: l)
  | [] => List.Perm.refl _
  | y :: r => by
    unfold insD
    split
    · exact ((ins_perm x r).cons y).trans (List.Perm.swap x y r)
    · exact List.Perm.refl _
theorem srt_perm : ∀ l : List PyData, (srtD l).Perm l
  | [] => List.Perm.refl _
  | x :: r => (ins_perm x _).trans ((srt_perm r).cons x)
theorem mem_srt {x : PyData} {l : List PyData} : x ∈ srtD l ↔ x ∈ l := (srt_perm l).mem_iff
abbrev SrD (l : List PyData) : Prop := l.Pairwise fun x y => dataLt y x = false
theorem ins_srt {x : PyData} : ∀ {l : List PyData}, SrD l → SrD (insD x l)
  | [], _ => List.pairwise_singleton _ _
  | y :: r, h => by
    obtain ⟨h1, h2⟩ := List.pairwise_cons.mp h
    have O := swo_toks (α := PyData) id
    unfold insD
    split
    · rename_i e
      refine List.pairwise_cons.mpr ⟨fun z hz => ?_, ins_srt h2⟩
      rcases List.mem_cons.mp ((ins_perm x r).mem_iff.mp hz) with rfl | hz
      · exact O.asym _ _ e
      · exact h1 z hz
    · rename_i e
      have e' : dataLt y x = false := by
        cases q : dataLt y x with
        | true => exact absurd q e
        | false => rfl
      refine List.pairwise_cons.mpr ⟨fun z hz => ?_, h⟩
      rcases List.mem_cons.mp hz with rfl | hz
      · exact e'
      · exact O.tr _ _ _ e' (h1 z hz)
theorem srt_srt : ∀ l : List PyData, SrD (srtD l)
  | [] => List.Pairwise.nil
  | x :: r => ins_srt (srt_srt r)
theorem srt_uniq : ∀ {a b : List PyData}, SrD a → SrD b → a.Perm b → (∀ x ∈ a, ∀ y ∈ a, lik x y = true) → a = b
  | [], b, _, _, p, _ => (List.Perm.eq_nil p.symm).symm
  | x :: a, [], _, _, p, _ => absurd p.length_eq (by simp)
  | x :: a, y :: b, ha, hb, p, h => by
    obtain ⟨a1, a2⟩ := List.pairwise_cons.mp ha
    obtain ⟨b1, b2⟩ := List.pairwise_cons.mp hb
    have e : x = y := by
      rcases List.mem_cons.mp (p.mem_iff.mp (List.mem_cons_self (a := x) (l := a))) with q | q
      · exact q
      rcases List.mem_cons.mp (p.mem_iff.mpr (List.mem_cons_self (a := y) (l := b))) with z | z
      · exact z.symm
      exact lt_total (h x List.mem_cons_self y (List.mem_cons_of_mem _ z)) (b1 x q) (a1 y z)
    subst e
    rw [srt_uniq a2 b2 (p.cons_inv) fun u hu v hv => h u (List.mem_cons_of_mem _ hu) v (List.mem_cons_of_mem _ hv)]
theorem srt_of {a b : List PyData} (p : a.Perm b) (h : ∀ x ∈ a, ∀ y ∈ a, lik x y = true) : srtD a = srtD b :=
  srt_uniq (srt_srt _) (srt_srt _) ((srt_perm a).trans (p.trans (srt_perm b).symm)) fun x hx y hy => h x (mem_srt.mp hx) y (mem_srt.mp hy)
theorem srt_id {a : List PyData} (s : SrD a) (h : ∀ x ∈ a, ∀ y ∈ a, lik x y = true) : srtD a = a :=
  (srt_uniq s (srt_srt _) (srt_perm a).symm h).symm

/-! ### sorted(l) -/
def rSortD (K : PySem.W.Frag) : List V → Hp → VK → Prop := fun vs H Q => ∃ (a : Addr) (xs : List V) (ds : List PyData), vs = [V.ref a] ∧ SqL K H a xs ∧ DwAll H xs ds ∧ (∀ d ∈ ds, Tt d) ∧ (∀ d ∈ ds, ∀ e ∈ ds, lik d e = true) ∧
  ∀ ys p, DwAll H ys (srtD ds) → (∀ y ∈ ys, y ∈ xs) → H p = none → Q (.ref p) (upd H p (.lst ys))
section
variable {X : Cx}
theorem cr_sortD (hu : X.A.units + 64 < cLine) : CallR X (.builtin "sorted") (rSortD X.K) := by
  intro pins s σ H vs us Q I r h
  obtain ⟨a, xs, ds, rfl, hs, hd, ht, hl, q⟩ := h
  obtain ⟨its, rv, pl, hz⟩ := I.list hs
  obtain ⟨u, rfl, ru⟩ := vals1 r
  obtain rfl : u = Value.ref a := ru
  have hx : ∀ x ∈ xs, ∃ t d, x = V.ref t ∧ d ∈ ds ∧ Dw H x d := fun x hx => by
    obtain ⟨d, h1, h2⟩ := dw_in hd x hx
    obtain ⟨⟨y, r, e⟩, _, _⟩ := ht d h1
    have ex : ∃ t, x = V.ref t := by
      rw [e] at h2
      cases h2
      exact ⟨_, rfl⟩
    obtain ⟨t, rfl⟩ := ex
    exact ⟨t, d, rfl, h1, h2⟩
  obtain ⟨e1, e2⟩ := refs_back rv fun x m => by
    obtain ⟨t, _, e, _⟩ := hx x m
    exact ⟨t, e⟩
  have hv : ∀ v ∈ its, backV v ∈ xs ∧ ∃ t, v = Value.ref t := fun v hv => ⟨by rw [e1]; exact List.mem_map.mpr ⟨_, hv, rfl⟩, e2 v hv⟩
  have hr : ∀ v ∈ its, dOf H (backV v) ∈ ds ∧ ∃ as, Reads s.heap v (dOf H (backV v)) as := fun v hm => by
    obtain ⟨m, t, rfl⟩ := hv v hm
    obtain ⟨_, d, _, h1, h2⟩ := hx _ m
    rw [dOf_eq h2]
    obtain ⟨as, z, _⟩ := Dw.reads I.hok h2 (u := Value.ref t) rfl
    exact ⟨h1, as, z⟩
  refine SrtO.sorted_ord (swo_toks fun v => dOf H (backV v)) pl.isList (by rw [← rv.length]; exact hz) (fun h2 h₁ b hb kk => ?_) fun out g1 g2 => ?_
  · refine tt_sortable (s := { s with heap := h₁ }) (by omega) (fun v hm => ⟨ht _ (hr v hm).1, fun h' keep => ?_⟩) (fun v hm u hm' => hl _ (hr v hm).1 _ (hr u hm').1) ?_
    · obtain ⟨as, z⟩ := (hr v hm).2
      exact ⟨as, PyProof.Rows.Reads.keeps (fun c o e => keep c o (kk c o e).1 (kk c o e).2) z⟩
    · show X.A.units + 1 + 1 + 62 < cLine
      omega
  · have h3 : ∀ u ∈ out, ∃ a, u = Value.ref a := fun u hu => e2 u (g2.perm.mem_iff.mp hu)
    have pm : (out.map backV).Perm xs := by
      rw [e1]
      exact g2.perm.map backV
    obtain ⟨n, hn⟩ := PyProof.Rows.sortedAll_at s.heap its out.toArray
    have kp : ∀ b o, s.heap.get? b = some o → (sortedAll s.heap its out.toArray).get? b = some o := fun b o e => PyProof.Rows.sortedAll_old e
    have hd2 : DwAll H (out.map backV) (srtD ds) := by
      have z := dw_of (H := H) (vs := out.map backV) fun v m => by
        obtain ⟨_, d, _, _, h2⟩ := hx v (pm.mem_iff.mp m)
        exact ⟨d, h2⟩
      have e : (out.map backV).map (dOf H) = srtD ds := by
        have p2 : ((out.map backV).map (dOf H)).Perm ds := by
          rw [← dOf_all hd]
          exact pm.map _
        refine srt_uniq ?_ (srt_srt _) (p2.trans (srt_perm ds).symm) fun x hx y hy => hl x (p2.mem_iff.mp hx) y (p2.mem_iff.mp hy)
        rw [List.map_map]
        exact List.pairwise_map.mpr g1
      rw [e] at z
      exact z
    refine ⟨.ref (s.heap.objs.size + 1), upd H (s.heap.objs.size + 1) (.lst (out.map backV)), I.laid (t' := s.toks) kp (Nat.le_succ _) ⟨?_, out, n, vals_back h3, hn⟩, rfl, q _ _ hd2 (fun y hy => pm.mem_iff.mp hy) (I.hok.fresh (Nat.le_succ _))⟩
    rw [pm.length_eq]
    exact hz
end
end K40
set_option maxHeartbeats 8000000
namespace K40
open PySem PySem.Spec PyProof.Rows L2

/-! ### set(xs) of a list of tuples -/
section
variable {β : Type} [DecidableEq β]
theorem len_of_sub : ∀ {l D : List β}, l.Nodup → (∀ x ∈ l, x ∈ D) → l.length ≤ D.length
  | [], _, _, _ => Nat.zero_le _
  | x :: l, D, h, s => by
    obtain ⟨h1, h2⟩ := List.nodup_cons.mp h
    have hx := s x List.mem_cons_self
    have z := len_of_sub (l := l) (D := D.erase x) h2 fun y hy => (List.mem_erase_of_ne (fun e => h1 (by rw [← e]; exact hy))).mpr (s y (List.mem_cons_of_mem _ hy))
    rw [List.length_erase_of_mem hx] at z
    have := List.length_pos_of_mem hx
    rw [List.length_cons]
    omega
end
section
variable {P : Program} {w : World} {α : Type} [DecidableEq α] {κ : PySem.KeyKind P w α}
theorem tk_keep {h h' : Heap} {k : List α} {b : Addr} (x : IsTupleKey κ h k b) (hk : ∀ b o, h.get? b = some o → h'.get? b = some o) : IsTupleKey κ h' k b := by
  obtain ⟨o, items, n, ho, r⟩ := x
  exact ⟨o, items, n, hk b o ho, r⟩
theorem TSet.keep {h h' : Heap} {a : Addr} {L : List (Addr × List α)} {es : Array (Int × Value)} {t : SetTable} (R : TSet κ h a L es t) (ha : ∀ o, h.get? a = some o → h'.get? a = some o) (ht : ∀ p ∈ L, IsTupleKey κ h' p.2 p.1) : TSet κ h' a L es t := by
  obtain ⟨o, ep, ho, r⟩ := R.obj
  exact ⟨⟨o, ep, ha o ho, r⟩, R.row, R.tab, R.nd, ht, R.led, R.room, R.few⟩
abbrev nwSet (w : World) : Obj := { cls := .type "set", dict := none, data := .set #[] 0 (.fresh 0 0 (!w.params.followText "set-order")) }
theorem ts_new {h : Heap} {a : Addr} (ho : h.get? a = some (nwSet w)) : TSet κ h a [] #[] (.fresh 0 0 (!w.params.followText "set-order")) := by
  refine ⟨⟨_, 0, ho, ⟨rfl, rfl, rfl⟩, rfl⟩, rfl, ⟨List.Pairwise.nil, rfl, rfl, .inl rfl, fun x hx => (by cases hx), fun i h j hi => (by simp at hi)⟩, List.nodup_nil, fun p hp => (by cases hp), ?_, ?_, ?_⟩
  · show _ ∨ (!w.params.followText "set-order") = true
    cases w.params.followText "set-order"
    · exact .inr rfl
    · exact .inl rfl
  · show 0 * 5 < 7 * 3
    decide
  · show 0 < 64
    decide
/-- what has been put there -/
structure Gt (ks : List (Addr × List α)) (i : Nat) (L : List (Addr × List α)) : Prop where
  sub : ∀ p ∈ L, p ∈ ks
  all : ∀ p ∈ ks.take i, p.2 ∈ L.map (·.2)
theorem Gt.next {ks L L' : List (Addr × List α)} {i : Nat} {p : Addr × List α} (g : Gt ks i L) (hp : ks[i]? = some p) (h : p.2 ∈ L.map (·.2) ∧ L' = L ∨ p.2 ∉ L.map (·.2) ∧ L'.Perm ((p.1, p.2) :: L)) : Gt ks (i + 1) L' := by
  have ht : ks.take (i + 1) = ks.take i ++ [p] := by
    rw [List.take_add_one, hp]
    rfl
  rcases h with ⟨h, rfl⟩ | ⟨_, h⟩
  · refine ⟨g.sub, fun q hq => ?_⟩
    rw [ht] at hq
    rcases List.mem_append.mp hq with hq | hq
    · exact g.all q hq
    · rw [List.mem_singleton.mp hq]
      exact h
  · refine ⟨fun q hq => ?_, fun q hq => ?_⟩
    · rcases List.mem_cons.mp (h.mem_iff.mp hq) with rfl | hq
      · exact List.mem_of_getElem? hp
      · exact g.sub q hq
    · rw [ht] at hq
      rw [(h.map (·.2)).mem_iff, List.map_cons]
      rcases List.mem_append.mp hq with hq | hq
      · exact List.mem_cons_of_mem _ (g.all q hq)
      · rw [List.mem_singleton.mp hq]
        exact List.mem_cons_self
variable {A : Around} {E : Value → Shared → Prop} {s : Shared}
theorem ts_loop (q : Qt κ) {I : Addr} {fp wr : List Addr} {G : Array GenState → Array GenState → Prop} {n : Nat} {Pv : Nat → Value → Prop} {St : Nat → Shared → Prop} {R : Result → Shared → Prop}
    (W : WalksS P w A.in1 I fp wr G n Pv St) (S : Addr) (hSf : S ∉ fp) (ks : List (Addr × List α)) (D : List (List α)) (hD : ∀ p ∈ ks, p.2 ∈ D) (hfew : D.length < 64) (hn : n = ks.length) (hval : ∀ i v, Pv i v → ∃ p, ks[i]? = some p ∧ v = .ref p.1)
    (h0 : Heap) (hk : ∀ p ∈ ks, IsTupleKey κ h0 p.2 p.1) (hS0 : h0.get? S = none) (hw0 : ∀ b ∈ wr, h0.get? b = none) (hu : A.in1.units < cLine) :
    ∀ (m i : Nat) (s : Shared), n - i = m → i ≤ n → St i s → (∀ b o, h0.get? b = some o → s.heap.get? b = some o) → (∃ L es t, TSet κ s.heap S L es t ∧ Gt ks i L) →
      (∀ s' L es t, Moved (S :: wr) G s s' → TSet κ s'.heap S L es t → Gt ks n L → (∀ b o, h0.get? b = some o → s'.heap.get? b = some o) → R (.ok (.ret .none)) s') →
      codeAny (model P w) A (.builtin "set.update.loop" ⟨[.ref S, .ref I], []⟩) R s := by
  have hSw : S ∉ wr := fun h => hSf (W.sub _ h)
  have hsub : ∀ b ∈ wr, b ∈ S :: wr := fun b hb => List.mem_cons_of_mem _ hb
  have keepM : ∀ {s s' : Shared}, Moved wr G s s' → (∀ b o, h0.get? b = some o → s.heap.get? b = some o) → ∀ b o, h0.get? b = some o → s'.heap.get? b = some o := fun hm hkp b o e =>
    hm.heap b o (fun hb => by rw [hw0 b hb] at e; cases e) (hkp b o e)
  intro m
  induction m with
  | zero =>
    intro i s hm0 hi hst hkp ⟨L, es, t, hS, g⟩ hR
    have hin : i = n := by omega
    subst hin
    refine codeAny_builtin F.entry_set_update_loop ?_
    rw [Around.under_plainId F.plain_set_update_loop _]
    show wpAny _ A.in1 (pyNext (.ref I) >>= _) _ _ s
    refine wpAny_bind (W.done s _ _ hst fun s' hm => ?_)
    show wpAny _ A.in1 (ret Value.none) _ _ s'
    have hkp' := keepM hm hkp
    exact wpAny_pure (hR s' L es t (hm.mono hsub) (hS.keep (fun o e => hm.heap S o hSw e) fun p hp => tk_keep (hk p (g.sub p hp)) hkp') g hkp')
  | succ m ih =>
    intro i s hm1 hi hst hkp ⟨L, es, t, hS, g⟩ hR
    have hlt : i < n := by omega
    refine codeAny_builtin F.entry_set_update_loop ?_
    rw [Around.under_plainId F.plain_set_update_loop _]
    show wpAny _ A.in1 (pyNext (.ref I) >>= _) _ _ s
    refine wpAny_bind (W.item i s _ _ hlt hst fun v s' hP hst' hm => ?_)
    obtain ⟨p, hp, rfl⟩ := hval i v hP
    have hkp' := keepM hm hkp
    have hS' : TSet κ s'.heap S L es t := hS.keep (fun o e => hm.heap S o hSw e) fun r hr => tk_keep (hk r (g.sub r hr)) hkp'
    have hx : IsTupleKey κ s'.heap p.2 p.1 := tk_keep (hk p (List.mem_of_getElem? hp)) hkp'
    show wpAny _ A.in1 (holding [Value.ref p.1] (setAdd S (.ref p.1)) >>= _) _ _ s'
    refine wpAny_bind (wpAny_holding ?_)
    unfold setAdd
    refine wpAny_holding ?_
    refine wpAny_bind (wpAny_pyHash_tuple hu hx ?_)
    refine ts_add (s := { s' with toks := s'.toks + (p.2.length + 1) }) q hS' hx hu (fun nm => ?_) fun b h' L' es' t' hsb hS2 hc => ?_
    · have z := len_of_sub (l := p.2 :: L.map (·.2)) (D := D) (List.nodup_cons.mpr ⟨nm, hS.nd⟩) fun y hy => by
        rcases List.mem_cons.mp hy with rfl | hy
        · exact hD p (List.mem_of_getElem? hp)
        · obtain ⟨r, hr, rfl⟩ := List.mem_map.mp hy
          exact hD r (g.sub r hr)
      rw [List.length_cons, List.length_map] at z
      omega
    have hkp2 : ∀ b o, h0.get? b = some o → h'.get? b = some o := fun b o e => (hsb.2 b (fun z => by rw [z, hS0] at e; cases e)).trans (hkp' b o e)
    refine wpAny_pure ⟨plainId_quiet F.plain_set_update_loop _, ih (i + 1) _ (by omega) hlt (W.frame _ s' _ _ hst' (Nat.le_add_right _ _) fun b hb o e => ?_) hkp2 ⟨L', es', t', hS2, g.next hp hc⟩ fun s'' L2 es2 t2 hm'' hS'' g'' hkp'' => ?_⟩
    · rw [hsb.2 b (fun h : b = S => hSf (by rw [← h]; exact hb))]; exact e
    · refine hR s'' L2 es2 t2 (Moved.trans W.gtrans ((hm.mono hsub).then_heap (Nat.le_add_right _ _) fun b o hb e => ?_) hm'') hS'' g'' hkp''
      rw [hsb.2 b (fun h : b = S => hb (by rw [h]; exact List.mem_cons_self))]; exact e
end
end K40
set_option maxHeartbeats 8000000
namespace K40
open PySem PySem.Spec PyProof.Rows L2
section
variable {P : Program} {w : World} {α : Type} [DecidableEq α] {κ : PySem.KeyKind P w α}
variable {A : Around} {E : Value → Shared → Prop} {s : Shared}
set_option maxRecDepth 100000 in
set_option maxHeartbeats 3200000 in
theorem ts_call (q : Qt κ) {l : Addr} {items : Array Value} (ks : List (Addr × List α)) (D : List (List α)) {Q : Value → Shared → Prop} (hh : A.handled = none) (hl : s.heap.IsList l items) (hit : items.toList = ks.map fun p => Value.ref p.1)
    (hk : ∀ p ∈ ks, IsTupleKey κ s.heap p.2 p.1) (hD : ∀ p ∈ ks, p.2 ∈ D) (hfew : D.length < 64) (hu : A.units + 3 < cLine)
    (h : ∀ (h' : Heap) (tk : Nat) L es t, TSet κ h' s.heap.objs.size L es t → Gt ks ks.length L → (∀ b o, s.heap.get? b = some o → h'.get? b = some o) → Q (.ref s.heap.objs.size) { s with heap := h', toks := tk }) :
    wpAny (model P w) A (call (.type "set") [.ref l]) Q E s := by
  have hisz : items.size = ks.length := by rw [← Array.length_toList, hit, List.length_map]
  obtain ⟨c, tl, hmro⟩ := F.called_set.mro
  have hmade := F.called_set.made
  have hsub := F.called_set.sub
  refine wpAny_call (codeAny_of_tree ?_)
  show wpAny _ _ (callAny (.type "set") _) _ _ _
  refine wpAny_pure ⟨Code.quiet_builtin _ (by decide +kernel), codeAny_builtin F.entry_type_call ?_⟩
  rw [Around.under_plain (weight_type_call_type "set" [.ref l] []) rfl]
  have h1 := F.called_set.notType
  have h2 := F.called_set.canCreate
  have hct := F.typeCall_set_1 (.ref l)
  repeat (any_goals (first | assumption | wp_step))

  refine codeAny_mono (code_set_led1 (.ref l) (E := E) (Q₁ := fun obj s₁ => obj = .ref s.heap.objs.size ∧ s₁ = { s with heap := s.heap.push (nwSet w) }) ⟨rfl, rfl⟩) fun r s₁ hr => ?_
  cases r with
  | error e => exact hr
  | ok fl =>
    cases fl with
    | ret obj =>
      obtain ⟨rfl, rfl⟩ := hr
      have hS : (s.heap.push (nwSet w)).get? s.heap.objs.size = some (nwSet w) := Heap.get?_push_size _ rfl
      have hT : Shared.TypeIs { s with heap := s.heap.push (nwSet w) } (.ref s.heap.objs.size) "set" := ⟨_, hS, rfl⟩
      have hli := F.called_set.init.lookup
      have hbi := F.called_set.init.bind (.ref s.heap.objs.size)
      repeat (any_goals (first | assumption | wp_step))

      refine codeAny_mono (codeAny_call_builtin (R := wants (fun r s₂ => r = .none ∧ ∃ h' tk, (∃ L es t, s₂ = { s with heap := h', toks := tk } ∧ TSet κ h' s.heap.objs.size L es t ∧ Gt ks ks.length L) ∧
          (∀ b o, s.heap.get? b = some o → h'.get? b = some o)) E) F.called_set.init.plain F.entry_set_init (check_set_init_1 hT ?_)) fun r₂ s₂ hr₂ => ?_
      · obtain ⟨ol, hol, hcl, nl, hdl⟩ := hl
        obtain ⟨ocls, odict, odata, oslots⟩ := ol
        simp only at hcl hdl
        subst hcl; subst hdl
        have hol' : (s.heap.push (nwSet w)).get? l = some { cls := .type "list", dict := odict, data := .seq items nl, slots := oslots } := Heap.get?_push_of_some _ hol
        have hsls := PySem.F.sub_list_set
        have hslf := PySem.F.sub_list_frozenset
        have hne : (Value.type "list" == Value.type "dict") = false := by decide
        have hl1 : (s.heap.push (nwSet w)).IsList l items := ⟨_, hol', rfl, nl, rfl⟩
        unfold Builtin.«set.__init__» noKeywords Builtin.Frozenset.updateFrom
        generalize hPI : pyIter = PI
        wp_walk
        subst hPI

        refine wpAny_pyIter_list hl1 (wpAny_bind (wpAny_runValue ?_))
        have hlS : l < s.heap.objs.size := Heap.lt_size hol
        have hh3 : A.in1.in1.in1.handled = none := by simp [hh]
        have hneI : l ≠ (s.heap.push (nwSet w)).objs.size := by
          rw [Heap.size_push]; exact Nat.ne_of_lt (Nat.lt_succ_of_lt hlS)
        have hSf : s.heap.objs.size ∉ [(s.heap.push (nwSet w)).objs.size, l] := by
          rw [Heap.size_push]; simp only [List.mem_cons, List.mem_singleton, List.not_mem_nil, or_false, not_or]
          exact ⟨Nat.ne_of_lt (Nat.lt_succ_self _), Nat.ne_of_gt hlS⟩
        have hval : ∀ (i : Nat) (v : Value), items[i]? = some v → ∃ p, ks[i]? = some p ∧ v = .ref p.1 := fun i v hv => by
          have q : items.toList[i]? = some v := by rw [Array.getElem?_toList]; exact hv
          rw [hit, List.getElem?_map] at q
          cases hq : ks[i]? with
          | none => rw [hq] at q; cases q
          | some p =>
            rw [hq] at q
            exact ⟨p, rfl, (Option.some.inj q).symm⟩
        have none_of : ∀ b, s.heap.objs.size ≤ b → s.heap.get? b = none := fun b hb => by
          cases q : s.heap.get? b with
          | none => rfl
          | some o => exact absurd (Nat.lt_of_lt_of_le (Heap.lt_size q) hb) (Nat.lt_irrefl _)
        refine ts_loop q ((Walks.list hh3 _ l hneI items).toS) s.heap.objs.size
          hSf ks D hD hfew hisz hval s.heap hk (none_of _ (Nat.le_refl _)) (fun b hb => none_of b (by
            rw [List.mem_singleton.mp hb, Heap.size_push]
            exact Nat.le_succ _)) hu (items.size - 0) 0 _ (by omega) (Nat.zero_le _)
          ⟨⟨_, Heap.get?_push_size _ rfl, rfl, rfl⟩, (hl1.push _)⟩ (fun b o e => Heap.get?_push_of_some _ (Heap.get?_push_of_some _ e)) ?hS0 ?hR
        case hS0 => exact ⟨[], #[], _, ts_new (Heap.get?_push_of_some _ hS), ⟨fun p hp => (by cases hp), fun p hp => (by rw [List.take_zero] at hp; cases hp)⟩⟩
        case hR =>
          intro s' L es t hm hS' g' hkp
          obtain ⟨h', g2, d', tk', os'⟩ := s'
          have eg : g2 = s.gens := hm.gens
          have ed : d' = s.drawn := hm.drawn
          have eo : os' = s.os := hm.os
          subst eg; subst ed; subst eo
          show wpAny _ _ _ _ _ _
          refine wpAny_pure ?_
          show wpAny _ _ (ret Value.none) _ _ _
          rw [hisz] at g'
          exact wpAny_pure ⟨rfl, h', tk', ⟨L, es, t, rfl, hS', g'⟩, hkp⟩

      · cases r₂ with
        | error e => exact hr₂
        | ok fl₂ =>
          cases fl₂ with
          | ret r =>
            obtain ⟨rfl, h', tk, ⟨L, es, t, rfl, hS', g'⟩, hk'⟩ := hr₂
            repeat (any_goals (first | assumption | wp_step))
            exact h _ _ _ _ _ hS' g' hk'
          | _ => exact hr₂.elim
    | _ => exact hr.elim
end
end K40
set_option maxHeartbeats 8000000
namespace K40
open PySem PySem.Spec PyProof.Rows L2
open PySem.W (dataLt)
section
variable {P : Program} {w : World} {α : Type} [DecidableEq α] {κ : PySem.KeyKind P w α}
variable {A : Around} {E : Value → Shared → Prop} {s : Shared}
theorem ts_sorted {a : Addr} {L : List (Addr × List α)} {es : Array (Int × Value)} {t : SetTable} {Q : Value → Shared → Prop} (R : TSet κ s.heap a L es t) (hh : A.handled = none) (hu : A.units + 64 < cLine) {k : Value → PyData}
    (hp : ∀ q ∈ L, Tt (k (.ref q.1)) ∧ ∃ as, Reads s.heap (.ref q.1) (k (.ref q.1)) as) (hl : ∀ q ∈ L, ∀ r ∈ L, lik (k (.ref q.1)) (k (.ref r.1)) = true)
    (hQ : ∀ s' p (out : List Value) (c : Nat), (∀ b o, s.heap.get? b = some o → s'.heap.get? b = some o) → s'.gens = s.gens → s'.os = s.os → s.heap.objs.size ≤ p →
      s'.heap.get? p = some (seqObj "list" out.toArray c) → SrtO.Srtd (fun v u => dataLt (k v) (k u)) out → out.Perm (L.map fun q => Value.ref q.1) → Q (.ref p) s') :
    wpAny (model P w) A (call (.builtin "sorted") [.ref a]) Q E s := by
  obtain ⟨o, ep, ho, hex, hd⟩ := R.obj
  have hsz := row_sz R.row
  have hfew := R.few
  refine Calls.call_function_entry kind_sorted plain_sorted entry_sorted (args_sorted1 _) ?_
  unfold Builtin.«sorted»
  refine wpAny_bind (m := checkCount "sorted" 1 1 _) (wpAny_pure ?_)
  refine wpAny_bind (collect_set (A := A.in1) hh ⟨o, ho, hex.1, hd⟩ R.fits (by unfold scanBound; omega) R.tab.ris R.led fun s1 vs k1 hz g1 o1 pm => ?_)
  have hes : es.toList.map (·.2) = L.map fun q => Value.ref q.1 := by
    rw [R.row, List.map_map] <;> rfl
  rw [hes] at pm
  have hv : ∀ v ∈ vs, ∃ q ∈ L, v = Value.ref q.1 := fun v hv => by
    obtain ⟨q, hq, e⟩ := List.mem_map.mp (pm.mem_iff.mp hv)
    exact ⟨q, hq, e.symm⟩
  have hvl : vs.length ≤ sizeLine := by rw [pm.length_eq, List.length_map, sizeLine_eq]; omega
  refine wpAny_bind (wpAny_newList ?_ hvl)
  have hoL : (s1.heap.push (seqObj "list" vs.toArray 0)).get? s1.heap.objs.size = some (seqObj "list" vs.toArray 0) := Heap.get?_push_size _ rfl
  refine wpAny_bind (wpAny_holding (wpAny_call_entry slot_list_sort ⟨_, hoL, rfl⟩ entry_list_sort (SrtO.list_sort_ord (swo_toks k) hoL hvl (fun h2 => ?_) fun out hs hb => ⟨_, rfl, ?_⟩) (args_list_sort _)))
  · refine tt_sortable (s := { s1 with heap := s1.heap.push (seqObj "list" vs.toArray 0) }) (by omega) (fun v hm => ?_) (fun v hm u hm' => ?_) ?_
    · obtain ⟨q, hq, rfl⟩ := hv v hm
      obtain ⟨h1, as, h2⟩ := hp q hq
      refine ⟨h1, fun h' keep => ⟨as, PyProof.Rows.Reads.keeps (fun c o e => ?_) h2⟩⟩
      have z := k1 c o e
      exact keep c o (Nat.ne_of_lt (Heap.lt_size z)) (Heap.get?_push_of_some _ z)
    · obtain ⟨q, hq, rfl⟩ := hv v hm
      obtain ⟨r, hr, rfl⟩ := hv u hm'
      exact hl q hq r hr
    · show A.units + 1 + 1 + 62 < cLine
      omega
  · obtain ⟨c, hc⟩ := sortedHeap_at (vs := vs) (out := out.toArray) hoL
    refine wpAny_pure ⟨_, rfl, hQ _ s1.heap.objs.size out c (fun b u e => ?_) g1 o1 hz hc hs (hb.perm.trans pm)⟩
    have q := k1 b u e
    have hlt := Heap.lt_size q
    show (sortedHeap (s1.heap.push (seqObj "list" vs.toArray 0)) s1.heap.objs.size vs out.toArray).get? b = some u
    rw [sortedHeap_old (Nat.ne_of_lt hlt) (by rw [size_push']; exact Nat.lt_succ_of_lt hlt)]
    exact Heap.get?_push_of_some _ q
end

/-! ### the set as a thing of the abstract heap -/
def TsF (P : Program) (w : World) (h : Heap) (a : Addr) (L : List (Addr × List Key)) : Prop := ∃ hh es t, TSet (mixKind P w) hh a L es t ∧ hh.get? a = h.get? a
def TsO (P : Program) (w : World) (a : Addr) (L : List (Addr × List Key)) : HO := .ext fun h => TsF P w h a L
theorem tsO_new {P : Program} {w : World} {H : Hp} {h : Heap} {a : Addr} {L : List (Addr × List Key)} {es : Array (Int × Value)} {t : SetTable} (R : TSet (mixKind P w) h a L es t) : ObjOk P w H h a (TsO P w a L) := by
  obtain ⟨o, ep, ho, _⟩ := R.obj
  refine ⟨⟨h, es, t, R, rfl⟩, ⟨o, ho⟩, fun h1 h2 z k => ?_⟩
  obtain ⟨hh, es', t', R', e⟩ := z
  obtain ⟨o', ep', ho', _⟩ := R'.obj
  exact ⟨hh, es', t', R', ho'.trans (k o' (e.symm.trans ho')).symm⟩
theorem keyIts {P : Program} {w : World} : ∀ {k : List Key} {us : List Value}, Vals (k.map kV) us → ItemsAre (mixKind P w) k us
  | [], _, .nil => .nil
  | .inl i :: k, _, .cons r t => by
    obtain ⟨tk, rfl⟩ := r
    exact .cons (by first | rfl | exact beq_self_eq_true _ | simp [mixKind, keyIs]) (keyIts t)
  | .inr x :: k, _, .cons r t => by
    obtain ⟨tk, rfl⟩ := r
    exact .cons (by first | rfl | exact beq_self_eq_true _ | simp [mixKind, keyIs]) (keyIts t)
/-- the datum of a tuple key -/
def tD (k : List Key) : PyData := .tuple (k.map kD)
theorem keyDw {H : Hp} : ∀ k : List Key, DwAll H (k.map kV) (k.map kD)
  | [] => .nil
  | .inl i :: k => .cons (.int i) (keyDw k)
  | .inr x :: k => .cons (.str x) (keyDw k)
theorem tD_dw {H : Hp} {p : Addr × List Key} (h : H p.1 = some (.tup (p.2.map kV))) : Dw H (.ref p.1) (tD p.2) := .tup h (keyDw _)
section
variable {X : Cx}
theorem inv_key {pins : List (Addr × Obj)} {σ : L2.St} {H : Hp} {s : Shared} {p : Addr × List Key} (I : L2.Inv X pins σ H s) (h : H p.1 = some (.tup (p.2.map kV))) : IsTupleKey (mixKind X.prog X.w) s.heap p.2 p.1 := by
  obtain ⟨_, its, r, o, ho, hc, n, hd⟩ := I.hok _ _ h
  exact ⟨o, its.toArray, n, ho, hc, hd, by simpa using keyIts r⟩
/-- set(xs) -/
def rSetTs (K : PySem.W.Frag) (P : Program) (w : World) : List V → Hp → VK → Prop := fun xs H Q => ∃ (l : Addr) (ks : List (Addr × List Key)) (D : List (List Key)), xs = [V.ref l] ∧ SqL K H l (ks.map fun p => V.ref p.1) ∧
  (∀ p ∈ ks, H p.1 = some (.tup (p.2.map kV))) ∧ (∀ p ∈ ks, p.2 ∈ D) ∧ D.length < 64 ∧
  ∀ a L, H a = none → (∀ p ∈ L, p ∈ ks) → (∀ p ∈ ks, p.2 ∈ L.map (·.2)) → (L.map (·.2)).Nodup → Q (.ref a) (upd H a (TsO P w a L))
theorem refs_vals : ∀ {ks : List (Addr × List Key)} {us : List Value}, Vals (ks.map fun p => V.ref p.1) us → us = ks.map fun p => Value.ref p.1
  | [], _, .nil => rfl
  | p :: ks, _, .cons r t => by
    cases r
    rw [refs_vals t] <;> rfl
theorem cr_setTs (hc : X.calm = true) (hu : X.A.units + 64 < cLine) : CallR X (.type "set") (rSetTs X.K X.prog X.w) := by
  intro pins s σ H xs us Q I r h
  obtain ⟨l, ks, D, rfl, hl, hk, hD, hf, q⟩ := h
  rw [Vals.ref1 r]
  obtain ⟨its, rv, pl, hz⟩ := I.list hl
  have hn : H s.heap.objs.size = none := I.hok.fresh (Nat.le_refl _)
  refine ts_call (P := X.prog) (w := X.w) qt_mix ks D (I.ok.hd hc) pl.isList (by simpa using refs_vals rv) (fun p hp => inv_key I (hk p hp)) hD hf (by omega) fun h' tk L es t R g k => ?_
  refine ⟨.ref s.heap.objs.size, upd H s.heap.objs.size (TsO X.prog X.w s.heap.objs.size L), I.laid (t' := tk) k (Nat.le_refl _) (tsO_new R), rfl, q _ L hn g.sub (fun p hp => g.all p (by rw [List.take_length]; exact hp)) R.nd⟩
/-- sorted of it -/
def rSortTs (P : Program) (w : World) : List V → Hp → VK → Prop := fun vs H Q => ∃ (a : Addr) (L : List (Addr × List Key)), vs = [V.ref a] ∧ H a = some (TsO P w a L) ∧ (∀ p ∈ L, H p.1 = some (.tup (p.2.map kV))) ∧
  (∀ p ∈ L, Tt (tD p.2)) ∧ (∀ p ∈ L, ∀ r ∈ L, lik (tD p.2) (tD r.2) = true) ∧
  ∀ ys p, DwAll H ys (srtD (L.map fun q => tD q.2)) → H p = none → Q (.ref p) (upd H p (.lst ys))
theorem cr_sortTs (hc : X.calm = true) (hu : X.A.units + 64 < cLine) : CallR X (.builtin "sorted") (rSortTs X.prog X.w) := by
  intro pins s σ H vs us Q I r h
  obtain ⟨a, L, rfl, ha, hk, ht, hl, q⟩ := h
  obtain ⟨hh, es, t, R0, e0⟩ : TsF X.prog X.w s.heap a L := (I.hok a _ ha).1
  have R : TSet (mixKind X.prog X.w) s.heap a L es t := R0.keep (fun o e => e0.symm.trans e) fun p hp => inv_key I (hk p hp)
  rw [Vals.ref1 r]
  have hd : ∀ p ∈ L, dOf H (.ref p.1) = tD p.2 := fun p hp => dOf_eq (tD_dw (hk p hp))
  refine ts_sorted R (I.ok.hd hc) hu (k := fun v => dOf H (backV v)) (fun p hp => ?_) (fun p hp r hr => ?_) fun s' d out c k g o hz hg hs pm => ?_
  · show Tt (dOf H (.ref p.1)) ∧ ∃ as, Reads s.heap (.ref p.1) (dOf H (.ref p.1)) as
    rw [hd p hp]
    obtain ⟨as, z, _⟩ := Dw.reads I.hok (tD_dw (hk p hp)) (u := Value.ref p.1) rfl
    exact ⟨ht p hp, as, z⟩
  · show lik (dOf H (.ref p.1)) (dOf H (.ref r.1)) = true
    rw [hd p hp, hd r hr]
    exact hl p hp r hr
  · have h3 : ∀ u ∈ out, ∃ a, u = Value.ref a := fun u hu => by
      obtain ⟨q, _, e⟩ := List.mem_map.mp (pm.mem_iff.mp hu)
      exact ⟨_, e.symm⟩
    have pb : (out.map backV).Perm (L.map fun q => V.ref q.1) := by
      have z := pm.map backV
      rw [List.map_map] at z
      exact z
    have hd2 : DwAll H (out.map backV) (srtD (L.map fun q => tD q.2)) := by
      have z := dw_of (H := H) (vs := out.map backV) fun v m => by
        obtain ⟨q, hq, e⟩ := List.mem_map.mp (pb.mem_iff.mp m)
        rw [← e]
        exact ⟨_, tD_dw (hk q hq)⟩
      have p2 : ((out.map backV).map (dOf H)).Perm (L.map fun q => tD q.2) := by
        have z := pb.map (dOf H)
        rw [List.map_map (l := L)] at z
        rw [show L.map (fun q => tD q.2) = L.map (dOf H ∘ fun q => V.ref q.1) from List.map_congr_left fun q hq => (hd q hq).symm]
        exact z
      have e : (out.map backV).map (dOf H) = srtD (L.map fun q => tD q.2) := by
        refine srt_uniq ?_ (srt_srt _) (p2.trans (srt_perm _).symm) fun x hx y hy => ?_
        · rw [List.map_map]
          exact List.pairwise_map.mpr hs
        · obtain ⟨p, hp, rfl⟩ := List.mem_map.mp (p2.mem_iff.mp hx)
          obtain ⟨r, hr, rfl⟩ := List.mem_map.mp (p2.mem_iff.mp hy)
          exact hl p hp r hr
      rw [e] at z
      exact z
    have hlen : (out.map backV).length ≤ sizeLine := by
      rw [pb.length_eq, List.length_map, sizeLine_eq]
      have := R.few
      omega
    have hn : H d = none := I.hok.fresh hz
    have J : L2.Inv X pins σ (upd H d (.lst (out.map backV))) { s with heap := s'.heap, gens := s'.gens, drawn := s'.drawn, toks := s'.toks } :=
      I.call (ch := []) (Un.laid k hz hn) (I.hok.laid k hz ⟨hlen, out, c, vals_back h3, hg⟩) (by rw [g]; exact I.bare) (fun _ z => nomatch z)
    have e : s' = { s with heap := s'.heap, gens := s'.gens, drawn := s'.drawn, toks := s'.toks } := by
      cases s'
      cases s
      cases o
      rfl
    rw [e]
    exact ⟨.ref d, _, J, rfl, q _ d hd2 hn⟩
end
end K40
set_option maxHeartbeats 8000000
namespace K40
open PySem PySem.Spec PyProof.Rows L2
open PySem.W (dataLt)

/-! ### terms as data -/
def words : List Str := ["sum", "greatest", "least"]
/-- the parts of a term over the word w, else the term -/
def prt (w : Str) (t : PyData) : List PyData := match t with
  | .tuple [.str h, .tuple ps] => if h = w then ps else [t]
  | _ => [t]
def flt (w : Str) (ts : List PyData) : List PyData := ts.flatMap (prt w)
def ddA : PyData → List PyData → List PyData
  | _, [] => []
  | p, x :: r => if PyData.eqv p x = true then ddA x r else x :: ddA x r
def ddp : List PyData → List PyData
  | [] => []
  | x :: r => x :: ddA x r
def inn (w : Str) (ts : List PyData) : List PyData := if w = "sum" then srtD (flt w ts) else ddp (srtD (flt w ts))
def oneOr (w : Str) : List PyData → PyData
  | [x] => x
  | l => .tuple [.str w, .tuple l]
def putD (w : Str) (ts : List PyData) : PyData := oneOr w (inn w ts)
def inF : List PyData → Bool
  | [.str h, .str s, .int i] => decide (h = "in") && (isNm s && decide (0 ≤ i))
  | _ => false
def frm : List PyData → Bool
  | [.str h, .str s, .tuple ts] => decide (h = "let") && (isNm s && (decide (1 ≤ ts.length) && decide (ts.length ≤ 3)))
  | [.str h, .tuple ts] => decide (h ∈ words) && (decide (1 < ts.length) && PyData.eqv (putD h ts) (.tuple [.str h, .tuple ts]))
  | _ => false
mutual
def isT : PyData → Bool
  | .tuple xs => inF xs || (lastT xs && frm xs)
  | _ => false
def lastT : List PyData → Bool
  | [] => false
  | [.tuple ts] => allT ts
  | [_] => false
  | _ :: y :: r => lastT (y :: r)
def allT : List PyData → Bool
  | [] => true
  | x :: r => isT x && allT r
end
theorem allT_iff : ∀ ts : List PyData, allT ts = true ↔ ∀ t ∈ ts, isT t = true
  | [] => by simp [allT]
  | x :: r => by
    rw [allT, Bool.and_eq_true, allT_iff r]
    simp
theorem isT_in {s : Str} {i : Int} (h1 : isNm s = true) (h2 : 0 ≤ i) : isT (.tuple [.str "in", .str s, .int i]) = true := by
  simp [isT, inF, h1, h2]
theorem isT_let {s : Str} {ts : List PyData} (h1 : isNm s = true) (h2 : 1 ≤ ts.length) (h3 : ts.length ≤ 3) (h4 : ∀ t ∈ ts, isT t = true) : isT (.tuple [.str "let", .str s, .tuple ts]) = true := by
  have h5 := (allT_iff ts).mpr h4
  simp [isT, inF, lastT, frm, h1, h2, h3, h5]
theorem isT_word {h : Str} {ts : List PyData} (h1 : h ∈ words) (h2 : 1 < ts.length) (h3 : ∀ t ∈ ts, isT t = true) (h4 : PyData.eqv (putD h ts) (.tuple [.str h, .tuple ts]) = true) : isT (.tuple [.str h, .tuple ts]) = true := by
  have h5 := (allT_iff ts).mpr h3
  simp [isT, inF, lastT, frm, h1, h2, h4, h5]
/-- the three kinds -/
inductive Knd : PyData → Prop
  | rd {s : Str} {i : Int} : isNm s = true → 0 ≤ i → Knd (.tuple [.str "in", .str s, .int i])
  | lt {s : Str} {ts : List PyData} : isNm s = true → 1 ≤ ts.length → ts.length ≤ 3 → (∀ t ∈ ts, isT t = true) → Knd (.tuple [.str "let", .str s, .tuple ts])
  | wd {h : Str} {ts : List PyData} : h ∈ words → 1 < ts.length → (∀ t ∈ ts, isT t = true) → PyData.eqv (putD h ts) (.tuple [.str h, .tuple ts]) = true → Knd (.tuple [.str h, .tuple ts])
theorem knd : ∀ {d : PyData}, isT d = true → Knd d := by
  intro d h
  cases d with
  | tuple xs =>
    rw [isT, Bool.or_eq_true, Bool.and_eq_true] at h
    rcases h with h | ⟨h1, h2⟩
    · unfold inF at h
      split at h
      · simp only [Bool.and_eq_true, decide_eq_true_eq] at h
        obtain ⟨rfl, h2, h3⟩ := h
        exact .rd h2 h3
      · exact nomatch h
    · unfold frm at h2
      split at h2
      · simp only [Bool.and_eq_true, decide_eq_true_eq] at h2
        obtain ⟨rfl, h3, h4, h5⟩ := h2
        exact .lt h3 h4 h5 ((allT_iff _).mp (by simpa [lastT] using h1))
      · simp only [Bool.and_eq_true, decide_eq_true_eq] at h2
        obtain ⟨h3, h4, h5⟩ := h2
        exact .wd h3 h4 ((allT_iff _).mp (by simpa [lastT] using h1)) h5
      · exact nomatch h2
  | _ => simp [isT] at h
theorem tInd {M : PyData → Prop} (hin : ∀ s i, isNm s = true → 0 ≤ i → M (.tuple [.str "in", .str s, .int i]))
    (hlet : ∀ s ts, isNm s = true → 1 ≤ ts.length → ts.length ≤ 3 → (∀ t ∈ ts, isT t = true) → (∀ t ∈ ts, M t) → M (.tuple [.str "let", .str s, .tuple ts]))
    (hw : ∀ h ts, h ∈ words → 1 < ts.length → (∀ t ∈ ts, isT t = true) → PyData.eqv (putD h ts) (.tuple [.str h, .tuple ts]) = true → (∀ t ∈ ts, M t) → M (.tuple [.str h, .tuple ts])) :
    ∀ (n : Nat) (d : PyData), sizeOf d < n → isT d = true → M d := by
  intro n
  induction n with
  | zero => exact fun d h => absurd h (Nat.not_lt_zero _)
  | succ n ih =>
    intro d hd h
    cases knd h with
    | rd h1 h2 => exact hin _ _ h1 h2
    | @lt s ts h1 h2 h3 h4 =>
      refine hlet _ _ h1 h2 h3 h4 fun t ht => ih t ?_ (h4 t ht)
      have := List.sizeOf_lt_of_mem ht
      simp only [PyData.tuple.sizeOf_spec, List.cons.sizeOf_spec] at hd
      omega
    | @wd w ts h1 h2 h3 h4 =>
      refine hw _ _ h1 h2 h3 h4 fun t ht => ih t ?_ (h3 t ht)
      have := List.sizeOf_lt_of_mem ht
      simp only [PyData.tuple.sizeOf_spec, List.cons.sizeOf_spec] at hd
      omega
theorem liks_of : ∀ {xs ys : List PyData}, (∀ x ∈ xs, ∀ y ∈ ys, lik x y = true) → liks xs ys = true
  | [], _, _ => by simp [liks]
  | _ :: _, [], _ => by simp [liks]
  | x :: xs, y :: ys, h => liks_mk (h x List.mem_cons_self y List.mem_cons_self) fun _ => liks_of fun u hu v hv => h u (List.mem_cons_of_mem _ hu) v (List.mem_cons_of_mem _ hv)
theorem lik_str (a b : Str) : lik (.str a) (.str b) = true := by simp [lik]
theorem eqv_str {a b : Str} (h : PyData.eqv (.str a) (.str b) = true) : a = b := by simpa [PyData.eqv] using h
theorem word_ne {h : Str} (hw : h ∈ words) : h ≠ "in" ∧ h ≠ "let" := by
  refine ⟨fun e => ?_, fun e => ?_⟩ <;> (subst e; revert hw; decide)
theorem lik_tup {xs ys : List PyData} (h : liks xs ys = true) : lik (.tuple xs) (.tuple ys) = true := by simpa [lik] using h
theorem liks_nil {ys : List PyData} : liks [] ys = true := by simp [liks]
theorem lik_T {d e : PyData} (hd : isT d = true) (he : isT e = true) : lik d e = true := by
  refine tInd (M := fun d => ∀ e, isT e = true → lik d e = true) (fun s i _ _ e he => ?_) (fun s ts _ _ _ _ ih e he => ?_) (fun h ts hw _ _ _ ih e he => ?_) _ d (Nat.lt_succ_self _) hd e he
  · cases knd he with
    | rd _ _ => exact lik_tup (liks_mk (lik_str _ _) fun _ => liks_mk (lik_str _ _) fun _ => liks_mk (by simp [lik]) fun _ => liks_nil)
    | lt _ _ _ _ => exact lik_tup (liks_mk (lik_str _ _) fun q => absurd (eqv_str q) (by decide))
    | wd hw _ _ _ => exact lik_tup (liks_mk (lik_str _ _) fun q => absurd (eqv_str q).symm (word_ne hw).1)
  · cases knd he with
    | rd _ _ => exact lik_tup (liks_mk (lik_str _ _) fun q => absurd (eqv_str q) (by decide))
    | lt _ _ _ h4 => exact lik_tup (liks_mk (lik_str _ _) fun _ => liks_mk (lik_str _ _) fun _ => liks_mk (lik_tup (liks_of fun x hx y hy => ih x hx y (h4 y hy))) fun _ => liks_nil)
    | wd hw _ _ _ => exact lik_tup (liks_mk (lik_str _ _) fun q => absurd (eqv_str q).symm (word_ne hw).2)
  · cases knd he with
    | rd _ _ => exact lik_tup (liks_mk (lik_str _ _) fun q => absurd (eqv_str q) (word_ne hw).1)
    | lt _ _ _ _ => exact lik_tup (liks_mk (lik_str _ _) fun q => absurd (eqv_str q) (word_ne hw).2)
    | wd _ _ h4 _ => exact lik_tup (liks_mk (lik_str _ _) fun _ => liks_mk (lik_tup (liks_of fun x hx y hy => ih x hx y (h4 y hy))) fun _ => liks_nil)
end K40
set_option maxHeartbeats 8000000
namespace K40
open PySem PySem.Spec PyProof.Rows L2
open PySem.W (dataLt)

/-! ### terms put together -/
theorem abc_ok : abc.cps.toList.all (· < 0x110000) = true := by decide +kernel
theorem nm_ok {s : Str} (h : isNm s = true) : PyData.strOk s = true := by
  unfold isNm at h
  simp only [Bool.and_eq_true] at h
  unfold PyData.strOk
  rw [← Array.all_toList]
  refine List.all_eq_true.mpr fun c hc => ?_
  have z := List.all_eq_true.mp h.2.2 c hc
  exact List.all_eq_true.mp abc_ok c (of_decide_eq_true z)
theorem lays_of {ts : List PyData} (h : ∀ t ∈ ts, t.canLay0 = true) : PyData.canLayAll0 ts = true := by
  induction ts with
  | nil => simp [PyData.canLayAll0]
  | cons t r ih =>
    rw [PyData.canLayAll0, h t List.mem_cons_self, ih fun u hu => h u (List.mem_cons_of_mem _ hu)] <;> rfl
theorem word_ok {h : Str} (hw : h ∈ words) : PyData.strOk h = true := by
  have z : words.all PyData.strOk = true := by decide +kernel
  exact List.all_eq_true.mp z h hw
theorem lay_T {d : PyData} (hd : isT d = true) : d.canLay0 = true := by
  refine tInd (M := fun d => d.canLay0 = true) (fun s i h1 _ => ?_) (fun s ts h1 _ _ _ ih => ?_) (fun h ts hw _ _ _ ih => ?_) _ d (Nat.lt_succ_self _) hd
  · simp [PyData.canLay0, PyData.canLayAll0, nm_ok h1, show PyData.strOk (Str.ofString "in") = true by decide +kernel]
  · simp [PyData.canLay0, PyData.canLayAll0, nm_ok h1, lays_of ih, show PyData.strOk (Str.ofString "let") = true by decide +kernel]
  · simp [PyData.canLay0, PyData.canLayAll0, word_ok hw, lays_of ih]
theorem eqv_T {d e : PyData} (hd : isT d = true) (he : isT e = true) : PyData.eqv d e = true ↔ d = e := by
  refine ⟨lik_eq d e (lik_T hd he), fun q => ?_⟩
  subst q
  exact SeqAt.eqv_refl d (lay_T hd)
abbrev AllT (ts : List PyData) : Prop := ∀ t ∈ ts, isT t = true
theorem AllT.lik {ts : List PyData} (h : AllT ts) : ∀ x ∈ ts, ∀ y ∈ ts, lik x y = true := fun x hx y hy => lik_T (h x hx) (h y hy)
theorem AllT.tail {t : PyData} {ts : List PyData} (h : AllT (t :: ts)) : AllT ts := fun u hu => h u (List.mem_cons_of_mem _ hu)
theorem AllT.srt {ts : List PyData} (h : AllT ts) : AllT (srtD ts) := fun t ht => h t (mem_srt.mp ht)

/-! doubles dropped -/
theorem ddA_sub : ∀ (p : PyData) (l : List PyData), (ddA p l).Sublist l
  | _, [] => List.Sublist.refl _
  | p, x :: r => by
    unfold ddA
    split
    · exact (ddA_sub x r).cons x
    · exact (ddA_sub x r).cons₂ x
theorem ddp_sub : ∀ l : List PyData, (ddp l).Sublist l
  | [] => List.Sublist.refl _
  | x :: r => (ddA_sub x r).cons₂ x
theorem ddA_mem : ∀ {p : PyData} {l : List PyData}, AllT (p :: l) → ∀ x ∈ l, x = p ∨ x ∈ ddA p l
  | _, [], _, x, hx => nomatch hx
  | p, y :: r, h, x, hx => by
    have hp := h p List.mem_cons_self
    have hy := h y (List.mem_cons_of_mem _ List.mem_cons_self)
    unfold ddA
    split
    · rename_i e
      have e' := (eqv_T hp hy).mp e
      subst e'
      rcases List.mem_cons.mp hx with rfl | hx
      · exact .inl rfl
      · exact ddA_mem h.tail x hx
    · rcases List.mem_cons.mp hx with rfl | hx
      · exact .inr List.mem_cons_self
      · rcases ddA_mem h.tail x hx with rfl | hx
        · exact .inr List.mem_cons_self
        · exact .inr (List.mem_cons_of_mem _ hx)
theorem ddp_mem {l : List PyData} (h : AllT l) {x : PyData} : x ∈ ddp l ↔ x ∈ l := by
  refine ⟨fun hx => (ddp_sub l).subset hx, fun hx => ?_⟩
  cases l with
  | nil => exact nomatch hx
  | cons y r =>
    rcases List.mem_cons.mp hx with rfl | hx
    · exact List.mem_cons_self
    · rcases ddA_mem h x hx with rfl | hx
      · exact List.mem_cons_self
      · exact List.mem_cons_of_mem _ hx
theorem ddA_nd : ∀ {p : PyData} {l : List PyData}, AllT (p :: l) → SrD (p :: l) → p ∉ ddA p l ∧ (ddA p l).Nodup
  | _, [], _, _ => ⟨(fun h => nomatch h), List.nodup_nil⟩
  | p, x :: r, h, s => by
    have hp := h p List.mem_cons_self
    have hx := h x (List.mem_cons_of_mem _ List.mem_cons_self)
    obtain ⟨s1, s2⟩ := List.pairwise_cons.mp s
    obtain ⟨i1, i2⟩ := ddA_nd h.tail s2
    unfold ddA
    split
    · rename_i e
      have e' := (eqv_T hp hx).mp e
      subst e'
      exact ⟨i1, i2⟩
    · rename_i e
      have ne : p ≠ x := fun q => e ((eqv_T hp hx).mpr q)
      refine ⟨fun z => ?_, List.nodup_cons.mpr ⟨i1, i2⟩⟩
      rcases List.mem_cons.mp z with z | z
      · exact ne z
      · have zr := (ddA_sub x r).subset z
        exact ne (lt_total (lik_T hp hx) ((List.pairwise_cons.mp s2).1 p zr) (s1 x List.mem_cons_self))
theorem ddp_nd {l : List PyData} (h : AllT l) (s : SrD l) : (ddp l).Nodup := by
  cases l with
  | nil => exact List.nodup_nil
  | cons x r => exact List.nodup_cons.mpr (ddA_nd h s)
theorem ddA_id : ∀ {p : PyData} {l : List PyData}, AllT (p :: l) → (p :: l).Nodup → ddA p l = l
  | _, [], _, _ => rfl
  | p, x :: r, h, n => by
    have hp := h p List.mem_cons_self
    have hx := h x (List.mem_cons_of_mem _ List.mem_cons_self)
    obtain ⟨n1, n2⟩ := List.nodup_cons.mp n
    have e : ¬ PyData.eqv p x = true := fun q => n1 (by rw [(eqv_T hp hx).mp q]; exact List.mem_cons_self)
    unfold ddA
    rw [if_neg e, ddA_id h.tail n2]
theorem ddp_id {l : List PyData} (h : AllT l) (n : l.Nodup) : ddp l = l := by
  cases l with
  | nil => rfl
  | cons x r =>
    show x :: ddA x r = x :: r
    rw [ddA_id h n]
theorem dd_uniq {a b : List PyData} (ha : AllT a) (hb : AllT b) (h : ∀ x, x ∈ a ↔ x ∈ b) : ddp (srtD a) = ddp (srtD b) := by
  have pa : SrD (ddp (srtD a)) := List.Pairwise.sublist (ddp_sub _) (srt_srt a)
  have pb : SrD (ddp (srtD b)) := List.Pairwise.sublist (ddp_sub _) (srt_srt b)
  have pm : (ddp (srtD a)).Perm (ddp (srtD b)) := (List.perm_ext_iff_of_nodup (ddp_nd ha.srt (srt_srt a)) (ddp_nd hb.srt (srt_srt b))).mpr fun x => by
    rw [ddp_mem ha.srt, ddp_mem hb.srt, mem_srt, mem_srt]
    exact h x
  exact srt_uniq pa pb pm fun x hx y hy => lik_T (ha.srt x ((ddp_sub _).subset hx)) (ha.srt y ((ddp_sub _).subset hy))

/-! parts -/
def Hw (w : Str) (t : PyData) : Prop := ∃ ps, t = .tuple [.str w, .tuple ps]
theorem prt_w (w : Str) (ps : List PyData) : prt w (.tuple [.str w, .tuple ps]) = ps := if_pos rfl
theorem prt_o {w : Str} {t : PyData} (h : ¬ Hw w t) : prt w t = [t] := by
  unfold prt
  split
  · rename_i x ps
    exact if_neg fun e => h ⟨ps, by rw [e]⟩
  · rfl
theorem mem_flt {w : Str} {ts : List PyData} {x : PyData} : x ∈ flt w ts ↔ ∃ t ∈ ts, x ∈ prt w t := List.mem_flatMap
theorem hw_em (w : Str) (t : PyData) : Hw w t ∨ ¬ Hw w t := Classical.em _
theorem isT_parts {w : Str} {ps : List PyData} (hw : w ∈ words) (h : isT (.tuple [.str w, .tuple ps]) = true) : 1 < ps.length ∧ AllT ps ∧ PyData.eqv (putD w ps) (.tuple [.str w, .tuple ps]) = true := by
  generalize e : PyData.tuple [.str w, .tuple ps] = d at h
  cases knd h with
  | rd _ _ => cases e
  | lt _ _ _ _ => cases e
  | wd h1 h2 h3 h4 =>
    cases e
    exact ⟨h2, h3, h4⟩
theorem size_part {w : Str} {ps : List PyData} {x : PyData} (h : x ∈ ps) : sizeOf x < sizeOf (PyData.tuple [.str w, .tuple ps]) := by
  have := List.sizeOf_lt_of_mem h
  simp only [PyData.tuple.sizeOf_spec, List.cons.sizeOf_spec]
  omega
theorem flt_T {w : Str} (hw : w ∈ words) {ts : List PyData} (h : AllT ts) : AllT (flt w ts) := fun x hx => by
  obtain ⟨t, ht, hx⟩ := mem_flt.mp hx
  rcases hw_em w t with ⟨ps, rfl⟩ | n
  · rw [prt_w] at hx
    exact (isT_parts hw (h _ ht)).2.1 x hx
  · rw [prt_o n] at hx
    rw [List.mem_singleton.mp hx]
    exact h t ht
theorem inn_sub (w : Str) (ts : List PyData) {x : PyData} (hx : x ∈ inn w ts) : x ∈ flt w ts := by
  unfold inn at hx
  split at hx
  · exact mem_srt.mp hx
  · exact mem_srt.mp ((ddp_sub _).subset hx)
theorem inn_mem {w : Str} (hw : w ∈ words) {ts : List PyData} (h : AllT ts) {x : PyData} : x ∈ inn w ts ↔ x ∈ flt w ts := by
  refine ⟨inn_sub w ts, fun hx => ?_⟩
  unfold inn
  split
  · exact mem_srt.mpr hx
  · exact (ddp_mem (flt_T hw h).srt).mpr (mem_srt.mpr hx)
theorem inn_T {w : Str} (hw : w ∈ words) {ts : List PyData} (h : AllT ts) : AllT (inn w ts) := fun x hx => flt_T hw h x (inn_sub w ts hx)
theorem oneOr_ne {w : Str} {l : List PyData} (h : ∀ x, l ≠ [x]) : oneOr w l = .tuple [.str w, .tuple l] := by
  unfold oneOr
  split
  · rename_i x
    exact absurd rfl (h x)
  · rfl
/-- what a word's term is made of -/
theorem made {w : Str} {ps : List PyData} (hw : w ∈ words) (h : isT (.tuple [.str w, .tuple ps]) = true) : 1 < ps.length ∧ AllT ps ∧ inn w ps = ps ∧ ∀ p ∈ ps, ¬ Hw w p := by
  obtain ⟨h1, h2, h3⟩ := isT_parts hw h
  have hi := inn_T hw h2
  have e : inn w ps = ps := by
    rcases Classical.em (∃ x, inn w ps = [x]) with ⟨x, hx⟩ | n
    · exfalso
      have mx : x ∈ inn w ps := by rw [hx]; exact List.mem_singleton_self x
      have ex : putD w ps = x := by
        unfold putD
        rw [hx] <;> rfl
      rw [ex] at h3
      have q := (eqv_T (hi x mx) h).mp h3
      obtain ⟨t, ht, hxt⟩ := mem_flt.mp (inn_sub w ps mx)
      have st := size_part (w := w) ht
      rcases hw_em w t with ⟨qs, rfl⟩ | n
      · rw [prt_w] at hxt
        have z := size_part (w := w) hxt
        rw [q] at z
        omega
      · rw [prt_o n] at hxt
        rw [← List.mem_singleton.mp hxt, q] at st
        omega
    · have ex : putD w ps = .tuple [.str w, .tuple (inn w ps)] := oneOr_ne fun x e => n ⟨x, e⟩
      rw [ex] at h3
      have h4 : PyData.eqvAll (inn w ps) ps = true := by
        simpa [PyData.eqv, PyData.eqvAll] using h3
      exact liks_eq _ _ (liks_of fun x hx y hy => lik_T (hi x hx) (h2 y hy)) h4
  refine ⟨h1, h2, e, fun p hp hh => ?_⟩
  have up : ∀ k : Nat, ∃ p ∈ ps, Hw w p ∧ k ≤ sizeOf p := by
    intro k
    induction k with
    | zero => exact ⟨p, hp, hh, Nat.zero_le _⟩
    | succ k ih =>
      obtain ⟨q, hq, hhq, hk⟩ := ih
      have mq : q ∈ inn w ps := by rw [e]; exact hq
      obtain ⟨t, ht, hqt⟩ := mem_flt.mp (inn_sub w ps mq)
      rcases hw_em w t with ⟨qs, rfl⟩ | n
      · rw [prt_w] at hqt
        have z := size_part (w := w) hqt
        exact ⟨_, ht, ⟨qs, rfl⟩, by omega⟩
      · rw [prt_o n] at hqt
        rw [List.mem_singleton.mp hqt] at hhq
        exact absurd hhq n
  obtain ⟨q, hq, _, hk⟩ := up (sizeOf ps)
  have := List.sizeOf_lt_of_mem hq
  omega
theorem flt_no {w : Str} (hw : w ∈ words) {ts : List PyData} (h : AllT ts) : ∀ x ∈ flt w ts, ¬ Hw w x := fun x hx => by
  obtain ⟨t, ht, hx⟩ := mem_flt.mp hx
  rcases hw_em w t with ⟨ps, rfl⟩ | n
  · rw [prt_w] at hx
    exact (made hw (h _ ht)).2.2.2 x hx
  · rw [prt_o n] at hx
    rw [List.mem_singleton.mp hx]
    exact n
theorem flt_id {w : Str} : ∀ {l : List PyData}, (∀ x ∈ l, ¬ Hw w x) → flt w l = l
  | [], _ => rfl
  | x :: r, h => by
    show prt w x ++ flt w r = x :: r
    rw [prt_o (h x List.mem_cons_self), flt_id fun y hy => h y (List.mem_cons_of_mem _ hy)] <;> rfl
theorem inn_no {w : Str} (hw : w ∈ words) {ts : List PyData} (h : AllT ts) : ∀ x ∈ inn w ts, ¬ Hw w x := fun x hx => flt_no hw h x (inn_sub w ts hx)
theorem inn_flt {w : Str} (hw : w ∈ words) {ts : List PyData} (h : AllT ts) {us : List PyData} (e : flt w us = inn w ts) : inn w us = inn w ts := by
  have hi := inn_T hw h
  show (if w = "sum" then srtD (flt w us) else ddp (srtD (flt w us))) = inn w ts
  rw [e]
  by_cases q : w = "sum"
  · rw [if_pos q]
    have z : inn w ts = srtD (flt w ts) := if_pos q
    rw [z] at hi ⊢
    exact srt_id (srt_srt _) hi.lik
  · rw [if_neg q]
    have z : inn w ts = ddp (srtD (flt w ts)) := if_neg q
    rw [z] at hi ⊢
    rw [srt_id (List.Pairwise.sublist (ddp_sub _) (srt_srt _)) hi.lik]
    exact ddp_id hi (ddp_nd (flt_T hw h).srt (srt_srt _))
theorem inn_inn {w : Str} (hw : w ∈ words) {ts : List PyData} (h : AllT ts) : inn w (inn w ts) = inn w ts := inn_flt hw h (flt_id (inn_no hw h))
theorem inn_ne {w : Str} (hw : w ∈ words) {ts : List PyData} (h : AllT ts) (n : ts ≠ []) : inn w ts ≠ [] := fun e => by
  cases ts with
  | nil => exact n rfl
  | cons t r =>
    have : ∃ x, x ∈ prt w t := by
      rcases hw_em w t with ⟨ps, rfl⟩ | n
      · rw [prt_w]
        have := (made hw (h _ List.mem_cons_self)).1
        cases ps with
        | nil => simp at this
        | cons p q => exact ⟨p, List.mem_cons_self⟩
      · rw [prt_o n]
        exact ⟨t, List.mem_singleton_self t⟩
    obtain ⟨x, hx⟩ := this
    have z := (inn_mem hw h).mpr (mem_flt.mpr ⟨t, List.mem_cons_self, hx⟩)
    rw [e] at z
    exact nomatch z
/-- terms put together are a term -/
theorem put_T {w : Str} (hw : w ∈ words) {ts : List PyData} (h : AllT ts) (n : ts ≠ []) : isT (putD w ts) = true := by
  have hi := inn_T hw h
  have hn := inn_ne hw h n
  rcases Classical.em (∃ x, inn w ts = [x]) with ⟨x, hx⟩ | m
  · have ex : putD w ts = x := by
      unfold putD
      rw [hx] <;> rfl
    rw [ex]
    exact hi x (by rw [hx]; exact List.mem_singleton_self x)
  · have ex : ∀ us, inn w us = inn w ts → putD w us = .tuple [.str w, .tuple (inn w ts)] := fun us e => by
      unfold putD
      rw [e]
      exact oneOr_ne fun x e => m ⟨x, e⟩
    rw [ex ts rfl]
    have hl : 1 < (inn w ts).length := by
      cases hh : inn w ts with
      | nil => exact absurd hh hn
      | cons x r =>
        cases r with
        | nil => exact absurd ⟨x, hh⟩ m
        | cons y r => simp
    refine isT_word hw hl hi ?_
    rw [ex _ (inn_inn hw h)]
    refine SeqAt.eqv_refl _ ?_
    simp [PyData.canLay0, PyData.canLayAll0, word_ok hw, lays_of fun t ht => lay_T (hi t ht)]
theorem prt_put {w : Str} (hw : w ∈ words) {ts : List PyData} (h : AllT ts) : prt w (putD w ts) = inn w ts := by
  rcases Classical.em (∃ x, inn w ts = [x]) with ⟨x, hx⟩ | m
  · have ex : putD w ts = x := by
      unfold putD
      rw [hx] <;> rfl
    rw [ex, hx]
    exact prt_o (inn_no hw h x (by rw [hx]; exact List.mem_singleton_self x))
  · rw [show putD w ts = .tuple [.str w, .tuple (inn w ts)] from oneOr_ne fun x e => m ⟨x, e⟩, prt_w]
theorem put_same {w : Str} (hw : w ∈ words) {a b : List PyData} (ha : AllT a) (hb : AllT b) (p : w = "sum" → (flt w a).Perm (flt w b)) (m : ∀ x, x ∈ flt w a ↔ x ∈ flt w b) : inn w a = inn w b := by
  unfold inn
  by_cases q : w = "sum"
  · rw [if_pos q, if_pos q]
    exact srt_of (p q) (flt_T hw ha).lik
  · rw [if_neg q, if_neg q]
    exact dd_uniq (flt_T hw ha) (flt_T hw hb) m
theorem put_perm {w : Str} (hw : w ∈ words) {a b : List PyData} (ha : AllT a) (p : a.Perm b) : putD w a = putD w b := by
  have hb : AllT b := fun t ht => ha t (p.mem_iff.mpr ht)
  unfold putD
  rw [put_same hw ha hb (fun _ => p.flatMap_right (prt w)) fun x => ?_]
  rw [mem_flt, mem_flt]
  exact ⟨fun ⟨t, h1, h2⟩ => ⟨t, p.mem_iff.mp h1, h2⟩, fun ⟨t, h1, h2⟩ => ⟨t, p.mem_iff.mpr h1, h2⟩⟩
theorem put_one {w : Str} (hw : w ∈ words) {ts : List PyData} (h : AllT ts) : putD w [putD w ts] = putD w ts := by
  show oneOr w (inn w [putD w ts]) = oneOr w (inn w ts)
  rw [inn_flt hw h (us := [putD w ts]) (show prt w (putD w ts) ++ [] = inn w ts by rw [List.append_nil, prt_put hw h])]
theorem inn_perm {w : Str} (hs : w = "sum") (ts : List PyData) : (inn w ts).Perm (flt w ts) := by
  unfold inn
  rw [if_pos hs]
  exact srt_perm _
/-- the parts put together, then these -/
theorem put_two {w : Str} (hw : w ∈ words) {a b : List PyData} (ha : AllT a) (hb : AllT b) (na : a ≠ []) (nb : b ≠ []) : putD w [putD w a, putD w b] = putD w (a ++ b) := by
  have hab : AllT (a ++ b) := fun t ht => (List.mem_append.mp ht).elim (ha t) (hb t)
  have hp : AllT [putD w a, putD w b] := fun t ht => by
    rcases List.mem_cons.mp ht with rfl | ht
    · exact put_T hw ha na
    · rw [List.mem_singleton.mp ht]
      exact put_T hw hb nb
  have e1 : flt w [putD w a, putD w b] = inn w a ++ inn w b := by
    show prt w (putD w a) ++ (prt w (putD w b) ++ []) = _
    rw [List.append_nil, prt_put hw ha, prt_put hw hb]
  have e2 : flt w (a ++ b) = flt w a ++ flt w b := List.flatMap_append
  show oneOr w (inn w [putD w a, putD w b]) = oneOr w (inn w (a ++ b))
  rw [put_same hw hp hab (fun q => ?_) fun x => ?_]
  · rw [e1, e2]
    exact (inn_perm q a).append (inn_perm q b)
  · rw [e1, e2, List.mem_append, List.mem_append, inn_mem hw ha, inn_mem hw hb]
end K40
set_option maxHeartbeats 8000000
namespace K40
open PySem
open PySem.AutoSeq1 (wpAny_loadPart')
open PySem.MeetsSeq PySem.MeetsSeq2 PySem.MeetsSeq3
/-- l.extend(t), t a tuple -/
theorem ext_tup (l : Addr) (items : Array Value) (n : Nat) (b : Addr) (items2 : Array Value) (n2 : Nat) (dd : Option Addr) (sl : Array (Option Value)) (hs0 : ¬(!items.isEmpty && Builtin.List.listTooLong (items.size + items2.size)) = true) (hs1 : items.size ≤ sizeLine) (hs2 : items.size + items2.size ≤ sizeLine + 1) :
    Meets (Builtin.«list.extend» ⟨[.ref l, .ref b], []⟩) (fun _ R s => s.heap.get? l = some { cls := .type "list", dict := none, data := .seq items n, slots := #[] } ∧ s.heap.get? b = some { cls := .type "tuple", dict := dd, data := .seq items2 n2, slots := sl } ∧
      R (.ok (.ret Value.none)) { s with heap := s.heap.update l (Obj.mapSeq fun x => x ++ items2), toks := s.toks }) :=
  .of_wp fun prog w A R s h => by
    obtain ⟨hp, g, d, tk, os⟩ := s
    obtain ⟨hl, hb, h⟩ := h
    have f1 := AutoSeq1.idx_int
    have f2 := AutoSeq1.sub_tuple_tuple
    have f3 := AutoSeq1.sub_list_list
    have f4 := AutoSeq1.sub_tuple_list
    have f5 := AutoSeq1.sub_list_tuple
    have hz' : (items ++ items2).size ≤ sizeLine + 1 := by rw [Array.size_append]; exact hs2
    wp_walk using (wpAny_updateSeq hl rfl (hz := hs1) (_hz' := hz')), wpAny_loadPart' hl, wpAny_loadPart' hb
    exact ⟨_, rfl, h⟩
end K40
namespace K40
open PySem PySem.Spec PyProof.Rows L2
section
variable {X : Cx}
def rExtT : V → List V → Hp → VK → Prop := fun x vs H Q => ∃ l b xs zs, x = .ref l ∧ vs = [.ref b] ∧ H l = some (.lst xs) ∧ H b = some (.tup zs) ∧ xs.length + zs.length ≤ sizeLine ∧ Q .non (upd H l (.lst (xs ++ zs)))
theorem mt_extT : MtM X "list.extend" rExtT := by
  intro pins s σ H x vs v us Q I rx rv h
  obtain ⟨l, b, xs, zs, rfl, rfl, hH, hB, hz, q⟩ := h
  cases rx
  obtain ⟨u, rfl, ru⟩ := rv.one
  cases ru
  obtain ⟨z, its, n, r, hl, e⟩ := I.lstM hH
  obtain ⟨_, its2, r2, ⟨oc, od, dt, sl⟩, e2, hc, n2, hd⟩ := I.hok _ _ hB
  simp only at hc hd
  subst hc hd
  have hl2 := r2.length
  have hsz : its.toArray.size + its2.toArray.size ≤ sizeLine := by rw [List.size_toArray, List.size_toArray, ← hl2]; omega
  have hlong : ¬ (!its.toArray.isEmpty && Builtin.List.listTooLong (its.toArray.size + its2.toArray.size)) = true := by
    rw [notLongL hsz, Bool.and_false]
    exact Bool.false_ne_true
  refine call_meets F.slot_list_extend ⟨_, e, rfl⟩ F.entry_list_extend (F.args_list_extend_2 _ _)
    (ext_tup l its.toArray n b its2.toArray n2 od sl hlong (by rw [List.size_toArray]; omega) (by omega)) ⟨e, e2, ?_⟩
  refine ⟨.non, _, I.lset (its' := its ++ its2) hH e (by simp) (r.append r2) ?_, rfl, q⟩
  rw [List.length_append]
  omega

/-! ### one of two readings -/
theorem pi_or {tg it : Expr} {w1 w2 : TI} (h1 : PI X tg it w1) (h2 : PI X tg it w2) : PI X tg it (fun σ H R => w1 σ H R ∨ w2 σ H R) := by
  refine ⟨fun pins s σ H R I h => ?_⟩
  rcases h with h | h
  · exact h1.run pins s σ H R I h
  · exact h2.run pins s σ H R I h
end
/-! ### kinds of data -/
def tyD : PyData → String
  | .none => "NoneType"
  | .bool _ => "bool"
  | .int _ => "int"
  | .str _ => "str"
  | .list _ => "list"
  | .tuple _ => "tuple"
  | .dict _ => "dict"
theorem ty_dw {K : PySem.W.Frag} {H : Hp} {v : V} {d : PyData} (h : Dw H v d) : TyX K H v (.type (tyD d)) := by
  cases h with
  | non => exact .base .non
  | bl b => exact .base (.bl b)
  | int i => exact .base (.int i)
  | str x => exact .base (.str x)
  | lst e _ => exact .base (.lst e)
  | tup e _ => exact .base (.tup e)
  | dct e _ => exact .base (.dK e)
def isKS (c t : String) : Bool := decide (c = t) || (decide (c = "int") && decide (t = "bool"))
def isK (c : String) (d : PyData) : Bool := isKS c (tyD d)
theorem kit_D {K : PySem.W.Frag} (d : PyData) {c : String} (hc : c = "int" ∨ c = "bool" ∨ c = "str" ∨ c = "tuple" ∨ c = "list") : PySem.W.kitOne K (.type (tyD d)) (.type c) = some (isK c d) := by
  rcases hc with rfl | rfl | rfl | rfl | rfl <;> cases d <;> (dsimp only [isK, tyD]; exact kit_ty (by decide +kernel))
/-- isinstance(x, c), x a datum -/
theorem rd_isi {K : PySem.W.Frag} {H : Hp} {v : V} {d : PyData} {c : String} {Q : VK} (h : Dw H v d) (hc : c = "int" ∨ c = "bool" ∨ c = "str" ∨ c = "tuple" ∨ c = "list") (q : Q (.bl (isK c d)) H) : rIsi K [v, .ty c] H Q :=
  ⟨_, _, _, _, _, rfl, .ty _, ty_dw h, kit_D d hc, q⟩
theorem Dw.dp {K : PySem.W.Frag} {H : Hp} : ∀ {v : V} {d : PyData}, Dw H v d → d.canLay0 = true → Dp K H v d := by
  intro v d h
  refine Dw.rec (motive_1 := fun v d _ => d.canLay0 = true → Dp K H v d) (motive_2 := fun vs ds _ => PyData.canLayAll0 ds = true → DpAll K H vs ds) ?_ ?_ ?_ ?_ ?_ ?_ ?_ ?_ ?_ h
  · exact fun _ => .non
  · exact fun b _ => .bl b
  · exact fun i _ => .int i
  · exact fun x _ => .str x
  · exact fun e _ ih c => .lst (SqL.of e) (ih (by simpa [PyData.canLay0] using c))
  · exact fun e _ ih c => .tup (.inl (.inl e)) (ih (by simpa [PyData.canLay0] using c))
  · exact fun _ _ _ c => by simp [PyData.canLay0] at c
  · exact fun _ => .nil
  · exact fun _ _ i1 i2 c => by
      rw [PyData.canLayAll0, Bool.and_eq_true] at c
      exact .cons (i1 c.1) (i2 c.2)
end K40
set_option maxHeartbeats 8000000
namespace K40
open PySem PySem.Spec PyProof.Rows L2

/-! ### is_integer, is_count, is_list of data */ -/
abbrev sIsL : Stmt := top 12
def intD (d : PyData) : Bool := isK "int" d && !isK "bool" d
def cntD : PyData → Bool
  | .int i => decide (0 ≤ i)
  | _ => false
def nmD : PyData → Bool
  | .str x => isNm x
  | _ => false
def seqD : PyData → Bool
  | .list _ => true
  | .tuple _ => true
  | _ => false
def spIntD : Sp := fun vs H Q _ => ∃ (v : V) (d : PyData), vs = [v] ∧ Dw H v d ∧ Q (.bl (intD d)) H
def spCntD : Sp := fun vs H Q _ => ∃ (v : V) (d : PyData), vs = [v] ∧ Dw H v d ∧ Q (.bl (cntD d)) H
def spSeqD : Sp := fun vs H Q _ => ∃ (v : V) (d : PyData), vs = [v] ∧ Dw H v d ∧ ∀ H', Same H H' → Q (.bl (seqD d)) H'
theorem kit_seq {K : PySem.W.Frag} (d : PyData) : PySem.W.kitAny K (.type (tyD d)) [.type "list", .type "tuple"] = some (seqD d) := by
  have a1 : ∀ {t : String} {b : Bool}, kitB t "list" = some false → kitB t "tuple" = some b → PySem.W.kitAny K (.type t) [.type "list", .type "tuple"] = some b := fun h1 h2 => by
    unfold PySem.W.kitAny
    rw [kit_ty h1]
    unfold PySem.W.kitAny
    rw [kit_ty h2]
    rename_i b
    cases b
    · unfold PySem.W.kitAny
      rfl
    · rfl
  have a2 : ∀ {t : String}, kitB t "list" = some true → PySem.W.kitAny K (.type t) [.type "list", .type "tuple"] = some true := fun h1 => by
    unfold PySem.W.kitAny
    rw [kit_ty h1]
  cases d <;> dsimp only [tyD, seqD]
  · exact a1 (by decide +kernel) (by decide +kernel)
  · exact a1 (by decide +kernel) (by decide +kernel)
  · exact a1 (by decide +kernel) (by decide +kernel)
  · exact a1 (by decide +kernel) (by decide +kernel)
  · exact a2 (by decide +kernel)
  · exact a1 (by decide +kernel) (by decide +kernel)
  · exact a1 (by decide +kernel) (by decide +kernel)
section
variable {P : Program} {w : World} {K : PySem.W.Frag} {mg : Str → Option Value} {base : Heap}
theorem ok_intD {f : Addr} {fd : FuncData} (F : Fun K "is_integer" "is_integer" sIsInt f fd) (T : Nk mg) : FnOk P w K mg base CX0 1 f fd ["value"] spIntD := by
  refine F.ok scInt (fun vs H Q E h => ?_) (fun cdv A outer s H vs Q E hr h => ?_)
  · obtain ⟨v, d, rfl, _⟩ := h
    rfl
  · obtain ⟨v, d, rfl, hd, q⟩ := h
    refine ⟨_, pss_one (ps_ret (pe_and (pe_callB call_isi (by rfl) T.isi (by decide +kernel) (pa_cons (pv 0) (pa_cons (pe_bltn (v := .ty "int") (u := .type "int") (by rfl) T.int (by decide +kernel) rfl) pa_nil)))
      (pe_one (pe_not (pe_callB call_isi (by rfl) T.isi (by decide +kernel) (pa_cons (pv 0) (pa_cons (pe_bltn (v := .ty "bool") (u := .type "bool") (by rfl) T.bool (by decide +kernel) rfl) pa_nil))))))), ?_⟩
    refine ⟨_, rfl, ?_⟩
    dsimp only [tCons, tC, tNil]
    refine rd_isi hd (.inl rfl) ⟨_, rfl, ?_⟩
    unfold intD at q
    cases e : isK "int" d with
    | false =>
      rw [e] at q
      exact q
    | true =>
      rw [e] at q
      refine ⟨_, rfl, ?_⟩
      dsimp only [tCons, tC, tNil]
      exact rd_isi hd (.inr (.inl rfl)) ⟨_, rfl, q⟩
theorem ok_cntD {f fI : Addr} {fd fdI : FuncData} (F : Fun K "is_count" "is_count" sIsCount f fd) (T : Nk mg)
    (GI : FnOk P w K mg base CX0 1 fI fdI ["value"] spIntD) (kI : PySem.W.keepIn K (.ref fI) = true) (bI : Binds K fdI ["value"] []) (gI : mg "is_integer" = some (.ref fI)) :
    FnOk P w K mg base CX0 2 f fd ["value"] spCntD := by
  refine F.ok scCount (fun vs H Q E h => ?_) (fun cdv A outer s H vs Q E hr h => ?_)
  · obtain ⟨v, d, rfl, _⟩ := h
    rfl
  · obtain ⟨v, d, rfl, hd, q⟩ := h
    refine ⟨_, pss_one (ps_ret (pe_and (pe_call GI hr rfl gI kI bI .nil pass0 (pa_cons (pv 0) pa_nil)) (pe_one (pe_cmpR op_ge (pv 0) pe_int (nomark _))))), ?_⟩
    refine ⟨_, rfl, v, d, rfl, hd, _, rfl, ?_⟩
    cases hd with
    | int i => exact ⟨_, rfl, _, _, rfl, rfl, q⟩
    | _ => exact q
theorem scIsL : FnScope ["value"] ["value"] (defScope sIsL) :=
  ⟨rfl, rfl, rfl, by decide +kernel, rfl, by decide +kernel, by decide +kernel⟩
theorem ok_seqD {f : Addr} {fd : FuncData} (F : Fun K "is_list" "is_list" sIsL f fd) (T : Nk mg) (lN : mg "list" = none) (tN : mg "tuple" = none) : FnOk P w K mg base CX0 1 f fd ["value"] spSeqD := by
  refine F.ok scIsL (fun vs H Q E h => ?_) (fun cdv A outer s H vs Q E hr h => ?_)
  · obtain ⟨v, d, rfl, _⟩ := h
    rfl
  · obtain ⟨v, d, rfl, hd, q⟩ := h
    refine ⟨_, pss_one (ps_ret (pe_callB call_isiT (by rfl) T.isi (by decide +kernel) (pa_cons (pv 0) (pa_cons (pe_tup (pa_cons (pe_bltn (v := .ty "list") (u := .type "list") (by rfl) lN (by decide +kernel) rfl)
      (pa_cons (pe_bltn (v := .ty "tuple") (u := .type "tuple") (by rfl) tN (by decide +kernel) rfl) pa_nil))) pa_nil)))), ?_⟩
    refine ⟨_, rfl, by rw [sizeLine_eq]; show 2 ≤ 16777216; decide, fun T nT => ?_⟩
    have S1 := fresh_upd (o := .tup [V.ty "list", V.ty "tuple"]) nT
    exact ⟨v, T, _, _, [.type "list", .type "tuple"], _, rfl, upd_same, .cons (.ty _) (.cons (.ty _) .nil), ty_dw (hd.same S1), kit_seq d, q _ S1⟩
end
end K40
set_option maxHeartbeats 8000000
namespace K40
open PySem PySem.Spec PyProof.Rows L2

/-! ### word_over */ -/
abbrev sOver : Stmt := top 22
mutual
def gd : PyData → Bool
  | .str x => decide (x.length ≤ 700)
  | .int i => decide (-(10 ^ 60) < i) && decide (i < 10 ^ 60)
  | .tuple xs => decide (xs.length ≤ 700) && gds xs
  | _ => true
def gds : List PyData → Bool
  | [] => true
  | x :: r => gd x && gds r
end
theorem gds_iff : ∀ ts : List PyData, gds ts = true ↔ ∀ t ∈ ts, gd t = true
  | [] => by simp [gds]
  | x :: r => by
    rw [gds, Bool.and_eq_true, gds_iff r]
    simp
theorem gd_tup {xs : List PyData} : gd (.tuple xs) = true ↔ xs.length ≤ 700 ∧ ∀ t ∈ xs, gd t = true := by
  rw [gd, Bool.and_eq_true, decide_eq_true_eq, gds_iff]
theorem dep_tup {xs : List PyData} {n : Nat} : PyData.depth (.tuple xs) ≤ n + 1 ↔ ∀ t ∈ xs, t.depth ≤ n := by
  have z : ∀ l : List PyData, PyData.depthAll l ≤ n ↔ ∀ t ∈ l, t.depth ≤ n := fun l => by
    induction l with
    | nil => simp [PyData.depthAll]
    | cons x r ih =>
      rw [PyData.depthAll, Nat.max_le, ih]
      simp
  rw [PyData.depth, Nat.add_le_add_iff_right]
  exact z xs
/-- terms that are not too great -/
structure Fine (n : Nat) (d : PyData) : Prop where
  gd : gd d = true
  dep : d.depth ≤ n
theorem Fine.up {n m : Nat} {d : PyData} (h : Fine n d) (hm : n ≤ m) : Fine m d := ⟨h.gd, Nat.le_trans h.dep hm⟩
theorem Fine.item {n : Nat} {xs : List PyData} {t : PyData} (h : Fine (n + 1) (.tuple xs)) (ht : t ∈ xs) : Fine n t := ⟨(gd_tup.mp h.gd).2 t ht, dep_tup.mp h.dep t ht⟩
theorem fine_prt {n : Nat} {w : Str} {t x : PyData} (h : Fine n t) (hx : x ∈ prt w t) : Fine n x := by
  unfold prt at hx
  split at hx
  · split at hx
    · cases n with
      | zero =>
        have z := h.dep
        simp [PyData.depth] at z
      | succ n =>
        have h2 := h.item (List.mem_cons_of_mem _ (List.mem_singleton_self _))
        cases n with
        | zero =>
          have z := h2.dep
          simp [PyData.depth] at z
        | succ n => exact (h2.item hx).up (by omega)
    · rw [List.mem_singleton.mp hx]
      exact h
  · rw [List.mem_singleton.mp hx]
    exact h
theorem tt_T {d : PyData} (h : isT d = true) (f : Fine 50 d) : Tt d := by
  refine ⟨?_, lay_T h, Nat.le_trans f.dep (by decide)⟩
  cases knd h with
  | rd _ _ => exact ⟨_, _, rfl⟩
  | lt _ _ _ _ => exact ⟨_, _, rfl⟩
  | wd _ _ _ _ => exact ⟨_, _, rfl⟩
theorem flt_len {w : Str} {ts : List PyData} (h : ∀ t ∈ ts, gd t = true) : (flt w ts).length ≤ 700 * ts.length := by
  induction ts with
  | nil => exact Nat.zero_le _
  | cons t r ih =>
    have ih := ih fun u hu => h u (List.mem_cons_of_mem _ hu)
    have e : flt w (t :: r) = prt w t ++ flt w r := rfl
    have z : (prt w t).length ≤ 700 := by
      have ht := h t List.mem_cons_self
      unfold prt
      split
      · split
        · exact (gd_tup.mp ((gd_tup.mp ht).2 _ (List.mem_cons_of_mem _ (List.mem_singleton_self _)))).1
        · simp
      · simp
    rw [e, List.length_append, List.length_cons]
    omega
theorem dwa_app {H : Hp} : ∀ {a : List V} {b : List PyData} {c : List V} {d : List PyData}, DwAll H a b → DwAll H c d → DwAll H (a ++ c) (b ++ d)
  | _, _, _, _, .nil, h => h
  | _, _, _, _, .cons h t, k => .cons h (dwa_app t k)
theorem dwa_at {H : Hp} : ∀ {xs : List V} {ds : List PyData}, DwAll H xs ds → ∀ {i : Nat} {v : V}, xs[i]? = some v → ∃ d, ds[i]? = some d ∧ Dw H v d
  | _, _, .nil, i, v, h => nomatch h
  | _, _, .cons h t, 0, v, e => by
    cases e
    exact ⟨_, rfl, h⟩
  | _, _, .cons h t, i + 1, v, e => dwa_at t e
/-- a list or a tuple -/
def SqX (H : Hp) (l : Addr) (xs : List V) : Prop := H l = some (.lst xs) ∨ H l = some (.tup xs)
theorem SqX.same {H H' : Hp} {l : Addr} {xs : List V} (h : SqX H l xs) (S : Same H H') : SqX H' l xs := h.imp (S _ _) (S _ _)
theorem sqT_of {K : PySem.W.Frag} {H : Hp} {l : Addr} {xs : List V} (h : H l = some (.tup xs)) : SqT K H l xs := .inl (.inl h)
def spOver (K : PySem.W.Frag) : Sp := fun vs H Q _ => ∃ (wd : Str) (l : Addr) (xs : List V) (ds : List PyData), vs = [.str wd, .ref l] ∧ wd ∈ words ∧ SqX H l xs ∧ DwAll H xs ds ∧ AllT ds ∧ (∀ d ∈ ds, Fine 50 d) ∧ ds.length ≤ 700 ∧
  ∀ H' v, Same H H' → Dw H' v (putD wd ds) → Q v H'
structure No (mg : Str → Option Value) : Prop where
  sorted : mg "sorted" = none
  enum : mg "enumerate" = none
  len : mg "len" = none
  tuple : mg "tuple" = none
def NOv : List Str := ["word", "terms", "inner", "term", "at"]
theorem ddA_snoc : ∀ (l : List PyData) (p x : PyData), ddA p (l ++ [x]) = if PyData.eqv ((p :: l).getLast (by simp)) x = true then ddA p l else ddA p l ++ [x]
  | [], p, x => by
    show (if PyData.eqv p x = true then [] else [x]) = _
    simp only [List.getLast_singleton]
    rfl
  | y :: l, p, x => by
    have ih := ddA_snoc l y x
    have e : (p :: y :: l).getLast (by simp) = (y :: l).getLast (by simp) := List.getLast_cons _
    rw [e]
    show (if PyData.eqv p y = true then ddA y (l ++ [x]) else y :: ddA y (l ++ [x])) = _
    rw [ih]
    show _ = if _ then (if PyData.eqv p y = true then ddA y l else y :: ddA y l) else (if PyData.eqv p y = true then ddA y l else y :: ddA y l) ++ [x]
    split <;> split <;> rfl
theorem ddp_snoc {l : List PyData} {x q : PyData} (h : l[l.length - 1]? = some q) : ddp (l ++ [x]) = if PyData.eqv q x = true then ddp l else ddp l ++ [x] := by
  cases l with
  | nil => cases h
  | cons p l =>
    have e : (p :: l).getLast (by simp) = q := by
      have z := List.getLast_eq_getElem (l := p :: l) (by simp)
      rw [z]
      have h2 : (p :: l)[(p :: l).length - 1]? = some ((p :: l)[(p :: l).length - 1]'(by simp)) := List.getElem?_eq_getElem _
      rw [h2] at h
      exact Option.some.inj h
    show p :: ddA p (l ++ [x]) = _
    rw [ddA_snoc, e]
    split <;> rfl
theorem shaped_T {d : PyData} (h : isT d = true) (f : Fine 50 d) : SeqAt.shaped d = true := by
  unfold SeqAt.shaped
  rw [lay_T h, decide_eq_true (Nat.le_trans f.dep (by decide))]
  rfl
abbrev tDd (K : PySem.W.Frag) : TE := tLc (iEnum K (tCons (tVar 2) tNil)) (gTup K 2 (gCons (gName 4) (gCons (gName 3) gNil)))
  (tOr (tTest (tOp rEq (tVar 4) (tC (.int 0)))) (tTest (tOp (rNeD K) (tOp (rIxL K) (tVar 2) (tOp (rI0 fun i j => V.int (i - j)) (tVar 4) (tC (.int 1)))) (tVar 3)))) (tVar 3) [4, 3]
theorem rd_dd {K : PySem.W.Frag} {H : Hp} {v0 v1 v3 : Option V} {a : Addr} {xs : List V} {ds : List PyData} {Q : VK} (ha : H a = some (.lst xs)) (hd : DwAll H xs ds) (hT : AllT ds) (hf : ∀ d ∈ ds, Fine 50 d) (hz : xs.length ≤ 1000000)
    (q : ∀ H' b ys, Same H H' → H' b = some (.lst ys) → DwAll H' ys (ddp ds) → Q (.ref b) H') : tDd K [v0, v1, some (.ref a), v3, none] H Q := by
  refine ⟨_, rfl, a, xs, rfl, SqL.of ha, fun D nD => ?_⟩
  have S0 := fresh_upd (o := .lst []) nD
  have hlen : xs.length = ds.length := hd.length
  refine lc_it (walk_enum (K := K) (a := a) (xs := xs)) (fun i H2 => ∃ ys, H2 D = some (.lst ys) ∧ ys.length ≤ i ∧ DwAll H ys (ddp (ds.take i)) ∧ Same H H2) ⟨[], upd_same, Nat.le_refl _, .nil, S0⟩ (fun i H2 _ h => ?_) ?_ ?_
  · obtain ⟨ys, _, _, _, S⟩ := h
    exact SqL.of (S _ _ ha)
  · rintro i v H2 H3 hi ⟨ys, hD, hl, hy, S⟩ ⟨T, x, y, rfl, nT, rfl, hx, hy2⟩
    cases hx
    have S1 := fresh_upd (o := .tup [.int (i : Nat), y]) nT
    have SS := S.trans S1
    obtain ⟨d, ed, hyd⟩ := dwa_at hd hy2
    have hdm : d ∈ ds := List.mem_of_getElem? ed
    have hya := Dw.same SS hyd
    have hD1 := S1 _ _ hD
    have ne : D ≠ a := fun e => by rw [e, ha] at nD; cases nD
    have S2 : Same H (upd (upd H2 T (.tup [.int (i : Nat), y])) D (.lst (ys ++ [y]))) := fun b o e => by
      rw [upd_ne (ne_of_none e nD)]
      exact SS b o e
    have ht : ds.take (i + 1) = ds.take i ++ [d] := by
      rw [List.take_add_one, ed]
      rfl
    have hdi : i < ds.length := by omega
    refine ⟨_, _, rfl, sqT_of upd_same, rfl, ?_⟩
    refine ⟨_, _, rfl, _, _, rfl, rfl, rfl, ⟨_, rfl, rfl, _, rfl, ?_⟩⟩
    have fin : ddp (ds.take (i + 1)) = ddp (ds.take i) ++ [d] → ∃ v : V, ([v0, v1, some (.ref a), some y, some (.int (i : Nat))] : L2.St)[3]? = some (some v) ∧ ∃ acc, upd H2 T (.tup [.int (i : Nat), y]) D = some (.lst acc) ∧ acc.length < sizeLine ∧
        ∃ ys, upd (upd H2 T (.tup [.int (i : Nat), y])) D (.lst (acc ++ [v])) D = some (.lst ys) ∧ ys.length ≤ i + 1 ∧ DwAll H ys (ddp (ds.take (i + 1))) ∧ Same H (upd (upd H2 T (.tup [.int (i : Nat), y])) D (.lst (acc ++ [v]))) := fun e =>
      ⟨y, rfl, ys, hD1, by rw [sizeLine_eq]; omega, ys ++ [y], upd_same, by rw [List.length_append, List.length_singleton]; omega, by rw [e]; exact dwa_app hy (.cons hyd .nil), S2⟩
    rcases Nat.eq_zero_or_pos i with rfl | h0
    · refine iteT' (decide_eq_true rfl) ?_
      refine iteT' rfl ?_
      refine fin ?_
      rw [ht]
      rfl
    · refine iteN' (fun e => ?_) ?_
      · have := V.int.inj e
        omega
      have hp : i - 1 < xs.length := by omega
      obtain ⟨dp, ep, hdp⟩ := dwa_at hd (List.getElem?_eq_getElem hp)
      have hpm : dp ∈ ds := List.mem_of_getElem? ep
      have el : (ds.take i)[(ds.take i).length - 1]? = some dp := by
        rw [List.length_take, Nat.min_eq_left (by omega), List.getElem?_take, if_pos (by omega)]
        exact ep
      have ei : ((i : Nat) : Int) - 1 = ((i - 1 : Nat) : Int) := by omega
      refine ⟨_, rfl, _, rfl, _, _, rfl, rfl, a, xs, _, xs[i - 1], rfl, rfl, SqL.of (SS _ _ ha), (by rw [ei]; exact atI_nat (List.getElem?_eq_getElem hp)), _, rfl, dp, d, Dw.dp (Dw.same SS hdp) (lay_T (hT dp hpm)), Dw.dp (Dw.same SS hyd) (lay_T (hT d hdm)), shaped_T (hT dp hpm) (hf dp hpm), shaped_T (hT d hdm) (hf d hdm), _, rfl, ?_⟩
      have sn := ddp_snoc (x := d) el
      cases e : PyData.eqv dp d with
      | true =>
        rw [e, if_pos rfl] at sn
        refine iteF ?_
        exact ⟨ys, hD1, by omega, by rw [ht, sn]; exact hy, SS⟩
      | false =>
        rw [e, if_neg Bool.false_ne_true] at sn
        refine iteT' rfl ?_
        refine fin ?_
        rw [ht]
        exact sn
  · rintro H2 ⟨ys, hD, _, hy, S⟩
    rw [hlen, List.take_length] at hy
    exact q _ _ _ S hD (DwAll.same S hy)
/-- the parts one by one -/
abbrev tFl (K : PySem.W.Frag) : TS := tFor (fun σ H R => iList K (tVar 1) σ H R ∨ iTup K (tVar 1) σ H R) (gName 3)
  (tDrop (tBM K "list" rExtT (tVar 2) (tCons (tIf (tTest (tOp rEq (tOp (rIxT K) (tVar 3) (tC (.int 0))) (tVar 0))) (tOp (rIxT K) (tVar 3) (tC (.int 1))) (tTup (tCons (tVar 3) tNil))) tNil)))
theorem flt_snoc (w : Str) (l : List PyData) (x : PyData) : flt w (l ++ [x]) = flt w l ++ prt w x := by
  unfold flt
  rw [List.flatMap_append, List.flatMap_singleton]
theorem hw_head {w h : Str} {r : List PyData} (hw : w ∈ words) (e : isT (.tuple (.str h :: r)) = true) : (h = w → ∃ ps, r = [.tuple ps]) ∧ (h ≠ w → ¬ Hw w (.tuple (.str h :: r))) := by
  refine ⟨fun q => ?_, fun q z => ?_⟩
  · subst q
    generalize eq : PyData.tuple (.str h :: r) = d at e
    cases knd e with
    | rd _ _ =>
      cases eq
      exact absurd rfl (word_ne hw).1
    | lt _ _ _ _ =>
      cases eq
      exact absurd rfl (word_ne hw).2
    | wd _ _ _ _ =>
      cases eq
      exact ⟨_, rfl⟩
  · obtain ⟨ps, z⟩ := z
    cases z
    exact q rfl
theorem dw_tup {H : Hp} {v : V} {ds : List PyData} (h : Dw H v (.tuple ds)) : ∃ b xs, v = .ref b ∧ H b = some (.tup xs) ∧ DwAll H xs ds := by
  cases h with
  | tup e h => exact ⟨_, _, rfl, e, h⟩
theorem dw_str {H : Hp} {v : V} {x : Str} (h : Dw H v (.str x)) : v = .str x := by
  cases h
  rfl
theorem rd_fl {K : PySem.W.Frag} {H : Hp} {wd : Str} {l a : Addr} {v3 : Option V} {xs : List V} {ds : List PyData} {D : Ends} (hw : wd ∈ words) (ha : H a = some (.lst [])) (hl : SqX H l xs) (hla : l ≠ a) (G : Hp) (hG : ∀ b o, G b = some o → b ≠ a ∧ H b = some o) (hd : DwAll G xs ds) (hT : AllT ds) (hf : ∀ d ∈ ds, gd d = true) (hn : ds.length ≤ 700)
    (q : ∀ H' o3 ys, (∀ b o, b ≠ a → H b = some o → H' b = some o) → H' a = some (.lst ys) → DwAll G ys (flt wd ds) → D.nx [some (.str wd), some (.ref l), some (.ref a), o3, none] H') : tFl K D [some (.str wd), some (.ref l), some (.ref a), v3, none] H := by
  have hlen : xs.length = ds.length := hd.length
  have main : ∀ (J : It) (G1 : Hp → Prop), Walk J xs.length G1 (YAt xs) → (∀ H', (∀ b o, b ≠ a → H b = some o → H' b = some o) → G1 H') →
      ∃ W : Nat → Nat → L2.St → Hp → Prop, (∃ m, W 0 m [some (.str wd), some (.ref l), some (.ref a), v3, none] H) ∧ ∀ i m σ H, W i m σ H →
      (J.stop i H ∧ D.nx σ H) ∨ (J.go i H ∧ ∃ N : L2.St → Hp → Prop, (∀ σ' H', N σ' H' → ∃ m', m' < m ∧ W (i + 1) m' σ' H') ∧ ∀ x H', J.yld i H x H' → (gName 3) x σ H' fun σ2 H2 =>
        (tDrop (tBM K "list" rExtT (tVar 2) (tCons (tIf (tTest (tOp rEq (tOp (rIxT K) (tVar 3) (tC (.int 0))) (tVar 0))) (tOp (rIxT K) (tVar 3) (tC (.int 1))) (tTup (tCons (tVar 3) tNil))) tNil))) { D with nx := N, ct := N, bk := D.nx } σ2 H2) := by
    intro J G1 w hG1
    refine for_it w (fun i σ H2 => ∃ o3 ys, σ = [some (.str wd), some (.ref l), some (.ref a), o3, none] ∧ (∀ b o, b ≠ a → H b = some o → H2 b = some o) ∧ H2 a = some (.lst ys) ∧ DwAll G ys (flt wd (ds.take i))) ⟨v3, [], rfl, fun b o _ e => e, ha, .nil⟩
      (fun i σ H2 _ h => ?_) ?_ ?_
    · obtain ⟨_, _, _, S, _⟩ := h
      exact hG1 _ S
    · rintro i x σ H2 H3 hi ⟨o3, ys, rfl, S, hy, hyd⟩ ⟨rfl, hx⟩
      obtain ⟨d, ed, hxd⟩ := dwa_at hd hx
      have hdm : d ∈ ds := List.mem_of_getElem? ed
      have ht : ds.take (i + 1) = ds.take i ++ [d] := by
        rw [List.take_add_one, ed]
        rfl
      have up : ∀ b o, G b = some o → H3 b = some o := fun b o e => S b o (hG b o e).1 (hG b o e).2
      have hdT := hT d hdm
      have hdl : ys.length ≤ 700 * 700 := by
        have z := flt_len (w := wd) (ts := ds.take i) fun t ht => hf t (List.mem_of_mem_take ht)
        have z2 : (ds.take i).length ≤ ds.length := List.length_take_le' ..
        rw [hyd.length]
        omega
      have hh : ∃ h r, d = .tuple (.str h :: r) := by
        cases knd hdT with
        | rd _ _ => exact ⟨_, _, rfl⟩
        | lt _ _ _ _ => exact ⟨_, _, rfl⟩
        | wd _ _ _ _ => exact ⟨_, _, rfl⟩
      obtain ⟨h, r, rfl⟩ := hh
      obtain ⟨b, its, rfl, hb, hits⟩ := dw_tup hxd
      cases hits with
      | @cons v0 vr _ _ k0 kr =>
        obtain rfl := dw_str k0
        refine ⟨_, rfl, .inl ⟨rfl, _, SqL.of hy⟩, ?_⟩
        obtain ⟨q1, q2⟩ := hw_head hw hdT
        refine ⟨_, rfl, b, _, _, .str h, rfl, rfl, sqT_of (up _ _ hb), atI_nat (j := 0) rfl, _, rfl, rfl, _, rfl, ?_⟩
        by_cases e : h = wd
        · refine iteT' (decide_eq_true (by rw [e])) ?_
          obtain ⟨ps, rfl⟩ := q1 e
          subst e
          cases kr with
          | @cons v1 _ _ _ k1 k2 =>
            obtain ⟨c, qs, rfl, hc, hqs⟩ := dw_tup k1
            refine ⟨_, rfl, b, _, _, .ref c, rfl, rfl, sqT_of (up _ _ hb), atI_nat (j := 1) rfl, ?_⟩
            have hpl : ps.length ≤ 700 := (gd_tup.mp ((gd_tup.mp (hf _ hdm)).2 _ (List.mem_cons_of_mem _ List.mem_cons_self))).1
            refine ⟨a, c, ys, qs, rfl, rfl, hy, up _ _ hc, by rw [hqs.length, sizeLine_eq]; omega, _, _, rfl, fun b' o ne e => ?_, upd_same, ?_⟩
            · rw [upd_ne ne]
              exact S b' o ne e
            · rw [ht, flt_snoc, prt_w]
              exact dwa_app hyd hqs
        · refine iteN' (fun z => e (V.str.inj z)) ?_
          refine ⟨_, rfl, by rw [sizeLine_eq]; show 1 ≤ 16777216; decide, fun T nT => ?_⟩
          have S1 := fresh_upd (o := .tup [.ref b]) nT
          refine ⟨a, T, ys, [.ref b], rfl, rfl, S1 _ _ hy, upd_same, by rw [sizeLine_eq]; show ys.length + 1 ≤ 16777216; omega, _, _, rfl, fun b' o ne e => ?_, upd_same, ?_⟩
          · rw [upd_ne ne]
            exact S1 _ _ (S b' o ne e)
          · rw [ht, flt_snoc, prt_o (q2 e)]
            exact dwa_app hyd (.cons hxd .nil)
    · rintro σ H2 ⟨o3, ys, rfl, S, hy, hyd⟩
      rw [hlen, List.take_length] at hyd
      exact q H2 o3 ys S hy hyd
  rcases hl with hl | hl
  · exact .inl ⟨_, rfl, l, rfl, ⟨xs, SqL.of hl⟩, main _ _ walk_list fun H' S => SqL.of (S _ _ hla hl)⟩
  · exact .inr ⟨_, rfl, l, rfl, ⟨xs, sqT_of hl⟩, main _ _ walk_tup fun H' S => sqT_of (S _ _ hla hl)⟩
section
variable {P : Program} {w : World} {K : PySem.W.Frag} {mg : Str → Option Value} {base : Heap}
theorem scOver : FnScope NOv ["word", "terms"] (defScope sOver) :=
  ⟨rfl, rfl, rfl, by decide +kernel, rfl, by decide +kernel, by decide +kernel⟩
theorem ok_over {f : Addr} {fd : FuncData} (F : Fun K "word_over" "word_over" sOver f fd) (T : No mg) : FnOk P w K mg base CX0 1 f fd ["word", "terms"] (spOver K) := by
  refine F.ok scOver (fun vs H Q E h => ?_) (fun cdv A outer s H vs Q E hr h => ?_)
  · obtain ⟨wd, l, xs, ds, rfl, _⟩ := h
    rfl
  · obtain ⟨wd, l, xs, ds, rfl, hw, hl, hd, hT, hf, hn, q⟩ := h
    have hu : (A.deeper (envOfC "word_over" (defScope sOver) s.heap.objs.size f cdv)).units + 64 < cLine := by have := hr.units; omega
    refine ⟨_, pss_cons (ps_set (i := 2) scOver.nd rfl (.inr rfl) (pe_lst pa_nil))
      (pss_cons (ps_for PassesOwn.never rfl (pi_or (pi_list (pv 1)) (pi_tup (pv 1))) (pg_name (i := 3) scOver.nd rfl (.inl rfl))
        (pss_one (ps_expr (pe_bm PySem.F.plainAttrs_list PySem.F.slot_list_extend PySem.F.type_list_extend mt_extT (pv 2) (pa_cons
          (pe_ifExp (pt_cmpR op_eq (pe_ix ix_tup (pv 3) pe_int (fun _ _ => rfl)) (pv 0) (nomark _)) (pe_ix ix_tup (pv 3) pe_int (fun _ _ => rfl)) (pe_tup (pa_cons (pv 3) pa_nil))) pa_nil)))))
      (pss_cons (ps_set (i := 2) scOver.nd rfl (.inr rfl) (pe_callB (cr_sortD hu) (by rfl) T.sorted (by decide +kernel) (pa_cons (pv 2) pa_nil)))
      (pss_cons (ps_if (pt_cmpR op_ne (pv 0) pe_str (nomark _)) (pss_one (ps_set (i := 2) scOver.nd rfl (.inr rfl)
          (pe_lc (own := [("at", 4), ("term", 3)]) (g := gTup K 2 (gCons (gName 4) (gCons (gName 3) gNil))) (tt := tOr (tTest (tOp rEq (tVar 4) (tC (.int 0)))) (tTest (tOp (rNeD K) (tOp (rIxL K) (tVar 2) (tOp (rI0 fun i j => V.int (i - j)) (tVar 4) (tC (.int 1)))) (tVar 3)))) (te := tVar 3) rfl scOver.nd (pi_enum (by rfl) T.enum (pa_cons (pv 2) pa_nil))
            (blkOk_by (own := [("at", 4), ("term", 3)]) (N := NOv) (sc := defScope sOver) (by decide +kernel)) (fun _ _ _ _ _ => pg_tup rfl (pgs_cons (pg_name (i := 4) scOver.nd rfl (Or.inl rfl)) (pgs_cons (pg_name (i := 3) scOver.nd rfl (Or.inl rfl)) pgs_nil)))
            (fun _ _ _ _ _ => pts_one (by exact PW.pt (pw_or (pt_cmpR op_eq (pv 4) pe_int (nomark _)) (pw_or1 (pt_cmpR (op_neD hu) (pe_ix ix_list (pv 2) (pe_op op_sub (pv 4) pe_int) (fun _ _ => rfl)) (pv 3) rfl))))) (fun _ _ _ _ _ => by exact pv 3)))) pss_nil)
      (pss_one (ps_ret (pe_ifExp (pt_cmpR op_eq (pe_callB call_len_seq (by rfl) T.len PySem.boot_len (pa_cons (pv 2) pa_nil)) pe_int (nomark _)) (pe_ix ix_list (pv 2) pe_int (fun _ _ => rfl))
        (pe_tup (pa_cons (pv 0) (pa_cons (pe_callTy call_tuple_of (by rfl) T.tuple (by decide +kernel) (pa_cons (pv 2) pa_nil)) pa_nil))))))))), ?_⟩
    refine ⟨Nat.zero_le _, fun a na => ?_⟩
    have S0 := fresh_upd (o := .lst []) na
    have nla : l ≠ a := fun e => by
      subst e
      rcases hl with hl | hl <;> (rw [hl] at na; cases na)
    have keep : ∀ b o, H b = some o → b ≠ a ∧ upd H a (.lst []) b = some o := fun b o e => ⟨ne_of_none e na, S0 b o e⟩
    refine rd_fl hw upd_same (hl.same S0) nla H keep hd hT (fun d hd => (hf d hd).gd) hn fun H1 o3 ys S1 hy hyd => ?_
    have SH1 : Same H H1 := fun b o e => S1 b o (keep b o e).1 (keep b o e).2
    have hfT := flt_T hw hT
    have hfF : ∀ x ∈ flt wd ds, Fine 50 x := fun x hx => by
      obtain ⟨t, ht, hx⟩ := mem_flt.mp hx
      exact fine_prt (hf t ht) hx
    have hfl := flt_len (w := wd) fun t ht => (hf t ht).gd
    refine ⟨_, rfl, a, ys, flt wd ds, rfl, SqL.of hy, DwAll.same SH1 hyd, fun d hd => tt_T (hfT d hd) (hfF d hd), hfT.lik, fun zs p hz _ np => ?_⟩
    have S2 := SH1.trans (fresh_upd (o := .lst zs) np)
    have n1 : (flt wd ds).length ≤ 490000 := by omega
    have hz1 : DwAll (upd H1 p (.lst zs)) zs (srtD (flt wd ds)) := DwAll.same (fresh_upd np) hz
    -- the end
    have fin : ∀ (H' : Hp) (p : Addr) (zs : List V) (o3 : Option V), Same H H' → H' p = some (.lst zs) → DwAll H' zs (inn wd ds) → tRet (tIf (tTest (tOp rEq (tCB (fun xs H Q => ∃ p ys, xs = [V.ref p] ∧ (SqL K H p ys ∨ SqT K H p ys) ∧ Q (.int ys.length) H) (tCons (tVar 2) tNil)) (tC (.int 1))))
        (tOp (rIxL K) (tVar 2) (tC (.int 0))) (tTup (tCons (tVar 0) (tCons (tCB (fun xs H Q => ∃ p ys, xs = [V.ref p] ∧ ((SqL K H p ys ∧ ∀ l, H l = none → Q (.ref l) (upd H l (.tup ys))) ∨ (SqT K H p ys ∧ Q (.ref p) H))) (tCons (tVar 2) tNil)) tNil))))
        { nx := fun _ H' => Q .non H', rt := Q } [some (.str wd), some (.ref l), some (.ref p), o3, none] H' := by
      intro H' p zs o3 S hp hzs
      refine ⟨_, rfl, p, zs, rfl, .inl (SqL.of hp), rfl, _, rfl, ?_⟩
      have hln := hzs.length
      by_cases e : zs.length = 1
      · refine iteT' (decide_eq_true (by rw [e]; rfl)) ?_
        have ep : ∀ x, inn wd ds = [x] → putD wd ds = x := fun x q => by
          unfold putD
          rw [q] <;> rfl
        generalize inn wd ds = il at hzs ep
        cases hzs with
        | nil => cases e
        | @cons z _ x dr hz ht =>
          cases ht with
          | cons _ _ => simp at e
          | nil =>
            refine ⟨_, rfl, p, [z], 0, z, rfl, rfl, SqL.of hp, rfl, q H' z S ?_⟩
            rw [ep x rfl]
            exact hz
      · refine iteN' (fun z => e (by have := V.int.inj z; omega)) ?_
        refine ⟨_, rfl, _, rfl, p, zs, rfl, .inl ⟨SqL.of hp, fun t nt => ⟨by rw [sizeLine_eq]; show 2 ≤ 16777216; decide, fun t2 nt2 => ?_⟩⟩⟩
        have S3 := fresh_upd (o := .tup zs) nt
        have S4 := fresh_upd (o := .tup [.str wd, .ref t]) nt2
        refine q _ _ (S.trans (S3.trans S4)) ?_
        have ep : putD wd ds = .tuple [.str wd, .tuple (inn wd ds)] := oneOr_ne fun x q => e (by rw [hln, q]; rfl)
        rw [ep]
        exact .tup upd_same (.cons (.str wd) (.cons (.tup (S4 _ _ upd_same) (DwAll.same (S3.trans S4) hzs)) .nil))
    refine ⟨_, rfl, rfl, _, rfl, ?_⟩
    refine ite2 (fun hb => ?_) fun hb => ?_
    · have e : wd ≠ "sum" := fun z => by
        rw [z] at hb
        simp at hb
      have hzl : zs.length ≤ 1000000 := by
        rw [hz.length, (srt_perm _).length_eq]
        omega
      refine rd_dd upd_same hz1 hfT.srt (fun d hd => hfF d (mem_srt.mp hd)) hzl fun H3 b ys2 S3 hb2 hy2 => ?_
      refine fin H3 b ys2 o3 (S2.trans S3) hb2 ?_
      rw [show inn wd ds = ddp (srtD (flt wd ds)) from if_neg e]
      exact hy2
    · have e : wd = "sum" := Classical.byContradiction fun z => hb (by
        rw [decide_eq_false fun q => z (V.str.inj q)]
        rfl)
      refine fin _ p zs o3 S2 upd_same ?_
      rw [show inn wd ds = srtD (flt wd ds) from if_pos e]
      exact hz1
end
end K40
set_option maxHeartbeats 8000000
namespace K40
open PySem PySem.Spec PyProof.Rows L2

/-! ### is_term */ -/
abbrev sTerm : Stmt := top 20
def tupT : PyData → Bool
  | .tuple ts => allT ts
  | _ => false
theorem lastT_app : ∀ (xs : List PyData) (x : PyData), lastT (xs ++ [x]) = tupT x
  | [], x => by
    show lastT [x] = _
    cases x <;> simp [lastT, tupT]
  | y :: l, x => by
    have ih := lastT_app l x
    cases e : l ++ [x] with
    | nil => simp at e
    | cons z r =>
      show lastT (y :: (l ++ [x])) = _
      rw [e] at ih ⊢
      rw [lastT, ih]
theorem isT_eq (xs : List PyData) : isT (.tuple xs) = (inF xs || (lastT xs && frm xs)) := by rw [isT]
theorem isT_short {xs : List PyData} (h : xs.length < 2) : isT (.tuple xs) = false := by
  match xs, h with
  | [], _ => simp [isT, inF, frm]
  | [a], _ => simp [isT, inF, frm]
  | _ :: _ :: _, h => simp at h; omega
def isSt : PyData → Bool
  | .str _ => true
  | _ => false
theorem isT_nostr {x : PyData} {r : List PyData} (h : isSt x = false) : isT (.tuple (x :: r)) = false := by
  rw [isT_eq]
  cases x with
  | str _ => simp [isSt] at h
  | _ => simp [inF, frm]
theorem isT_ins {y : PyData} {r : List PyData} : isT (.tuple (.str "in" :: y :: r)) = (decide (r.length = 1) && (nmD y && match r with
    | z :: _ => cntD z
    | [] => false)) := by
  rw [isT_eq]
  have e : frm (.str "in" :: y :: r) = false := by
    unfold frm
    split
    · rename_i h _ _ _ eq
      cases eq
      rfl
    · rename_i h _ _ eq
      cases eq
      rfl
    · rfl
  rw [e, Bool.and_false, Bool.or_false]
  match r with
  | [] =>
    have : inF [.str "in", y] = false := by
      cases y <;> rfl
    rw [this]
    rfl
  | [z] =>
    cases y <;> cases z <;> simp [inF, nmD, cntD]
  | z :: a :: b =>
    have : inF (.str "in" :: y :: z :: a :: b) = false := by
      cases y <;> first | rfl | (cases z <;> rfl)
    rw [this]
    simp
theorem inF_no {h : Str} {r : List PyData} (hn : h ≠ "in") : inF (.str h :: r) = false := by
  unfold inF
  split
  · rename_i eq
    cases eq
    rw [decide_eq_false hn]
    rfl
  · rfl
theorem isT_noin {h : Str} {r : List PyData} (hn : h ≠ "in") : isT (.tuple (.str h :: r)) = (lastT (.str h :: r) && frm (.str h :: r)) := by
  rw [isT_eq, inF_no hn, Bool.false_or]
theorem frm_let {y : PyData} {r i : List PyData} {ts : List PyData} (e : y :: r = i ++ [.tuple ts]) : frm (.str "let" :: y :: r) = (decide (r.length = 1) && (nmD y && (decide (1 ≤ ts.length) && decide (ts.length ≤ 3)))) := by
  match r, e with
  | [], e =>
    have : y = .tuple ts := by
      cases i with
      | nil => exact (List.cons.inj e).1
      | cons _ _ => simp at e
    subst this
    have e1 : decide (("let" : Str) ∈ words) = false := by decide
    have e2 : frm [.str "let", .tuple ts] = (decide (("let" : Str) ∈ words) && (decide (1 < ts.length) && PyData.eqv (putD "let" ts) (.tuple [.str "let", .tuple ts]))) := by rw [frm]
    rw [e2, e1]
    rfl
  | [z], e =>
    have : z = .tuple ts := by
      cases i with
      | nil => simp at e
      | cons a i =>
        cases i with
        | nil => simpa using (List.cons.inj e).2
        | cons _ _ => simp at e
    subst this
    cases y <;> simp [frm, nmD]
  | z :: a :: b, e =>
    have : frm (.str "let" :: y :: z :: a :: b) = false := by
      cases y <;> first | rfl | (cases z <;> rfl)
    rw [this]
    simp
theorem frm_word {h : Str} {y : PyData} {r i : List PyData} {ts : List PyData} (hn : h ≠ "let") (e : y :: r = i ++ [.tuple ts]) :
    frm (.str h :: y :: r) = (decide (h ∈ words) && (decide (r.length = 0) && (decide (1 < ts.length) && PyData.eqv (putD h ts) (.tuple (.str h :: y :: r))))) := by
  match r, e with
  | [], e =>
    have : y = .tuple ts := by
      cases i with
      | nil => exact (List.cons.inj e).1
      | cons _ _ => simp at e
    subst this
    simp [frm]
  | [z], e =>
    have : frm [.str h, y, z] = false := by
      cases y <;> first | rfl | (cases z <;> first | rfl | simp [frm, hn])
    rw [this]
    simp
  | z :: a :: b, e =>
    have : frm (.str h :: y :: z :: a :: b) = false := by
      cases y <;> first | rfl | (cases z <;> rfl)
    rw [this]
    simp
theorem dwa_last {H : Hp} : ∀ {xs : List V} {ds : List PyData}, DwAll H xs ds → ds ≠ [] → ∃ i z vi vz, ds = i ++ [z] ∧ xs = vi ++ [vz] ∧ Dw H vz z
  | _, _, .nil, h => absurd rfl h
  | _, _, .cons (v := v) (d := d) h t, _ => by
    rename_i vs ds
    cases t with
    | nil => exact ⟨[], d, [], v, rfl, rfl, h⟩
    | cons h2 t2 =>
      obtain ⟨i, z, vi, vz, e1, e2, k⟩ := dwa_last (.cons h2 t2) (fun q => nomatch q)
      exact ⟨d :: i, z, v :: vi, vz, by rw [e1]; rfl, by rw [e2]; rfl, k⟩
theorem inV_words (h : Str) : inV (.str h) (words.map V.str) = decide (h ∈ words) := by
  have z : ∀ l : List Str, inV (.str h) (l.map V.str) = decide (h ∈ l) := fun l => by
    unfold inV
    induction l with
    | nil => rfl
    | cons x r ih =>
      rw [List.map_cons, List.any_cons, ih]
      by_cases e : x = h
      · subst e
        simp [eqV]
      · have e2 : eqV (V.str x) (V.str h) = false := by
          simp only [eqV]
          first | exact decide_eq_false e | exact beq_false_of_ne e | simp [e]
        rw [e2, Bool.false_or]
        refine decide_eq_decide.mpr ⟨fun m => List.mem_cons_of_mem _ m, fun m => (List.mem_cons.mp m).elim (fun q => absurd q.symm e) id⟩
  exact z words
theorem dep_put {m : Nat} {w : Str} {ts : List PyData} (h : ∀ t ∈ ts, t.depth ≤ m) : (putD w ts).depth ≤ m + 2 := by
  have hi : ∀ x ∈ inn w ts, x.depth ≤ m := fun x hx => by
    obtain ⟨t, ht, hx⟩ := mem_flt.mp (inn_sub w ts hx)
    have ht := h t ht
    unfold prt at hx
    split at hx
    · split at hx
      · rename_i ps _
        cases m with
        | zero => simp [PyData.depth] at ht
        | succ m =>
          have z := dep_tup.mp ht _ (List.mem_cons_of_mem _ (List.mem_singleton_self _))
          cases m with
          | zero => simp [PyData.depth] at z
          | succ m =>
            have := dep_tup.mp z x hx
            omega
      · rw [List.mem_singleton.mp hx]
        exact ht
    · rw [List.mem_singleton.mp hx]
      exact ht
  show (oneOr w (inn w ts)).depth ≤ m + 2
  unfold oneOr
  split
  · rename_i x e
    have := hi x (by rw [e]; exact List.mem_singleton_self x)
    omega
  · refine dep_tup.mpr fun t ht => ?_
    rcases List.mem_cons.mp ht with rfl | ht
    · simp [PyData.depth]
    · rw [List.mem_singleton.mp ht]
      exact dep_tup.mpr hi
def NTm : List Str := ["value", "terms", "term"]
def spTerm (n : Nat) : Sp := fun vs H Q _ => ∃ (v : V) (d : PyData), vs = [v] ∧ Dw H v d ∧ Fine n d ∧ ∀ H', Same H H' → Q (.bl (isT d)) H'
structure Wd (K : PySem.W.Frag) (mg : Str → Option Value) : Prop where
  words : ∃ a, mg "WORDS" = some (.ref a) ∧ ∀ H, SqT K H a (words.map V.str)
  most : ∃ t, mg "MOST_JOINED" = some (.int 3 t)
section
variable {P : Program} {w : World} {K : PySem.W.Frag} {mg : Str → Option Value} {base : Heap}
theorem scTerm : FnScope NTm ["value"] (defScope sTerm) :=
  ⟨rfl, rfl, rfl, by decide +kernel, rfl, by decide +kernel, by decide +kernel⟩
theorem ok_term0 {f : Addr} {fd : FuncData} (F : Fun K "is_term" "is_term" sTerm f fd) (T : Nk mg) (T2 : No mg) : FnOk P w K mg base CX0 1 f fd ["value"] (spTerm 0) := by
  refine F.ok scTerm (fun vs H Q E h => ?_) (fun cdv A outer s H vs Q E hr h => ?_)
  · obtain ⟨v, d, rfl, _⟩ := h
    rfl
  · obtain ⟨v, d, rfl, hd, hf, q⟩ := h
    refine ⟨_, pss_cons (ps_if (PW.pt (pw_or (pt_not (pt_val (pe_callB call_isi (by rfl) T.isi (by decide +kernel) (pa_cons (pv 0) (pa_cons (pe_bltn (v := .ty "tuple") (u := .type "tuple") (by rfl) T2.tuple (by decide +kernel) rfl) pa_nil)))))
        (pw_or (pt_cmpR op_lt (pe_callB call_len_seq (by rfl) T.len PySem.boot_len (pa_cons (pv 0) pa_nil)) pe_int (nomark _))
          (pw_or1 (pt_not (pt_val (pe_callB call_isi (by rfl) T.isi (by decide +kernel) (pa_cons (pe_ix ix_tup (pv 0) pe_int (fun _ _ => rfl)) (pa_cons (pe_bltn (v := .ty "str") (u := .type "str") (by rfl) T.str (by decide +kernel) rfl) pa_nil)))))))))
        (pss_one (ps_ret pe_bl)) pss_nil) (pss_cons ps_no (pss_cons ps_no (pss_cons ps_no (pss_cons ps_no (pss_one ps_no))))), ?_⟩
    refine ⟨_, rfl, ?_⟩
    dsimp only [tCons, tC, tNil]
    refine rd_isi hd (.inr (.inr (.inr (.inl rfl)))) ?_
    have e : isK "tuple" d = false ∧ isT d = false := by
      cases d with
      | tuple xs =>
        have z := hf.dep
        simp [PyData.depth] at z
      | _ => exact ⟨rfl, by simp [isT]⟩
    rw [e.2] at q
    refine ⟨_, rfl, ?_⟩
    rw [e.1]
    refine iteT' rfl ?_
    exact q H (Same.refl H)
/-- what is_term calls -/
structure TmX (P : Program) (w : World) (K : PySem.W.Frag) (mg : Str → Option Value) (base : Heap) : Prop where
  k : Nk mg
  o : No mg
  wd : Wd K mg
  nm : ∃ f fd, mg "is_name" = some (.ref f) ∧ FnOk P w K mg base CX0 1 f fd ["value"] (spIsName K) ∧ PySem.W.keepIn K (.ref f) = true ∧ Binds K fd ["value"] []
  ct : ∃ f fd, mg "is_count" = some (.ref f) ∧ FnOk P w K mg base CX0 2 f fd ["value"] spCntD ∧ PySem.W.keepIn K (.ref f) = true ∧ Binds K fd ["value"] []
  ov : ∃ f fd, mg "word_over" = some (.ref f) ∧ FnOk P w K mg base CX0 1 f fd ["word", "terms"] (spOver K) ∧ PySem.W.keepIn K (.ref f) = true ∧ Binds K fd ["word", "terms"] []
theorem rd_nm {K : PySem.W.Frag} {H : Hp} {v : V} {d : PyData} {Q : VK} {E : XK} (hd : Dw H v d) (hg : gd d = true) (q : ∀ H', Same H H' → Q (.bl (nmD d)) H') : spIsName K [v] H Q E := by
  by_cases e : ∃ x, d = .str x
  · obtain ⟨x, rfl⟩ := e
    obtain rfl := dw_str hd
    rw [gd, decide_eq_true_eq] at hg
    exact .inl ⟨x, rfl, by omega, q⟩
  · have e2 : nmD d = false := by
      cases d with
      | str x => exact absurd ⟨x, rfl⟩ e
      | _ => rfl
    have e3 : isK "str" d = false := by
      cases d with
      | str x => exact absurd ⟨x, rfl⟩ e
      | _ => rfl
    rw [e2] at q
    exact .inr ⟨v, _, rfl, ty_dw hd, by rw [kit_D d (.inr (.inr (.inl rfl))), e3], q H (Same.refl H)⟩
/-- all([is_term(term) for term in terms]) -/
theorem rd_all {n : Nat} {K : PySem.W.Frag} {H : Hp} {v0 : Option V} {c : Addr} {xs : List V} {ds : List PyData} {Q : VK} (hc : H c = some (.tup xs)) (hd : DwAll H xs ds) (hf : ∀ d ∈ ds, Fine n d) (hn : ds.length ≤ 700)
    (q : ∀ H', Same H H' → Q (.bl (allT ds)) H') : tCB (rAll K) (tCons (tLc (iTup K (tVar 1)) (gName 2) tYes (tCall (spTerm n) [] E0 (tCons (tVar 2) tNil)) [2]) tNil) [v0, some (.ref c), none] H Q := by
  have hlen : xs.length = ds.length := hd.length
  refine ⟨_, rfl, c, rfl, ⟨xs, sqT_of hc⟩, fun D nD => ?_⟩
  refine lc_it (walk_tup (K := K) (a := c) (xs := xs)) (fun i H2 => H2 D = some (.lst (((ds.take i).map isT).map V.bl)) ∧ Same H H2) ⟨upd_same, fresh_upd nD⟩ (fun i H2 _ h => sqT_of (h.2 _ _ hc)) ?_ ?_
  · rintro i x H2 H3 hi ⟨hD, S⟩ ⟨rfl, hx⟩
    obtain ⟨d, ed, hxd⟩ := dwa_at hd hx
    refine ⟨rfl, ?_⟩
    unfold tYes
    dsimp only
    rw [if_pos rfl]
    refine ⟨_, rfl, x, d, rfl, Dw.same S hxd, hf d (List.mem_of_getElem? ed), fun H4 S4 => ⟨_, S4 _ _ hD, ?_, ?_, fun b o e => ?_⟩⟩
    · rw [List.length_map, List.length_map, List.length_take, sizeLine_eq]
      have := Nat.min_le_right i ds.length
      omega
    · rw [upd_same, List.take_add_one, ed]
      simp
    · rw [upd_ne (ne_of_none e nD)]
      exact S4 _ _ (S _ _ e)
  · rintro H2 ⟨hD, S⟩
    rw [hlen, List.take_length] at hD
    refine ⟨D, ds.map isT, rfl, SqL.of hD, ?_⟩
    have e : (ds.map isT).all id = allT ds := by
      have z : ∀ l : List PyData, (l.map isT).all id = allT l := fun l => by
        induction l with
        | nil => simp [allT]
        | cons x r ih =>
          rw [List.map_cons, List.all_cons, ih, allT]
          rfl
      exact z ds
    rw [e]
    exact q H2 S
theorem ok_term {f : Addr} {fd : FuncData} (F : Fun K "is_term" "is_term" sTerm f fd) (X : TmX P w K mg base) (gF : mg "is_term" = some (.ref f)) (bF : Binds K fd ["value"] []) : ∀ n : Nat, n ≤ 50 → FnOk P w K mg base CX0 (n + 3) f fd ["value"] (spTerm n)
  | 0, _ => (ok_term0 F X.k X.o).mono (by omega)
  | n + 1, hn => by
    have ih := ok_term F X gF bF n (by omega)
    have T := X.k
    have T2 := X.o
    obtain ⟨fn, fdn, gn, Gn, kn, bn⟩ := X.nm
    obtain ⟨fc, fdc, gc, Gc, kc, bc⟩ := X.ct
    obtain ⟨fo, fdo, go, Go, ko, bo⟩ := X.ov
    obtain ⟨aw, gw, hw⟩ := X.wd.words
    obtain ⟨tm, gm⟩ := X.wd.most
    have Gn2 := Gn.mono (k := n + 3) (by omega)
    have Gc2 := Gc.mono (k := n + 3) (by omega)
    have Go2 := Go.mono (k := n + 3) (by omega)
    have kF := F.kp
    refine F.ok scTerm (fun vs H Q E h => ?_) (fun cdv A outer s H vs Q E hr h => ?_)
    · obtain ⟨v, d, rfl, _⟩ := h
      rfl
    · obtain ⟨v, d, rfl, hd, hf, q⟩ := h
      have hu : (A.deeper (envOfC "is_term" (defScope sTerm) s.heap.objs.size f cdv)).units + 64 < cLine := by have := hr.units; omega
      refine ⟨_, pss_cons (ps_if (PW.pt (pw_or (pt_not (pt_val (pe_callB call_isi (by rfl) T.isi (by decide +kernel) (pa_cons (pv 0) (pa_cons (pe_bltn (v := .ty "tuple") (u := .type "tuple") (by rfl) T2.tuple (by decide +kernel) rfl) pa_nil)))))
          (pw_or (pt_cmpR op_lt (pe_callB call_len_seq (by rfl) T.len PySem.boot_len (pa_cons (pv 0) pa_nil)) pe_int (nomark _))
            (pw_or1 (pt_not (pt_val (pe_callB call_isi (by rfl) T.isi (by decide +kernel) (pa_cons (pe_ix ix_tup (pv 0) pe_int (fun _ _ => rfl)) (pa_cons (pe_bltn (v := .ty "str") (u := .type "str") (by rfl) T.str (by decide +kernel) rfl) pa_nil)))))))))
          (pss_one (ps_ret pe_bl)) pss_nil)
        (pss_cons (ps_if (pt_cmpR op_eq (pe_ix ix_tup (pv 0) pe_int (fun _ _ => rfl)) pe_str (nomark _))
          (pss_one (ps_ret (pe_and (pe_cmpR op_eq (pe_callB call_len_seq (by rfl) T.len PySem.boot_len (pa_cons (pv 0) pa_nil)) pe_int (nomark _))
            (pe_and (pe_call Gn2 hr rfl gn kn bn .nil pass0 (pa_cons (pe_ix ix_tup (pv 0) pe_int (fun _ _ => rfl)) pa_nil)) (pe_one (pe_call Gc2 hr rfl gc kc bc .nil pass0 (pa_cons (pe_ix ix_tup (pv 0) pe_int (fun _ _ => rfl)) pa_nil))))))) pss_nil)
        (pss_cons (ps_set (i := 1) scTerm.nd rfl (.inl rfl) (pe_ix ix_tup (pv 0) (pe_un un_neg pe_int) (fun _ _ => rfl)))
        (pss_cons (ps_if (PW.pt (pw_or (pt_not (pt_val (pe_callB call_isi (by rfl) T.isi (by decide +kernel) (pa_cons (pv 1) (pa_cons (pe_bltn (v := .ty "tuple") (u := .type "tuple") (by rfl) T2.tuple (by decide +kernel) rfl) pa_nil)))))
          (pw_or1 (pt_not (pt_val (pe_callB (cr_all rfl) (by rfl) T.all (by decide +kernel) (pa_cons
            (pe_lc (own := [("term", 2)]) (g := gName 2) (tt := tYes) (te := tCall (spTerm n) [] E0 (tCons (tVar 2) tNil)) rfl scTerm.nd (pi_tup (pv 1))
              (blkOk_by (own := [("term", 2)]) (N := NTm) (sc := defScope sTerm) (by decide +kernel)) (fun _ _ _ _ _ => pg_name (i := 2) scTerm.nd rfl (Or.inl rfl))
              (fun _ _ _ _ _ => pts_nil) (fun _ _ _ _ _ => by exact pe_call ih hr rfl gF kF bF .nil pass0 (pa_cons (pv 2) pa_nil))) pa_nil)))))))
          (pss_one (ps_ret pe_bl)) pss_nil)
        (pss_cons (ps_if (pt_cmpR op_eq (pe_ix ix_tup (pv 0) pe_int (fun _ _ => rfl)) pe_str (nomark _))
          (pss_one (ps_ret (pe_and (pe_cmpR op_eq (pe_callB call_len_seq (by rfl) T.len PySem.boot_len (pa_cons (pv 0) pa_nil)) pe_int (nomark _))
            (pe_and (pe_call Gn2 hr rfl gn kn bn .nil pass0 (pa_cons (pe_ix ix_tup (pv 0) pe_int (fun _ _ => rfl)) pa_nil))
              (pe_one (pe_chain op_le op_le pe_int (pe_callB call_len_seq (by rfl) T.len PySem.boot_len (pa_cons (pv 1) pa_nil)) (pe_glob (v := .int 3) (by rfl) gm ⟨tm, rfl⟩))))))) pss_nil)
        (pss_one (ps_ret (pe_and (pe_cmpR op_in_seq (pe_ix ix_tup (pv 0) pe_int (fun _ _ => rfl)) (pe_glob (v := .ref aw) (by rfl) gw rfl) rfl)
          (pe_and (pe_cmpR op_eq (pe_callB call_len_seq (by rfl) T.len PySem.boot_len (pa_cons (pv 0) pa_nil)) pe_int (nomark _))
            (pe_and (pe_cmpR op_gt (pe_callB call_len_seq (by rfl) T.len PySem.boot_len (pa_cons (pv 1) pa_nil)) pe_int (nomark _))
              (pe_one (pe_cmpR (op_eqD hu) (pe_call Go2 hr rfl go ko bo .nil pass0 (pa_cons (pe_ix ix_tup (pv 0) pe_int (fun _ _ => rfl)) (pa_cons (pv 1) pa_nil))) (pv 0) (nomark _)))))))))))), ?_⟩
      refine ⟨_, rfl, ?_⟩
      dsimp only [tCons, tC, tNil]
      refine rd_isi hd (.inr (.inr (.inr (.inl rfl)))) ?_
      refine ⟨_, rfl, ?_⟩
      by_cases it : ∃ xs, d = .tuple xs
      case neg =>
        have e : isK "tuple" d = false ∧ isT d = false := by
          cases d with
          | tuple xs => exact absurd ⟨xs, rfl⟩ it
          | _ => exact ⟨rfl, by simp [isT]⟩
        rw [e.2] at q
        rw [e.1]
        refine iteT' rfl ?_
        exact q H (Same.refl H)
      obtain ⟨xs, rfl⟩ := it
      refine iteF ?_
      obtain ⟨b, its, rfl, hb, hits⟩ := dw_tup hd
      have hlen := hits.length
      have sq := sqT_of (K := K) hb
      refine ⟨_, rfl, b, its, rfl, .inr sq, _, _, rfl, rfl, _, rfl, ?_⟩
      by_cases h2 : xs.length < 2
      · rw [isT_short h2] at q
        refine iteT' (decide_eq_true (by omega)) ?_
        exact q H (Same.refl H)
      refine iteN' (by omega) ?_
      cases hits with
      | nil => simp at h2
      | @cons v0 vr d0 dr k0 kr =>
      cases kr with
      | nil => simp at h2
      | @cons v1 vr d1 dr k1 kr =>
      have sq := sqT_of (K := K) hb
      have fin : ∀ t ∈ d0 :: d1 :: dr, Fine n t := fun t ht => hf.item ht
      refine ⟨_, rfl, b, _, _, v0, rfl, rfl, sq, atI_nat (j := 0) rfl, ?_⟩
      dsimp only [tCons, tC, tNil]
      refine rd_isi k0 (.inr (.inr (.inl rfl))) ?_
      refine ⟨_, rfl, ?_⟩
      by_cases hs : ∃ x, d0 = .str x
      case neg =>
        have e : isK "str" d0 = false ∧ isSt d0 = false := by
          cases d0 with
          | str x => exact absurd ⟨x, rfl⟩ hs
          | _ => exact ⟨rfl, rfl⟩
        rw [isT_nostr e.2] at q
        rw [e.1]
        refine iteT' rfl ?_
        exact q H (Same.refl H)
      obtain ⟨h, rfl⟩ := hs
      obtain rfl := dw_str k0
      refine iteF ?_
      refine ⟨_, rfl, b, _, _, .str h, rfl, rfl, sq, atI_nat (j := 0) rfl, rfl, _, rfl, ?_⟩
      have hl3 : ∀ m : Nat, (decide (V.int ((V.str h :: v1 :: vr).length : Nat) = V.int ((m + 2 : Nat) : Int))) = decide (dr.length = m) := fun m => by
        have z := kr.length
        refine decide_eq_decide.mpr ⟨fun e => ?_, fun e => ?_⟩
        · have := V.int.inj e
          simp only [List.length_cons] at this
          omega
        · rw [List.length_cons, List.length_cons, z, e]
      by_cases hi : h = "in"
      · subst hi
        refine iteT' (decide_eq_true rfl) ?_
        refine ⟨_, rfl, b, _, rfl, .inr sq, rfl, _, rfl, ?_⟩
        rw [isT_ins] at q
        by_cases hz : dr.length = 1
        case neg =>
          rw [decide_eq_false hz, Bool.false_and] at q
          refine iteN' (fun e => hz (of_decide_eq_true ((hl3 1).symm.trans (decide_eq_true e)))) ?_
          exact q H (Same.refl H)
        refine iteT' ((hl3 1).trans (decide_eq_true hz)) ?_
        obtain ⟨d2, rfl⟩ := List.length_eq_one_iff.mp hz
        cases kr with
        | @cons v2 _ _ _ k2 kn =>
        refine ⟨_, rfl, b, _, _, v1, rfl, rfl, sq, atI_nat (j := 1) rfl, ?_⟩
        dsimp only [tCons, tC, tNil, List.cons_append, List.nil_append]
        refine rd_nm k1 (fin d1 (by simp)).gd fun H1 S1 => ⟨_, rfl, ?_⟩
        cases hnm : nmD d1 with
        | false =>
          rw [hnm] at q
          exact q H1 S1
        | true =>
          rw [hnm] at q
          refine iteT ?_
          exact ⟨_, rfl, b, _, _, v2, rfl, rfl, sqT_of (S1 _ _ hb), atI_nat (j := 2) rfl, v2, d2, rfl, Dw.same S1 k2, q H1 S1⟩
      · refine iteN' (fun e => hi (V.str.inj e)) ?_
        obtain ⟨i, z, vi, vz, e1, e2, kz⟩ := dwa_last (.cons k1 kr) (fun q => nomatch q)
        rw [isT_noin hi] at q
        have el : lastT (.str h :: d1 :: dr) = tupT z := by
          rw [e1]
          exact lastT_app (.str h :: i) z
        refine ⟨_, rfl, _, rfl, b, _, _, vz, rfl, rfl, sq, by rw [e2]; exact atI_last (.str h :: vi) vz, ?_⟩
        refine ⟨_, rfl, ?_⟩
        dsimp only [tCons, tC, tNil]
        refine rd_isi kz (.inr (.inr (.inr (.inl rfl)))) ?_
        refine ⟨_, rfl, ?_⟩
        by_cases itz : ∃ ts, z = .tuple ts
        case neg =>
          have e : isK "tuple" z = false ∧ lastT (.str h :: d1 :: dr) = false := by
            rw [el]
            cases z with
            | tuple xs => exact absurd ⟨xs, rfl⟩ itz
            | _ => exact ⟨rfl, rfl⟩
          rw [e.2, Bool.false_and] at q
          rw [e.1]
          refine iteT' rfl ?_
          exact q H (Same.refl H)
        obtain ⟨ts, rfl⟩ := itz
        refine iteF ?_
        obtain ⟨c, us, rfl, hc, hus⟩ := dw_tup kz
        have fz : Fine n (.tuple ts) := fin _ (List.mem_cons_of_mem _ (by rw [e1]; exact List.mem_append_right _ (List.mem_singleton_self _)))
        have hts : ts.length ≤ 700 := (gd_tup.mp fz.gd).1
        have fts : ∀ t ∈ ts, Fine n t := fun t ht => by
          cases n with
          | zero =>
            have z := fz.dep
            simp [PyData.depth] at z
          | succ n => exact (fz.item ht).up (by omega)
        have fts1 : ∀ t ∈ ts, t.depth + 1 ≤ n := fun t ht => by
          cases n with
          | zero =>
            have z := fz.dep
            simp [PyData.depth] at z
          | succ n =>
            have := (fz.item ht).dep
            omega
        refine rd_all hc hus fts hts fun H1 S1 => ⟨_, rfl, ?_⟩
        have el : lastT (.str h :: d1 :: dr) = allT ts := el
        rw [el] at q
        cases hall : allT ts with
        | false =>
          rw [hall] at q
          refine iteT' rfl ?_
          exact q H1 S1
        | true =>
        rw [hall, Bool.true_and] at q
        have hT := (allT_iff ts).mp hall
        refine iteF ?_
        have sq1 := sqT_of (K := K) (S1 _ _ hb)
        have sc1 := sqT_of (K := K) (S1 _ _ hc)
        have hul := hus.length
        refine ⟨_, rfl, b, _, _, .str h, rfl, rfl, sq1, atI_nat (j := 0) rfl, rfl, _, rfl, ?_⟩
        by_cases hL : h = "let"
        · subst hL
          rw [frm_let e1] at q
          refine iteT' (decide_eq_true rfl) ?_
          refine ⟨_, rfl, b, _, rfl, .inr sq1, rfl, _, rfl, ?_⟩
          by_cases hz : dr.length = 1
          case neg =>
            rw [decide_eq_false hz, Bool.false_and] at q
            refine iteN' (fun e => hz (of_decide_eq_true ((hl3 1).symm.trans (decide_eq_true e)))) ?_
            exact q H1 S1
          rw [decide_eq_true hz, Bool.true_and] at q
          refine iteT' ((hl3 1).trans (decide_eq_true hz)) ?_
          refine ⟨_, rfl, b, _, _, v1, rfl, rfl, sq1, atI_nat (j := 1) rfl, ?_⟩
          dsimp only [tCons, tC, tNil, List.cons_append, List.nil_append]
          refine rd_nm (Dw.same S1 k1) (fin d1 (by simp)).gd fun H2 S2 => ⟨_, rfl, ?_⟩
          have S12 := S1.trans S2
          cases hnm : nmD d1 with
          | false =>
            rw [hnm] at q
            exact q H2 S12
          | true =>
            rw [hnm, Bool.true_and] at q
            refine iteT ?_
            refine ⟨_, rfl, c, us, rfl, .inr (sqT_of (S12 _ _ hc)), _, _, rfl, rfl, _, rfl, ?_⟩
            by_cases h1 : 1 ≤ ts.length
            · rw [decide_eq_true h1, Bool.true_and] at q
              refine iteT' (decide_eq_true (by omega)) ?_
              refine ⟨_, _, rfl, rfl, ?_⟩
              have e : decide (((us.length : Nat) : Int) ≤ 3) = decide (ts.length ≤ 3) := decide_eq_decide.mpr (by omega)
              show Q (.bl (decide (((us.length : Nat) : Int) ≤ 3))) H2
              rw [e]
              exact q H2 S12
            · rw [decide_eq_false h1, Bool.false_and] at q
              refine iteN' (by omega) ?_
              exact q H2 S12
        · refine iteN' (fun e => hL (V.str.inj e)) ?_
          rw [frm_word hL e1] at q
          refine ⟨_, rfl, b, _, _, .str h, rfl, rfl, sq1, atI_nat (j := 0) rfl, aw, words.map V.str, rfl, .inr (hw H1), rfl, by decide, _, rfl, ?_⟩
          rw [if_neg Bool.false_ne_true, inV_words]
          by_cases hin : h ∈ words
          case neg =>
            rw [decide_eq_false hin, Bool.false_and] at q
            refine iteN' hin ?_
            exact q H1 S1
          rw [decide_eq_true hin, Bool.true_and] at q
          refine iteT' (decide_eq_true hin) ?_
          refine ⟨_, rfl, b, _, rfl, .inr sq1, rfl, _, rfl, ?_⟩
          by_cases hz : dr.length = 0
          case neg =>
            rw [decide_eq_false hz, Bool.false_and] at q
            refine iteN' (fun e => hz (of_decide_eq_true ((hl3 0).symm.trans (decide_eq_true e)))) ?_
            exact q H1 S1
          rw [decide_eq_true hz, Bool.true_and] at q
          refine iteT' ((hl3 0).trans (decide_eq_true hz)) ?_
          refine ⟨_, rfl, c, us, rfl, .inr sc1, _, _, rfl, rfl, _, rfl, ?_⟩
          by_cases h1 : 1 < ts.length
          case neg =>
            rw [decide_eq_false h1, Bool.false_and] at q
            refine iteN' (by omega) ?_
            exact q H1 S1
          rw [decide_eq_true h1, Bool.true_and] at q
          refine iteT' (decide_eq_true (by omega)) ?_
          have hne : ts ≠ [] := fun e => by rw [e] at h1; simp at h1
          refine ⟨_, rfl, b, _, _, .str h, rfl, rfl, sq1, atI_nat (j := 0) rfl, _, rfl, ?_⟩
          refine ⟨h, c, us, ts, rfl, hin, .inr (S1 _ _ hc), DwAll.same S1 hus, hT, fun d hd => (fts d hd).up (by omega), hts, fun H2 v S2 hv => ?_⟩
          have S12 := S1.trans S2
          have hpT := put_T hin hT hne
          have sh1 : SeqAt.shaped (putD h ts) = true := by
            unfold SeqAt.shaped
            rw [lay_T hpT, decide_eq_true (Nat.le_trans (dep_put (m := n) fun t ht => (fts t ht).dep) (by omega))]
            rfl
          have ed : d1 :: dr = [.tuple ts] := by
            have := List.length_eq_zero_iff.mp hz
            subst this
            cases i with
            | nil => exact e1
            | cons _ _ => simp at e1
          have sh2 : SeqAt.shaped (.tuple (.str h :: d1 :: dr)) = true := by
            unfold SeqAt.shaped
            rw [decide_eq_true (Nat.le_trans hf.dep (by omega)), ed, Bool.and_true]
            simp [PyData.canLay0, PyData.canLayAll0, word_ok hin, lays_of fun t ht => lay_T (hT t ht)]
          have lay2 : PyData.canLay0 (.tuple (.str h :: d1 :: dr)) = true := SeqAt.canLay_of_shaped sh2
          exact ⟨_, rfl, _, _, Dw.dp hv (lay_T hpT), Dw.dp (Dw.same S12 hd) lay2, sh1, sh2, q H2 S12⟩
end
end K40
set_option maxHeartbeats 8000000
/-! ### enumerate(t), t a tuple -/
namespace PySem
open Sem (wp)
set_option maxHeartbeats 1000000 in
theorem k40_meets_enum {v : Value} {o : Obj} {U : Heap → Prop} (B : Begins v o U) :
    Meets (Builtin.«enumerate.__new__» ⟨[.type "enumerate", v], []⟩) (fun _ R s => U s.heap ∧
      R (.ok (.ret (.ref (s.heap.push o).objs.size))) { s with heap := (s.heap.push o).push { cls := .type "enumerate", data := .fields #[.none, .bool false, .ref s.heap.objs.size, rawInt 0, .none, .none] } }) :=
  .of_wp fun prog w A R s h => by
    obtain ⟨hp, g, dr, tk, os⟩ := s
    obtain ⟨h1, h⟩ := h
    have hsub := sub_enumerate
    have q1 : ∀ {A' : Around} {E : Value → Shared → Prop} {Q : Value → Shared → Prop}, Q (.ref hp.objs.size) ⟨hp.push o, g, dr, tk, os⟩ → wpAny (model prog w) A' (pyIter v) Q E ⟨hp, g, dr, tk, os⟩ := fun q => B.iter prog w _ _ ⟨hp, g, dr, tk, os⟩ _ h1 q
    wp_walk using q1
    refine wpAny_stack_any fun st => wpAny_pure ?_
    split
    · rename_i c _ _ _ _ _
      cases (c == Value.type "enumerate") <;> (wp_walk using q1; exact ⟨_, rfl, h⟩)
    · wp_walk using q1
      exact ⟨_, rfl, h⟩
theorem k40_call_enum {prog : Program} {w : World} {A : Around} {E : Value → Shared → Prop} {s : Shared} {v : Value} {o : Obj} {U : Heap → Prop} {Q : Value → Shared → Prop} (B : Begins v o U) (h1 : U s.heap)
    (h : ∀ h', IsEnum h' (s.heap.objs.size + 1) s.heap.objs.size 0 .none → h'.get? s.heap.objs.size = some o → (∀ b o, s.heap.get? b = some o → h'.get? b = some o) → Q (.ref (s.heap.objs.size + 1)) { s with heap := h' }) :
    wpAny (model prog w) A (call (.type "enumerate") [v]) Q E s := by
  refine callType_new F.called_enumerate (by decide) (F.typeCall_enumerate_1 _) (F.newCall_enumerate_1 _) (fun obj => F.args_object_init_2 obj _) F.entry_enumerate_new (k40_meets_enum B) ⟨h1, ?_⟩
  have hz : (s.heap.push o).objs.size = s.heap.objs.size + 1 := Heap.size_push ..
  show _ ∧ _
  rw [hz]
  have he : IsEnum ((s.heap.push o).push { cls := .type "enumerate", data := .fields #[.none, .bool false, .ref s.heap.objs.size, rawInt 0, .none, .none] }) (s.heap.objs.size + 1) s.heap.objs.size 0 .none := by
    have q := Heap.get?_push_size (s.heap.push o) (o := { cls := .type "enumerate", data := .fields #[.none, .bool false, .ref s.heap.objs.size, rawInt 0, .none, .none] }) rfl
    rw [hz] at q
    exact q
  exact ⟨⟨_, he, rfl⟩, h _ he (Heap.get?_push_of_some _ (Heap.get?_push_size _ B.free)) fun b o x => Heap.get?_push_of_some _ (Heap.get?_push_of_some _ x)⟩
theorem k40_enum_end {prog : Program} {w : World} {A : Around} {E : Value → Shared → Prop} {s : Shared} {e it a : Addr} {items : Array Value} {j : Nat} {i : Int} {old : Value} {Q : Option Value → Shared → Prop} (hh : A.handled = none)
    (he : IsEnum s.heap e it i old) (hit : s.heap.IsTupleIter it a j) (ht : s.heap.IsTuple a items) (hx : items[j]? = none) (hQ : ∀ h', Heap.ExtBut it s.heap h' → Q none { s with heap := h' }) : wpAny (model prog w) A (pyNext (.ref e)) Q E s := by
  have hT : s.TypeIs (.ref e) "enumerate" := ⟨_, he, rfl⟩
  unfold pyNext
  refine wpAny_bind (wpAny_attempt (wpAny_callSpecial?_slot (name := Str.ofString "__next__") hT F.slot_enumerate_next
    (wpAny_call_entry F.slot_enumerate_next hT F.entry_enumerate_next ?_ (F.args_enumerate_next_1 _))))
  show wpAny _ _ (field (.ref e) 2 >>= _) _ _ _
  refine wpAny_bind (wpAny_field he rfl (x := .ref it) rfl ?_)
  refine wpAny_bind (wpAny_nextOf_tuple_end (A := A.in1) hh hit ht hx fun h' x he' hx' => ?_)
  obtain ⟨o, ho, hc⟩ := hx'
  refine wpAny_bind (wpAny_isInstance (T := "StopIteration") (b := true) ⟨o, ho, hc⟩ isSubtype_stop ?_)
  exact wpAny_pure (hQ _ he')
end PySem
namespace K40
open PySem PySem.Spec PyProof.Rows L2
/-- the tuple at a, each item in a new pair -/
def IteT (K : PySem.W.Frag) (a : Addr) : It :=
  ⟨fun i H => ∃ (xs : List V) (x : V), SqT K H a xs ∧ xs[i]? = some x, fun i H v H' => ∃ T x, v = .ref T ∧ H T = none ∧ H' = upd H T (.tup [.int (i : Nat), x]) ∧ ∀ xs, SqT K H a xs → xs[i]? = some x, fun i H => ∃ xs : List V, SqT K H a xs ∧ xs.length ≤ i⟩
theorem turn_enumT {P : Program} {w : World} {K : PySem.W.Frag} {elts : List Expr} {kk : Nat} {tpos : Pos} (a e it : Addr) :
    Turn P w K (.Tuple elts kk tpos) (IteT K a) [e, it] e (fun i h => (∃ old, IsEnum h e it ((i : Nat) : Int) old) ∧ h.IsTupleIter it a i ∧ e ≠ it ∧ a ≠ e ∧ a ≠ it) where
  mem := by simp
  obj := fun i h st b hb => by
    obtain ⟨⟨old, he⟩, ⟨o, ho, hc, hd⟩, _⟩ := st
    have e' : b = e ∨ b = it := by simpa using hb
    rcases e' with z | z
    · rw [z]; exact ⟨_, he, fun v q => nomatch q⟩
    · rw [z]; exact ⟨o, ho, fun v q => by rw [hd] at q; cases q⟩
  keep := fun i h h' st k => let ⟨⟨old, he⟩, hi, hne⟩ := st; ⟨⟨old, k e (by simp) _ he⟩, hi.at fun o q => k it (by simp) o q, hne⟩
  item := by
    intro X hP hw hK hc i pins s σ H E I hf st hg
    subst hP hw hK
    obtain ⟨⟨old, he⟩, hit, hne, n1, n2⟩ := st
    obtain ⟨xs, x, hq, hx⟩ := hg
    obtain ⟨its, rv, p, hz⟩ := I.tuple hq
    obtain ⟨u, hu, ru⟩ := rv.get hx
    have hel : e < s.heap.objs.size := Heap.lt_size he
    have hil : it < s.heap.objs.size := by obtain ⟨_, q, _⟩ := hit; exact Heap.lt_size q
    have hil2 : i < its.toArray.size := by
      have := (List.getElem?_eq_some_iff.mp hu).1
      simpa using this
    refine wpAny_pyNext_enum_itemD (Draws.tuple (A := X.A.in1) (show X.A.in1.handled = none from I.ok.hd hc) it a n2 its.toArray) he ⟨hit, (show s.heap.IsTuple a its.toArray from p)⟩ hil2 hne (by simp [hne, Ne.symm n1]) fun y h' tk hy ho hit' hT hsz hk => ?_
    obtain rfl : u = y := by
      have z : its.toArray[i]? = some u := by simpa using hu
      rw [z] at hy
      exact Option.some.inj hy
    refine ⟨_, rfl, wpAny_letOwnedTupleGo_enum (s := { s with heap := h', toks := tk + 1 }) ho fun h'' he' sb => ?_⟩
    have hT2 : h''.get? s.heap.objs.size = some { cls := .type "tuple", data := .seq #[.int i tk, u] } := (sb.2 _ (Nat.ne_of_gt hel)).trans hT
    have new : ObjOk X.prog X.w (upd H s.heap.objs.size (.tup [.int (i : Nat), x])) h'' s.heap.objs.size (.tup [.int (i : Nat), x]) :=
      ⟨by show 2 ≤ sizeLine; decide, [.int i tk, u], .cons ⟨_, rfl⟩ (.cons ru .nil), ⟨_, hT2, rfl, _, rfl⟩⟩
    have I1 : Inv X pins σ (upd H s.heap.objs.size (.tup [.int (i : Nat), x])) { s with heap := h'', toks := tk + 1 } :=
      I.turnedNew (ch := [e, it]) (fun b ob hb q => (sb.2 b (fun z => hb (by simp [z]))).trans (hk b ob (fun z => hb (by simp [z])) (fun z => hb (by simp [z])) q)) hf (Nat.le_refl _) new
    refine ⟨.ref s.heap.objs.size, _, I1, rfl, ⟨_, x, rfl, I.hok.fresh (Nat.le_refl _), rfl, fun ys hy => by rw [I.tuple_inj hy hq]; exact hx⟩, ⟨⟨u, ?_⟩, hit'.1.at fun o q => (sb.2 it (Ne.symm hne)).trans q, hne, n1, n2⟩, fun b hb => ?_⟩
    · have e1 : ((i + 1 : Nat) : Int) = (i : Int) + 1 := by omega
      rw [e1]; exact he'
    · have hb' : b < s.heap.objs.size := by
        have e' : b = e ∨ b = it := by simpa using hb
        rcases e' with z | z
        · rw [z]; exact hel
        · rw [z]; exact hil
      rw [upd_ne (Nat.ne_of_lt hb')]
      exact (hf b hb).1
  done := by
    intro X hP hw hK hc i pins s σ H E I hf st hg
    subst hP hw hK
    obtain ⟨⟨old, he⟩, hit, hne, n1, n2⟩ := st
    obtain ⟨xs, hq, hx⟩ := hg
    obtain ⟨its, rv, p, hz⟩ := I.tuple hq
    have hl := rv.length
    obtain ⟨f0, f1, f2, f3, f4, f5⟩ := hf it (by simp)
    exact k40_enum_end (I.ok.hd hc) he hit (show s.heap.IsTuple a its.toArray from p) (by simp; omega) fun h' eb => ⟨rfl, I.turned (t' := s.toks) (fun b o hb q => eb b o hb q) f0 f1 f3 f4 f5⟩
  self := fun A i s Q E st h => let ⟨⟨_, he⟩, _⟩ := st; wpAny_pyIter_enum he h
def iEnumT (K : PySem.W.Frag) (ta : TA) : TI := fun σ H R => ta σ H fun vs H1 => ∃ a xs, vs = [.ref a] ∧ SqT K H1 a xs ∧ R (IteT K a) H1
theorem pi_enumT {X : Cx} {e : Expr} {ta : TA} {p pos tpos : Pos} {elts : List Expr} {kk : Nat} (hg : Gl X "enumerate") (hm : X.mg "enumerate" = none) (ha : PA X [e] ta) (hs : starEach [e] X.env = [(false, eval e X.env)] := by rfl) :
    PI X (.Tuple elts kk tpos) (.Call (.Name "enumerate" p) [e] [] pos) (iEnumT X.K ta) := by
  refine ⟨fun pins s σ H R I h => ?_⟩
  refine Call_ (ld_blt I hg hm boot_enumerate (PyProof.Rows.callWith_type1 (thn (ha.run pos pins s σ H _ I h) fun us s1 ⟨vs, H1, I1, r1, q1⟩ => ?_) hs rfl))
  obtain ⟨a, xs, ex, hq, q⟩ := q1
  subst ex
  cases r1 with
  | cons r rr =>
    cases rr
    cases r
    obtain ⟨its, rv, p', hz⟩ := I1.tuple hq
    have hal : a < s1.heap.objs.size := by
      obtain ⟨o, ho, _⟩ := (show s1.heap.IsTuple a its.toArray from p')
      exact Heap.lt_size ho
    refine k40_call_enum (begins_tuple a its.toArray) (show s1.heap.IsTuple a its.toArray from p') fun h' he hit hk => wpAny_pyIter_enum he ?_
    have I2 : Inv X pins σ H1 { s1 with heap := h' } := I1.kept (t' := s1.toks) hk
    refine ⟨s1.heap.objs.size + 1, [s1.heap.objs.size + 1, s1.heap.objs.size], _, _, H1, rfl, I2, turn_enumT a (s1.heap.objs.size + 1) s1.heap.objs.size, ⟨⟨.none, he⟩, ⟨_, hit, rfl, rfl⟩, Nat.succ_ne_self _, Nat.ne_of_lt (Nat.lt_succ_of_lt hal), Nat.ne_of_lt hal⟩, fun b hb => ?_, q⟩
    have e' : b = s1.heap.objs.size + 1 ∨ b = s1.heap.objs.size := by simpa using hb
    have hle : s1.heap.objs.size ≤ b := by
      rcases e' with z | z
      · rw [z]; exact Nat.le_add_right _ _
      · rw [z]; exact Nat.le_refl _
    exact I1.fpOk hle (I1.hok.fresh hle)
theorem walk_enumT {K : PySem.W.Frag} {a : Addr} {xs : List V} : Walk (IteT K a) xs.length (fun H => SqT K H a xs) (YPair (fun i => some (.int (i : Nat))) (fun i => xs[i]?)) := by
  refine ⟨fun i _ hi q => ⟨xs, xs[i], q, by simp [hi]⟩, fun _ q => ⟨xs, q, Nat.le_refl _⟩, fun i H v H' _ q y => ?_⟩
  obtain ⟨T, x, h1, h2, h3, h4⟩ := y
  exact ⟨T, .int (i : Nat), x, h1, h2, h3, rfl, h4 xs q⟩
end K40
set_option maxHeartbeats 8000000
/-! own exceptions that are raised; methods that raise -/
namespace L2
open PySem PySem.Spec PyProof.Rows

/-- C(e, ..), to be raised: its dict is new -/
def tXm (C : Addr) (ps : List Str) (ta : TA) : St → Hp → XK → Prop := fun σ H Q => ta σ H fun vs H1 => vs.length = ps.length ∧
  ∀ d, H1 d = none → Q (.ref C) (some d) (upd H1 d (.xd (ps.zip vs.reverse)))
section
variable {X : Cx} {C : Addr} {p₀ : Str} {ps : List Str} {k : Nat} {x : Str} {p pos : Pos} {e : Expr} {es : List Expr} {ta : TA}
theorem pmk_x (M : MkAll X.prog X.w X.K X.mg C (p₀ :: ps)) (hr : Room k X.A) (hg : Gl X x) (hm : X.mg x = some (.ref C)) (R : Raises X (.ref C))
    (ha : PA X (e :: es) ta) (hdb : (x == ("__debug__" : Str)) = false := by decide)
    (he : starEach (e :: es) X.env = (false, eval e X.env) :: starEach es X.env := by rfl)
    (hpl : (backTo pos (starEach es X.env)).any (·.1) = false := by rfl) :
    PMk X (.Call (.Name x p) (e :: es) [] pos) (tXm C (p₀ :: ps) ta) := by
  intro pins s σ H Q I h
  refine wpAny_Call_Name_kw (ld_glob I hg hm ?_ hdb)
  refine PySem.W.callWith_K (h₀ := X.base) I.ok.mod.kin M.kp
    (thn (ha.run pos pins s σ H _ I h) fun us s1 ⟨vs, H1, I1, r, hl, q⟩ => ⟨I1.kIn, ?_⟩) he hpl
  have lu : us.length = (p₀ :: ps).length := r.length.symm.trans hl
  have Z := M.pos ((p₀ :: ps).zip us.reverse) (zip_fst (by rw [List.length_reverse]; exact lu))
  rw [zip_rev lu] at Z
  have kv := zip_kv (p₀ :: ps) (vals_rev r)
  have hd := hr.dp
  show wpAny _ _ (call (.ref C) us) _ _ _
  refine wpAny_call (Z X.A _ s1 I1.mh I1.nolimit (by omega) fun h' tk a W => ?_)
  have zo := W.obj
  obtain ⟨u0, ur, eu⟩ : ∃ u0 ur, us.reverse = u0 :: ur := by
    cases e : us.reverse with
    | nil =>
      have z := congrArg List.length e
      rw [List.length_reverse, lu] at z
      cases z
    | cons a b => exact ⟨a, b, rfl⟩
  obtain ⟨y0, yr, ey⟩ : ∃ y0 yr, vs.reverse = y0 :: yr := by
    cases e : vs.reverse with
    | nil =>
      have z := congrArg List.length e
      rw [List.length_reverse, hl] at z
      cases z
    | cons a b => exact ⟨a, b, rfl⟩
  rw [eu] at zo kv
  obtain ⟨t1, dx, e1, e2, e3, e4⟩ := zo
  obtain ⟨G, g1', g2'⟩ := restrict h' fun b => decide (b ≠ a)
  have gk : ∀ b, b ≠ a → G.get? b = h'.get? b := fun b hb => g1' b (decide_eq_true hb)
  have ge : G.get? a = none := g2' a (by simp)
  have na0 : H1 a = none := I1.hok.fresh W.new
  have hdx : H1 dx = none := I1.hok.fresh e2
  have keep : ∀ b o, s1.heap.get? b = some o → G.get? b = some o := fun b o z =>
    (gk b (Nat.ne_of_lt (Nat.lt_of_lt_of_le (Heap.lt_size z) W.new))).trans (W.keep b o z)
  have ok : ObjOk X.prog X.w H1 G dx (.xd ((p₀ :: ps).zip vs.reverse)) := by
    refine ⟨_, e4.at fun o y => (gk dx e3).trans y, ?_⟩
    exact kv_lookup kv
  have J := I1.laid (t' := tk) (a := dx) (o := .xd ((p₀ :: ps).zip vs.reverse)) (h' := G) keep e2 ok
  refine ⟨a, _, _, { s1 with heap := G, toks := tk }, _, .ref C, some dx, rfl, J, fun b o z => ?_, ge, e1, ⟨rfl, rfl⟩, rfl, rfl, ?_, rfl, I1.bare, R, q dx hdx⟩
  · by_cases hb : b = a
    · subst hb
      rw [show ({ s1 with heap := G, toks := tk } : Shared).heap = G from rfl, ge] at z
      cases z
    · exact (gk b hb).symm.trans z
  · rw [upd_ne e3.symm]
    exact na0
end

section
variable {X : Cx} {CX : CXT} {k : Nat} {f C : Addr} {fd : FuncData} {ps : List Str} {sp : Sp} {E : St → XK} {m : Str} {p apos : Pos} {e o : Expr} {es : List Expr} {ta : TE} {t : TA}
end

/-! ### what a suite asks of the exception that it holds -/
def tXb (a : Addr) (cls : Value) (d : Option Addr) (C : Addr) (f : Str) (te : TE) : TE := fun σ H Q => te σ H fun x H1 => x = .ref a ∧ cls = .ref C ∧
  ∃ (dd : Addr) (fs : List (Str × V)) (v : V), d = some dd ∧ H1 dd = some (.xd fs) ∧ fs.lookup f = some v ∧ Q v H1
def rXb (K : PySem.W.Frag) (a : Addr) (cls : Value) (d : Option Addr) (C : Addr) : List V → Hp → VK → Prop := fun xs H Q =>
  ∃ (c : V) (u : Value) (b : Bool) (dd : Addr) (fs : List (Str × V)), xs = [.ref a, c] ∧ cls = .ref C ∧ d = some dd ∧ H dd = some (.xd fs) ∧ ClsV c u ∧ PySem.W.kitOne K (.ref C) u = some b ∧ Q (.bl b) H
section
variable {X : Cx} {a C : Addr} {oe : Obj} {cls : Value} {d : Option Addr} {pn : List (Addr × Obj)} {e : Expr} {te : TE} {pos : Pos} {n : Str}
theorem pe_xb (T : XG X.K C) (hno : PySem.W.findIn X.K (.ref C) n = some none)
    (hz : Zc cls d oe) (hf : ∃ vs, oe.data = .fields vs) (he : PE (X.suite a ((a, oe) :: pn)) e te) (hb : attributeBase e n X.env (eval e X.env) = eval e X.env := by rfl) :
    PE (X.suite a ((a, oe) :: pn)) (.Attribute e n pos) (tXb a cls d C n te) := by
  refine ⟨fun pins s σ H Q I h => ?_⟩
  refine attr_of hb (thn (he.run pins s σ H _ I h) fun u s1 hh => ?_)
  obtain ⟨x, H1, I1, rx, ex, ec, dd, fs, v, ed, ea, l, q⟩ := hh
  subst ex
  obtain rfl : u = Value.ref a := rx
  subst ec
  subst ed
  obtain ⟨ha, _⟩ := I1.pin (a, oe) (List.mem_append_left _ List.mem_cons_self)
  obtain ⟨vs, hd⟩ := hf
  have hx : ObjOk X.prog X.w H1 s1.heap dd (.xd fs) := I1.hok dd _ ea
  obtain ⟨mA, hns, hr⟩ := hx
  obtain ⟨od, ho, hl⟩ := lookIn_ns hns
  obtain ⟨u, hu, ru⟩ := RelO.some_of (v := v) (o := mA n) (by rw [← l]; exact hr n)
  have J : PySem.W.InstAt s1.heap a oe C (some od) := ⟨ha, hz.1, by unfold PySem.W.notCls; rw [hd] <;> rfl, by rw [hz.2]; exact ho⟩
  exact HandSPX.exc_get I1.kIn J T.ga T.gg T.ex (PySem.W.findObj_own T.hd hno rfl (by rw [hl, hu])) (handed_of ru) ⟨v, H1, I1.tok _, ru, q⟩
theorem call_xb (G : XG X.K C) (hz : Zc cls d oe) (hf : ∃ vs, oe.data = .fields vs) : CallR (X.suite a ((a, oe) :: pn)) (.builtin "isinstance") (rXb X.K a cls d C) := by
  intro pins s σ H xs us Q I r h
  obtain ⟨c, u, b, dd, fs, rfl, ec, ed, ea, k, ek, q⟩ := h
  obtain ⟨u1, u2, rfl, r1, r2⟩ := vals2 r
  have e2 := k.eq r2
  subst e2
  obtain rfl : u1 = Value.ref a := r1
  subst ec
  subst ed
  obtain ⟨ha, _⟩ := I.pin (a, oe) (List.mem_append_left _ List.mem_cons_self)
  obtain ⟨vs, hd⟩ := hf
  have hx : ObjOk X.prog X.w H s.heap dd (.xd fs) := I.hok dd _ ea
  obtain ⟨mA, hns, hr⟩ := hx
  obtain ⟨od, ho, hl⟩ := lookIn_ns hns
  have J : PySem.W.InstAt s.heap a oe C (some od) := ⟨ha, hz.1, by unfold PySem.W.notCls; rw [hd] <;> rfl, by rw [hz.2]; exact ho⟩
  exact PySem.W.kia_one (PySem.W.kitx_exc G.cl G.ga G.gg G.ex G.cc G.cn G.ct G.co) I.kIn J ek (fun z => nomatch z) fun tk => ⟨.bl b, H, I.tok tk, rfl, q⟩
end

/-! ### defs that raise nothing, called whatever is being handled -/
structure RoomW (k : Nat) (A : Around) : Prop where
  dp : A.depth + 3 * k + 5 < recursionLimit
  un : A.units + 16 * k + 200 < cLine
theorem RoomW.mono {j k : Nat} {A : Around} (r : RoomW k A) (h : j ≤ k) : RoomW j A := ⟨by have := r.dp; omega, by have := r.un; omega⟩
theorem RoomW.deeper {k : Nat} {A : Around} (r : RoomW (k + 1) A) (env : Env) : RoomW k (A.deeper env) :=
  ⟨by have := r.dp; show A.depth + 1 + 3 * k + 5 < _; omega, by have := r.un; show A.units + 3 + 16 * k + 200 < _; omega⟩
theorem RoomW.depth {k : Nat} {A : Around} (r : RoomW k A) : A.depth < recursionLimit := by have := r.dp; omega
theorem RoomW.mark {k : Nat} {A : Around} (r : Room k A) (v : Option Value) : RoomW k (A.mark v) := ⟨r.dp, r.un⟩
end L2
set_option maxHeartbeats 8000000
namespace K40
open PySem PySem.Spec PyProof.Rows L2

/-! ### check_term, put_together */ -/
abbrev sChk : Stmt := top 25
abbrev sPut : Stmt := top 21
/-- an own error class with one field -/
structure Xk (P : Program) (w : World) (K : PySem.W.Frag) (mg : Str → Option Value) (x fl : Str) (C : Addr) : Prop where
  g : mg x = some (.ref C)
  m : MkAll P w K mg C [fl]
  r1 : PySem.W.subIn K (.ref C) (.type "BaseException") = some true
  r2 : PySem.W.typeIn K (.ref C) = some (.type "type")
def spChk (C : Addr) (n : Nat) : Sp := fun vs H Q E => ∃ (v : V) (d : PyData), vs = [v] ∧ Dw H v d ∧ Fine n d ∧ (isT d = true → ∀ H', Same H H' → Q .non H') ∧
  (isT d = false → ∀ H' dd, Same H H' → H dd = none → H' dd = some (.xd [("value", v)]) → E (.ref C) (some dd) H')
/-- what is put together -/
def seqOf : PyData → Option (List PyData)
  | .list xs => some xs
  | .tuple xs => some xs
  | _ => none
def spPut (CW CT : Addr) (n : Nat) : Sp := fun vs H Q E => ∃ (vw vt : V) (dw dt : PyData), vs = [vw, vt] ∧ Dw H vw dw ∧ Dw H vt dt ∧
  ((∀ wd, dw = .str wd → wd ∉ words) → ∀ H' dd, Same H H' → H dd = none → H' dd = some (.xd [("value", vw)]) → E (.ref CW) (some dd) H') ∧
  ∀ wd, dw = .str wd → wd ∈ words → (∀ ds, seqOf dt = some ds → ds.length ≤ 700 ∧ ∀ d ∈ ds, Fine n d) ∧
    ((∀ ds, seqOf dt = some ds → ds = []) → ∀ H' dd, Same H H' → H dd = none → H' dd = some (.xd [("position", .non)]) → E (.ref CT) (some dd) H') ∧
    (∀ ds (i : Nat) d, seqOf dt = some ds → ds[i]? = some d → isT d = false → (∀ j e, j < i → ds[j]? = some e → isT e = true) → ∀ H' dd, Same H H' → H dd = none → H' dd = some (.xd [("position", .int (i : Nat))]) → E (.ref CT) (some dd) H') ∧
    ∀ ds, seqOf dt = some ds → ds ≠ [] → AllT ds → ∀ H' v, Same H H' → Dw H' v (putD wd ds) → Q v H'
theorem none_back {H H' : Hp} {b : Addr} (S : Same H H') (n : H' b = none) : H b = none := by
  cases e : H b with
  | none => rfl
  | some o =>
    have z := S _ _ e
    rw [n] at z
    cases z
section
variable {P : Program} {w : World} {K : PySem.W.Frag} {mg : Str → Option Value} {base : Heap} {CT CW : Addr}
theorem scChk : FnScope ["value"] ["value"] (defScope sChk) :=
  ⟨rfl, rfl, rfl, by decide +kernel, rfl, by decide +kernel, by decide +kernel⟩
theorem ok_chk {n : Nat} {f fT : Addr} {fd fdT : FuncData} (F : Fun K "check_term" "check_term" sChk f fd)
    (GT : FnOk P w K mg base CX0 (n + 3) fT fdT ["value"] (spTerm n)) (kT : PySem.W.keepIn K (.ref fT) = true) (bT : Binds K fdT ["value"] []) (gT : mg "is_term" = some (.ref fT))
    (Z : Xk P w K mg "InvalidTerm" "value" CT) : FnOk P w K mg base (L2.CX P w) (n + 4) f fd ["value"] (spChk CT n) := by
  refine F.okX scChk (fun vs H Q E h => ?_) (fun cdv A outer s H vs Q E hr h => ?_)
  · obtain ⟨v, d, rfl, _⟩ := h
    rfl
  · obtain ⟨v, d, rfl, hd, hf, q1, q2⟩ := h
    refine ⟨_, pss_one (ps_if (pt_not (pt_val (pe_call GT hr rfl gT kT bT .nil pass0 (pa_cons (pv 0) pa_nil))))
        (pss_one (ps_raise rfl (takes_of rfl rfl rfl rfl) (pmk_x Z.m hr rfl Z.g (raises_own Z.r1 Z.r2) (pa_cons (pv 0) pa_nil)))) pss_nil), ?_⟩
    refine ⟨_, rfl, v, d, rfl, hd, hf, fun H1 S1 => ⟨_, rfl, ?_⟩⟩
    cases e : isT d with
    | true => exact q1 e H1 S1
    | false =>
      refine iteT' rfl ?_
      exact ⟨_, rfl, rfl, fun dd nd => q2 e _ dd (S1.trans (fresh_upd nd)) (none_back S1 nd) upd_same⟩
def NPt : List Str := ["word", "terms", "position", "term"]
theorem scPut : FnScope NPt ["word", "terms"] (defScope sPut) :=
  ⟨rfl, rfl, rfl, by decide +kernel, rfl, by decide +kernel, by decide +kernel⟩
/-- what put_together calls -/
structure PtX (P : Program) (w : World) (K : PySem.W.Frag) (mg : Str → Option Value) (base : Heap) (n : Nat) (CW CT : Addr) : Prop where
  k : Nk mg
  o : No mg
  wd : Wd K mg
  tm : ∃ f fd, mg "is_term" = some (.ref f) ∧ FnOk P w K mg base CX0 (n + 3) f fd ["value"] (spTerm n) ∧ PySem.W.keepIn K (.ref f) = true ∧ Binds K fd ["value"] []
  sq : ∃ f fd, mg "is_list" = some (.ref f) ∧ FnOk P w K mg base CX0 1 f fd ["value"] spSeqD ∧ PySem.W.keepIn K (.ref f) = true ∧ Binds K fd ["value"] []
  ov : ∃ f fd, mg "word_over" = some (.ref f) ∧ FnOk P w K mg base CX0 1 f fd ["word", "terms"] (spOver K) ∧ PySem.W.keepIn K (.ref f) = true ∧ Binds K fd ["word", "terms"] []
  cw : Xk P w K mg "InvalidWord" "value" CW
  ct : Xk P w K mg "InvalidTerms" "position" CT
theorem dw_seq {H : Hp} {v : V} {d : PyData} {ds : List PyData} (h : Dw H v d) (e : seqOf d = some ds) : ∃ l xs, v = .ref l ∧ SqX H l xs ∧ DwAll H xs ds := by
  cases h with
  | lst e1 h =>
    cases e
    exact ⟨_, _, rfl, .inl e1, h⟩
  | tup e1 h =>
    cases e
    exact ⟨_, _, rfl, .inr e1, h⟩
  | _ => cases e
theorem seqD_of (d : PyData) : seqD d = (seqOf d).isSome := by cases d <;> rfl
theorem ok_put {n : Nat} (hn : n ≤ 50) {f : Addr} {fd : FuncData} (F : Fun K "put_together" "put_together" sPut f fd) (Y : PtX P w K mg base n CW CT) : FnOk P w K mg base (L2.CX P w) (n + 4) f fd ["word", "terms"] (spPut CW CT n) := by
  have T := Y.k
  obtain ⟨ft, fdt, gt, Gt, kt, bt⟩ := Y.tm
  obtain ⟨fs, fds, gs, Gs, ks, bs⟩ := Y.sq
  obtain ⟨fo, fdo, go, Go, ko, bo⟩ := Y.ov
  obtain ⟨aw, gw, hw⟩ := Y.wd.words
  have Gs2 := Gs.mono (k := n + 3) (by omega)
  have Go2 := Go.mono (k := n + 3) (by omega)
  have Z := Y.cw
  have Z2 := Y.ct
  refine F.okX scPut (fun vs H Q E h => ?_) (fun cdv A outer s H vs Q E hr h => ?_)
  · obtain ⟨vw, vt, dw, dt, rfl, _⟩ := h
    rfl
  · obtain ⟨vw, vt, dw, dt, rfl, hdw, hdt, q1, q⟩ := h
    refine ⟨_, pss_cons (ps_if (PW.pt (pw_or (pt_not (pt_val (pe_callB call_isi (by rfl) T.isi (by decide +kernel) (pa_cons (pv 0) (pa_cons (pe_bltn (v := .ty "str") (u := .type "str") (by rfl) T.str (by decide +kernel) rfl) pa_nil)))))
          (pw_or1 (pt_cmpR op_notIn_seq (pv 0) (pe_glob (v := .ref aw) (by rfl) gw rfl) rfl))))
        (pss_one (ps_raise rfl (takes_of rfl rfl rfl rfl) (pmk_x Z.m hr rfl Z.g (raises_own Z.r1 Z.r2) (pa_cons (pv 0) pa_nil)))) pss_nil)
      (pss_cons (ps_if (PW.pt (pw_or (pt_not (pt_val (pe_call Gs2 hr rfl gs ks bs .nil pass0 (pa_cons (pv 1) pa_nil))))
          (pw_or1 (pt_cmpR op_eq (pe_callB call_len_seq (by rfl) T.len PySem.boot_len (pa_cons (pv 1) pa_nil)) pe_int (nomark _)))))
        (pss_one (ps_raise rfl (takes_of rfl rfl rfl rfl) (pmk_x Z2.m hr rfl Z2.g (raises_own Z2.r1 Z2.r2) (pa_cons pe_non pa_nil)))) pss_nil)
      (pss_cons (ps_for (passes_of rfl) rfl (pi_or (pi_enum (by rfl) Y.o.enum (pa_cons (pv 1) pa_nil)) (pi_enumT (by rfl) Y.o.enum (pa_cons (pv 1) pa_nil))) (pg_tup rfl (pgs_cons (pg_name (i := 2) scPut.nd rfl (Or.inl rfl)) (pgs_cons (pg_name (i := 3) scPut.nd rfl (Or.inl rfl)) pgs_nil)))
        (pss_one (ps_if (pt_not (pt_val (pe_call Gt hr rfl gt kt bt .nil pass0 (pa_cons (pv 3) pa_nil))))
          (pss_one (ps_raise rfl (takes_of rfl rfl rfl rfl) (pmk_x Z2.m hr rfl Z2.g (raises_own Z2.r1 Z2.r2) (pa_cons (pv 2) pa_nil)))) pss_nil)))
      (pss_one (ps_ret (pe_call Go2 hr rfl go ko bo .nil pass0 (pa_cons (pv 0) (pa_cons (pv 1) pa_nil))))))), ?_⟩
    refine ⟨_, rfl, ?_⟩
    dsimp only [tCons, tC, tNil]
    refine rd_isi hdw (.inr (.inr (.inl rfl))) ?_
    refine ⟨_, rfl, ?_⟩
    by_cases is : ∃ wd, dw = .str wd
    case neg =>
      have e : isK "str" dw = false := by
        cases dw with
        | str x => exact absurd ⟨x, rfl⟩ is
        | _ => rfl
      rw [e]
      refine iteT' rfl ?_
      exact ⟨_, rfl, rfl, fun dd nd => q1 (fun wd e => absurd ⟨wd, e⟩ is) _ dd (fresh_upd nd) nd upd_same⟩
    obtain ⟨wd, rfl⟩ := is
    obtain rfl := dw_str hdw
    refine iteF ?_
    refine ⟨_, rfl, aw, words.map V.str, rfl, .inr (hw H), rfl, by decide, _, rfl, ?_⟩
    rw [if_pos rfl, inV_words]
    by_cases hin : wd ∈ words
    case neg =>
      refine iteT' (by rw [decide_eq_false hin]; rfl) ?_
      exact ⟨_, rfl, rfl, fun dd nd => q1 (fun wd' e => by cases e; exact hin) _ dd (fresh_upd nd) nd upd_same⟩
    obtain ⟨qf, q2, q3, q4⟩ := q wd rfl hin
    rw [decide_eq_true hin]
    refine iteF ?_
    refine ⟨_, rfl, vt, dt, rfl, hdt, fun H1 S1 => ⟨_, rfl, ?_⟩⟩
    rw [seqD_of]
    cases hsq : seqOf dt with
    | none =>
      refine iteT' rfl ?_
      exact ⟨rfl, fun dd nd => q2 (fun ds e => by rw [hsq] at e; cases e) _ dd (S1.trans (fresh_upd nd)) (none_back S1 nd) upd_same⟩
    | some ds =>
    refine iteF ?_
    obtain ⟨l, xs, rfl, hl, hxs⟩ := dw_seq hdt hsq
    have hlen := hxs.length
    obtain ⟨hz, hfn⟩ := qf ds hsq
    have sl : SqL K H1 l xs ∨ SqT K H1 l xs := (hl.same S1).imp SqL.of sqT_of
    refine ⟨_, rfl, l, xs, rfl, sl, rfl, _, rfl, ?_⟩
    by_cases he : ds = []
    · refine iteT' (decide_eq_true (by rw [hlen, he]; rfl)) ?_
      exact ⟨rfl, fun dd nd => q2 (fun ds' e => by rw [hsq] at e; cases e; exact he) _ dd (S1.trans (fresh_upd nd)) (none_back S1 nd) upd_same⟩
    refine iteN' (fun z => he (List.length_eq_zero_iff.mp (by have := V.int.inj z; omega))) ?_
    have main : ∀ (J : It) (G1 : Hp → Prop), Walk J xs.length G1 (YPair (fun i => some (.int (i : Nat))) (fun i => xs[i]?)) → (∀ H', Same H H' → G1 H') →
        ∀ {D : Ends} {tb : TS}, (∀ i x σ H2 H3, i < xs.length → (∃ o2 o3, σ = [some (.str wd), some (.ref l), o2, o3] ∧ Same H H2 ∧ ∀ j e, j < i → ds[j]? = some e → isT e = true) → YPair (fun i => some (.int (i : Nat))) (fun i => xs[i]?) i H2 x H3 →
            (gTup K 2 (gCons (gName 2) (gCons (gName 3) gNil))) x σ H3 fun σ2 H4 => tb { D with nx := fun σ H2 => ∃ o2 o3, σ = [some (.str wd), some (.ref l), o2, o3] ∧ Same H H2 ∧ ∀ j e, j < i + 1 → ds[j]? = some e → isT e = true, ct := fun σ H2 => ∃ o2 o3, σ = [some (.str wd), some (.ref l), o2, o3] ∧ Same H H2 ∧ ∀ j e, j < i + 1 → ds[j]? = some e → isT e = true, bk := D.nx } σ2 H4) →
          (∀ H2 o2 o3, Same H H2 → AllT ds → D.nx [some (.str wd), some (.ref l), o2, o3] H2) →
        ∃ W : Nat → Nat → L2.St → Hp → Prop, (∃ m, W 0 m [some (.str wd), some (.ref l), none, none] H1) ∧ ∀ i m σ H, W i m σ H →
          (J.stop i H ∧ D.nx σ H) ∨ (J.go i H ∧ ∃ N : L2.St → Hp → Prop, (∀ σ' H', N σ' H' → ∃ m', m' < m ∧ W (i + 1) m' σ' H') ∧ ∀ x H', J.yld i H x H' → (gTup K 2 (gCons (gName 2) (gCons (gName 3) gNil))) x σ H' fun σ2 H2 => tb { D with nx := N, ct := N, bk := D.nx } σ2 H2) := by
      intro J G1 wk hG1 D tb hs hd
      refine for_it wk (fun i σ H2 => ∃ o2 o3, σ = [some (.str wd), some (.ref l), o2, o3] ∧ Same H H2 ∧ ∀ j e, j < i → ds[j]? = some e → isT e = true) ⟨_, _, rfl, S1, fun j e z => absurd z (Nat.not_lt_zero _)⟩ (fun i σ H2 _ h => ?_) hs ?_
      · obtain ⟨_, _, _, S, _⟩ := h
        exact hG1 _ S
      · rintro σ H2 ⟨o2, o3, rfl, S, h⟩
        refine hd H2 o2 o3 S fun t ht => ?_
        obtain ⟨j, hj, e⟩ := List.mem_iff_getElem.mp ht
        exact h j t (by omega) (by rw [List.getElem?_eq_getElem hj, e])
    rcases hl with hl | hl
    · refine .inl ⟨_, rfl, l, xs, rfl, SqL.of (S1 _ _ hl), main _ _ walk_enum (fun H' S => SqL.of (S _ _ hl)) ?_ ?_⟩
      · rintro i x σ H2 H3 hi ⟨o2, o3, rfl, S, hb⟩ ⟨T2, x1, y, rfl, nT, rfl, hx1, hy⟩
        cases hx1
        have S3 := fresh_upd (o := .tup [.int (i : Nat), y]) nT
        obtain ⟨d, ed, hyd⟩ := dwa_at hxs hy
        have SS := S.trans S3
        refine ⟨_, _, rfl, sqT_of upd_same, rfl, ?_⟩
        refine ⟨_, _, rfl, _, _, rfl, rfl, ?_⟩
        refine ⟨_, rfl, y, d, rfl, Dw.same SS hyd, hfn d (List.mem_of_getElem? ed), fun H5 S5 => ⟨_, rfl, ?_⟩⟩
        have SS5 := SS.trans S5
        cases e : isT d with
        | true =>
          refine iteF ?_
          refine ⟨_, _, rfl, SS5, fun j e2 hj h2 => ?_⟩
          by_cases hji : j = i
          · subst hji
            rw [ed] at h2
            cases h2
            exact e
          · exact hb j e2 (by omega) h2
        | false =>
          refine iteT' rfl ?_
          exact ⟨_, rfl, rfl, fun dd nd => q3 ds i d hsq ed e hb _ dd (SS5.trans (fresh_upd nd)) (none_back SS5 nd) upd_same⟩
      · intro H2 o2 o3 S hT
        have hz2 : ∀ d ∈ ds, Fine 50 d := fun d hd => (hfn d hd).up hn
        refine ⟨_, rfl, _, rfl, wd, l, xs, ds, rfl, hin, SqX.same (.inl hl) S, DwAll.same S hxs, hT, hz2, hz, fun H5 v S5 hv => q4 ds hsq he hT H5 v (S.trans S5) hv⟩
    · refine .inr ⟨_, rfl, l, xs, rfl, sqT_of (S1 _ _ hl), main _ _ walk_enumT (fun H' S => sqT_of (S _ _ hl)) ?_ ?_⟩
      · rintro i x σ H2 H3 hi ⟨o2, o3, rfl, S, hb⟩ ⟨T2, x1, y, rfl, nT, rfl, hx1, hy⟩
        cases hx1
        have S3 := fresh_upd (o := .tup [.int (i : Nat), y]) nT
        obtain ⟨d, ed, hyd⟩ := dwa_at hxs hy
        have SS := S.trans S3
        refine ⟨_, _, rfl, sqT_of upd_same, rfl, ?_⟩
        refine ⟨_, _, rfl, _, _, rfl, rfl, ?_⟩
        refine ⟨_, rfl, y, d, rfl, Dw.same SS hyd, hfn d (List.mem_of_getElem? ed), fun H5 S5 => ⟨_, rfl, ?_⟩⟩
        have SS5 := SS.trans S5
        cases e : isT d with
        | true =>
          refine iteF ?_
          refine ⟨_, _, rfl, SS5, fun j e2 hj h2 => ?_⟩
          by_cases hji : j = i
          · subst hji
            rw [ed] at h2
            cases h2
            exact e
          · exact hb j e2 (by omega) h2
        | false =>
          refine iteT' rfl ?_
          exact ⟨_, rfl, rfl, fun dd nd => q3 ds i d hsq ed e hb _ dd (SS5.trans (fresh_upd nd)) (none_back SS5 nd) upd_same⟩
      · intro H2 o2 o3 S hT
        have hz2 : ∀ d ∈ ds, Fine 50 d := fun d hd => (hfn d hd).up hn
        refine ⟨_, rfl, _, rfl, wd, l, xs, ds, rfl, hin, SqX.same (.inr hl) S, DwAll.same S hxs, hT, hz2, hz, fun H5 v S5 hv => q4 ds hsq he hT H5 v (S.trans S5) hv⟩
end
end K40
set_option maxHeartbeats 8000000
namespace K40
open PySem PySem.Spec PyProof.Rows L2
/-! ### _reads_in */ -/
abbrev sRin : Stmt := top 26
def inR : List PyData → Option (Str × Int)
  | [.str h, .str s, .int i] => if h = "in" then some (s, i) else none
  | _ => none
mutual
/-- the reads in a term, from the left -/
def rds : PyData → List (Str × Int)
  | .tuple xs => match inR xs with
    | some p => [p]
    | none => rdsL xs
  | _ => []
def rdsL : List PyData → List (Str × Int)
  | [] => []
  | [.tuple ts] => rdsA ts
  | [_] => []
  | _ :: y :: r => rdsL (y :: r)
def rdsA : List PyData → List (Str × Int)
  | [] => []
  | x :: r => rds x ++ rdsA r
end
theorem rdsA_eq (ts : List PyData) : rdsA ts = ts.flatMap rds := by
  induction ts with
  | nil => simp [rdsA]
  | cons x r ih => rw [rdsA, ih, List.flatMap_cons]
/-- one that isn't a read: its last part's parts -/
structure Prt (d : PyData) (h : Str) (ts : List PyData) : Prop where
  hd : ∃ m, d = .tuple (.str h :: (m ++ [.tuple ts]))
  ne : h ≠ "in"
  rd : rds d = ts.flatMap rds
  at_ : AllT ts
  n1 : 1 ≤ ts.length
theorem knd2 {d : PyData} (h : isT d = true) : (∃ s i, d = .tuple [.str "in", .str s, .int i] ∧ isNm s = true ∧ 0 ≤ i ∧ rds d = [(s, i)]) ∨
    (∃ s ts, d = .tuple [.str "let", .str s, .tuple ts] ∧ isNm s = true ∧ ts.length ≤ 3 ∧ Prt d "let" ts) ∨ ∃ w ts, d = .tuple [.str w, .tuple ts] ∧ w ∈ words ∧ Prt d w ts := by
  cases knd h with
  | @rd s i h1 h2 => exact .inl ⟨s, i, rfl, h1, h2, by simp [rds, inR]⟩
  | @lt s ts h1 h2 h3 h4 => exact .inr (.inl ⟨s, ts, rfl, h1, h3, ⟨[.str s], rfl⟩, by decide, by rw [← rdsA_eq]; simp [rds, inR, rdsL], h4, h2⟩)
  | @wd w ts h1 h2 h3 h4 => exact .inr (.inr ⟨w, ts, rfl, h1, ⟨[], rfl⟩, (word_ne h1).1, by rw [← rdsA_eq]; simp [rds, inR, rdsL], h3, by omega⟩)
def pk (p : Str × Int) : List Key := [.inr p.1, .inl p.2]
def spRin (n : Nat) : Sp := fun vs H Q _ => ∃ (v : V) (d : PyData), vs = [v] ∧ Dw H v d ∧ isT d = true ∧ Fine n d ∧ (rds d).length ≤ 100000 ∧
  ∀ H' L (ks : List (Addr × List Key)), Same H H' → H L = none → H' L = some (.lst (ks.map fun p => V.ref p.1)) → (∀ p ∈ ks, H' p.1 = some (.tup (p.2.map kV))) → ks.map (·.2) = (rds d).map pk → Q (.ref L) H'
theorem pass0C {X : Cx} : Passes (CX X.prog X.w) X E0 := fun _ _ _ _ _ _ _ ⟨_, _, _, _, _, _, _, _, _, _, _, _, hE⟩ => hE.elim
/-- any loop over a walk, from any heap -/
theorem lq_it {J : It} {n : Nat} {G : Hp → Prop} {Y : Nat → Hp → V → Hp → Prop} (w : Walk J n G Y) {B : V → Hp → (Hp → Prop) → Prop} {H0 : Hp} {Qd : Hp → Prop}
    (Pv : Nat → Hp → Prop) (h0 : Pv 0 H0) (hG : ∀ i H, i ≤ n → Pv i H → G H) (hs : ∀ i x H H', i < n → Pv i H → Y i H x H' → B x H' (Pv (i + 1))) (hd : ∀ H, Pv n H → Qd H) :
    ∃ W : Nat → Nat → Hp → Prop, (∃ m, W 0 m H0) ∧ ∀ i m H, W i m H → (J.stop i H ∧ Qd H) ∨ (J.go i H ∧ ∃ Nx : Hp → Prop, (∀ H', Nx H' → ∃ m', m' < m ∧ W (i + 1) m' H') ∧ ∀ x H', J.yld i H x H' → B x H' Nx) := by
  refine ⟨fun i m H => m = n - i ∧ i ≤ n ∧ Pv i H, ⟨n, (Nat.sub_zero n).symm, Nat.zero_le n, h0⟩, fun i m H ⟨em, hi, p⟩ => ?_⟩
  subst em
  have gd := hG i H hi p
  rcases Nat.lt_or_eq_of_le hi with hlt | rfl
  · exact .inr ⟨w.goes i H hlt gd, Pv (i + 1), fun H' p' => ⟨n - (i + 1), by omega, rfl, hlt, p'⟩, fun x H' y => hs i x H H' hlt p (w.yields i H x H' hlt gd y)⟩
  · exact .inl ⟨w.stops H gd, hd H p⟩
theorem ks_up {H H' : Hp} {ks : List (Addr × List Key)} (S : Same H H') (h : ∀ p ∈ ks, H p.1 = some (.tup (p.2.map kV))) : ∀ p ∈ ks, H' p.1 = some (.tup (p.2.map kV)) := fun p hp => S _ _ (h p hp)
theorem fm_take {ts : List PyData} (i : Nat) : ((ts.take i).flatMap rds).length ≤ (ts.flatMap rds).length := by
  have e : ts.flatMap rds = (ts.take i).flatMap rds ++ (ts.drop i).flatMap rds := by rw [← List.flatMap_append, List.take_append_drop]
  rw [e, List.length_append]
  omega
def NRi : List Str := ["term", "part", "read"]
section
variable {P : Program} {w : World} {K : PySem.W.Frag} {mg : Str → Option Value} {base : Heap}
theorem scRin : FnScope NRi ["term"] (defScope sRin) :=
  ⟨rfl, rfl, rfl, by decide +kernel, rfl, by decide +kernel, by decide +kernel⟩
theorem cut1 (v0 v1 v2 : V) : cutV [v0, v1, v2] (some 1) none = [v1, v2] := by
  unfold cutV HT.sIx
  rfl
theorem ok_rin {f : Addr} {fd : FuncData} (F : Fun K "_reads_in" "_reads_in" sRin f fd) (gF : mg "_reads_in" = some (.ref f)) (bF : Binds K fd ["term"] []) : ∀ n : Nat, n ≤ 50 → FnOk P w K mg base CX0 (n + 1) f fd ["term"] (spRin n)
  | 0, _ => by
    refine F.ok scRin (fun vs H Q E h => ?_) (fun cdv A outer s H vs Q E hr h => ?_)
    · obtain ⟨v, d, rfl, _⟩ := h
      rfl
    · obtain ⟨v, d, rfl, hd, hT, hf, _⟩ := h
      exfalso
      have z := hf.dep
      cases knd hT <;> simp [PyData.depth] at z
  | n + 1, hn => by
    have ih := ok_rin F gF bF n (by omega)
    have kF := F.kp
    refine F.ok scRin (fun vs H Q E h => ?_) (fun cdv A outer s H vs Q E hr h => ?_)
    · obtain ⟨v, d, rfl, _⟩ := h
      rfl
    · obtain ⟨v, d, rfl, hd, hT, hf, hl, q⟩ := h
      refine ⟨_, pss_cons (ps_if (pt_cmpR op_eq (pe_ix ix_tup (pv 0) pe_int (fun _ _ => rfl)) pe_str (nomark _)) (pss_one (ps_ret (pe_lst (pa_cons (pe_slice sl_tup (pv 0) (po_some pe_int) po_none) pa_nil)))) pss_nil)
        (pss_one (ps_ret (pe_lc2 (own := [("part", 1), ("read", 2)]) (vs1 := [2]) (g := gName 1) (tt := tYes) (wi1 := iList K (tCall (spRin n) [] E0 (tCons (tVar 1) tNil))) (g1 := gName 2) (tt1 := tYes) (te := tVar 2) rfl scRin.nd
          (pi_tup (pe_ix ix_tup (pv 0) (pe_un un_neg pe_int) (fun _ _ => rfl)))
          (blkOk_by (own := [("part", 1), ("read", 2)]) (N := NRi) (sc := defScope sRin) (by decide +kernel)) (by decide) (fun _ _ _ _ _ => pg_name (i := 1) scRin.nd rfl (Or.inl rfl)) (fun _ _ _ _ _ => pts_nil)
          (fun _ _ _ _ _ => by exact pi_list (pe_call ih hr rfl gF kF bF .nil pass0 (pa_cons (pv 1) pa_nil))) (fun _ _ _ _ _ => pg_name (i := 2) scRin.nd rfl (Or.inl rfl)) (fun _ _ _ _ _ => pts_nil) (fun _ _ _ _ _ => by exact pv 2)))), ?_⟩
      have hrec : ∀ h ts, Prt d h ts → ∃ b vi c us, v = .ref b ∧ H b = some (.tup (V.str h :: (vi ++ [V.ref c]))) ∧ H c = some (.tup us) ∧ DwAll H us ts := fun h ts p => by
        obtain ⟨m, e⟩ := p.hd
        rw [e] at hd
        obtain ⟨b, its, rfl, hb, hits⟩ := dw_tup hd
        cases hits with
        | @cons v0 vr _ _ k0 kr =>
        obtain rfl := dw_str k0
        obtain ⟨i, z, vi, vz, e1, e2, kz⟩ := dwa_last kr (by simp)
        have ez : z = .tuple ts := by
          have := List.append_inj_right' e1 rfl
          exact (List.cons.inj this).1.symm
        rw [ez] at kz
        obtain ⟨c, us, rfl, hc, hus⟩ := dw_tup kz
        rw [e2] at hb
        exact ⟨b, vi, c, us, rfl, hb, hc, hus⟩
      rcases knd2 hT with ⟨s, i, rfl, h1, h2, h3⟩ | h
      · obtain ⟨b, its, rfl, hb, hits⟩ := dw_tup hd
        cases hits with
        | @cons v0 _ _ _ k0 kr =>
        cases kr with
        | @cons v1 _ _ _ k1 kr =>
        cases kr with
        | @cons v2 _ _ _ k2 kr =>
        cases kr
        obtain rfl := dw_str k0
        obtain rfl := dw_str k1
        have ev2 : v2 = .int i := by
          cases k2
          rfl
        subst ev2
        have sq := sqT_of (K := K) hb
        refine ⟨_, rfl, b, _, _, .str "in", rfl, rfl, sq, atI_nat (j := 0) rfl, rfl, _, rfl, ?_⟩
        refine iteT' (decide_eq_true rfl) ?_
        refine ⟨_, rfl, _, rfl, b, _, rfl, sq, (fun z => by cases z.1), fun p np => ?_⟩
        rw [cut1]
        have S1 := fresh_upd (o := .tup [V.str s, V.int i]) np
        refine ⟨by rw [sizeLine_eq]; show 1 ≤ 16777216; decide, fun L nL => ?_⟩
        have S2 := fresh_upd (o := .lst [V.ref p]) nL
        refine q _ L [(p, [.inr s, .inl i])] (S1.trans S2) (none_back S1 nL) upd_same (fun r hr => ?_) (by rw [h3]; rfl)
        rw [List.mem_singleton.mp hr]
        exact S2 _ _ upd_same
      · have h : ∃ hh ts, Prt d hh ts := by
          rcases h with ⟨_, ts, _, _, _, p⟩ | ⟨w, ts, _, _, p⟩
          · exact ⟨_, _, p⟩
          · exact ⟨_, _, p⟩
        obtain ⟨hh, ts, p⟩ := h
        obtain ⟨b, vi, c, us, rfl, hb, hc, hus⟩ := hrec hh ts p
        have sq := sqT_of (K := K) hb
        refine ⟨_, rfl, b, _, _, .str hh, rfl, rfl, sq, atI_nat (j := 0) rfl, rfl, _, rfl, ?_⟩
        refine iteN' (fun e => p.ne (V.str.inj e)) ?_
        have fts : ∀ t ∈ ts, Fine n t := fun t ht => by
          obtain ⟨m, e⟩ := p.hd
          rw [e] at hf
          have z := hf.item (List.mem_cons_of_mem _ (List.mem_append_right _ (List.mem_singleton_self _)))
          cases n with
          | zero =>
            have z := z.dep
            simp [PyData.depth] at z
          | succ n => exact (z.item ht).up (by omega)
        have hul := hus.length
        rw [p.rd] at hl
        refine ⟨_, rfl, _, rfl, b, _, _, .ref c, rfl, rfl, sq, (by exact atI_last (V.str hh :: vi) (V.ref c)), c, rfl, ⟨us, sqT_of hc⟩, fun D nD => ?_⟩
        refine lq_it (walk_tup (K := K) (a := c) (xs := us)) (fun i H4 => Same H H4 ∧ ∃ ks : List (Addr × List Key), H4 D = some (.lst (ks.map fun p => V.ref p.1)) ∧ (∀ p ∈ ks, H4 p.1 = some (.tup (p.2.map kV))) ∧ ks.map (·.2) = ((ts.take i).flatMap rds).map pk)
          ⟨fresh_upd nD, [], upd_same, (fun p z => nomatch z), rfl⟩ (fun i H4 _ h => sqT_of (h.1 _ _ hc)) ?_ ?_
        · rintro i x H4 H5 hi ⟨S4, ks, eD, hk, ek⟩ ⟨rfl, hx⟩
          obtain ⟨t, et, hxt⟩ := dwa_at hus hx
          have htm : t ∈ ts := List.mem_of_getElem? et
          have e1 : (ts.take (i + 1)).flatMap rds = (ts.take i).flatMap rds ++ rds t := by
            rw [List.take_add_one, et]
            show (List.take i ts ++ [t]).flatMap rds = _
            rw [List.flatMap_append, List.flatMap_singleton]
          have z1 := fm_take (ts := ts) (i + 1)
          rw [e1, List.length_append] at z1
          refine ⟨rfl, ?_⟩
          unfold tYes
          dsimp only
          rw [if_pos rfl]
          refine ⟨_, rfl, x, t, rfl, Dw.same S4 hxt, p.at_ t htm, fts t htm, by omega, fun H6 ln ks1 S6 nln eln hk1 ek1 => ?_⟩
          have eD6 := S6 _ _ eD
          have hDl : D ≠ ln := ne_of_none eD nln
          have hl1 : ks.length = ((ts.take i).flatMap rds).length := by
            have := congrArg List.length ek
            simpa using this
          have hl2 : ks1.length = (rds t).length := by
            have := congrArg List.length ek1
            simpa using this
          refine ⟨ln, rfl, ⟨_, SqL.of eln⟩, ?_⟩
          refine lq_it (walk_list (K := K) (a := ln) (xs := ks1.map fun p => V.ref p.1)) (fun j H7 => Same H H7 ∧ H7 ln = some (.lst (ks1.map fun p => V.ref p.1)) ∧ (∀ p ∈ ks ++ ks1, H7 p.1 = some (.tup (p.2.map kV))) ∧ H7 D = some (.lst ((ks ++ ks1.take j).map fun p => V.ref p.1)))
            ⟨S4.trans S6, eln, (fun p hp => (List.mem_append.mp hp).elim (ks_up S6 hk p) (hk1 p)), by rw [List.take_zero, List.append_nil]; exact eD6⟩ (fun j H7 _ h => SqL.of h.2.1) ?_ ?_
          · rintro j y H7 H8 hj ⟨S7, eln7, hk7, eD7⟩ ⟨rfl, hy⟩
            rw [List.length_map] at hj
            have ey : y = .ref ks1[j].1 := by
              rw [List.getElem?_map, List.getElem?_eq_getElem hj] at hy
              exact (Option.some.inj hy).symm
            subst ey
            refine ⟨rfl, ?_⟩
            dsimp only
            rw [if_pos rfl]
            have hz : (ks ++ ks1.take j).length ≤ 100000 := by
              rw [List.length_append, List.length_take]
              omega
            refine ⟨_, rfl, _, eD7, by rw [List.length_map, sizeLine_eq]; omega, fun b' o e => ?_, ?_, fun r hr => ?_, ?_⟩
            · rw [upd_ne (ne_of_none e nD)]
              exact S7 _ _ e
            · rw [upd_ne (Ne.symm hDl)]
              exact eln7
            · have z := hk7 r hr
              rw [upd_ne (fun e => by rw [e, eD7] at z; cases z)]
              exact z
            · rw [upd_same, List.take_add_one, List.getElem?_eq_getElem hj, ← List.append_assoc, List.map_append (l₂ := (some ks1[j]).toList)]
              rfl
          · rintro H7 ⟨S7, _, hk7, eD7⟩
            rw [List.length_map, List.take_length] at eD7
            exact ⟨S7, ks ++ ks1, eD7, hk7, by rw [List.map_append, ek, ek1, e1, List.map_append]⟩
        · rintro H4 ⟨S4, ks, eD, hk, ek⟩
          rw [hul, List.take_length] at ek
          exact q H4 D ks S4 nD eD hk (by rw [p.rd]; exact ek)
end
end K40
set_option maxHeartbeats 8000000
namespace K40
open PySem PySem.Spec PyProof.Rows L2
open PySem.W (dataLt)

/-! ### pairs of a text and a number; reads_of */ -/
def IsP (d : PyData) : Prop := ∃ s i, d = .tuple [.str s, .int i] ∧ PyData.strOk s = true
theorem lik_P {d e : PyData} (hd : IsP d) (he : IsP e) : lik d e = true := by
  obtain ⟨s, i, rfl, _⟩ := hd
  obtain ⟨t, j, rfl, _⟩ := he
  exact lik_tup (liks_mk (lik_str _ _) fun _ => liks_mk (by simp [lik]) fun _ => liks_nil)
theorem lay_P {d : PyData} (hd : IsP d) : d.canLay0 = true := by
  obtain ⟨s, i, rfl, h⟩ := hd
  simp [PyData.canLay0, PyData.canLayAll0, h]
theorem tt_P {d : PyData} (hd : IsP d) : Tt d := by
  refine ⟨?_, lay_P hd, ?_⟩
  · obtain ⟨s, i, rfl, _⟩ := hd
    exact ⟨_, _, rfl⟩
  · obtain ⟨s, i, rfl, _⟩ := hd
    simp [PyData.depth, PyData.depthAll]
theorem eqv_P {d e : PyData} (hd : IsP d) (he : IsP e) : PyData.eqv d e = true ↔ d = e := by
  refine ⟨fun q => lik_eq d e (lik_P hd he) q, fun q => ?_⟩
  subst q
  exact SeqAt.eqv_refl d (lay_P hd)
abbrev AllP (ts : List PyData) : Prop := ∀ t ∈ ts, IsP t
theorem AllP.lik {ts : List PyData} (h : AllP ts) : ∀ x ∈ ts, ∀ y ∈ ts, lik x y = true := fun x hx y hy => lik_P (h x hx) (h y hy)
theorem AllP.tail {t : PyData} {ts : List PyData} (h : AllP (t :: ts)) : AllP ts := fun u hu => h u (List.mem_cons_of_mem _ hu)
theorem AllP.srt {ts : List PyData} (h : AllP ts) : AllP (srtD ts) := fun t ht => h t (mem_srt.mp ht)
theorem ddA_memP : ∀ {p : PyData} {l : List PyData}, AllP (p :: l) → ∀ x ∈ l, x = p ∨ x ∈ ddA p l
  | _, [], _, x, hx => nomatch hx
  | p, y :: r, h, x, hx => by
    have hp := h p List.mem_cons_self
    have hy := h y (List.mem_cons_of_mem _ List.mem_cons_self)
    unfold ddA
    split
    · rename_i e
      have e' := (eqv_P hp hy).mp e
      subst e'
      rcases List.mem_cons.mp hx with rfl | hx
      · exact .inl rfl
      · exact ddA_memP h.tail x hx
    · rcases List.mem_cons.mp hx with rfl | hx
      · exact .inr List.mem_cons_self
      · rcases ddA_memP h.tail x hx with rfl | hx
        · exact .inr List.mem_cons_self
        · exact .inr (List.mem_cons_of_mem _ hx)
theorem ddp_memP {l : List PyData} (h : AllP l) {x : PyData} : x ∈ ddp l ↔ x ∈ l := by
  refine ⟨fun hx => (ddp_sub l).subset hx, fun hx => ?_⟩
  cases l with
  | nil => exact nomatch hx
  | cons y r =>
    rcases List.mem_cons.mp hx with rfl | hx
    · exact List.mem_cons_self
    · rcases ddA_memP h x hx with rfl | hx
      · exact List.mem_cons_self
      · exact List.mem_cons_of_mem _ hx
theorem ddA_ndP : ∀ {p : PyData} {l : List PyData}, AllP (p :: l) → SrD (p :: l) → p ∉ ddA p l ∧ (ddA p l).Nodup
  | _, [], _, _ => ⟨(fun h => nomatch h), List.nodup_nil⟩
  | p, x :: r, h, s => by
    have hp := h p List.mem_cons_self
    have hx := h x (List.mem_cons_of_mem _ List.mem_cons_self)
    obtain ⟨s1, s2⟩ := List.pairwise_cons.mp s
    obtain ⟨i1, i2⟩ := ddA_ndP h.tail s2
    unfold ddA
    split
    · rename_i e
      have e' := (eqv_P hp hx).mp e
      subst e'
      exact ⟨i1, i2⟩
    · rename_i e
      have ne : p ≠ x := fun q => e ((eqv_P hp hx).mpr q)
      refine ⟨fun z => ?_, List.nodup_cons.mpr ⟨i1, i2⟩⟩
      rcases List.mem_cons.mp z with z | z
      · exact ne z
      · have zr := (ddA_sub x r).subset z
        exact ne (lt_total (lik_P hp hx) ((List.pairwise_cons.mp s2).1 p zr) (s1 x List.mem_cons_self))
theorem ddp_ndP {l : List PyData} (h : AllP l) (s : SrD l) : (ddp l).Nodup := by
  cases l with
  | nil => exact List.nodup_nil
  | cons x r => exact List.nodup_cons.mpr (ddA_ndP h s)
theorem ddA_idP : ∀ {p : PyData} {l : List PyData}, AllP (p :: l) → (p :: l).Nodup → ddA p l = l
  | _, [], _, _ => rfl
  | p, x :: r, h, n => by
    have hp := h p List.mem_cons_self
    have hx := h x (List.mem_cons_of_mem _ List.mem_cons_self)
    obtain ⟨n1, n2⟩ := List.nodup_cons.mp n
    have e : ¬ PyData.eqv p x = true := fun q => n1 (by rw [(eqv_P hp hx).mp q]; exact List.mem_cons_self)
    unfold ddA
    rw [if_neg e, ddA_idP h.tail n2]
theorem ddp_idP {l : List PyData} (h : AllP l) (n : l.Nodup) : ddp l = l := by
  cases l with
  | nil => rfl
  | cons x r =>
    show x :: ddA x r = x :: r
    rw [ddA_idP h n]
theorem dd_uniqP {a b : List PyData} (ha : AllP a) (hb : AllP b) (h : ∀ x, x ∈ a ↔ x ∈ b) : ddp (srtD a) = ddp (srtD b) := by
  have pa : SrD (ddp (srtD a)) := List.Pairwise.sublist (ddp_sub _) (srt_srt a)
  have pb : SrD (ddp (srtD b)) := List.Pairwise.sublist (ddp_sub _) (srt_srt b)
  have pm : (ddp (srtD a)).Perm (ddp (srtD b)) := (List.perm_ext_iff_of_nodup (ddp_ndP ha.srt (srt_srt a)) (ddp_ndP hb.srt (srt_srt b))).mpr fun x => by
    rw [ddp_memP ha.srt, ddp_memP hb.srt, mem_srt, mem_srt]
    exact h x
  exact srt_uniq pa pb pm fun x hx y hy => lik_P (ha.srt x ((ddp_sub _).subset hx)) (ha.srt y ((ddp_sub _).subset hy))


def pD (r : Str × Int) : PyData := .tuple [.str r.1, .int r.2]
theorem tD_pk (r : Str × Int) : tD (pk r) = pD r := rfl
theorem pk_inj {a b : Str × Int} (h : pD a = pD b) : pk a = pk b := by
  unfold pD at h
  simp only [PyData.tuple.injEq, List.cons.injEq, PyData.str.injEq, PyData.int.injEq, and_true] at h
  unfold pk
  rw [h.1, h.2]
/-- the reads, sorted, doubles dropped -/
def rdO (d : PyData) : List PyData := ddp (srtD ((rds d).map pD))
theorem rds_ok {d : PyData} (h : isT d = true) : ∀ r ∈ rds d, PyData.strOk r.1 = true := by
  refine tInd (M := fun d => ∀ r ∈ rds d, PyData.strOk r.1 = true) (fun s i h1 _ r hr => ?_) (fun s ts h1 _ _ h4 ih r hr => ?_) (fun h ts hw _ _ _ ih r hr => ?_) _ d (Nat.lt_succ_self _) h
  · have e : rds (.tuple [.str "in", .str s, .int i]) = [(s, i)] := by simp [rds, inR]
    rw [e] at hr
    rw [List.mem_singleton.mp hr]
    exact nm_ok h1
  · have e : rds (.tuple [.str "let", .str s, .tuple ts]) = ts.flatMap rds := by rw [← rdsA_eq]; simp [rds, inR, rdsL]
    rw [e] at hr
    obtain ⟨t, ht, hr⟩ := List.mem_flatMap.mp hr
    exact ih t ht r hr
  · have e : rds (.tuple [.str h, .tuple ts]) = ts.flatMap rds := by rw [← rdsA_eq]; simp [rds, inR, rdsL]
    rw [e] at hr
    obtain ⟨t, ht, hr⟩ := List.mem_flatMap.mp hr
    exact ih t ht r hr
theorem rds_P {d : PyData} (h : isT d = true) : AllP ((rds d).map pD) := fun x hx => by
  obtain ⟨r, hr, rfl⟩ := List.mem_map.mp hx
  exact ⟨_, _, rfl, rds_ok h r hr⟩
abbrev sRo : Stmt := top 23
def spRo (C : Addr) (n : Nat) : Sp := fun vs H Q E => ∃ (v : V) (d : PyData), vs = [v] ∧ Dw H v d ∧ Fine n d ∧ (isT d = false → ∀ H' dd, Same H H' → H dd = none → H' dd = some (.xd [("value", v)]) → E (.ref C) (some dd) H') ∧
  (isT d = true → (rds d).length ≤ 100000 ∧ (∃ D : List (List Key), (∀ r ∈ rds d, pk r ∈ D) ∧ D.length < 64) ∧ ∀ H' L ys, Same H H' → H L = none → H' L = some (.lst ys) → DwAll H' ys (rdO d) → Q (.ref L) H')
structure Nro (mg : Str → Option Value) : Prop where
  set : mg "set" = none
  sorted : mg "sorted" = none
section
variable {P : Program} {w : World} {K : PySem.W.Frag} {mg : Str → Option Value} {base : Heap} {CT : Addr}
theorem scRo : FnScope ["term"] ["term"] (defScope sRo) :=
  ⟨rfl, rfl, rfl, by decide +kernel, rfl, by decide +kernel, by decide +kernel⟩
theorem ok_ro {n : Nat} {f fC fR : Addr} {fd fdC fdR : FuncData} (F : Fun K "reads_of" "reads_of" sRo f fd) (N : Nro mg)
    (GC : FnOk P w K mg base (L2.CX P w) (n + 4) fC fdC ["value"] (spChk CT n)) (kC : PySem.W.keepIn K (.ref fC) = true) (bC : Binds K fdC ["value"] []) (gC : mg "check_term" = some (.ref fC))
    (GR : FnOk P w K mg base CX0 (n + 1) fR fdR ["term"] (spRin n)) (kR : PySem.W.keepIn K (.ref fR) = true) (bR : Binds K fdR ["term"] []) (gR : mg "_reads_in" = some (.ref fR)) :
    FnOk P w K mg base (L2.CX P w) (n + 5) f fd ["term"] (spRo CT n) := by
  have GR2 := GR.mono (k := n + 4) (by omega)
  refine F.okX scRo (fun vs H Q E h => ?_) (fun cdv A outer s H vs Q E hr h => ?_)
  · obtain ⟨v, d, rfl, _⟩ := h
    rfl
  · obtain ⟨v, d, rfl, hd, hf, q1, q2⟩ := h
    have hu : (A.deeper (envOfC "reads_of" (defScope sRo) s.heap.objs.size f cdv)).units + 64 < cLine := by have := hr.units; omega
    refine ⟨_, pss_cons (ps_expr (pe_call (E := E) GC hr rfl gC kC bC .nil (passes_call (takes_of rfl rfl rfl rfl) (fun _ _ _ _ h => h)) (pa_cons (pv 0) pa_nil)))
      (pss_one (ps_ret (pe_callB (cr_sortTs rfl hu) (by rfl) N.sorted (by decide +kernel) (pa_cons (pe_callTy (cr_setTs rfl hu) (by rfl) N.set (by decide +kernel) (pa_cons (pe_call GR2 hr rfl gR kR bR .nil pass0 (pa_cons (pv 0) pa_nil)) pa_nil)) pa_nil)))), ?_⟩
    refine ⟨_, rfl, v, d, rfl, hd, hf, fun e H1 S1 => ?_, fun e H1 dd S1 nd ed => q1 e H1 dd S1 nd ed⟩
    obtain ⟨hl, ⟨D, hD, hDl⟩, q3⟩ := q2 e
    refine ⟨_, rfl, v, d, rfl, Dw.same S1 hd, e, hf, hl, fun H2 L ks S2 nL eL hk ek => ?_⟩
    have hin : ∀ p ∈ ks, ∃ r ∈ rds d, p.2 = pk r := fun p hp => by
      have z : p.2 ∈ ks.map (·.2) := List.mem_map.mpr ⟨p, hp, rfl⟩
      rw [ek] at z
      obtain ⟨r, hr, e⟩ := List.mem_map.mp z
      exact ⟨r, hr, e.symm⟩
    refine ⟨L, ks, D, rfl, SqL.of eL, hk, fun p hp => ?_, hDl, fun a Ls na hs1 hs2 nd => ?_⟩
    · obtain ⟨r, hr, e⟩ := hin p hp
      rw [e]
      exact hD r hr
    · have S3 := fresh_upd (o := TsO P w a Ls) na
      have hP : AllP (Ls.map fun q => tD q.2) := fun x hx => by
        obtain ⟨p, hp, rfl⟩ := List.mem_map.mp hx
        obtain ⟨r, hr, e⟩ := hin p (hs1 p hp)
        rw [e, tD_pk]
        exact rds_P ‹_› _ (List.mem_map.mpr ⟨r, hr, rfl⟩)
      refine ⟨a, Ls, rfl, upd_same, fun p hp => S3 _ _ (hk p (hs1 p hp)), fun p hp => tt_P (hP _ (List.mem_map.mpr ⟨p, hp, rfl⟩)), fun p hp r hr => lik_P (hP _ (List.mem_map.mpr ⟨p, hp, rfl⟩)) (hP _ (List.mem_map.mpr ⟨r, hr, rfl⟩)), fun ys p hys np => ?_⟩
      have S4 := fresh_upd (o := .lst ys) np
      have S := S1.trans (S2.trans (S3.trans S4))
      refine q3 _ p ys S (none_back (S1.trans (S2.trans S3)) np) upd_same ?_
      have eo : rdO d = srtD (Ls.map fun q => tD q.2) := by
        unfold rdO
        have e1 : ddp (srtD ((rds d).map pD)) = ddp (srtD (Ls.map fun q => tD q.2)) := dd_uniqP (rds_P ‹_›) hP fun x => by
          constructor
          · intro hx
            obtain ⟨r, hr, rfl⟩ := List.mem_map.mp hx
            have z : pk r ∈ ks.map (·.2) := by
              rw [ek]
              exact List.mem_map.mpr ⟨r, hr, rfl⟩
            obtain ⟨p, hp, e⟩ := List.mem_map.mp z
            have z2 := hs2 p hp
            obtain ⟨p2, hp2, e2⟩ := List.mem_map.mp z2
            exact List.mem_map.mpr ⟨p2, hp2, by show tD p2.2 = _; rw [e2, e, tD_pk]⟩
          · intro hx
            obtain ⟨p, hp, rfl⟩ := List.mem_map.mp hx
            obtain ⟨r, hr, e⟩ := hin p (hs1 p hp)
            exact List.mem_map.mpr ⟨r, hr, by rw [e, tD_pk]⟩
        rw [e1]
        refine ddp_idP hP.srt ?_
        refine ((srt_perm _).nodup_iff).mpr ?_
        have z : ∀ l : List (Addr × List Key), (∀ p ∈ l, ∃ r ∈ rds d, p.2 = pk r) → (l.map (·.2)).Nodup → (l.map fun q => tD q.2).Nodup := fun l hl hn => by
          rw [List.nodup_iff_pairwise_ne, List.pairwise_map] at hn ⊢
          refine List.Pairwise.imp_of_mem (fun {a b} ha hb hne e => hne ?_) hn
          obtain ⟨r, _, e1⟩ := hl a ha
          obtain ⟨r2, _, e2⟩ := hl b hb
          rw [e1, e2, tD_pk, tD_pk] at e
          rw [e1, e2]
          exact pk_inj e
        exact z Ls (fun p hp => hin p (hs1 p hp)) nd
      rw [eo]
      exact DwAll.same S4 hys
end
end K40
set_option maxHeartbeats 8000000
namespace K40
open PySem PySem.Spec PyProof.Rows L2 TL

/-! ### texts of terms */ -/
def decS (n : Int) : Str := Str.ofString (toString n)
def Big (v : Int) : Prop := -(10 ^ 60) < v ∧ v < 10 ^ 60
theorem dec_len0 {v : Int} (h0 : 0 ≤ v) (h : v < 10 ^ 60) : (decS v).length ≤ 60 := toString_length_le h0 (by decide) h
theorem log_of {v : Int} (h : Big v) : v.natAbs.log2 < 1920 := by
  have h1 : v.natAbs < 2 ^ 200 := by
    have h2 : (10 : Int) ^ 60 < 2 ^ 200 := by decide
    have h3 : ((v.natAbs : Nat) : Int) < 2 ^ 200 := by
      have := h.1
      have := h.2
      omega
    exact_mod_cast h3
  by_cases h0 : v.natAbs = 0
  · rw [h0]
    decide
  · have := (Nat.log2_lt h0).mpr h1
    omega
theorem join_one (y x : Str) : Txt.join y [x] = x := by
  rw [join_eq]
  rfl
theorem len_joinL (S : List Nat) : ∀ ps : List (List Nat), (joinL S ps).length ≤ (ps.map List.length).sum + ps.length * S.length
  | [] => Nat.zero_le _
  | [p] => by
    show p.length ≤ p.length + 0 + 1 * S.length
    omega
  | p :: q :: r => by
    have ih := len_joinL S (q :: r)
    show (p ++ (S ++ joinL S (q :: r))).length ≤ (p.length + ((q :: r).map List.length).sum) + ((q :: r).length + 1) * S.length
    rw [List.length_append, List.length_append, Nat.add_mul, Nat.one_mul]
    omega

abbrev sDec : Stmt := top 3
abbrev sTo : Stmt := top 27
abbrev sTt : Stmt := top 24
def spDec0 : Sp := fun vs H Q _ => ∃ n : Int, vs = [.int n] ∧ 0 ≤ n ∧ n < 10 ^ 60 ∧ ∀ H', Same H H' → Q (.str (decS n)) H'
structure Ns (mg : Str → Option Value) : Prop where
  str : mg "str" = none
  chunk : ∃ t, mg "CHUNK" = some (.int (10 ^ 60) t)
section
variable {P : Program} {w : World} {K : PySem.W.Frag} {mg : Str → Option Value} {base : Heap}
theorem scDec : FnScope ["number", "parts", "low"] ["number"] (defScope sDec) :=
  ⟨rfl, rfl, rfl, by decide +kernel, rfl, by decide +kernel, by decide +kernel⟩

theorem ok_dec0 {f : Addr} {fd : FuncData} (F : Fun K "decimal_text" "decimal_text" sDec f fd) (T : Ns mg) :
    FnOk P w K mg base CX0 1 f fd ["number"] spDec0 := by
  obtain ⟨tc, gc⟩ := T.chunk
  refine F.ok scDec (fun vs H Q E h => ?_) (fun cdv A outer s H vs Q E hr h => ?_)
  · obtain ⟨n, rfl, _⟩ := h
    rfl
  · obtain ⟨n, rfl, h0, h1, k⟩ := h
    refine ⟨_, pss_cons (ps_if (pt_cmpR op_lt (pv 0) pe_int (nomark _)) (pss_one ps_no) pss_nil)
      (pss_cons (ps_set (i := 1) scDec.nd rfl (.inl rfl) (pe_lst pa_nil))
      (pss_cons (ps_while PassesOwn.never (pt_cmpR op_ge (pv 0) (pe_glob (v := .int (10 ^ 60)) (by rfl) gc ⟨tc, rfl⟩) (nomark _)) (pss_cons ps_no (pss_one ps_no)))
      (pss_cons (ps_expr (pe_bm PySem.F.plainAttrs_list PySem.F.slot_list_append PySem.F.type_list_append mt_append (pv 1) (pa_cons (pe_callTy call_str_int (by rfl) T.str (by decide +kernel) (pa_cons (pv 0) pa_nil)) pa_nil)))
      (pss_one (ps_ret (pe_join pe_str (pe_revL (pv 1)))))))), ?_⟩
    refine ⟨_, rfl, _, _, rfl, rfl, _, rfl, ?_⟩
    refine iteN' (by omega) ?_
    refine ⟨Nat.zero_le _, fun a na => ?_⟩
    have S1 := fresh_upd (o := .lst []) na
    refine ⟨fun m σ H2 => σ = [some (.int n), some (.ref a), none] ∧ H2 = upd H a (.lst []), ⟨0, rfl, rfl⟩, ?_⟩
    rintro m σ H2 ⟨rfl, rfl⟩
    refine ⟨_, rfl, _, _, rfl, rfl, _, rfl, ?_⟩
    refine iteN' (by omega) ?_
    refine ⟨_, rfl, .inl ⟨rfl, _, SqL.of upd_same⟩, _, rfl, n, rfl, log_of ⟨by omega, h1⟩, a, [], _, rfl, rfl, upd_same, by rw [sizeLine_eq]; show 0 < 16777216; decide, ?_⟩
    refine ⟨⟨_, rfl⟩, _, rfl, a, _, rfl, SqL.of upd_same, fun p np => ?_⟩
    have hL := dec_len0 h0 h1
    refine ⟨_, p, [decS n], rfl, rfl, .inl (SqL.of upd_same), ?_, ?_⟩
    · show (decS n).length + 0 + 1 * Str.empty.length ≤ 16777216
      have e : Str.empty.length = 0 := rfl
      omega
    · rw [join_one]
      refine k _ fun b o e => ?_
      have ba : b ≠ a := ne_of_none e na
      have e1 := S1 _ _ e
      have bp : b ≠ p := ne_of_none ((upd_ne ba).trans e1) np
      rw [upd_ne bp, upd_ne ba]
      exact e1
end
end K40
set_option maxHeartbeats 8000000
namespace K40
open PySem PySem.Spec PyProof.Rows L2 TL

/-! ### term_text */ -/
def rdTxt (p : Str × Int) : Str := p.1 ++ ("[" : Str) ++ decS p.2 ++ ("]" : Str)
def apTxt (w : Str) (ts : List Str) : Str := w ++ ("(" : Str) ++ Txt.join ", " ts ++ (")" : Str)
def wrd : List PyData → Str
  | [.str h, .str s, _] => s
  | .str h :: _ => h
  | _ => Str.empty
mutual
def txt : PyData → Str
  | .tuple xs => match inR xs with
    | some p => rdTxt p
    | none => apTxt (wrd xs) (txtL xs)
  | _ => Str.empty
def txtL : List PyData → List Str
  | [] => []
  | [.tuple ts] => txtA ts
  | [_] => []
  | _ :: y :: r => txtL (y :: r)
def txtA : List PyData → List Str
  | [] => []
  | x :: r => txt x :: txtA r
end
theorem txtA_eq (ts : List PyData) : txtA ts = ts.map txt := by
  induction ts with
  | nil => simp [txtA]
  | cons x r ih => rw [txtA, ih, List.map_cons]
mutual
/-- how long a text of it may be -/
def mz : PyData → Nat
  | .str x => 10 * x.length + 12
  | .int _ => 80
  | .tuple xs => 90 + mzs xs
  | .list xs => 90 + mzs xs
  | .dict _ => 1000
  | _ => 10
def mzs : List PyData → Nat
  | [] => 0
  | x :: r => mz x + 2 + mzs r
end
theorem mzs_mem {t : PyData} : ∀ {ts : List PyData}, t ∈ ts → mz t + 2 ≤ mzs ts
  | x :: r, h => by
    rw [mzs]
    rcases List.mem_cons.mp h with rfl | h
    · omega
    · have := mzs_mem h
      omega
theorem mz_tup (xs : List PyData) : mz (.tuple xs) = 90 + mzs xs := by rw [mz]
theorem mzs_cons (x : PyData) (r : List PyData) : mzs (x :: r) = mz x + 2 + mzs r := by rw [mzs]
theorem mzs_app (a b : List PyData) : mzs (a ++ b) = mzs a + mzs b := by
  induction a with
  | nil => simp [mzs]
  | cons x r ih =>
    rw [List.cons_append, mzs_cons, mzs_cons, ih]
    omega
theorem txt_rd (s : Str) (i : Int) : txt (.tuple [.str "in", .str s, .int i]) = rdTxt (s, i) := by simp [txt, inR]
theorem txt_let (s : Str) (ts : List PyData) : txt (.tuple [.str "let", .str s, .tuple ts]) = apTxt s (ts.map txt) := by
  rw [← txtA_eq]
  simp [txt, inR, wrd, txtL]
theorem txt_wd (w : Str) (ts : List PyData) : txt (.tuple [.str w, .tuple ts]) = apTxt w (ts.map txt) := by
  rw [← txtA_eq]
  simp [txt, inR, wrd, txtL]
theorem len_app (a b : Str) : (a ++ b).length = a.length + b.length := by rw [len_tl, tl_append, List.length_append, ← len_tl, ← len_tl]
theorem len_jn (ps : List Str) : (Txt.join ", " ps).length ≤ (ps.map Str.length).sum + 2 * ps.length := by
  rw [join_eq, len_tl, tl_join]
  have h1 := len_joinL (tl ", ") (ps.map tl)
  rw [List.length_map, List.map_map] at h1
  have e : (tl (", " : Str)).length = 2 := by decide
  have e2 : (ps.map (List.length ∘ tl)) = ps.map Str.length := List.map_congr_left fun p _ => (len_tl p).symm
  rw [e, e2] at h1
  omega
theorem ap_len (w : Str) (ts : List Str) : (apTxt w ts).length ≤ w.length + 2 + (ts.map Str.length).sum + 2 * ts.length := by
  unfold apTxt
  have := len_jn ts
  rw [len_app, len_app, len_app]
  have e1 : ("(" : Str).length = 1 := by decide
  have e2 : (")" : Str).length = 1 := by decide
  omega
theorem nm_len {s : Str} (h : isNm s = true) : s.length ≤ 8 := by
  unfold isNm at h
  simp only [Bool.and_eq_true, decide_eq_true_eq] at h
  exact h.2.1
theorem word_len {h : Str} (hw : h ∈ words) : h.length ≤ 8 := by
  have z : words.all (fun w => decide (w.length ≤ 8)) = true := by decide +kernel
  exact of_decide_eq_true (List.all_eq_true.mp z h hw)
theorem rdt_len {s : Str} {i : Int} (hs : isNm s = true) (h0 : 0 ≤ i) (hi : i < 10 ^ 60) : (rdTxt (s, i)).length ≤ 70 := by
  show (s ++ ("[" : Str) ++ decS i ++ ("]" : Str)).length ≤ 70
  have := nm_len hs
  have := dec_len0 h0 hi
  rw [len_app, len_app, len_app]
  have e1 : ("[" : Str).length = 1 := by decide
  have e2 : ("]" : Str).length = 1 := by decide
  omega
theorem gd_int {i : Int} (h : gd (.int i) = true) : i < 10 ^ 60 := by
  rw [gd, Bool.and_eq_true, decide_eq_true_eq, decide_eq_true_eq] at h
  exact h.2
theorem sum_txt {ts : List PyData} (h : ∀ t ∈ ts, (txt t).length ≤ mz t) : ((ts.map txt).map Str.length).sum + 2 * (ts.map txt).length ≤ mzs ts := by
  induction ts with
  | nil => simp [mzs]
  | cons t r ih =>
    have h1 := h t List.mem_cons_self
    have h2 := ih fun u hu => h u (List.mem_cons_of_mem _ hu)
    rw [mzs_cons]
    simp only [List.map_cons, List.sum_cons, List.length_cons]
    omega
theorem txt_len {d : PyData} (hT : isT d = true) (hg : gd d = true) : (txt d).length ≤ mz d := by
  refine tInd (M := fun d => gd d = true → (txt d).length ≤ mz d) (fun s i h1 h2 hg => ?_) (fun s ts h1 _ _ _ ih hg => ?_) (fun h ts hw _ _ _ ih hg => ?_) _ d (Nat.lt_succ_self _) hT hg
  · rw [txt_rd, mz_tup]
    have := rdt_len h1 h2 (gd_int ((gd_tup.mp hg).2 (.int i) (by simp)))
    omega
  · rw [txt_let, mz_tup]
    have hts := (gd_tup.mp ((gd_tup.mp hg).2 (.tuple ts) (by simp))).2
    have z := sum_txt fun t ht => ih t ht (hts t ht)
    have := ap_len s (ts.map txt)
    have := nm_len h1
    have e := mzs_mem (t := .tuple ts) (ts := [.str "let", .str s, .tuple ts]) (by simp)
    rw [mz_tup] at e
    omega
  · rw [txt_wd, mz_tup]
    have hts := (gd_tup.mp ((gd_tup.mp hg).2 (.tuple ts) (by simp))).2
    have z := sum_txt fun t ht => ih t ht (hts t ht)
    have := ap_len h (ts.map txt)
    have := word_len hw
    have e := mzs_mem (t := .tuple ts) (ts := [.str h, .tuple ts]) (by simp)
    rw [mz_tup] at e
    omega
theorem str_eq {a b : Str} (h : tl a = tl b) : a = b := by
  have e : a.cps = b.cps := Array.toList_inj.mp h
  cases a
  cases b
  simp only [Str.mk.injEq]
  exact e
theorem emp_app (s : Str) : Str.empty ++ s = s := str_eq (by rw [tl_append]; rfl)
abbrev tJn (K : PySem.W.Frag) (to te : TE) : TE := tM1 (fun x xs H Q => ∃ a p, ∃ ys : List Str, x = .str a ∧ xs = [.ref p] ∧ (SqL K H p (ys.map V.str) ∨ SqT K H p (ys.map V.str)) ∧ (ys.map (·.length)).sum + ys.length * a.length ≤ 16777216 ∧ Q (.str (Txt.join a ys)) H) to te
def spTo (n : Nat) : Sp := fun vs H Q _ => ∃ (v : V) (d : PyData), vs = [v] ∧ Dw H v d ∧ isT d = true ∧ Fine n d ∧ mz d ≤ 8000000 ∧ ∀ H', Same H H' → Q (.str (txt d)) H'
def NTo : List Str := ["term", "word", "inner", "part"]
/-- one by one the texts of a tuple's items -/
theorem rd_txs {n : Nat} {K : PySem.W.Frag} {H : Hp} {σ : L2.St} {c : Addr} {us : List V} {ts : List PyData} {te : TE} {vs : List Nat} {j : Nat} {D : Addr} {Qd : Hp → Prop} (nD : H D = none) (hc : H c = some (.tup us)) (hus : DwAll H us ts) (hT : AllT ts) (hf : ∀ t ∈ ts, Fine n t) (hm : mzs ts ≤ 8000000)
    (hw : ∀ x, wipe ((wipe σ vs).set j (some x)) vs = wipe σ vs)
    (he : ∀ (x : V) (t : PyData) H2 (Qy : VK), t ∈ ts → Dw H2 x t → isT t = true → Fine n t → mz t ≤ 8000000 → (∀ H3, Same H2 H3 → Qy (.str (txt t)) H3) → te ((wipe σ vs).set j (some x)) H2 Qy)
    (q : ∀ H', Same H H' → H' D = some (.lst ((ts.map txt).map V.str)) → Qd H') :
    ∃ W : Nat → Nat → Hp → Prop, (∃ m, W 0 m (upd H D (.lst []))) ∧ ∀ i m H, W i m H →
      ((Itt K c).stop i H ∧ Qd H) ∨ ((Itt K c).go i H ∧ ∃ Nx : Hp → Prop, (∀ H', Nx H' → ∃ m', m' < m ∧ W (i + 1) m' H') ∧ ∀ x H', (Itt K c).yld i H x H' → (gName j) x (wipe σ vs) H' fun σ2 H2 => wipe σ2 vs = wipe σ vs ∧ tYes σ2 H2 fun b H3 =>
        if b = true then te σ2 H3 fun y H4 => ∃ acc, H4 D = some (.lst acc) ∧ acc.length < sizeLine ∧ Nx (upd H4 D (.lst (acc ++ [y]))) else Nx H3) := by
  have hlen : us.length = ts.length := hus.length
  have hcnt : 2 * ts.length ≤ mzs ts := by
    clear hus hT hf he q hlen hm
    induction ts with
    | nil => simp [mzs]
    | cons t r ih =>
      rw [mzs_cons, List.length_cons]
      omega
  refine lc_it (walk_tup (K := K) (a := c) (xs := us)) (fun i H2 => H2 D = some (.lst (((ts.take i).map txt).map V.str)) ∧ Same H H2) ⟨upd_same, fresh_upd nD⟩ (fun i H2 _ h => sqT_of (h.2 _ _ hc)) ?_ ?_
  · rintro i x H2 H3 hi ⟨hD, S⟩ ⟨rfl, hx⟩
    obtain ⟨t, et, hxt⟩ := dwa_at hus hx
    have htm := List.mem_of_getElem? et
    have := mzs_mem htm
    refine ⟨hw x, ?_⟩
    unfold tYes
    dsimp only
    rw [if_pos rfl]
    refine he x t _ _ htm (Dw.same S hxt) (hT t htm) (hf t htm) (by omega) fun H4 S4 => ⟨_, S4 _ _ hD, ?_, ?_, fun b o e => ?_⟩
    · rw [List.length_map, List.length_map, List.length_take, sizeLine_eq]
      omega
    · rw [upd_same, List.take_add_one, et]
      simp
    · rw [upd_ne (ne_of_none e nD)]
      exact S4 _ _ (S _ _ e)
  · rintro H2 ⟨hD, S⟩
    rw [hlen, List.take_length] at hD
    exact q H2 S hD
section
variable {P : Program} {w : World} {K : PySem.W.Frag} {mg : Str → Option Value} {base : Heap}
theorem scTo : FnScope NTo ["term"] (defScope sTo) :=
  ⟨rfl, rfl, rfl, by decide +kernel, rfl, by decide +kernel, by decide +kernel⟩
theorem ok_to {f fD : Addr} {fd fdD : FuncData} (F : Fun K "_text_of" "_text_of" sTo f fd) (gF : mg "_text_of" = some (.ref f)) (bF : Binds K fd ["term"] [])
    (GD : FnOk P w K mg base CX0 1 fD fdD ["number"] spDec0) (kD : PySem.W.keepIn K (.ref fD) = true) (bD : Binds K fdD ["number"] []) (gD : mg "decimal_text" = some (.ref fD)) : ∀ n : Nat, n ≤ 50 → FnOk P w K mg base CX0 (n + 2) f fd ["term"] (spTo n)
  | 0, _ => by
    refine F.ok scTo (fun vs H Q E h => ?_) (fun cdv A outer s H vs Q E hr h => ?_)
    · obtain ⟨v, d, rfl, _⟩ := h
      rfl
    · obtain ⟨v, d, rfl, hd, hT, hf, _⟩ := h
      exfalso
      have z := hf.dep
      cases knd hT <;> simp [PyData.depth] at z
  | n + 1, hn => by
    have ih := ok_to F gF bF GD kD bD gD n (by omega)
    have kF := F.kp
    have GD2 := GD.mono (k := n + 2) (by omega)
    refine F.ok scTo (fun vs H Q E h => ?_) (fun cdv A outer s H vs Q E hr h => ?_)
    · obtain ⟨v, d, rfl, _⟩ := h
      rfl
    · obtain ⟨v, d, rfl, hd, hT, hf, hl, q⟩ := h
      refine ⟨_, pss_cons (ps_if (pt_cmpR op_eq (pe_ix ix_tup (pv 0) pe_int (fun _ _ => rfl)) pe_str (nomark _))
          (pss_one (ps_ret (pe_joined (PJ.cons (pe_fmt (pe_ix ix_tup (pv 0) pe_int (fun _ _ => rfl))) (PJ.cons pe_str (PJ.cons (pe_fmt (pe_call GD2 hr rfl gD kD bD .nil pass0 (pa_cons (pe_ix ix_tup (pv 0) pe_int (fun _ _ => rfl)) pa_nil))) (PJ.cons pe_str PJ.nil))))))) pss_nil)
        (pss_cons (ps_set (i := 1) scTo.nd rfl (.inl rfl) (pe_ifExp (pt_cmpR op_eq (pe_ix ix_tup (pv 0) pe_int (fun _ _ => rfl)) pe_str (nomark _)) (pe_ix ix_tup (pv 0) pe_int (fun _ _ => rfl)) (pe_ix ix_tup (pv 0) pe_int (fun _ _ => rfl))))
        (pss_cons (ps_set (i := 2) scTo.nd rfl (.inl rfl) (pe_join pe_str
          (pe_lc (own := [("part", 3)]) (g := gName 3) (tt := tYes) (te := tCall (spTo n) [] E0 (tCons (tVar 3) tNil)) rfl scTo.nd (pi_tup (pe_ix ix_tup (pv 0) (pe_un un_neg pe_int) (fun _ _ => rfl)))
            (blkOk_by (own := [("part", 3)]) (N := NTo) (sc := defScope sTo) (by decide +kernel)) (fun _ _ _ _ _ => pg_name (i := 3) scTo.nd rfl (Or.inl rfl))
            (fun _ _ _ _ _ => pts_nil) (fun _ _ _ _ _ => by exact pe_call ih hr rfl gF kF bF .nil pass0 (pa_cons (pv 3) pa_nil)))))
        (pss_one (ps_ret (pe_joined (PJ.cons (pe_fmt (pv 1)) (PJ.cons pe_str (PJ.cons (pe_fmt (pv 2)) (PJ.cons pe_str PJ.nil))))))))), ?_⟩
      have main : ∀ (wd : Str) (ts : List PyData) (b c : Addr) (l us : List V), H b = some (.tup (l ++ [V.ref c])) → H c = some (.tup us) → DwAll H us ts → AllT ts → (∀ t ∈ ts, Fine n t) → mzs ts ≤ 8000000 → wd.length ≤ 8 → txt d = apTxt wd (ts.map txt) → v = .ref b →
          tAsg (tJn K (tC (.str ", ")) (tLc (iTup K (tOp (rIxT K) (tVar 0) (tUn (rU fun i => V.int (-i)) (tC (.int 1))))) (gName 3) tYes (tCall (spTo n) [] E0 (tCons (tVar 3) tNil)) [3])) (gName 2)
            { nx := tRet (fun σ H Q => tJs [tFmt (tVar 1), tC (.str "("), tFmt (tVar 2), tC (.str ")")] Str.empty σ H fun out H1 => Q (.str out) H1) { nx := fun _ H' => Q .non H', rt := Q }, rt := Q } [some v, some (.str wd), none, none] H := by
        intro wd ts b c l us hb hc hus hT hfs hm hwl ht hv
        subst hv
        refine ⟨⟨_, rfl⟩, _, rfl, _, rfl, b, _, _, .ref c, rfl, rfl, sqT_of hb, atI_last l (.ref c), c, rfl, ⟨us, sqT_of hc⟩, fun D nD => ?_⟩
        refine rd_txs nD hc hus hT hfs hm (fun _ => rfl) (fun x t H2 Qy ht2 hx2 t2 f2 m2 k2 => ⟨_, rfl, x, t, rfl, hx2, t2, f2, m2, k2⟩) fun H3 S3 hD => ?_
        have hsum := sum_txt (ts := ts) fun t ht => txt_len (hT t ht) (hfs t ht).gd
        have e2 : (", " : Str).length = 2 := by decide
        refine ⟨_, D, ts.map txt, rfl, rfl, .inl (SqL.of hD), ?_, ?_⟩
        · show ((ts.map txt).map Str.length).sum + (ts.map txt).length * (", " : Str).length ≤ 16777216
          rw [e2]
          omega
        · have hjl := len_jn (ts.map txt)
          refine ⟨_, rfl, .inl ⟨wd, rfl, by rw [sizeLine_eq]; omega, wd, rfl, by rw [emp_app, sizeLine_eq]; omega, ?_⟩⟩
          have l1 : ("(" : Str).length = 1 := by decide
          have l2 : (")" : Str).length = 1 := by decide
          refine ⟨_, rfl, by rw [emp_app, len_app, sizeLine_eq]; omega, ?_⟩
          refine ⟨_, rfl, .inl ⟨_, rfl, by rw [sizeLine_eq]; omega, _, rfl, by rw [emp_app, len_app, len_app, sizeLine_eq]; omega, ?_⟩⟩
          refine ⟨_, rfl, by rw [emp_app, len_app, len_app, len_app, sizeLine_eq]; omega, ?_⟩
          rw [emp_app]
          show Q (.str (apTxt wd (ts.map txt))) H3
          rw [← ht]
          exact q H3 S3
      rcases knd2 hT with ⟨s, i, rfl, h1, h2, h3⟩ | ⟨s, ts, rfl, h1, h2, p⟩ | ⟨wd, ts, rfl, h1, p⟩
      · obtain ⟨b, its, rfl, hb, hits⟩ := dw_tup hd
        cases hits with
        | @cons v0 _ _ _ k0 kr =>
        cases kr with
        | @cons v1 _ _ _ k1 kr =>
        cases kr with
        | @cons v2 _ _ _ k2 kr =>
        cases kr
        obtain rfl := dw_str k0
        obtain rfl := dw_str k1
        have ev2 : v2 = .int i := by
          cases k2
          rfl
        subst ev2
        have sq := sqT_of (K := K) hb
        refine ⟨_, rfl, b, _, _, .str "in", rfl, rfl, sq, atI_nat (j := 0) rfl, rfl, _, rfl, ?_⟩
        refine iteT' (decide_eq_true rfl) ?_
        have hi := gd_int ((gd_tup.mp hf.gd).2 (.int i) (by simp))
        have n8 := nm_len h1
        have d60 := dec_len0 h2 hi
        have l1 : ("[" : Str).length = 1 := by decide
        have l2 : ("]" : Str).length = 1 := by decide
        refine ⟨_, rfl, b, _, _, .str s, rfl, rfl, sq, atI_nat (j := 1) rfl, .inl ⟨s, rfl, by rw [sizeLine_eq]; omega, s, rfl, by rw [emp_app, sizeLine_eq]; omega, ?_⟩⟩
        refine ⟨_, rfl, by rw [emp_app, len_app, sizeLine_eq]; omega, ?_⟩
        refine ⟨_, rfl, b, _, _, .int i, rfl, rfl, sq, atI_nat (j := 2) rfl, i, rfl, h2, hi, fun H1 S1 => ?_⟩
        refine .inl ⟨_, rfl, by rw [sizeLine_eq]; omega, _, rfl, by rw [emp_app, len_app, len_app, sizeLine_eq]; omega, ?_⟩
        refine ⟨_, rfl, by rw [emp_app, len_app, len_app, len_app, sizeLine_eq]; omega, ?_⟩
        rw [emp_app]
        rw [txt_rd] at q
        exact q H1 S1
      · obtain ⟨b, its, rfl, hb, hits⟩ := dw_tup hd
        cases hits with
        | @cons v0 _ _ _ k0 kr =>
        cases kr with
        | @cons v1 _ _ _ k1 kr =>
        cases kr with
        | @cons v2 _ _ _ k2 kr =>
        cases kr
        obtain rfl := dw_str k0
        obtain rfl := dw_str k1
        obtain ⟨c, us, rfl, hc, hus⟩ := dw_tup k2
        have sq := sqT_of (K := K) hb
        have mm := mzs_mem (t := .tuple ts) (ts := [.str "let", .str s, .tuple ts]) (by simp)
        rw [mz_tup] at mm hl
        have f2 := hf.item (t := .tuple ts) (by simp)
        have fts : ∀ t ∈ ts, Fine n t := fun t ht => by
          cases n with
          | zero =>
            have z := f2.dep
            simp [PyData.depth] at z
          | succ n => exact (f2.item ht).up (by omega)
        refine ⟨_, rfl, b, _, _, .str "let", rfl, rfl, sq, atI_nat (j := 0) rfl, rfl, _, rfl, ?_⟩
        refine iteN' (fun e => by cases e) ?_
        refine ⟨_, rfl, b, _, _, .str "let", rfl, rfl, sq, atI_nat (j := 0) rfl, rfl, _, rfl, ?_⟩
        refine iteT' (decide_eq_true rfl) ?_
        refine ⟨_, rfl, b, _, _, .str s, rfl, rfl, sq, atI_nat (j := 1) rfl, ?_⟩
        exact main s ts b c [.str "let", .str s] us hb hc hus p.at_ fts (by omega) (nm_len h1) (txt_let s ts) rfl
      · obtain ⟨b, its, rfl, hb, hits⟩ := dw_tup hd
        cases hits with
        | @cons v0 _ _ _ k0 kr =>
        cases kr with
        | @cons v2 _ _ _ k2 kr =>
        cases kr
        obtain rfl := dw_str k0
        obtain ⟨c, us, rfl, hc, hus⟩ := dw_tup k2
        have sq := sqT_of (K := K) hb
        have mm := mzs_mem (t := .tuple ts) (ts := [.str wd, .tuple ts]) (by simp)
        rw [mz_tup] at mm hl
        have f2 := hf.item (t := .tuple ts) (by simp)
        have fts : ∀ t ∈ ts, Fine n t := fun t ht => by
          cases n with
          | zero =>
            have z := f2.dep
            simp [PyData.depth] at z
          | succ n => exact (f2.item ht).up (by omega)
        refine ⟨_, rfl, b, _, _, .str wd, rfl, rfl, sq, atI_nat (j := 0) rfl, rfl, _, rfl, ?_⟩
        refine iteN' (fun e => (word_ne h1).1 (V.str.inj e)) ?_
        refine ⟨_, rfl, b, _, _, .str wd, rfl, rfl, sq, atI_nat (j := 0) rfl, rfl, _, rfl, ?_⟩
        refine iteN' (fun e => (word_ne h1).2 (V.str.inj e)) ?_
        refine ⟨_, rfl, b, _, _, .str wd, rfl, rfl, sq, atI_nat (j := 0) rfl, ?_⟩
        exact main wd ts b c [.str wd] us hb hc hus p.at_ fts (by omega) (word_len h1) (txt_wd wd ts) rfl
theorem scTt : FnScope ["term"] ["term"] (defScope sTt) :=
  ⟨rfl, rfl, rfl, by decide +kernel, rfl, by decide +kernel, by decide +kernel⟩
def spTt (C : Addr) (n : Nat) : Sp := fun vs H Q E => ∃ (v : V) (d : PyData), vs = [v] ∧ Dw H v d ∧ Fine n d ∧ (isT d = false → ∀ H' dd, Same H H' → H dd = none → H' dd = some (.xd [("value", v)]) → E (.ref C) (some dd) H') ∧
  (isT d = true → mz d ≤ 8000000 ∧ ∀ H', Same H H' → Q (.str (txt d)) H')
theorem ok_tt {n : Nat} {f fC fR CT : Addr} {fd fdC fdR : FuncData} (F : Fun K "term_text" "term_text" sTt f fd)
    (GC : FnOk P w K mg base (L2.CX P w) (n + 4) fC fdC ["value"] (spChk CT n)) (kC : PySem.W.keepIn K (.ref fC) = true) (bC : Binds K fdC ["value"] []) (gC : mg "check_term" = some (.ref fC))
    (GR : FnOk P w K mg base CX0 (n + 2) fR fdR ["term"] (spTo n)) (kR : PySem.W.keepIn K (.ref fR) = true) (bR : Binds K fdR ["term"] []) (gR : mg "_text_of" = some (.ref fR)) :
    FnOk P w K mg base (L2.CX P w) (n + 5) f fd ["term"] (spTt CT n) := by
  have GR2 := GR.mono (k := n + 4) (by omega)
  refine F.okX scTt (fun vs H Q E h => ?_) (fun cdv A outer s H vs Q E hr h => ?_)
  · obtain ⟨v, d, rfl, _⟩ := h
    rfl
  · obtain ⟨v, d, rfl, hd, hf, q1, q2⟩ := h
    refine ⟨_, pss_cons (ps_expr (pe_call (E := E) GC hr rfl gC kC bC .nil (passes_call (takes_of rfl rfl rfl rfl) (fun _ _ _ _ h => h)) (pa_cons (pv 0) pa_nil)))
      (pss_one (ps_ret (pe_call GR2 hr rfl gR kR bR .nil pass0 (pa_cons (pv 0) pa_nil)))), ?_⟩
    refine ⟨_, rfl, v, d, rfl, hd, hf, fun e H1 S1 => ?_, fun e H1 dd S1 nd ed => q1 e H1 dd S1 nd ed⟩
    obtain ⟨hm, q3⟩ := q2 e
    exact ⟨_, rfl, v, d, rfl, Dw.same S1 hd, e, hf, hm, fun H2 S2 => q3 H2 (S1.trans S2)⟩
end
end K40
set_option maxHeartbeats 8000000
namespace K40
open PySem PySem.Spec PyProof.Rows L2 TL

/-! ### _law_put */ -/
abbrev sLput : Stmt := top 32
/-- a list without doubles that stand side by side, as the law writes it -/
theorem rd_ddG {K : PySem.W.Frag} {H : Hp} {σ : L2.St} {j ik io : Nat} {a : Addr} {xs : List V} {ds : List PyData} {Q : VK} (hj0 : σ[j]? = some (some (.ref a))) (ha : H a = some (.lst xs)) (hd : DwAll H xs ds)
    (hs : ∀ d ∈ ds, SeqAt.shaped d = true) (hsym : ∀ d ∈ ds, ∀ e ∈ ds, PyData.eqv d e = PyData.eqv e d) (hz : xs.length ≤ 1000000)
    (hk : ∀ x y, (((wipe σ [ik, io]).set ik (some x)).set io (some y))[ik]? = some (some x)) (ho : ∀ x y, (((wipe σ [ik, io]).set ik (some x)).set io (some y))[io]? = some (some y)) (hj : ∀ x y, (((wipe σ [ik, io]).set ik (some x)).set io (some y))[j]? = some (some (.ref a)))
    (hw : ∀ x y, wipe (((wipe σ [ik, io]).set ik (some x)).set io (some y)) [ik, io] = wipe σ [ik, io])
    (q : ∀ H' b ys, Same H H' → H b = none → H' b = some (.lst ys) → DwAll H' ys (ddp ds) → Q (.ref b) H') :
    tLc (iEnum K (tCons (tVar j) tNil)) (gTup K 2 (gCons (gName ik) (gCons (gName io) gNil))) (tOr (tTest (tOp rEq (tVar ik) (tC (.int 0)))) (tTest (tOp (rNeD K) (tVar io) (tOp (rIxL K) (tVar j) (tOp (rI0 fun i j => V.int (i - j)) (tVar ik) (tC (.int 1)))))))
      (tVar io) [ik, io] σ H Q := by
  refine ⟨_, hj0, a, xs, rfl, SqL.of ha, fun D nD => ?_⟩
  have S0 := fresh_upd (o := .lst []) nD
  have hlen : xs.length = ds.length := hd.length
  refine lc_it (walk_enum (K := K) (a := a) (xs := xs)) (fun i H2 => ∃ ys, H2 D = some (.lst ys) ∧ ys.length ≤ i ∧ DwAll H ys (ddp (ds.take i)) ∧ Same H H2) ⟨[], upd_same, Nat.le_refl _, .nil, S0⟩ (fun i H2 _ h => ?_) ?_ ?_
  · obtain ⟨ys, _, _, _, S⟩ := h
    exact SqL.of (S _ _ ha)
  · rintro i v H2 H3 hi ⟨ys, hD, hl, hy, S⟩ ⟨T, x, y, rfl, nT, rfl, hx, hy2⟩
    cases hx
    have S1 := fresh_upd (o := .tup [.int (i : Nat), y]) nT
    have SS := S.trans S1
    obtain ⟨d, ed, hyd⟩ := dwa_at hd hy2
    have hdm : d ∈ ds := List.mem_of_getElem? ed
    have hD1 := S1 _ _ hD
    have S2 : Same H (upd (upd H2 T (.tup [.int (i : Nat), y])) D (.lst (ys ++ [y]))) := fun b o e => by
      rw [upd_ne (ne_of_none e nD)]
      exact SS b o e
    have ht : ds.take (i + 1) = ds.take i ++ [d] := by
      rw [List.take_add_one, ed]
      rfl
    have hdi : i < ds.length := by omega
    refine ⟨_, _, rfl, sqT_of upd_same, rfl, ?_⟩
    refine ⟨_, _, rfl, _, _, rfl, rfl, hw _ _, ⟨_, hk _ _, rfl, _, rfl, ?_⟩⟩
    have fin : ddp (ds.take (i + 1)) = ddp (ds.take i) ++ [d] → ∃ v : V, (((wipe σ [ik, io]).set ik (some (V.int (i : Nat)))).set io (some y))[io]? = some (some v) ∧ ∃ acc, upd H2 T (.tup [.int (i : Nat), y]) D = some (.lst acc) ∧ acc.length < sizeLine ∧
        ∃ ys, upd (upd H2 T (.tup [.int (i : Nat), y])) D (.lst (acc ++ [v])) D = some (.lst ys) ∧ ys.length ≤ i + 1 ∧ DwAll H ys (ddp (ds.take (i + 1))) ∧ Same H (upd (upd H2 T (.tup [.int (i : Nat), y])) D (.lst (acc ++ [v]))) := fun e =>
      ⟨y, ho _ _, ys, hD1, by rw [sizeLine_eq]; omega, ys ++ [y], upd_same, by rw [List.length_append, List.length_singleton]; omega, by rw [e]; exact dwa_app hy (.cons hyd .nil), S2⟩
    rcases Nat.eq_zero_or_pos i with rfl | h0
    · refine iteT' (decide_eq_true rfl) ?_
      refine iteT' rfl ?_
      refine fin ?_
      rw [ht]
      rfl
    · refine iteN' (fun e => ?_) ?_
      · have := V.int.inj e
        omega
      have hp : i - 1 < xs.length := by omega
      obtain ⟨dp, ep, hdp⟩ := dwa_at hd (List.getElem?_eq_getElem hp)
      have hpm : dp ∈ ds := List.mem_of_getElem? ep
      have el : (ds.take i)[(ds.take i).length - 1]? = some dp := by
        rw [List.length_take, Nat.min_eq_left (by omega), List.getElem?_take, if_pos (by omega)]
        exact ep
      have ei : ((i : Nat) : Int) - 1 = ((i - 1 : Nat) : Int) := by omega
      have s1 := hs dp hpm
      have s2 := hs d hdm
      refine ⟨_, ho _ _, _, hj _ _, _, hk _ _, _, _, rfl, rfl, a, xs, _, xs[i - 1], rfl, rfl, SqL.of (SS _ _ ha), (by rw [ei]; exact atI_nat (List.getElem?_eq_getElem hp)), d, dp, Dw.dp (Dw.same SS hyd) (SeqAt.canLay_of_shaped s2), Dw.dp (Dw.same SS hdp) (SeqAt.canLay_of_shaped s1), s2, s1, _, rfl, ?_⟩
      rw [hsym d hdm dp hpm]
      have sn := ddp_snoc (x := d) el
      cases e : PyData.eqv dp d with
      | true =>
        rw [e, if_pos rfl] at sn
        refine iteF ?_
        exact ⟨ys, hD1, by omega, by rw [ht, sn]; exact hy, SS⟩
      | false =>
        rw [e, if_neg Bool.false_ne_true] at sn
        refine iteT' rfl ?_
        refine fin ?_
        rw [ht]
        exact sn
  · rintro H2 ⟨ys, hD, _, hy, S⟩
    rw [hlen, List.take_length] at hy
    exact q _ _ _ S nD hD (DwAll.same S hy)
theorem eqv_symT {ds : List PyData} (h : AllT ds) : ∀ d ∈ ds, ∀ e ∈ ds, PyData.eqv d e = PyData.eqv e d := fun d hd e he => Bool.eq_iff_iff.mpr (by
  rw [eqv_T (h d hd) (h e he), eqv_T (h e he) (h d hd)]
  exact ⟨Eq.symm, Eq.symm⟩)
theorem eqv_symP {ds : List PyData} (h : AllP ds) : ∀ d ∈ ds, ∀ e ∈ ds, PyData.eqv d e = PyData.eqv e d := fun d hd e he => Bool.eq_iff_iff.mpr (by
  rw [eqv_P (h d hd) (h e he), eqv_P (h e he) (h d hd)]
  exact ⟨Eq.symm, Eq.symm⟩)
def spLput : Sp := fun vs H Q _ => ∃ (wd : Str) (l : Addr) (xs : List V) (ds : List PyData), vs = [.str wd, .ref l] ∧ wd ∈ words ∧ H l = some (.lst xs) ∧ DwAll H xs ds ∧ AllT ds ∧ (∀ d ∈ ds, Fine 50 d) ∧ ds.length ≤ 700 ∧
  ∀ H' v, Same H H' → Dw H' v (putD wd ds) → Q v H'
def NLp : List Str := ["_law_word", "_law_terms", "_law_parts", "_law_term_here", "_law_k", "_law_one"]
structure Nlp (mg : Str → Option Value) : Prop where
  list : mg "list" = none
section
variable {P : Program} {w : World} {K : PySem.W.Frag} {mg : Str → Option Value} {base : Heap}
theorem scLp : FnScope NLp ["_law_word", "_law_terms"] (defScope sLput) :=
  ⟨rfl, rfl, rfl, by decide +kernel, rfl, by decide +kernel, by decide +kernel⟩
theorem ok_lput {f : Addr} {fd : FuncData} (F : Fun K "_law_put" "_law_put" sLput f fd) (T : No mg) (T2 : Nlp mg) : FnOk P w K mg base CX0 1 f fd ["_law_word", "_law_terms"] spLput := by
  refine F.ok scLp (fun vs H Q E h => ?_) (fun cdv A outer s H vs Q E hr h => ?_)
  · obtain ⟨wd, l, xs, ds, rfl, _⟩ := h
    rfl
  · obtain ⟨wd, l, xs, ds, rfl, hw, hl, hd, hT, hf, hn, q⟩ := h
    have hu : (A.deeper (envOfC "_law_put" (defScope sLput) s.heap.objs.size f cdv)).units + 64 < cLine := by have := hr.units; omega
    refine ⟨_, pss_cons (ps_set (i := 2) scLp.nd rfl (.inr rfl) (pe_lst pa_nil))
      (pss_cons (ps_for PassesOwn.never rfl (pi_list (pv 1)) (pg_name (i := 3) scLp.nd rfl (.inl rfl))
        (pss_one (ps_set (i := 2) scLp.nd rfl (.inr rfl) (pe_op op_cat (pv 2)
          (pe_ifExp (pt_cmpR op_eq (pe_ix ix_tup (pv 3) pe_int (fun _ _ => rfl)) (pv 0) (nomark _)) (pe_callTy call_list_of (by rfl) T2.list (by decide +kernel) (pa_cons (pe_ix ix_tup (pv 3) pe_int (fun _ _ => rfl)) pa_nil)) (pe_lst (pa_cons (pv 3) pa_nil)))))))
      (pss_cons (ps_set (i := 2) scLp.nd rfl (.inr rfl) (pe_callB (cr_sortD hu) (by rfl) T.sorted (by decide +kernel) (pa_cons (pv 2) pa_nil)))
      (pss_cons (ps_if (pt_cmpR op_ne (pv 0) pe_str (nomark _)) (pss_one (ps_set (i := 2) scLp.nd rfl (.inr rfl)
          (pe_lc (own := [("_law_k", 4), ("_law_one", 5)]) (g := gTup K 2 (gCons (gName 4) (gCons (gName 5) gNil))) (tt := tOr (tTest (tOp rEq (tVar 4) (tC (.int 0)))) (tTest (tOp (rNeD K) (tVar 5) (tOp (rIxL K) (tVar 2) (tOp (rI0 fun i j => V.int (i - j)) (tVar 4) (tC (.int 1))))))) (te := tVar 5) rfl scLp.nd (pi_enum (by rfl) T.enum (pa_cons (pv 2) pa_nil))
            (blkOk_by (own := [("_law_k", 4), ("_law_one", 5)]) (N := NLp) (sc := defScope sLput) (by decide +kernel)) (fun _ _ _ _ _ => pg_tup rfl (pgs_cons (pg_name (i := 4) scLp.nd rfl (Or.inl rfl)) (pgs_cons (pg_name (i := 5) scLp.nd rfl (Or.inl rfl)) pgs_nil)))
            (fun _ _ _ _ _ => pts_one (by exact PW.pt (pw_or (pt_cmpR op_eq (pv 4) pe_int (nomark _)) (pw_or1 (pt_cmpR (op_neD hu) (pv 5) (pe_ix ix_list (pv 2) (pe_op op_sub (pv 4) pe_int) (fun _ _ => rfl)) rfl))))) (fun _ _ _ _ _ => by exact pv 5)))) pss_nil)
      (pss_one (ps_ret (pe_ifExp (pt_cmpR op_eq (pe_callB call_len_seq (by rfl) T.len PySem.boot_len (pa_cons (pv 2) pa_nil)) pe_int (nomark _)) (pe_ix ix_list (pv 2) pe_int (fun _ _ => rfl))
        (pe_tup (pa_cons (pv 0) (pa_cons (pe_callTy call_tuple_of (by rfl) T.tuple (by decide +kernel) (pa_cons (pv 2) pa_nil)) pa_nil))))))))), ?_⟩
    refine ⟨Nat.zero_le _, fun a na => ?_⟩
    have S0 := fresh_upd (o := .lst []) na
    have hlen : xs.length = ds.length := hd.length
    refine ⟨_, rfl, l, rfl, ⟨xs, SqL.of (S0 _ _ hl)⟩, for_it (walk_list (K := K) (a := l) (xs := xs)) (fun i σ H2 => ∃ o3 b ys, σ = [some (.str wd), some (.ref l), some (.ref b), o3, none, none] ∧ Same H H2 ∧ H2 b = some (.lst ys) ∧ DwAll H ys (flt wd (ds.take i))) ⟨_, a, [], rfl, S0, upd_same, .nil⟩
      (fun i σ H2 _ h => ?_) ?_ ?_⟩
    · obtain ⟨_, _, _, _, S, _⟩ := h
      exact SqL.of (S _ _ hl)
    · rintro i x σ H2 H3 hi ⟨o3, a2, ys, rfl, S, hy, hyd⟩ ⟨rfl, hx⟩
      obtain ⟨d, ed, hxd⟩ := dwa_at hd hx
      have hdm : d ∈ ds := List.mem_of_getElem? ed
      have ht : ds.take (i + 1) = ds.take i ++ [d] := by
        rw [List.take_add_one, ed]
        rfl
      have hdT := hT d hdm
      have hdl : ys.length ≤ 700 * 700 := by
        have z := flt_len (w := wd) (ts := ds.take i) fun t ht => (hf t (List.mem_of_mem_take ht)).gd
        have z2 : (ds.take i).length ≤ ds.length := List.length_take_le' ..
        rw [hyd.length]
        omega
      have hh : ∃ h r, d = .tuple (.str h :: r) := by
        cases knd hdT with
        | rd _ _ => exact ⟨_, _, rfl⟩
        | lt _ _ _ _ => exact ⟨_, _, rfl⟩
        | wd _ _ _ _ => exact ⟨_, _, rfl⟩
      obtain ⟨h, r, rfl⟩ := hh
      obtain ⟨b, its, rfl, hb, hits⟩ := dw_tup hxd
      cases hits with
      | @cons v0 vr _ _ k0 kr =>
        obtain rfl := dw_str k0
        obtain ⟨q1, q2⟩ := hw_head hw hdT
        refine ⟨_, rfl, _, rfl, b, _, _, .str h, rfl, rfl, sqT_of (S _ _ hb), atI_nat (j := 0) rfl, _, rfl, rfl, _, rfl, ?_⟩
        by_cases e : h = wd
        · refine iteT' (decide_eq_true (by rw [e])) ?_
          obtain ⟨ps, rfl⟩ := q1 e
          subst e
          cases kr with
          | @cons v1 _ _ _ k1 k2 =>
            obtain ⟨c, qs, rfl, hc, hqs⟩ := dw_tup k1
            refine ⟨_, rfl, b, _, _, .ref c, rfl, rfl, sqT_of (S _ _ hb), atI_nat (j := 1) rfl, c, qs, rfl, .inr (sqT_of (S _ _ hc)), fun L nL => ?_⟩
            have S1 := fresh_upd (o := .lst qs) nL
            have hpl : ps.length ≤ 700 := (gd_tup.mp ((gd_tup.mp (hf _ hdm).gd).2 _ (List.mem_cons_of_mem _ List.mem_cons_self))).1
            refine ⟨a2, L, ys, qs, rfl, rfl, S1 _ _ hy, upd_same, by rw [hqs.length, sizeLine_eq]; omega, fun M nM => ?_⟩
            have S2 := fresh_upd (o := .lst (ys ++ qs)) nM
            refine ⟨_, M, ys ++ qs, rfl, S.trans (S1.trans S2), upd_same, ?_⟩
            rw [ht, flt_snoc, prt_w]
            exact dwa_app hyd hqs
        · refine iteN' (fun z => e (V.str.inj z)) ?_
          refine ⟨_, rfl, by rw [sizeLine_eq]; show 1 ≤ 16777216; decide, fun L nL => ?_⟩
          have S1 := fresh_upd (o := .lst [.ref b]) nL
          refine ⟨a2, L, ys, [.ref b], rfl, rfl, S1 _ _ hy, upd_same, by rw [sizeLine_eq]; show ys.length + 1 ≤ 16777216; omega, fun M nM => ?_⟩
          have S2 := fresh_upd (o := .lst (ys ++ [.ref b])) nM
          refine ⟨_, M, ys ++ [.ref b], rfl, S.trans (S1.trans S2), upd_same, ?_⟩
          rw [ht, flt_snoc, prt_o (q2 e)]
          exact dwa_app hyd (.cons hxd .nil)
    · rintro σ H1 ⟨o3, b, ys, rfl, SH1, hy, hyd⟩
      rw [hlen, List.take_length] at hyd
      have hfT := flt_T hw hT
      have hfF : ∀ x ∈ flt wd ds, Fine 50 x := fun x hx => by
        obtain ⟨t, ht, hx⟩ := mem_flt.mp hx
        exact fine_prt (hf t ht) hx
      have hfl := flt_len (w := wd) fun t ht => (hf t ht).gd
      refine ⟨_, rfl, b, ys, flt wd ds, rfl, SqL.of hy, DwAll.same SH1 hyd, fun d hd => tt_T (hfT d hd) (hfF d hd), hfT.lik, fun zs p hz _ np => ?_⟩
      have S2 := SH1.trans (fresh_upd (o := .lst zs) np)
      have n1 : (flt wd ds).length ≤ 490000 := by omega
      have hz1 : DwAll (upd H1 p (.lst zs)) zs (srtD (flt wd ds)) := DwAll.same (fresh_upd np) hz
      have fin : ∀ (H' : Hp) (p : Addr) (zs : List V) (o3 : Option V), Same H H' → H' p = some (.lst zs) → DwAll H' zs (inn wd ds) → tRet (tIf (tTest (tOp rEq (tCB (fun xs H Q => ∃ p ys, xs = [V.ref p] ∧ (SqL K H p ys ∨ SqT K H p ys) ∧ Q (.int ys.length) H) (tCons (tVar 2) tNil)) (tC (.int 1))))
          (tOp (rIxL K) (tVar 2) (tC (.int 0))) (tTup (tCons (tVar 0) (tCons (tCB (fun xs H Q => ∃ p ys, xs = [V.ref p] ∧ ((SqL K H p ys ∧ ∀ l, H l = none → Q (.ref l) (upd H l (.tup ys))) ∨ (SqT K H p ys ∧ Q (.ref p) H))) (tCons (tVar 2) tNil)) tNil))))
          { nx := fun _ H' => Q .non H', rt := Q } [some (.str wd), some (.ref l), some (.ref p), o3, none, none] H' := by
        intro H' p zs o3 S hp hzs
        refine ⟨_, rfl, p, zs, rfl, .inl (SqL.of hp), rfl, _, rfl, ?_⟩
        have hln := hzs.length
        by_cases e : zs.length = 1
        · refine iteT' (decide_eq_true (by rw [e]; rfl)) ?_
          have ep : ∀ x, inn wd ds = [x] → putD wd ds = x := fun x q => by
            unfold putD
            rw [q] <;> rfl
          generalize inn wd ds = il at hzs ep
          cases hzs with
          | nil => cases e
          | @cons z _ x dr hz ht =>
            cases ht with
            | cons _ _ => simp at e
            | nil =>
              refine ⟨_, rfl, p, [z], 0, z, rfl, rfl, SqL.of hp, rfl, q H' z S ?_⟩
              rw [ep x rfl]
              exact hz
        · refine iteN' (fun z => e (by have := V.int.inj z; omega)) ?_
          refine ⟨_, rfl, _, rfl, p, zs, rfl, .inl ⟨SqL.of hp, fun t nt => ⟨by rw [sizeLine_eq]; show 2 ≤ 16777216; decide, fun t2 nt2 => ?_⟩⟩⟩
          have S3 := fresh_upd (o := .tup zs) nt
          have S4 := fresh_upd (o := .tup [.str wd, .ref t]) nt2
          refine q _ _ (S.trans (S3.trans S4)) ?_
          have ep : putD wd ds = .tuple [.str wd, .tuple (inn wd ds)] := oneOr_ne fun x q => e (by rw [hln, q]; rfl)
          rw [ep]
          exact .tup upd_same (.cons (.str wd) (.cons (.tup (S4 _ _ upd_same) (DwAll.same (S3.trans S4) hzs)) .nil))
      refine ⟨_, rfl, rfl, _, rfl, ?_⟩
      refine ite2 (fun hb => ?_) fun hb => ?_
      · have e : wd ≠ "sum" := fun z => by
          rw [z] at hb
          simp at hb
        have hzl : zs.length ≤ 1000000 := by
          rw [hz.length, (srt_perm _).length_eq]
          omega
        have hsT := hfT.srt
        refine rd_ddG (σ := [some (.str wd), some (.ref l), some (.ref p), o3, none, none]) rfl upd_same hz1 (fun d hd => shaped_T (hsT d hd) (hfF d (mem_srt.mp hd))) (eqv_symT hsT) hzl (fun _ _ => rfl) (fun _ _ => rfl) (fun _ _ => rfl) (fun _ _ => rfl) fun H3 b ys2 S3 _ hb2 hy2 => ?_
        refine fin H3 b ys2 o3 (S2.trans S3) hb2 ?_
        rw [show inn wd ds = ddp (srtD (flt wd ds)) from if_neg e]
        exact hy2
      · have e : wd = "sum" := Classical.byContradiction fun z => hb (by
          rw [decide_eq_false fun q => z (V.str.inj q)]
          rfl)
        refine fin _ p zs o3 S2 upd_same ?_
        rw [show inn wd ds = srtD (flt wd ds) from if_pos e]
        exact hz1
end
end K40
set_option maxHeartbeats 8000000
namespace K40
open PySem PySem.Spec PyProof.Rows L2 TL

/-! ### _law_reads, _law_text */ -/
abbrev sLr : Stmt := top 35
abbrev sLt : Stmt := top 36
/-- a term that is no read, as it stands -/
theorem prt_at {H : Hp} {v : V} {d : PyData} {h : Str} {ts : List PyData} (hd : Dw H v d) (p : Prt d h ts) : ∃ b l c us, v = .ref b ∧ H b = some (.tup (V.str h :: (l ++ [V.ref c]))) ∧ H c = some (.tup us) ∧ DwAll H us ts := by
  obtain ⟨m, e⟩ := p.hd
  rw [e] at hd
  obtain ⟨b, its, rfl, hb, hits⟩ := dw_tup hd
  cases hits with
  | @cons v0 vr _ _ k0 kr =>
  obtain rfl := dw_str k0
  obtain ⟨i, z, vi, vz, e1, e2, kz⟩ := dwa_last kr (by simp)
  have ez : z = .tuple ts := by
    have := List.append_inj_right' e1 rfl
    exact (List.cons.inj this).1.symm
  rw [ez] at kz
  obtain ⟨c, us, rfl, hc, hus⟩ := dw_tup kz
  rw [e2] at hb
  exact ⟨b, vi, c, us, rfl, hb, hc, hus⟩
theorem prt_fine {n : Nat} {d : PyData} {h : Str} {ts : List PyData} (hf : Fine (n + 1) d) (p : Prt d h ts) : ∀ t ∈ ts, Fine n t := fun t ht => by
  obtain ⟨m, e⟩ := p.hd
  rw [e] at hf
  have z := hf.item (List.mem_cons_of_mem _ (List.mem_append_right _ (List.mem_singleton_self _)))
  cases n with
  | zero =>
    have z := z.dep
    simp [PyData.depth] at z
  | succ n => exact (z.item ht).up (by omega)
theorem prt_mz {d : PyData} {h : Str} {ts : List PyData} (p : Prt d h ts) : mzs ts ≤ mz d := by
  obtain ⟨m, rfl⟩ := p.hd
  rw [mz_tup, mzs_cons, mzs_app, mzs_cons, mz_tup]
  omega
theorem dw_in3 {H : Hp} {v : V} {s : Str} {i : Int} (hd : Dw H v (.tuple [.str "in", .str s, .int i])) : ∃ b, v = .ref b ∧ H b = some (.tup [V.str "in", V.str s, V.int i]) := by
  obtain ⟨b, its, rfl, hb, hits⟩ := dw_tup hd
  cases hits with
  | @cons v0 _ _ _ k0 kr =>
  cases kr with
  | @cons v1 _ _ _ k1 kr =>
  cases kr with
  | @cons v2 _ _ _ k2 kr =>
  cases kr
  obtain rfl := dw_str k0
  obtain rfl := dw_str k1
  have ev2 : v2 = .int i := by
    cases k2
    rfl
  subst ev2
  exact ⟨b, rfl, hb⟩
theorem at_end {l : List V} {x : V} {n : Nat} (h : n = l.length) : atI (l ++ [x]) ((n : Nat) : Int) = some x := by
  subst h
  exact atI_nat (by rw [List.getElem?_append_right (Nat.le_refl _), Nat.sub_self]; rfl)
def spLr (n : Nat) : Sp := fun vs H Q _ => ∃ (v : V) (d : PyData), vs = [v] ∧ Dw H v d ∧ isT d = true ∧ Fine n d ∧ (rds d).length ≤ 100000 ∧
  ∀ H' L xs, Same H H' → H L = none → H' L = some (.lst xs) → DwAll H' xs ((rds d).map pD) → Q (.ref L) H'
def NLr : List Str := ["_law_term_here", "_law_found", "_law_one"]
def spLt (n : Nat) : Sp := spTo n
def NLt : List Str := ["_law_term_here", "_law_inner", "_law_one"]
section
variable {P : Program} {w : World} {K : PySem.W.Frag} {mg : Str → Option Value} {base : Heap}
theorem scLr : FnScope NLr ["_law_term_here"] (defScope sLr) :=
  ⟨rfl, rfl, rfl, by decide +kernel, rfl, by decide +kernel, by decide +kernel⟩
theorem ok_lr {f : Addr} {fd : FuncData} (F : Fun K "_law_reads" "_law_reads" sLr f fd) (gF : mg "_law_reads" = some (.ref f)) (bF : Binds K fd ["_law_term_here"] []) (lN : mg "len" = none) : ∀ n : Nat, n ≤ 50 → FnOk P w K mg base CX0 (n + 1) f fd ["_law_term_here"] (spLr n)
  | 0, _ => by
    refine F.ok scLr (fun vs H Q E h => ?_) (fun cdv A outer s H vs Q E hr h => ?_)
    · obtain ⟨v, d, rfl, _⟩ := h
      rfl
    · obtain ⟨v, d, rfl, hd, hT, hf, _⟩ := h
      exfalso
      have z := hf.dep
      cases knd hT <;> simp [PyData.depth] at z
  | n + 1, hn => by
    have ih := ok_lr F gF bF lN n (by omega)
    have kF := F.kp
    refine F.ok scLr (fun vs H Q E h => ?_) (fun cdv A outer s H vs Q E hr h => ?_)
    · obtain ⟨v, d, rfl, _⟩ := h
      rfl
    · obtain ⟨v, d, rfl, hd, hT, hf, hl, q⟩ := h
      refine ⟨_, pss_cons (ps_if (pt_cmpR op_eq (pe_ix ix_tup (pv 0) pe_int (fun _ _ => rfl)) pe_str (nomark _)) (pss_one (ps_ret (pe_lst (pa_cons (pe_tup (pa_cons (pe_ix ix_tup (pv 0) pe_int (fun _ _ => rfl)) (pa_cons (pe_ix ix_tup (pv 0) pe_int (fun _ _ => rfl)) pa_nil))) pa_nil)))) pss_nil)
        (pss_cons (ps_set (i := 1) scLr.nd rfl (.inl rfl) (pe_lst pa_nil))
        (pss_cons (ps_for PassesOwn.never rfl (pi_tup (pe_ix ix_tup (pv 0) (pe_op op_sub (pe_callB call_len_seq (by rfl) lN PySem.boot_len (pa_cons (pv 0) pa_nil)) pe_int) (fun _ _ => rfl))) (pg_name (i := 2) scLr.nd rfl (.inl rfl))
          (pss_one (ps_set (i := 1) scLr.nd rfl (.inl rfl) (pe_op op_cat (pv 1) (pe_call ih hr rfl gF kF bF .nil pass0 (pa_cons (pv 2) pa_nil))))))
        (pss_one (ps_ret (pv 1))))), ?_⟩
      rcases knd2 hT with ⟨s, i, rfl, h1, h2, h3⟩ | h
      · obtain ⟨b, rfl, hb⟩ := dw_in3 hd
        have sq := sqT_of (K := K) hb
        refine ⟨_, rfl, b, _, _, .str "in", rfl, rfl, sq, atI_nat (j := 0) rfl, rfl, _, rfl, ?_⟩
        refine iteT' (decide_eq_true rfl) ?_
        refine ⟨_, rfl, b, _, _, .str s, rfl, rfl, sq, atI_nat (j := 1) rfl, _, rfl, b, _, _, .int i, rfl, rfl, sq, atI_nat (j := 2) rfl, by rw [sizeLine_eq]; show 2 ≤ 16777216; decide, fun p np => ?_⟩
        have S1 := fresh_upd (o := .tup [V.str s, V.int i]) np
        refine ⟨by rw [sizeLine_eq]; show 1 ≤ 16777216; decide, fun L nL => ?_⟩
        have S2 := fresh_upd (o := .lst [V.ref p]) nL
        refine q _ L _ (S1.trans S2) (none_back S1 nL) upd_same ?_
        rw [h3]
        exact .cons (.tup (S2 _ _ upd_same) (.cons (.str s) (.cons (.int i) .nil))) .nil
      · have h : ∃ hh ts, Prt d hh ts := by
          rcases h with ⟨_, ts, _, _, _, p⟩ | ⟨w, ts, _, _, p⟩
          · exact ⟨_, _, p⟩
          · exact ⟨_, _, p⟩
        obtain ⟨hh, ts, p⟩ := h
        obtain ⟨b, vi, c, us, rfl, hb, hc, hus⟩ := prt_at hd p
        have fts := prt_fine hf p
        have hul := hus.length
        rw [p.rd] at hl
        refine ⟨_, rfl, b, _, _, .str hh, rfl, rfl, sqT_of hb, atI_nat (j := 0) rfl, rfl, _, rfl, ?_⟩
        refine iteN' (fun e => p.ne (V.str.inj e)) ?_
        refine ⟨Nat.zero_le _, fun a na => ?_⟩
        have S0 := fresh_upd (o := .lst []) na
        have eidx : (((V.str hh :: (vi ++ [V.ref c])).length : Nat) : Int) - 1 = (((V.str hh :: vi).length : Nat) : Int) := by
          simp only [List.length_cons, List.length_append, List.length_nil]
          omega
        refine ⟨_, rfl, _, rfl, b, _, rfl, .inr (sqT_of (S0 _ _ hb)), _, _, rfl, rfl, b, _, _, .ref c, rfl, rfl, sqT_of (S0 _ _ hb), (by show atI (V.str hh :: (vi ++ [V.ref c])) ((((V.str hh :: (vi ++ [V.ref c])).length : Nat) : Int) - 1) = _; rw [eidx]; exact at_end (l := V.str hh :: vi) rfl), c, rfl, ⟨us, sqT_of (S0 _ _ hc)⟩, ?_⟩
        refine for_it (walk_tup (K := K) (a := c) (xs := us)) (fun i σ H4 => ∃ o2 L ks, σ = [some (.ref b), some (.ref L), o2] ∧ Same H H4 ∧ H L = none ∧ H4 L = some (.lst ks) ∧ DwAll H4 ks (((ts.take i).flatMap rds).map pD)) ⟨_, a, [], rfl, S0, na, upd_same, .nil⟩
          (fun i σ H4 _ h => ?_) ?_ ?_
        · obtain ⟨_, _, _, _, S, _⟩ := h
          exact sqT_of (S _ _ hc)
        · rintro i x σ H4 H5 hi ⟨o2, L, ks, rfl, S4, nL, eL, hk⟩ ⟨rfl, hx⟩
          obtain ⟨t, et, hxt⟩ := dwa_at hus hx
          have htm : t ∈ ts := List.mem_of_getElem? et
          have e1 : (ts.take (i + 1)).flatMap rds = (ts.take i).flatMap rds ++ rds t := by
            rw [List.take_add_one, et]
            show (List.take i ts ++ [t]).flatMap rds = _
            rw [List.flatMap_append, List.flatMap_singleton]
          have z1 := fm_take (ts := ts) (i + 1)
          rw [e1, List.length_append] at z1
          refine ⟨_, rfl, _, rfl, x, t, rfl, Dw.same S4 hxt, p.at_ t htm, fts t htm, by omega, fun H6 ln ks1 S6 nln eln hk1 => ?_⟩
          have l1 := hk.length
          have l2 := hk1.length
          rw [List.length_map] at l1 l2
          refine ⟨L, ln, ks, ks1, rfl, rfl, S6 _ _ eL, eln, by rw [sizeLine_eq]; omega, fun M nM => ?_⟩
          have S7 := fresh_upd (o := .lst (ks ++ ks1)) nM
          refine ⟨_, M, ks ++ ks1, rfl, S4.trans (S6.trans S7), none_back (S4.trans S6) nM, upd_same, ?_⟩
          rw [e1, List.map_append]
          exact dwa_app (DwAll.same (S6.trans S7) hk) (DwAll.same S7 hk1)
        · rintro σ H4 ⟨o2, L, ks, rfl, S4, nL, eL, hk⟩
          rw [hul, List.take_length] at hk
          exact ⟨_, rfl, q H4 L ks S4 nL eL (by rw [p.rd]; exact hk)⟩
theorem scLt : FnScope NLt ["_law_term_here"] (defScope sLt) :=
  ⟨rfl, rfl, rfl, by decide +kernel, rfl, by decide +kernel, by decide +kernel⟩
theorem ok_lt {f : Addr} {fd : FuncData} (F : Fun K "_law_text" "_law_text" sLt f fd) (gF : mg "_law_text" = some (.ref f)) (bF : Binds K fd ["_law_term_here"] []) (lN : mg "len" = none) (sN : mg "str" = none) : ∀ n : Nat, n ≤ 50 → FnOk P w K mg base CX0 (n + 1) f fd ["_law_term_here"] (spLt n)
  | 0, _ => by
    refine F.ok scLt (fun vs H Q E h => ?_) (fun cdv A outer s H vs Q E hr h => ?_)
    · obtain ⟨v, d, rfl, _⟩ := h
      rfl
    · obtain ⟨v, d, rfl, hd, hT, hf, _⟩ := h
      exfalso
      have z := hf.dep
      cases knd hT <;> simp [PyData.depth] at z
  | n + 1, hn => by
    have ih := ok_lt F gF bF lN sN n (by omega)
    have kF := F.kp
    refine F.ok scLt (fun vs H Q E h => ?_) (fun cdv A outer s H vs Q E hr h => ?_)
    · obtain ⟨v, d, rfl, _⟩ := h
      rfl
    · obtain ⟨v, d, rfl, hd, hT, hf, hl, q⟩ := h
      refine ⟨_, pss_cons (ps_if (pt_cmpR op_eq (pe_ix ix_tup (pv 0) pe_int (fun _ _ => rfl)) pe_str (nomark _))
          (pss_one (ps_ret (pe_op op_add_str (pe_op op_add_str (pe_op op_add_str (pe_ix ix_tup (pv 0) pe_int (fun _ _ => rfl)) pe_str) (pe_callTy call_str_int (by rfl) sN (by decide +kernel) (pa_cons (pe_ix ix_tup (pv 0) pe_int (fun _ _ => rfl)) pa_nil))) pe_str))) pss_nil)
        (pss_cons (ps_set (i := 1) scLt.nd rfl (.inl rfl) (pe_join pe_str
          (pe_lc (own := [("_law_one", 2)]) (g := gName 2) (tt := tYes) (te := tCall (spLt n) [] E0 (tCons (tVar 2) tNil)) rfl scLt.nd (pi_tup (pe_ix ix_tup (pv 0) (pe_op op_sub (pe_callB call_len_seq (by rfl) lN PySem.boot_len (pa_cons (pv 0) pa_nil)) pe_int) (fun _ _ => rfl)))
            (blkOk_by (own := [("_law_one", 2)]) (N := NLt) (sc := defScope sLt) (by decide +kernel)) (fun _ _ _ _ _ => pg_name (i := 2) scLt.nd rfl (Or.inl rfl))
            (fun _ _ _ _ _ => pts_nil) (fun _ _ _ _ _ => by exact pe_call ih hr rfl gF kF bF .nil pass0 (pa_cons (pv 2) pa_nil)))))
        (pss_one (ps_ret (pe_op op_add_str (pe_op op_add_str (pe_op op_add_str (pe_ix ix_tup (pv 0) (pe_op op_sub (pe_callB call_len_seq (by rfl) lN PySem.boot_len (pa_cons (pv 0) pa_nil)) pe_int) (fun _ _ => rfl)) pe_str) (pv 1)) pe_str)))), ?_⟩
      have main : ∀ (wd : Str) (ts : List PyData) (b c : Addr) (l us : List V), H b = some (.tup (l ++ [V.str wd, V.ref c])) → H c = some (.tup us) → DwAll H us ts → AllT ts → (∀ t ∈ ts, Fine n t) → mzs ts ≤ 8000000 → wd.length ≤ 8 → txt d = apTxt wd (ts.map txt) → v = .ref b →
          tAsg (tJn K (tC (.str ", ")) (tLc (iTup K (tOp (rIxT K) (tVar 0) (tOp (rI0 fun i j => V.int (i - j)) (tCB (fun xs H Q => ∃ p ys, xs = [V.ref p] ∧ (SqL K H p ys ∨ SqT K H p ys) ∧ Q (.int ys.length) H) (tCons (tVar 0) tNil)) (tC (.int 1))))) (gName 2) tYes (tCall (spLt n) [] E0 (tCons (tVar 2) tNil)) [2])) (gName 1)
            { nx := tRet (tOp (fun x y H Q => ∃ i j, x = V.str i ∧ y = V.str j ∧ i.length + j.length ≤ sizeLine ∧ Q (V.str (i ++ j)) H) (tOp (fun x y H Q => ∃ i j, x = V.str i ∧ y = V.str j ∧ i.length + j.length ≤ sizeLine ∧ Q (V.str (i ++ j)) H) (tOp (fun x y H Q => ∃ i j, x = V.str i ∧ y = V.str j ∧ i.length + j.length ≤ sizeLine ∧ Q (V.str (i ++ j)) H)
                (tOp (rIxT K) (tVar 0) (tOp (rI0 fun i j => V.int (i - j)) (tCB (fun xs H Q => ∃ p ys, xs = [V.ref p] ∧ (SqL K H p ys ∨ SqT K H p ys) ∧ Q (.int ys.length) H) (tCons (tVar 0) tNil)) (tC (.int 2)))) (tC (.str "("))) (tVar 1)) (tC (.str ")"))) { nx := fun _ H' => Q .non H', rt := Q }, rt := Q } [some v, none, none] H := by
        intro wd ts b c l us hb hc hus hT hfs hm hwl ht hv
        subst hv
        have e1 : (((l ++ [V.str wd, V.ref c]).length : Nat) : Int) - 1 = (((l ++ [V.str wd]).length : Nat) : Int) := by
          simp only [List.length_cons, List.length_append, List.length_nil]
          omega
        have e2 : (((l ++ [V.str wd, V.ref c]).length : Nat) : Int) - 2 = ((l.length : Nat) : Int) := by
          simp only [List.length_cons, List.length_append, List.length_nil]
          omega
        have i1 : atI (l ++ [V.str wd, V.ref c]) ((((l ++ [V.str wd, V.ref c]).length : Nat) : Int) - 1) = some (.ref c) := by
          rw [e1, show l ++ [V.str wd, V.ref c] = (l ++ [V.str wd]) ++ [V.ref c] by simp]
          exact at_end rfl
        have i2 : atI (l ++ [V.str wd, V.ref c]) ((((l ++ [V.str wd, V.ref c]).length : Nat) : Int) - 2) = some (.str wd) := by
          rw [e2]
          exact atI_nat (by rw [List.getElem?_append_right (Nat.le_refl _), Nat.sub_self]; rfl)
        refine ⟨⟨_, rfl⟩, _, rfl, _, rfl, b, _, rfl, .inr (sqT_of hb), _, _, rfl, rfl, b, _, _, .ref c, rfl, rfl, sqT_of hb, i1, c, rfl, ⟨us, sqT_of hc⟩, fun D nD => ?_⟩
        refine rd_txs nD hc hus hT hfs hm (fun _ => rfl) (fun x t H2 Qy ht2 hx2 t2 f2 m2 k2 => ⟨_, rfl, x, t, rfl, hx2, t2, f2, m2, k2⟩) fun H3 S3 hD => ?_
        have hsum := sum_txt (ts := ts) fun t ht => txt_len (hT t ht) (hfs t ht).gd
        have e2 : (", " : Str).length = 2 := by decide
        refine ⟨_, D, ts.map txt, rfl, rfl, .inl (SqL.of hD), ?_, ?_⟩
        · show ((ts.map txt).map Str.length).sum + (ts.map txt).length * (", " : Str).length ≤ 16777216
          rw [e2]
          omega
        · have hjl := len_jn (ts.map txt)
          have l1 : ("(" : Str).length = 1 := by decide
          have l2 : (")" : Str).length = 1 := by decide
          have hb3 := sqT_of (K := K) (S3 _ _ hb)
          refine ⟨_, rfl, _, rfl, b, _, rfl, .inr hb3, _, _, rfl, rfl, b, _, _, .str wd, rfl, rfl, hb3, i2, _, _, rfl, rfl, by rw [sizeLine_eq]; omega, _, rfl, _, _, rfl, rfl, by rw [len_app, sizeLine_eq]; omega, _, _, rfl, rfl, by rw [len_app, len_app, sizeLine_eq]; omega, ?_⟩
          show Q (.str (apTxt wd (ts.map txt))) H3
          rw [← ht]
          exact q H3 S3
      rcases knd2 hT with ⟨s, i, rfl, h1, h2, h3⟩ | ⟨s, ts, rfl, h1, h2, p⟩ | ⟨wd, ts, rfl, h1, p⟩
      · obtain ⟨b, rfl, hb⟩ := dw_in3 hd
        have sq := sqT_of (K := K) hb
        refine ⟨_, rfl, b, _, _, .str "in", rfl, rfl, sq, atI_nat (j := 0) rfl, rfl, _, rfl, ?_⟩
        refine iteT' (decide_eq_true rfl) ?_
        have hi := gd_int ((gd_tup.mp hf.gd).2 (.int i) (by simp))
        have n8 := nm_len h1
        have d60 := dec_len0 h2 hi
        have l1 : ("[" : Str).length = 1 := by decide
        have l2 : ("]" : Str).length = 1 := by decide
        rw [txt_rd] at q
        refine ⟨_, rfl, b, _, _, .str s, rfl, rfl, sq, atI_nat (j := 1) rfl, _, _, rfl, rfl, by rw [sizeLine_eq]; omega, _, rfl, b, _, _, .int i, rfl, rfl, sq, atI_nat (j := 2) rfl, i, rfl, log_of ⟨by omega, hi⟩, _, decS i, rfl, rfl, by rw [len_app, sizeLine_eq]; omega, _, _, rfl, rfl, by rw [len_app, len_app, sizeLine_eq]; omega, ?_⟩
        exact q H (Same.refl H)
      · obtain ⟨b, its, rfl, hb, hits⟩ := dw_tup hd
        cases hits with
        | @cons v0 _ _ _ k0 kr =>
        cases kr with
        | @cons v1 _ _ _ k1 kr =>
        cases kr with
        | @cons v2 _ _ _ k2 kr =>
        cases kr
        obtain rfl := dw_str k0
        obtain rfl := dw_str k1
        obtain ⟨c, us, rfl, hc, hus⟩ := dw_tup k2
        have mm := prt_mz p
        refine ⟨_, rfl, b, _, _, .str "let", rfl, rfl, sqT_of hb, atI_nat (j := 0) rfl, rfl, _, rfl, ?_⟩
        refine iteN' (fun e => by cases e) ?_
        exact main s ts b c [.str "let"] us hb hc hus p.at_ (prt_fine hf p) (by omega) (nm_len h1) (txt_let s ts) rfl
      · obtain ⟨b, its, rfl, hb, hits⟩ := dw_tup hd
        cases hits with
        | @cons v0 _ _ _ k0 kr =>
        cases kr with
        | @cons v2 _ _ _ k2 kr =>
        cases kr
        obtain rfl := dw_str k0
        obtain ⟨c, us, rfl, hc, hus⟩ := dw_tup k2
        have mm := prt_mz p
        refine ⟨_, rfl, b, _, _, .str wd, rfl, rfl, sqT_of hb, atI_nat (j := 0) rfl, rfl, _, rfl, ?_⟩
        refine iteN' (fun e => (word_ne h1).1 (V.str.inj e)) ?_
        exact main wd ts b c [] us hb hc hus p.at_ (prt_fine hf p) (by omega) (word_len h1) (txt_wd wd ts) rfl
end
end K40
set_option maxHeartbeats 8000000
namespace K40
open PySem PySem.Spec PyProof.Rows L2 TL

/-! ### how great the drawn terms are */ -/
def Su (f : PyData → Nat) (l : List PyData) : Nat := (l.map f).sum
theorem su_sub {f : PyData → Nat} {a b : List PyData} (h : a.Sublist b) : Su f a ≤ Su f b := by
  unfold Su
  induction h with
  | slnil => exact Nat.le_refl _
  | cons x _ ih =>
    rw [List.map_cons, List.sum_cons]
    omega
  | cons_cons x _ ih =>
    rw [List.map_cons, List.sum_cons, List.map_cons, List.sum_cons]
    omega
theorem su_perm {f : PyData → Nat} {a b : List PyData} (h : a.Perm b) : Su f a = Su f b := by
  unfold Su
  induction h with
  | nil => rfl
  | cons x _ ih => rw [List.map_cons, List.sum_cons, List.map_cons, List.sum_cons, ih]
  | swap x y l =>
    simp only [List.map_cons, List.sum_cons]
    omega
  | trans _ _ i1 i2 => exact i1.trans i2
theorem su_app {f : PyData → Nat} (a b : List PyData) : Su f (a ++ b) = Su f a + Su f b := by
  unfold Su
  rw [List.map_append, List.sum_append]
theorem su_inn {f : PyData → Nat} (w : Str) (ts : List PyData) : Su f (inn w ts) ≤ Su f (flt w ts) := by
  unfold inn
  split
  · exact Nat.le_of_eq (su_perm (srt_perm _))
  · exact Nat.le_trans (su_sub (ddp_sub _)) (Nat.le_of_eq (su_perm (srt_perm _)))
theorem su_flt {f : PyData → Nat} {w : Str} {ts : List PyData} (h : ∀ t ∈ ts, Su f (prt w t) ≤ f t) : Su f (flt w ts) ≤ Su f ts := by
  induction ts with
  | nil => exact Nat.le_refl _
  | cons t r ih =>
    have e : flt w (t :: r) = prt w t ++ flt w r := rfl
    rw [e, su_app]
    have h1 := h t List.mem_cons_self
    have h2 := ih fun u hu => h u (List.mem_cons_of_mem _ hu)
    have e2 : Su f (t :: r) = f t + Su f r := by
      unfold Su
      rw [List.map_cons, List.sum_cons]
    omega
theorem su_one {f : PyData → Nat} (t : PyData) : Su f [t] = f t := by
  unfold Su
  simp
theorem su_le {f : PyData → Nat} {ts : List PyData} {B : Nat} (h : ∀ t ∈ ts, f t ≤ B) : Su f ts ≤ ts.length * B := by
  induction ts with
  | nil => exact Nat.zero_le _
  | cons t r ih =>
    have h1 := h t List.mem_cons_self
    have h2 := ih fun u hu => h u (List.mem_cons_of_mem _ hu)
    have e2 : Su f (t :: r) = f t + Su f r := by
      unfold Su
      rw [List.map_cons, List.sum_cons]
    rw [e2, List.length_cons, Nat.add_mul, Nat.one_mul]
    omega
theorem mzs_su (ts : List PyData) : mzs ts = Su (fun t => mz t + 2) ts := by
  induction ts with
  | nil => simp [mzs, Su]
  | cons t r ih =>
    rw [mzs_cons, ih]
    unfold Su
    rw [List.map_cons, List.sum_cons]
abbrev nR (d : PyData) : Nat := (rds d).length
theorem fm_su (ts : List PyData) : (ts.flatMap rds).length = Su nR ts := by
  unfold Su
  rw [List.length_flatMap]
theorem nR_pos {d : PyData} (h : isT d = true) : 1 ≤ nR d := by
  refine tInd (M := fun d => 1 ≤ nR d) (fun s i h1 h2 => ?_) (fun s ts h1 hn _ h4 ih => ?_) (fun h ts hw hn h3 h4 ih => ?_) _ d (Nat.lt_succ_self _) h
  · show 1 ≤ (rds _).length
    have e : rds (.tuple [.str "in", .str s, .int i]) = [(s, i)] := by simp [rds, inR]
    rw [e]
    exact Nat.le_refl _
  · show 1 ≤ (rds _).length
    have e : rds (.tuple [.str "let", .str s, .tuple ts]) = ts.flatMap rds := by rw [← rdsA_eq]; simp [rds, inR, rdsL]
    rw [e]
    cases ts with
    | nil => simp at hn
    | cons t r =>
      rw [List.flatMap_cons, List.length_append]
      have z : 1 ≤ (rds t).length := ih t List.mem_cons_self
      omega
  · show 1 ≤ (rds _).length
    have e : rds (.tuple [.str h, .tuple ts]) = ts.flatMap rds := by rw [← rdsA_eq]; simp [rds, inR, rdsL]
    rw [e]
    cases ts with
    | nil => simp at hn
    | cons t r =>
      rw [List.flatMap_cons, List.length_append]
      have z : 1 ≤ (rds t).length := ih t List.mem_cons_self
      omega
theorem len_su {ts : List PyData} (h : AllT ts) : ts.length ≤ Su nR ts := by
  induction ts with
  | nil => exact Nat.zero_le _
  | cons t r ih =>
    have h1 := nR_pos (h t List.mem_cons_self)
    have h2 := ih h.tail
    have e2 : Su nR (t :: r) = nR t + Su nR r := by
      unfold Su
      rw [List.map_cons, List.sum_cons]
    rw [e2, List.length_cons]
    omega
theorem rds_wd (w : Str) (ts : List PyData) : rds (.tuple [.str w, .tuple ts]) = ts.flatMap rds := by rw [← rdsA_eq]; simp [rds, inR, rdsL]
theorem rds_lt (s : Str) (ts : List PyData) : rds (.tuple [.str "let", .str s, .tuple ts]) = ts.flatMap rds := by rw [← rdsA_eq]; simp [rds, inR, rdsL]
theorem prt_mzs {w : Str} (t : PyData) : Su (fun t => mz t + 2) (prt w t) ≤ mz t + 2 := by
  rcases hw_em w t with ⟨ps, rfl⟩ | n
  · rw [prt_w, ← mzs_su, mz_tup, mzs_cons, mzs_cons, mz_tup]
    omega
  · rw [prt_o n, su_one]
    exact Nat.le_refl _
theorem prt_nR {w : Str} (t : PyData) : Su nR (prt w t) ≤ nR t := by
  rcases hw_em w t with ⟨ps, rfl⟩ | n
  · rw [prt_w, ← fm_su]
    show _ ≤ (rds _).length
    rw [rds_wd]
    exact Nat.le_refl _
  · rw [prt_o n, su_one]
    exact Nat.le_refl _
def NmS : List Str := ["x", "sum", "in", "let", "abcdefgh", "y"]
def NuS : List Int := [0, 1, 2, 10, 10 ^ 28]
def KyS : List (List Key) := NmS.flatMap fun s => NuS.map fun i => pk (s, i)
theorem kyS_len : KyS.length < 64 := by decide +kernel
def mB : Nat → Nat
  | 0 => 300
  | k + 1 => 400 + 5 * (mB k + 2)
/-- a term as drawn at depth k -/
structure Lk (k : Nat) (d : PyData) : Prop where
  t : isT d = true
  dp : d.depth ≤ 2 * k + 1
  mz : mz d ≤ mB k
  nr : nR d ≤ 5 ^ k
  gd : gd d = true
  ky : ∀ r ∈ rds d, pk r ∈ KyS
theorem mB_mono {j k : Nat} (h : j ≤ k) : mB j ≤ mB k := by
  induction h with
  | refl => exact Nat.le_refl _
  | step _ ih =>
    refine Nat.le_trans ih ?_
    show _ ≤ 400 + 5 * (mB _ + 2)
    omega
theorem Lk.up {j k : Nat} {d : PyData} (h : Lk j d) (hj : j ≤ k) : Lk k d :=
  ⟨h.t, by have := h.dp; omega, Nat.le_trans h.mz (mB_mono hj), Nat.le_trans h.nr (Nat.pow_le_pow_right (by decide) hj), h.gd, h.ky⟩
theorem nmS_ok : ∀ s ∈ NmS, isNm s = true ∧ s.length ≤ 8 := by decide +kernel
theorem nuS_ok : ∀ i ∈ NuS, 0 ≤ i ∧ i < 10 ^ 60 := by decide +kernel
theorem lk_in {s : Str} {i : Int} (hs : s ∈ NmS) (hi : i ∈ NuS) (k : Nat) : Lk k (.tuple [.str "in", .str s, .int i]) := by
  refine Lk.up (j := 0) ?_ (Nat.zero_le _)
  obtain ⟨h1, h2⟩ := nmS_ok s hs
  obtain ⟨i1, i2⟩ := nuS_ok i hi
  have er : rds (.tuple [.str "in", .str s, .int i]) = [(s, i)] := by simp [rds, inR]
  refine ⟨isT_in h1 i1, by simp [PyData.depth, PyData.depthAll], ?_, ?_, ?_, fun r hr => ?_⟩
  · have e2 : ("in" : Str).length = 2 := by decide
    rw [mz_tup, mzs_cons, mzs_cons, mzs_cons]
    simp only [mz, mzs, e2]
    show _ ≤ 300
    omega
  · show (rds _).length ≤ 1
    rw [er]
    exact Nat.le_refl _
  · refine gd_tup.mpr ⟨by simp, fun t ht => ?_⟩
    rcases List.mem_cons.mp ht with rfl | ht
    · rw [K40.gd]
      decide
    rcases List.mem_cons.mp ht with rfl | ht
    · rw [K40.gd, decide_eq_true_eq]
      omega
    · rw [List.mem_singleton.mp ht, K40.gd, Bool.and_eq_true, decide_eq_true_eq, decide_eq_true_eq]
      exact ⟨by omega, i2⟩
  · rw [er] at hr
    rw [List.mem_singleton.mp hr]
    exact List.mem_flatMap.mpr ⟨s, hs, List.mem_map.mpr ⟨i, hi, rfl⟩⟩
theorem lk_dep {k : Nat} {ts : List PyData} (h : ∀ t ∈ ts, Lk k t) : PyData.depth (.tuple ts) ≤ 2 * k + 2 := dep_tup.mpr fun t ht => (h t ht).dp
theorem dep_str (s : Str) (n : Nat) : (PyData.str s).depth ≤ n := by simp [PyData.depth]
theorem lk_let {k : Nat} (hk : k ≤ 2) {s : Str} {ts : List PyData} (hs : isNm s = true) (h1 : 1 ≤ ts.length) (h3 : ts.length ≤ 3) (h : ∀ t ∈ ts, Lk k t) : Lk (k + 1) (.tuple [.str "let", .str s, .tuple ts]) := by
  have hT : AllT ts := fun t ht => (h t ht).t
  have h8 := nm_len hs
  have hm : mzs ts ≤ 3 * (mB k + 2) := by
    rw [mzs_su]
    have := su_le (f := fun t => mz t + 2) (B := mB k + 2) (ts := ts) fun t ht => by
      have := (h t ht).mz
      show mz t + 2 ≤ mB k + 2
      omega
    have := Nat.mul_le_mul_right (mB k + 2) h3
    omega
  refine ⟨isT_let hs h1 h3 hT, ?_, ?_, ?_, ?_, fun r hr => ?_⟩
  · refine dep_tup.mpr fun t ht => ?_
    rcases List.mem_cons.mp ht with rfl | ht
    · exact dep_str _ _
    rcases List.mem_cons.mp ht with rfl | ht
    · exact dep_str _ _
    rw [List.mem_singleton.mp ht]
    exact lk_dep h
  · have e2 : ("let" : Str).length = 3 := by decide
    rw [mz_tup, mzs_cons, mzs_cons, mzs_cons, mz_tup]
    simp only [mz, mzs, e2]
    show _ ≤ 400 + 5 * (mB k + 2)
    omega
  · show (rds _).length ≤ _
    rw [rds_lt, fm_su]
    have := su_le (f := nR) (B := 5 ^ k) (ts := ts) fun t ht => (h t ht).nr
    have := Nat.mul_le_mul_right (5 ^ k) h3
    have e : 5 ^ (k + 1) = 5 ^ k * 5 := Nat.pow_succ 5 k
    omega
  · refine gd_tup.mpr ⟨by simp, fun t ht => ?_⟩
    rcases List.mem_cons.mp ht with rfl | ht
    · rw [K40.gd]
      decide
    rcases List.mem_cons.mp ht with rfl | ht
    · rw [K40.gd, decide_eq_true_eq]
      omega
    rw [List.mem_singleton.mp ht]
    exact gd_tup.mpr ⟨by omega, fun t ht => (h t ht).gd⟩
  · rw [rds_lt] at hr
    obtain ⟨t, ht, hr⟩ := List.mem_flatMap.mp hr
    exact (h t ht).ky r hr
theorem lk_parts {k : Nat} {w : Str} {t x : PyData} (hw : w ∈ words) (h : Lk k t) (hx : x ∈ prt w t) : Lk k x := by
  rcases hw_em w t with ⟨ps, rfl⟩ | n
  · rw [prt_w] at hx
    have hT := (made hw h.t).2.1
    refine ⟨hT x hx, ?_, ?_, ?_, ?_, fun r hr => h.ky r ?_⟩
    · have z := h.dp
      have z1 := dep_tup.mp z (.tuple ps) (by simp)
      cases k with
      | zero => simp [PyData.depth] at z1
      | succ k =>
        have := (dep_tup (n := 2 * k + 1)).mp z1 x hx
        omega
    · have := mzs_mem hx
      have z := h.mz
      rw [mz_tup, mzs_cons, mzs_cons, mz_tup] at z
      omega
    · have z := h.nr
      have z2 : (rds (.tuple [.str w, .tuple ps])).length ≤ 5 ^ k := z
      rw [rds_wd, fm_su] at z2
      have z3 := su_sub (f := nR) (List.singleton_sublist.mpr hx)
      rw [su_one] at z3
      omega
    · exact (gd_tup.mp ((gd_tup.mp h.gd).2 (.tuple ps) (by simp))).2 x hx
    · rw [rds_wd]
      exact List.mem_flatMap.mpr ⟨x, hx, hr⟩
  · rw [prt_o n] at hx
    rw [List.mem_singleton.mp hx]
    exact h
theorem lk_put {k : Nat} (hk : k ≤ 2) {w : Str} {ts : List PyData} (hw : w ∈ words) (hn : ts ≠ []) (h5 : ts.length ≤ 5) (h : ∀ t ∈ ts, Lk k t) : Lk (k + 1) (putD w ts) := by
  have hT : AllT ts := fun t ht => (h t ht).t
  have hi : ∀ x ∈ inn w ts, Lk k x := fun x hx => by
    obtain ⟨t, ht, hx⟩ := mem_flt.mp (inn_sub w ts hx)
    exact lk_parts hw (h t ht) hx
  have h8 := word_len hw
  have hm : mzs (inn w ts) ≤ 5 * (mB k + 2) := by
    rw [mzs_su]
    have z1 := su_inn (f := fun t => mz t + 2) w ts
    have z2 := su_flt (f := fun t => mz t + 2) (w := w) (ts := ts) fun t _ => prt_mzs t
    have z3 := su_le (f := fun t => mz t + 2) (B := mB k + 2) (ts := ts) fun t ht => by
      have := (h t ht).mz
      show mz t + 2 ≤ mB k + 2
      omega
    have := Nat.mul_le_mul_right (mB k + 2) h5
    omega
  have hr : Su nR (inn w ts) ≤ 5 ^ (k + 1) := by
    have z1 := su_inn (f := nR) w ts
    have z2 := su_flt (f := nR) (w := w) (ts := ts) fun t _ => prt_nR t
    have z3 := su_le (f := nR) (B := 5 ^ k) (ts := ts) fun t ht => (h t ht).nr
    have := Nat.mul_le_mul_right (5 ^ k) h5
    have e : 5 ^ (k + 1) = 5 ^ k * 5 := Nat.pow_succ 5 k
    omega
  have hpT := put_T hw hT hn
  unfold putD at hpT ⊢
  unfold oneOr at hpT ⊢
  split
  · rename_i x e
    exact (hi x (by rw [e]; exact List.mem_singleton_self x)).up (Nat.le_succ k)
  · rename_i l hne
    have hpT : isT (.tuple [.str w, .tuple (inn w ts)]) = true := by
      revert hpT
      split
      · rename_i x e
        exact absurd e (hne x)
      · exact id
    have h125 : 5 ^ (k + 1) ≤ 125 := by
      have := Nat.pow_le_pow_right (n := 5) (by decide) (show k + 1 ≤ 3 by omega)
      exact this
    have hl := len_su (ts := inn w ts) fun t ht => (hi t ht).t
    refine ⟨hpT, ?_, ?_, ?_, ?_, fun r hr => ?_⟩
    · refine dep_tup.mpr fun t ht => ?_
      rcases List.mem_cons.mp ht with rfl | ht
      · exact dep_str _ _
      rw [List.mem_singleton.mp ht]
      exact lk_dep hi
    · rw [mz_tup, mzs_cons, mzs_cons, mz_tup]
      simp only [mz, mzs]
      show _ ≤ 400 + 5 * (mB k + 2)
      omega
    · show (rds _).length ≤ _
      rw [rds_wd, fm_su]
      exact hr
    · refine gd_tup.mpr ⟨by simp, fun t ht => ?_⟩
      rcases List.mem_cons.mp ht with rfl | ht
      · rw [K40.gd, decide_eq_true_eq]
        omega
      rw [List.mem_singleton.mp ht]
      exact gd_tup.mpr ⟨by omega, fun t ht => (hi t ht).gd⟩
    · rw [rds_wd] at hr
      obtain ⟨t, ht, hr⟩ := List.mem_flatMap.mp hr
      exact (hi t ht).ky r hr
theorem Lk.fine {k : Nat} {d : PyData} (h : Lk k d) (hk : k ≤ 3) {n : Nat} (hn : 7 ≤ n) : Fine n d := ⟨h.gd, by have := h.dp; omega⟩
theorem mB3 : mB 3 = 50210 := by decide
end K40
set_option maxHeartbeats 8000000
namespace K40
open PySem PySem.Spec PyProof.Rows L2 TL

/-! ### what stays: tuples */ -/
theorem Rg.ne {H : Hp} {r b : Addr} (h : Rg H r) (n : H b = none) : r ≠ b := fun e => by
  obtain ⟨_, _, z, _⟩ := h
  rw [e, n] at z
  cases z
theorem Rg.same {H H' : Hp} {r : Addr} (h : Rg H r) (S : Same H H') : Rg H' r := by
  obtain ⟨x, y, z, q⟩ := h
  exact ⟨x, y, S _ _ z, q⟩
theorem But.of {r : Addr} {H H' : Hp} (S : Same H H') : But r H H' := fun b o _ e => S b o e
def Stp (H H' : Hp) : Prop := ∀ b xs, H b = some (.tup xs) → H' b = some (.tup xs)
theorem Stp.of {H H' : Hp} (S : Same H H') : Stp H H' := fun _ _ e => S _ _ e
theorem Stp.trans {H H1 H2 : Hp} (a : Stp H H1) (b : Stp H1 H2) : Stp H H2 := fun _ _ e => b _ _ (a _ _ e)
theorem Stp.but {r : Addr} {H H' : Hp} (hR : Rg H r) (B : But r H H') : Stp H H' := fun b xs e => B b _ (fun q => by
  obtain ⟨_, _, z, _⟩ := hR
  rw [q, z] at e
  cases e) e
theorem Stp.lst {H : Hp} {D : Addr} {o : HO} (h : ∀ xs, H D ≠ some (.tup xs)) : Stp H (upd H D o) := fun b xs e => by
  rw [upd_ne (fun q => h xs (by rw [← q]; exact e))]
  exact e
theorem dwa_stp {H G : Hp} : ∀ {vs : List V} {ds : List PyData}, DwAll H vs ds → (∀ d ∈ ds, ∀ v, Dw H v d → Dw G v d) → DwAll G vs ds
  | _, _, .nil, _ => .nil
  | _, _, .cons h t, k => .cons (k _ List.mem_cons_self _ h) (dwa_stp t fun d hd => k d (List.mem_cons_of_mem _ hd))
theorem dw_strS {H G : Hp} {s : Str} {v : V} (h : Dw H v (.str s)) : Dw G v (.str s) := by
  cases h
  exact .str s
theorem dw_intS {H G : Hp} {s : Int} {v : V} (h : Dw H v (.int s)) : Dw G v (.int s) := by
  cases h
  exact .int s
/-- a term stays what it is while the tuples stay -/
theorem Dw.stp {H G : Hp} (S : Stp H G) {d : PyData} (hT : isT d = true) : ∀ {v : V}, Dw H v d → Dw G v d := by
  have z := tInd (M := fun d => ∀ v, Dw H v d → Dw G v d) (fun s i _ _ v h => ?_) (fun s ts _ _ _ _ ih v h => ?_) (fun h ts _ _ _ _ ih v hv => ?_) _ d (Nat.lt_succ_self _) hT
  · exact fun {v} h => z v h
  · obtain ⟨b, xs, rfl, hb, hx⟩ := dw_tup h
    refine .tup (S _ _ hb) (dwa_stp hx fun d hd v hv => ?_)
    rcases List.mem_cons.mp hd with rfl | hd
    · exact dw_strS hv
    rcases List.mem_cons.mp hd with rfl | hd
    · exact dw_strS hv
    · rw [List.mem_singleton.mp hd] at hv ⊢
      exact dw_intS hv
  · obtain ⟨b, xs, rfl, hb, hx⟩ := dw_tup h
    refine .tup (S _ _ hb) (dwa_stp hx fun d hd v hv => ?_)
    rcases List.mem_cons.mp hd with rfl | hd
    · exact dw_strS hv
    rcases List.mem_cons.mp hd with rfl | hd
    · exact dw_strS hv
    · rw [List.mem_singleton.mp hd] at hv ⊢
      obtain ⟨c, ys, rfl, hc, hy⟩ := dw_tup hv
      exact .tup (S _ _ hc) (dwa_stp hy fun d hd v hv => ih d hd v hv)
  · obtain ⟨b, xs, rfl, hb, hx⟩ := dw_tup hv
    refine .tup (S _ _ hb) (dwa_stp hx fun d hd v hv => ?_)
    rcases List.mem_cons.mp hd with rfl | hd
    · exact dw_strS hv
    · rw [List.mem_singleton.mp hd] at hv ⊢
      obtain ⟨c, ys, rfl, hc, hy⟩ := dw_tup hv
      exact .tup (S _ _ hc) (dwa_stp hy fun d hd v hv => ih d hd v hv)
theorem DwAll.stp {H G : Hp} (S : Stp H G) {vs : List V} {ds : List PyData} (hT : AllT ds) (h : DwAll H vs ds) : DwAll G vs ds := dwa_stp h fun d hd v hv => Dw.stp S (hT d hd) hv

/-! ### _law_term, _law_bag */ -/
abbrev sLtm : Stmt := top 33
abbrev sLbg : Stmt := top 34
def spLtm (k : Nat) : Sp := fun vs H Q _ => ∃ r : Addr, vs = [.ref r, .int (k : Nat)] ∧ Rg H r ∧ ∀ H' v d, Rg H' r → But r H H' → Dw H' v d → Lk k d → Q v H'
def spLbg (k : Nat) : Sp := fun vs H Q _ => ∃ r : Addr, vs = [.ref r, .int (k : Nat)] ∧ Rg H r ∧
  ∀ H' L xs ds, Rg H' r → But r H H' → H L = none → L ≠ r → H' L = some (.lst xs) → DwAll H' xs ds → (∀ d ∈ ds, Lk k d) → ds ≠ [] → ds.length ≤ 5 → Q (.ref L) H'
def NLm : List Str := ["_law_rng_here", "_law_deep", "_law_way", "_law_name", "_law_letter", "_law_turn"]
def NLb : List Str := ["_law_rng_here", "_law_deep", "_law_found", "_law_turn"]
theorem none_but {r b : Addr} {H H' : Hp} (B : But r H H') (hb : b ≠ r) (n : H' b = none) : H b = none := by
  cases e : H b with
  | none => rfl
  | some o =>
    have z := B _ _ hb e
    rw [n] at z
    cases z
/-- [_law_term(rng, k) for turn in range(..)] -/
theorem rd_trs {k : Nat} {σ : L2.St} {vs : List Nat} {j : Nat} {r D : Addr} {H : Hp} {m : Nat} {te : TE} {Qd : Hp → Prop} (hm : m ≤ 100) (hR : Rg H r) (nD : H D = none) (hw : ∀ x, wipe ((wipe σ vs).set j (some x)) vs = wipe σ vs)
    (he : ∀ x H2 (Qy : VK), Rg H2 r → (∀ H3 v d, Rg H3 r → But r H2 H3 → Dw H3 v d → Lk k d → Qy v H3) → te ((wipe σ vs).set j (some x)) H2 Qy)
    (q : ∀ H' xs ds, Rg H' r → But r H H' → H' D = some (.lst xs) → DwAll H' xs ds → (∀ d ∈ ds, Lk k d) → ds.length = m → Qd H') :
    ∃ W : Nat → Nat → Hp → Prop, (∃ i, W 0 i (upd H D (.lst []))) ∧ ∀ i m' H, W i m' H →
      ((Itr 0 m).stop i H ∧ Qd H) ∨ ((Itr 0 m).go i H ∧ ∃ Nx : Hp → Prop, (∀ H', Nx H' → ∃ m'', m'' < m' ∧ W (i + 1) m'' H') ∧ ∀ x H', (Itr 0 m).yld i H x H' → (gName j) x (wipe σ vs) H' fun σ2 H2 => wipe σ2 vs = wipe σ vs ∧ tYes σ2 H2 fun b H3 =>
        if b = true then te σ2 H3 fun y H4 => ∃ acc, H4 D = some (.lst acc) ∧ acc.length < sizeLine ∧ Nx (upd H4 D (.lst (acc ++ [y]))) else Nx H3) := by
  have Dr : D ≠ r := (hR.ne nD).symm
  refine lc_it (walk_range (lo := 0) (n := m)) (fun i H2 => Rg H2 r ∧ But r H H2 ∧ ∃ xs ds, H2 D = some (.lst xs) ∧ DwAll H2 xs ds ∧ (∀ d ∈ ds, Lk k d) ∧ ds.length = i) ⟨hR.same (fresh_upd nD), But.of (fresh_upd nD), [], [], upd_same, .nil, (fun d z => nomatch z), rfl⟩ (fun _ _ _ _ => trivial) ?_ ?_
  · rintro i x H2 H3 hi ⟨hR2, B2, xs, ds, hD, hx, hl, hn⟩ ⟨rfl, rfl⟩
    refine ⟨hw _, ?_⟩
    unfold tYes
    dsimp only
    rw [if_pos rfl]
    refine he _ _ _ hR2 fun H4 v d hR4 B4 hv hd => ?_
    have hD4 := B4 _ _ Dr hD
    have S4 := Stp.but hR2 B4
    have hT : AllT ds := fun d hd => (hl d hd).t
    have nt : ∀ ys, H4 D ≠ some (.tup ys) := fun ys e => by rw [hD4] at e; cases e
    refine ⟨xs, hD4, by rw [hx.length, sizeLine_eq]; omega, ?_, ?_, xs ++ [v], ds ++ [d], upd_same, ?_, ?_, ?_⟩
    · obtain ⟨a, b, z, zz⟩ := hR4
      exact ⟨a, b, by rw [upd_ne (Ne.symm Dr)]; exact z, zz⟩
    · intro b o ne e
      rw [upd_ne (ne_of_none e nD)]
      exact B4 _ _ ne (B2 _ _ ne e)
    · have h1 := DwAll.stp (S4.trans (Stp.lst (o := .lst (xs ++ [v])) nt)) hT hx
      exact dwa_app h1 (.cons (Dw.stp (Stp.lst nt) hd.t hv) .nil)
    · intro e he
      rcases List.mem_append.mp he with he | he
      · exact hl e he
      · rw [List.mem_singleton.mp he]
        exact hd
    · rw [List.length_append, hn]
      rfl
  · rintro H2 ⟨hR2, B2, xs, ds, hD, hx, hl, hn⟩
    exact q H2 xs ds hR2 B2 hD hx hl hn
/-- what they call -/
structure LmX (P : Program) (w : World) (K : PySem.W.Frag) (mg : Str → Option Value) (base : Heap) : Prop where
  dr : ∃ f fd, mg "_law_draw" = some (.ref f) ∧ FnOk P w K mg base CX0 1 f fd ["_law_rng_here", "_law_many"] spDraw ∧ PySem.W.keepIn K (.ref f) = true ∧ Binds K fd ["_law_rng_here", "_law_many"] []
  ch : ∃ f fd, mg "_law_choice" = some (.ref f) ∧ FnOk P w K mg base CX0 2 f fd ["_law_rng_here", "_law_some"] spChoice ∧ PySem.W.keepIn K (.ref f) = true ∧ Binds K fd ["_law_rng_here", "_law_some"] []
  pt : ∃ f fd, mg "_law_put" = some (.ref f) ∧ FnOk P w K mg base CX0 1 f fd ["_law_word", "_law_terms"] spLput ∧ PySem.W.keepIn K (.ref f) = true ∧ Binds K fd ["_law_word", "_law_terms"] []
  tuple : mg "tuple" = none
  range : mg "range" = none
section
variable {P : Program} {w : World} {K : PySem.W.Frag} {mg : Str → Option Value} {base : Heap}
theorem scLbg : FnScope NLb ["_law_rng_here", "_law_deep"] (defScope sLbg) :=
  ⟨rfl, rfl, rfl, by decide +kernel, rfl, by decide +kernel, by decide +kernel⟩
theorem scLtm : FnScope NLm ["_law_rng_here", "_law_deep"] (defScope sLtm) :=
  ⟨rfl, rfl, rfl, by decide +kernel, rfl, by decide +kernel, by decide +kernel⟩
theorem ok_lbg {k m : Nat} (hm : 2 ≤ m) {f fT : Addr} {fd fdT : FuncData} (F : Fun K "_law_bag" "_law_bag" sLbg f fd) (X : LmX P w K mg base)
    (GT : FnOk P w K mg base CX0 m fT fdT ["_law_rng_here", "_law_deep"] (spLtm k)) (kT : PySem.W.keepIn K (.ref fT) = true) (bT : Binds K fdT ["_law_rng_here", "_law_deep"] []) (gT : mg "_law_term" = some (.ref fT)) :
    FnOk P w K mg base CX0 (m + 1) f fd ["_law_rng_here", "_law_deep"] (spLbg k) := by
  obtain ⟨fD, fdD, gD, GD, kD, bD⟩ := X.dr
  obtain ⟨fC, fdC, gC, GC, kC, bC⟩ := X.ch
  have GD2 := GD.mono (k := m) (by omega)
  have GC2 := GC.mono (k := m) hm
  refine F.ok scLbg (fun vs H Q E h => ?_) (fun cdv A outer s H vs Q E hr h => ?_)
  · obtain ⟨r, rfl, _⟩ := h
    rfl
  · obtain ⟨r, rfl, hR, q⟩ := h
    refine ⟨_, pss_cons (ps_setLc (i := 2) (own := [("_law_turn", 3)]) (g := gName 3) (tt := tYes) (te := tCall (spLtm k) [] E0 (tCons (tVar 0) (tCons (tVar 1) tNil))) rfl scLbg.nd rfl rfl (sw_true rfl rfl rfl (by decide +kernel))
        (pi_range1 (by rfl) X.range (pa_cons (pe_op op_add pe_int (pe_call GD2 hr rfl gD kD bD .nil pass0 (pa_cons (pv 0) (pa_cons pe_int pa_nil)))) pa_nil))
        (blkOk_by (own := [("_law_turn", 3)]) (N := NLb) (sc := defScope sLbg) (by decide +kernel)) (fun _ _ _ _ _ => pg_name (i := 3) scLbg.nd rfl (Or.inl rfl)) (fun _ _ _ _ _ => pts_nil)
        (fun _ _ _ _ _ => by exact pe_call GT hr rfl gT kT bT .nil pass0 (pa_cons (pv 0) (pa_cons (pv 1) pa_nil))))
      (pss_one (ps_ret (pe_ifExp (pt_cmpR op_eq (pe_call GD2 hr rfl gD kD bD .nil pass0 (pa_cons (pv 0) (pa_cons pe_int pa_nil))) pe_int (nomark _))
        (pe_op op_cat (pv 2) (pe_lst (pa_cons (pe_call GC2 hr rfl gC kC bC .nil pass0 (pa_cons (pv 0) (pa_cons (pv 2) pa_nil))) pa_nil))) (pv 2)))), ?_⟩
    refine ⟨_, rfl, r, 4, rfl, hR, by decide, by decide, fun H1 d d0 d1 hR1 B1 => ?_⟩
    obtain ⟨n, rfl⟩ : ∃ n : Nat, d = (n : Int) := ⟨d.toNat, by omega⟩
    refine ⟨_, _, rfl, rfl, _, rfl, by omega, by omega, fun D nD => ?_⟩
    have e1 : (1 + (n : Int)).toNat = n + 1 := by omega
    rw [e1]
    have Dr : D ≠ r := (hR1.ne nD).symm
    refine rd_trs (k := k) (r := r) (by omega) hR1 nD (fun _ => rfl) (fun x H2 Qy hR2 k2 => ⟨_, rfl, _, rfl, r, rfl, hR2, k2⟩) fun H2 xs ds hR2 B2 hD hx hl hn => ?_
    have B02 := B1.trans B2
    have hne : ds ≠ [] := fun e => by rw [e] at hn; simp at hn
    have hxl := hx.length
    have hT : AllT ds := fun d hd => (hl d hd).t
    refine ⟨_, rfl, r, 3, rfl, hR2, by decide, by decide, fun H3 d3 _ _ hR3 B3 => ?_⟩
    have hD3 := B3 _ _ Dr hD
    have B03 := B02.trans B3
    have hx3 := DwAll.stp (Stp.but hR2 B3) hT hx
    have nD0 := none_but B1 Dr nD
    refine ⟨rfl, _, rfl, ?_⟩
    refine ite2 (fun _ => ?_) fun _ => ?_
    · refine ⟨_, rfl, _, rfl, _, rfl, r, D, xs, rfl, hR3, Dr, hD3, by omega, by omega, fun H4 v hv hR4 B4 => ?_⟩
      have hD4 := B4 _ _ Dr hD3
      have hx4 := DwAll.stp (Stp.but hR3 B4) hT hx3
      obtain ⟨i, hi, ei⟩ := List.mem_iff_getElem.mp hv
      obtain ⟨e, ee, hve⟩ := dwa_at hx4 (v := v) (i := i) (by rw [List.getElem?_eq_getElem hi, ei])
      have hem : e ∈ ds := List.mem_of_getElem? ee
      refine ⟨by rw [sizeLine_eq]; show 1 ≤ 16777216; decide, fun L nL => ?_⟩
      have S5 := fresh_upd (o := .lst [v]) nL
      refine ⟨D, L, xs, [v], rfl, rfl, S5 _ _ hD4, upd_same, by rw [sizeLine_eq]; show xs.length + 1 ≤ 16777216; omega, fun M nM => ?_⟩
      have S6 := fresh_upd (o := .lst (xs ++ [v])) nM
      have S56 := S5.trans S6
      have B06 := (B03.trans B4).trans (But.of S56)
      have Mr : M ≠ r := ((hR4.same S5).ne nM).symm
      refine q _ M (xs ++ [v]) (ds ++ [e]) (hR4.same S56) B06 (none_but ((B03.trans B4).trans (But.of S5)) Mr nM) Mr upd_same (DwAll.same S56 (dwa_app hx4 (.cons hve .nil))) (fun t ht => ?_) (by simp) (by rw [List.length_append, List.length_singleton]; omega)
      rcases List.mem_append.mp ht with ht | ht
      · exact hl t ht
      · rw [List.mem_singleton.mp ht]
        exact hl e hem
    · exact ⟨_, rfl, q H3 D xs ds hR3 B03 nD0 Dr hD3 hx3 hl hne (by omega)⟩
end
end K40
set_option maxHeartbeats 8000000
namespace K40
open PySem PySem.Spec PyProof.Rows L2 TL

section
variable {P : Program} {w : World} {K : PySem.W.Frag} {mg : Str → Option Value} {base : Heap}
theorem letS_ok : ∀ s ∈ (["f", "greatest", "in", "sum"] : List Str), isNm s = true := by decide +kernel
/-- a read drawn -/
abbrev tCh (ta : TE) : TE := tCall spChoice [] E0 (tCons (tVar 0) (tCons ta tNil))
theorem rd_in {r : Addr} {H : Hp} {k : Nat} {σ : L2.St} {D : Ends} (hR : Rg H r) (h0 : σ[0]? = some (some (.ref r))) (h1 : ∀ x, (σ.set 3 (some x))[0]? = some (some (.ref r))) (h3 : ∀ x, (σ.set 3 (some x))[3]? = some (some x))
    (q : ∀ H' v d, Rg H' r → But r H H' → Dw H' v d → Lk k d → D.rt v H') :
    tCh (tLst (tCons (tC (.str "x")) (tCons (tC (.str "sum")) (tCons (tC (.str "in")) (tCons (tC (.str "let")) (tCons (tC (.str "abcdefgh")) (tCons (tC (.str "y")) tNil))))))) σ H fun x H1 => (gName 3) x σ H1 fun σ2 H2 =>
      tRet (tTup (tCons (tC (.str "in")) (tCons (tVar 3) (tCons (tCh (tLst (tCons (tC (.int 0)) (tCons (tC (.int 1)) (tCons (tC (.int 2)) (tCons (tC (.int 10)) (tCons (tOp (rI CPow fun i j => V.int (i ^ j.toNat)) (tC (.int 10)) (tC (.int 28))) tNil))))))) tNil)))) D σ2 H2 := by
  refine ⟨_, h0, by rw [sizeLine_eq]; show 6 ≤ 16777216; decide, fun L nL => ?_⟩
  have S1 := fresh_upd (o := .lst [V.str "x", V.str "sum", V.str "in", V.str "let", V.str "abcdefgh", V.str "y"]) nL
  have hR1 := hR.same S1
  refine ⟨r, L, _, rfl, hR1, (hR.ne nL).symm, upd_same, by decide, by decide, fun H2 v hv hR2 B2 => ?_⟩
  have B02 := (But.of S1).trans B2
  obtain ⟨s, hs, rfl⟩ : ∃ s ∈ NmS, v = V.str s := by
    have z : v ∈ NmS.map V.str := hv
    obtain ⟨s, hs, e⟩ := List.mem_map.mp z
    exact ⟨s, hs, e.symm⟩
  refine ⟨_, h3 _, _, h1 _, _, _, rfl, rfl, ⟨by decide, by decide, by decide⟩, by rw [sizeLine_eq]; show 5 ≤ 16777216; decide, fun M nM => ?_⟩
  have S3 := fresh_upd (o := .lst [V.int 0, V.int 1, V.int 2, V.int 10, V.int (10 ^ (28 : Int).toNat)]) nM
  have hR3 := hR2.same S3
  refine ⟨r, M, _, rfl, hR3, (hR2.ne nM).symm, upd_same, by decide, by decide, fun H4 v hv hR4 B4 => ?_⟩
  have B04 := B02.trans ((But.of S3).trans B4)
  obtain ⟨i, hi, rfl⟩ : ∃ i ∈ NuS, v = V.int i := by
    have z : v ∈ NuS.map V.int := hv
    obtain ⟨s, hs, e⟩ := List.mem_map.mp z
    exact ⟨s, hs, e.symm⟩
  refine ⟨by rw [sizeLine_eq]; show 3 ≤ 16777216; decide, fun T nT => ?_⟩
  have S5 := fresh_upd (o := .tup [V.str "in", V.str s, V.int i]) nT
  exact q _ _ _ (hR4.same S5) (B04.trans (But.of S5)) (.tup upd_same (.cons (.str _) (.cons (.str s) (.cons (.int i) .nil)))) (lk_in hs hi k)
theorem ok_ltm0 {f : Addr} {fd : FuncData} (F : Fun K "_law_term" "_law_term" sLtm f fd) (X : LmX P w K mg base) : FnOk P w K mg base CX0 3 f fd ["_law_rng_here", "_law_deep"] (spLtm 0) := by
  obtain ⟨fD, fdD, gD, GD, kD, bD⟩ := X.dr
  obtain ⟨fC, fdC, gC, GC, kC, bC⟩ := X.ch
  have GD2 := GD.mono (k := 2) (by omega)
  refine F.ok scLtm (fun vs H Q E h => ?_) (fun cdv A outer s H vs Q E hr h => ?_)
  · obtain ⟨r, rfl, _⟩ := h
    rfl
  · obtain ⟨r, rfl, hR, q⟩ := h
    refine ⟨_, pss_cons (ps_set (i := 2) scLtm.nd rfl (.inl rfl) (pe_ifExp (pt_cmpR op_gt (pv 1) pe_int (nomark _)) (pe_call GD2 hr rfl gD kD bD .nil pass0 (pa_cons (pv 0) (pa_cons pe_int pa_nil))) pe_int))
      (pss_cons (ps_if (pt_cmpR op_lt (pv 2) pe_int (nomark _))
        (pss_cons (ps_set (i := 3) scLtm.nd rfl (.inl rfl) (pe_call GC hr rfl gC kC bC .nil pass0 (pa_cons (pv 0) (pa_cons (pe_lst (pa_cons pe_str (pa_cons pe_str (pa_cons pe_str (pa_cons pe_str (pa_cons pe_str (pa_cons pe_str pa_nil))))))) pa_nil))))
        (pss_one (ps_ret (pe_tup (pa_cons pe_str (pa_cons (pv 3) (pa_cons (pe_call GC hr rfl gC kC bC .nil pass0 (pa_cons (pv 0) (pa_cons (pe_lst (pa_cons pe_int (pa_cons pe_int (pa_cons pe_int (pa_cons pe_int (pa_cons (pe_op op_pow pe_int pe_int) pa_nil)))))) pa_nil))) pa_nil))))))) pss_nil)
      (pss_cons ps_no (pss_one ps_no))), ?_⟩
    refine ⟨_, rfl, _, _, rfl, rfl, _, rfl, ?_⟩
    refine iteN' (by decide) ?_
    refine ⟨_, rfl, _, _, rfl, rfl, _, rfl, ?_⟩
    refine iteT' (decide_eq_true (by decide)) ?_
    exact rd_in (k := 0) hR rfl (fun _ => rfl) (fun _ => rfl) q
theorem ok_ltm {f fB : Addr} {fd fdB : FuncData} (F : Fun K "_law_term" "_law_term" sLtm f fd) (X : LmX P w K mg base) (bT : Binds K fd ["_law_rng_here", "_law_deep"] []) (gT : mg "_law_term" = some (.ref f))
    (FB : Fun K "_law_bag" "_law_bag" sLbg fB fdB) (bB : Binds K fdB ["_law_rng_here", "_law_deep"] []) (gB : mg "_law_bag" = some (.ref fB)) : ∀ k : Nat, k ≤ 3 → FnOk P w K mg base CX0 (2 * k + 3) f fd ["_law_rng_here", "_law_deep"] (spLtm k)
  | 0, _ => ok_ltm0 F X
  | k + 1, hk => by
    have ih := ok_ltm F X bT gT FB bB gB k (by omega)
    have GB : FnOk P w K mg base CX0 (2 * k + 4) fB fdB ["_law_rng_here", "_law_deep"] (spLbg k) := ok_lbg (by omega) FB X ih F.kp bT gT
    have ih2 := ih.mono (k := 2 * k + 4) (by omega)
    have kT := F.kp
    have kB := FB.kp
    obtain ⟨fD, fdD, gD, GD, kD, bD⟩ := X.dr
    obtain ⟨fC, fdC, gC, GC, kC, bC⟩ := X.ch
    obtain ⟨fP, fdP, gP, GP, kP, bP⟩ := X.pt
    have GD2 := GD.mono (k := 2 * k + 4) (by omega)
    have GC2 := GC.mono (k := 2 * k + 4) (by omega)
    have GP2 := GP.mono (k := 2 * k + 4) (by omega)
    refine (F.ok (k := 2 * k + 4) scLtm (fun vs H Q E h => ?_) (fun cdv A outer s H vs Q E hr h => ?_) : FnOk P w K mg base CX0 (2 * k + 5) f fd ["_law_rng_here", "_law_deep"] (spLtm (k + 1)))
    · obtain ⟨r, rfl, _⟩ := h
      rfl
    · obtain ⟨r, rfl, hR, q⟩ := h
      refine ⟨_, pss_cons (ps_set (i := 2) scLtm.nd rfl (.inl rfl) (pe_ifExp (pt_cmpR op_gt (pv 1) pe_int (nomark _)) (pe_call GD2 hr rfl gD kD bD .nil pass0 (pa_cons (pv 0) (pa_cons pe_int pa_nil))) pe_int))
        (pss_cons (ps_if (pt_cmpR op_lt (pv 2) pe_int (nomark _))
          (pss_cons (ps_set (i := 3) scLtm.nd rfl (.inl rfl) (pe_call GC2 hr rfl gC kC bC .nil pass0 (pa_cons (pv 0) (pa_cons (pe_lst (pa_cons pe_str (pa_cons pe_str (pa_cons pe_str (pa_cons pe_str (pa_cons pe_str (pa_cons pe_str pa_nil))))))) pa_nil))))
          (pss_one (ps_ret (pe_tup (pa_cons pe_str (pa_cons (pv 3) (pa_cons (pe_call GC2 hr rfl gC kC bC .nil pass0 (pa_cons (pv 0) (pa_cons (pe_lst (pa_cons pe_int (pa_cons pe_int (pa_cons pe_int (pa_cons pe_int (pa_cons (pe_op op_pow pe_int pe_int) pa_nil)))))) pa_nil))) pa_nil))))))) pss_nil)
        (pss_cons (ps_if (pt_cmpR op_lt (pv 2) pe_int (nomark _))
          (pss_cons (ps_set (i := 4) scLtm.nd rfl (.inl rfl) (pe_call GC2 hr rfl gC kC bC .nil pass0 (pa_cons (pv 0) (pa_cons (pe_lst (pa_cons pe_str (pa_cons pe_str (pa_cons pe_str (pa_cons pe_str pa_nil))))) pa_nil))))
          (pss_one (ps_ret (pe_tup (pa_cons pe_str (pa_cons (pv 4) (pa_cons (pe_callTy call_tuple_of (by rfl) X.tuple (by decide +kernel) (pa_cons
            (pe_lc (own := [("_law_turn", 5)]) (g := gName 5) (tt := tYes) (te := tCall (spLtm k) [] E0 (tCons (tVar 0) (tCons (tOp (rI0 fun i j => V.int (i - j)) (tVar 1) (tC (.int 1))) tNil))) rfl scLtm.nd
              (pi_range1 (by rfl) X.range (pa_cons (pe_op op_add pe_int (pe_call GD2 hr rfl gD kD bD .nil pass0 (pa_cons (pv 0) (pa_cons pe_int pa_nil)))) pa_nil))
              (blkOk_by (own := [("_law_turn", 5)]) (N := NLm) (sc := defScope sLtm) (by decide +kernel)) (fun _ _ _ _ _ => pg_name (i := 5) scLtm.nd rfl (Or.inl rfl)) (fun _ _ _ _ _ => pts_nil)
              (fun _ _ _ _ _ => by exact pe_call ih2 hr rfl gT kT bT .nil pass0 (pa_cons (pv 0) (pa_cons (pe_op op_sub (pv 1) pe_int) pa_nil)))) pa_nil)) pa_nil))))))) pss_nil)
        (pss_one (ps_ret (pe_call GP2 hr rfl gP kP bP .nil pass0 (pa_cons (pe_call GC2 hr rfl gC kC bC .nil pass0 (pa_cons (pv 0) (pa_cons (pe_lst (pa_cons pe_str (pa_cons pe_str (pa_cons pe_str pa_nil)))) pa_nil)))
          (pa_cons (pe_call GB hr rfl gB kB bB .nil pass0 (pa_cons (pv 0) (pa_cons (pe_op op_sub (pv 1) pe_int) pa_nil))) pa_nil))))))), ?_⟩
      have ek : (((k + 1 : Nat)) : Int) - 1 = ((k : Nat) : Int) := by omega
      refine ⟨_, rfl, _, _, rfl, rfl, _, rfl, ?_⟩
      refine iteT' (decide_eq_true (by omega)) ?_
      refine ⟨_, rfl, r, 6, rfl, hR, by decide, by decide, fun H1 wy y0 y1 hR1 B1 => ?_⟩
      refine ⟨_, rfl, _, _, rfl, rfl, _, rfl, ?_⟩
      refine ite2 (fun _ => ?_) fun _ => ?_
      · exact rd_in (k := k + 1) hR1 rfl (fun _ => rfl) (fun _ => rfl) fun H' v d a b c e => q H' v d a (B1.trans b) c e
      refine ⟨_, rfl, _, _, rfl, rfl, _, rfl, ?_⟩
      refine ite2 (fun _ => ?_) fun _ => ?_
      · refine ⟨_, rfl, by rw [sizeLine_eq]; show 4 ≤ 16777216; decide, fun L nL => ?_⟩
        have S2 := fresh_upd (o := .lst [V.str "f", V.str "greatest", V.str "in", V.str "sum"]) nL
        have hR2 := hR1.same S2
        refine ⟨r, L, _, rfl, hR2, (hR1.ne nL).symm, upd_same, by decide, by decide, fun H3 v hv hR3 B3 => ?_⟩
        have B03 := B1.trans ((But.of S2).trans B3)
        obtain ⟨s, hs, rfl⟩ : ∃ s ∈ (["f", "greatest", "in", "sum"] : List Str), v = V.str s := by
          have z : v ∈ (["f", "greatest", "in", "sum"] : List Str).map V.str := hv
          obtain ⟨s, hs, e⟩ := List.mem_map.mp z
          exact ⟨s, hs, e.symm⟩
        refine ⟨_, rfl, _, rfl, r, 3, rfl, hR3, by decide, by decide, fun H4 d d0 d1 hR4 B4 => ?_⟩
        have B04 := B03.trans B4
        obtain ⟨n, rfl⟩ : ∃ n : Nat, d = (n : Int) := ⟨d.toNat, by omega⟩
        refine ⟨_, _, rfl, rfl, _, rfl, by omega, by omega, fun D nD => ?_⟩
        have e1 : (1 + (n : Int)).toNat = n + 1 := by omega
        rw [e1]
        refine rd_trs (k := k) (r := r) (by omega) hR4 nD (fun _ => rfl) (fun x H2 Qy hR2 k2 => ⟨_, rfl, _, rfl, _, _, rfl, rfl, r, by show [V.ref r, V.int ((((k + 1 : Nat)) : Int) - 1)] = _; rw [ek], hR2, k2⟩) fun H5 xs ds hR5 B5 hD hx hl hn => ?_
        have B05 := B04.trans B5
        refine ⟨D, xs, rfl, .inl ⟨SqL.of hD, fun t nt => ⟨by rw [sizeLine_eq]; show 3 ≤ 16777216; decide, fun T nT => ?_⟩⟩⟩
        have S6 := fresh_upd (o := .tup xs) nt
        have S7 := fresh_upd (o := .tup [V.str "let", V.str s, V.ref t]) nT
        exact q _ _ _ (hR5.same (S6.trans S7)) (B05.trans (But.of (S6.trans S7))) (.tup upd_same (.cons (.str _) (.cons (.str s) (.cons (.tup (S7 _ _ upd_same) (DwAll.same (S6.trans S7) hx)) .nil)))) (lk_let (by omega) (letS_ok s hs) (by omega) (by omega) hl)
      · refine ⟨_, rfl, by rw [sizeLine_eq]; show 3 ≤ 16777216; decide, fun L nL => ?_⟩
        have S2 := fresh_upd (o := .lst [V.str "sum", V.str "greatest", V.str "least"]) nL
        have hR2 := hR1.same S2
        refine ⟨r, L, _, rfl, hR2, (hR1.ne nL).symm, upd_same, by decide, by decide, fun H3 v hv hR3 B3 => ?_⟩
        have B03 := B1.trans ((But.of S2).trans B3)
        obtain ⟨wd, hw, rfl⟩ : ∃ s ∈ words, v = V.str s := by
          have z : v ∈ words.map V.str := hv
          obtain ⟨s, hs, e⟩ := List.mem_map.mp z
          exact ⟨s, hs, e.symm⟩
        refine ⟨_, rfl, _, rfl, _, _, rfl, rfl, r, by show [V.ref r, V.int ((((k + 1 : Nat)) : Int) - 1)] = _; rw [ek], hR3, fun H4 M xs ds hR4 B4 nM Mr hM hx hl hne h5 => ?_⟩
        refine ⟨wd, M, xs, ds, rfl, hw, hM, hx, fun d hd => (hl d hd).t, fun d hd => (hl d hd).fine (by omega) (by omega), by omega, fun H5 v S5 hv => ?_⟩
        exact q H5 v _ (hR4.same S5) ((B03.trans B4).trans (But.of S5)) hv (lk_put (by omega) hw hne h5 hl)
end
end K40
set_option maxHeartbeats 8000000
namespace K40
open PySem PySem.Spec PyProof.Rows L2 TL

/-! ### what repr shows is well formed -/
def wo (x : Str) : Prop := ∀ c ∈ x.cps.toList, c < 0x110000
theorem wo_iff {x : Str} : PyData.strOk x = true ↔ wo x := by
  unfold PyData.strOk wo
  rw [← Array.all_toList, List.all_eq_true]
  exact ⟨fun h c hc => of_decide_eq_true (h c hc), fun h c hc => decide_eq_true (h c hc)⟩
theorem wo_app {a b : Str} (ha : wo a) (hb : wo b) : wo (a ++ b) := by
  intro c hc
  have e : (a ++ b).cps = a.cps ++ b.cps := rfl
  rw [e, Array.toList_append, List.mem_append] at hc
  rcases hc with h | h
  · exact ha c h
  · exact hb c h
theorem char_lt (c : Char) : c.toNat < 0x110000 := by
  rcases c.valid with h | ⟨_, h⟩
  · have h2 : c.toNat < 0xd800 := h
    omega
  · exact h
theorem wo_of (s : String) : wo (Str.ofString s) := by
  rw [Str.ofString_eq_toList]
  intro c hc
  obtain ⟨ch, _, rfl⟩ := List.mem_map.mp hc
  exact char_lt ch
theorem rc_ok {q c : Nat} (hc : c < 0x110000) : ∀ x ∈ Builtin.Str.reprChar q c, x < 0x110000 := by
  have hx : ∀ w, ∀ x ∈ List.replicate (w - ((Nat.toDigits 16 c).map Char.toNat).length) 48 ++ (Nat.toDigits 16 c).map Char.toNat, x < 0x110000 := by
    intro w x hx
    rcases List.mem_append.mp hx with h | h
    · have := List.eq_of_mem_replicate h
      omega
    · obtain ⟨ch, _, rfl⟩ := List.mem_map.mp h
      exact char_lt ch
  intro x h
  unfold Builtin.Str.reprChar at h
  dsimp only at h
  repeat' split at h
  all_goals first
    | (simp only [List.mem_cons, List.not_mem_nil, or_false] at h; omega)
    | (rcases List.mem_append.mp h with h | h
       · simp only [List.mem_cons, List.not_mem_nil, or_false] at h
         omega
       · exact hx _ x h)
theorem fold_ok {q : Nat} : ∀ (l : List Nat) (acc : Array Nat), (∀ c ∈ acc.toList, c < 0x110000) → (∀ c ∈ l, c < 0x110000) →
    ∀ c ∈ (l.foldl (fun out c => out ++ (Builtin.Str.reprChar q c).toArray) acc).toList, c < 0x110000
  | [], acc, h, _ => h
  | x :: r, acc, h, hl => by
    rw [List.foldl_cons]
    refine fold_ok r _ (fun c hc => ?_) fun c hc => hl c (List.mem_cons_of_mem _ hc)
    rw [Array.toList_append, List.mem_append] at hc
    rcases hc with hc | hc
    · exact h c hc
    · exact rc_ok (hl x (List.mem_cons_self ..)) c hc
theorem wo_repr {x : Str} (h : wo x) : wo (reprText x) := by
  have hq : reprQuote x < 0x110000 := by
    unfold reprQuote
    split <;> decide
  intro c hc
  unfold reprText at hc
  dsimp only at hc
  rw [Array.toList_push, List.mem_append] at hc
  rcases hc with hc | hc
  · rw [← Array.foldl_toList] at hc
    exact fold_ok _ _ (fun c hc => by
      have : c = reprQuote x := by simpa using hc
      omega) h c hc
  · have : c = reprQuote x := by simpa using hc
    omega
theorem wo_from : ∀ (ts : List Str) (k : Nat) (acc : Str), wo acc → (∀ t ∈ ts, wo t) → wo (textFrom k acc ts)
  | [], _, _, h, _ => h
  | t :: r, k, acc, h, ht => by
    unfold textFrom
    exact wo_from r _ _ (wo_app (wo_app h (wo_of _)) (ht t (List.mem_cons_self ..))) fun x hx => ht x (List.mem_cons_of_mem _ hx)
theorem wo_join : ∀ ts : List Str, (∀ t ∈ ts, wo t) → wo (Str.join ", " ts)
  | [], _ => fun c hc => by cases hc
  | [x], h => h x (List.mem_cons_self ..)
  | x :: y :: r, h => wo_app (wo_app (h x (List.mem_cons_self ..)) (wo_of _)) (wo_join (y :: r) fun z hz => h z (List.mem_cons_of_mem _ hz))
theorem wo_list {ts : List Str} (h : ∀ t ∈ ts, wo t) : wo (textFrom 0 "[" ts ++ "]") := wo_app (wo_from ts 0 _ (wo_of _) h) (wo_of _)
theorem wo_tup {ts : List Str} (h : ∀ t ∈ ts, wo t) : wo (tupleText ts) := wo_app (wo_app (wo_of _) (wo_join ts h)) (wo_of _)
end K40
set_option maxHeartbeats 8000000
namespace K40
open PySem PySem.Spec PyProof.Rows L2 TL

/-! ### how long what repr shows is -/
structure Shw (d : PyData) : Prop where
  sh : d.showable = true
  ln : d.shown.length ≤ mz d
  wo : wo d.shown
theorem shAll_map : ∀ xs : List PyData, PyData.shownAll xs = xs.map PyData.shown
  | [] => by simp only [PyData.shownAll, List.map_nil]
  | x :: xs => by simp only [PyData.shownAll, List.map_cons, shAll_map xs]
theorem sh_all : ∀ {xs : List PyData}, (∀ x ∈ xs, x.showable = true) → PyData.showableAll xs = true
  | [], _ => by simp only [PyData.showableAll]
  | x :: xs, h => by
    simp only [PyData.showableAll, h x (List.mem_cons_self ..), sh_all fun y hy => h y (List.mem_cons_of_mem _ hy), Bool.and_self]
theorem sum_shown {xs : List PyData} (h : ∀ x ∈ xs, Shw x) : ((xs.map PyData.shown).map Str.length).sum + 2 * xs.length ≤ mzs xs := by
  induction xs with
  | nil => simp [mzs]
  | cons t r ih =>
    have h1 := (h t List.mem_cons_self).ln
    have h2 := ih fun u hu => h u (List.mem_cons_of_mem _ hu)
    rw [mzs_cons]
    simp only [List.map_cons, List.sum_cons, List.length_cons]
    omega
theorem from_sum : ∀ (ts : List Str) (k : Nat) (acc : Str), (textFrom k acc ts).length ≤ acc.length + (ts.map Str.length).sum + 2 * ts.length
  | [], k, acc => by
    show acc.length ≤ _
    omega
  | t :: r, k, acc => by
    have h1 := from_sum r (k + 1) (acc ++ (if k > 0 then ", " else "" : String) ++ t)
    have e : (acc ++ (if k > 0 then ", " else "" : String) ++ t).length = acc.length + (if k > 0 then 2 else 0) + t.length := by
      rw [strLen_append, strLen_append]
      split <;> rfl
    rw [e] at h1
    show (textFrom (k + 1) _ r).length ≤ _
    have h3 : (if k > 0 then 2 else 0 : Nat) ≤ 2 := by split <;> omega
    simp only [List.map_cons, List.sum_cons, List.length_cons]
    omega
theorem Shw.lst {xs : List PyData} (h : ∀ x ∈ xs, Shw x) : Shw (.list xs) := by
  have e : (PyData.list xs).shown = textFrom 0 "[" (xs.map PyData.shown) ++ "]" := by
    simp only [PyData.shown, shAll_map]
    rfl
  refine ⟨by simp only [PyData.showable]; exact sh_all fun x hx => (h x hx).sh, ?_, by
    rw [e]
    refine wo_list fun t ht => ?_
    obtain ⟨x, hx, rfl⟩ := List.mem_map.mp ht
    exact (h x hx).wo⟩
  rw [e, strLen_append]
  have h1 := from_sum (xs.map PyData.shown) 0 "["
  have h2 := sum_shown h
  rw [List.length_map] at h1
  have e1 : (("[" : String) : Str).length = 1 := rfl
  have e2 : (("]" : String) : Str).length = 1 := rfl
  have e3 : mz (.list xs) = 90 + mzs xs := by rw [mz]
  omega
theorem Shw.tup {xs : List PyData} (h : ∀ x ∈ xs, Shw x) : Shw (.tuple xs) := by
  have e : (PyData.tuple xs).shown = tupleText (xs.map PyData.shown) := by
    simp only [PyData.shown, shAll_map]
  refine ⟨by simp only [PyData.showable]; exact sh_all fun x hx => (h x hx).sh, ?_, by
    rw [e]
    refine wo_tup fun t ht => ?_
    obtain ⟨x, hx, rfl⟩ := List.mem_map.mp ht
    exact (h x hx).wo⟩
  rw [e, mz_tup]
  unfold tupleText
  have h2 := sum_shown h
  have e1 : (("(" : Str)).length = 1 := by decide
  have hj : (Str.join ", " (xs.map PyData.shown)).length ≤ ((xs.map PyData.shown).map Str.length).sum + 2 * (xs.map PyData.shown).length := by
    have z := len_jn (xs.map PyData.shown)
    have e : Txt.join ", " (xs.map PyData.shown) = Str.join ", " (xs.map PyData.shown) := by
      rw [TL.join_eq]
    rw [← e]
    exact z
  rw [List.length_map] at hj
  rw [len_app, len_app]
  split <;> (first | (have e2 : ((",)" : String) : Str).length = 2 := by decide) | skip) <;> (first | (have e3 : ((")" : String) : Str).length = 1 := by decide) | skip) <;> omega
theorem Shw.str {x : Str} (h : PyData.strOk x = true) : Shw (.str x) := by
  refine ⟨by simp only [PyData.showable], ?_, by
    simp only [PyData.shown]
    exact wo_repr (wo_iff.mp h)⟩
  simp only [PyData.shown]
  have z := StrLaws.reprText_len x fun c hc => by
    unfold PyData.strOk at h
    rw [← Array.all_toList] at h
    have := of_decide_eq_true (List.all_eq_true.mp h c hc)
    have e : (0x110000 : Nat) < 16 ^ 8 := by decide
    omega
  have e : mz (.str x) = 10 * x.length + 12 := by rw [mz]
  omega
theorem Shw.int {v : Int} (h0 : 0 ≤ v) (h : v < 10 ^ 60) : Shw (.int v) := by
  refine ⟨by simp only [PyData.showable]; exact decide_eq_true (log_of ⟨by omega, h⟩), ?_, by
    simp only [PyData.shown]
    exact wo_of _⟩
  have z := dec_len0 h0 h
  have e : mz (.int v) = 80 := by rw [mz]
  have e2 : (PyData.int v).shown = decS v := by simp only [PyData.shown]; rfl
  rw [e2]
  omega
theorem shw_T {d : PyData} (hT : isT d = true) (hg : gd d = true) : Shw d := by
  refine tInd (M := fun d => gd d = true → Shw d) (fun s i h1 h2 hg => ?_) (fun s ts h1 _ _ _ ih hg => ?_) (fun h ts hw _ _ _ ih hg => ?_) _ d (Nat.lt_succ_self _) hT hg
  · have hi := gd_int ((gd_tup.mp hg).2 (.int i) (by simp))
    refine Shw.tup fun x hx => ?_
    rcases List.mem_cons.mp hx with rfl | hx
    · exact Shw.str (by decide +kernel)
    rcases List.mem_cons.mp hx with rfl | hx
    · exact Shw.str (nm_ok h1)
    rw [List.mem_singleton.mp hx]
    exact Shw.int h2 hi
  · have hts := (gd_tup.mp ((gd_tup.mp hg).2 (.tuple ts) (by simp))).2
    refine Shw.tup fun x hx => ?_
    rcases List.mem_cons.mp hx with rfl | hx
    · exact Shw.str (by decide +kernel)
    rcases List.mem_cons.mp hx with rfl | hx
    · exact Shw.str (nm_ok h1)
    rw [List.mem_singleton.mp hx]
    exact Shw.tup fun t ht => ih t ht (hts t ht)
  · have hts := (gd_tup.mp ((gd_tup.mp hg).2 (.tuple ts) (by simp))).2
    refine Shw.tup fun x hx => ?_
    rcases List.mem_cons.mp hx with rfl | hx
    · exact Shw.str (word_ok hw)
    rw [List.mem_singleton.mp hx]
    exact Shw.tup fun t ht => ih t ht (hts t ht)

/-! ### displays of data -/
def strip (r : Addr) (H : Hp) : Hp := fun b => if b = r then none else H b
theorem strip_ne {r b : Addr} {H : Hp} (h : b ≠ r) : strip r H b = H b := if_neg h
theorem strip_same (r : Addr) (H : Hp) : Same (strip r H) H := fun b o e => by
  by_cases h : b = r
  · unfold strip at e
    rw [if_pos h] at e
    cases e
  · rw [strip_ne h] at e
    exact e
theorem strip_but {r : Addr} {H H' : Hp} (B : But r H H') : Same (strip r H) (strip r H') := fun b o e => by
  by_cases h : b = r
  · unfold strip at e
    rw [if_pos h] at e
    cases e
  · rw [strip_ne h] at e ⊢
    exact B b o h e
theorem stp_strip {r : Addr} {H : Hp} (hR : Rg H r) : Stp H (strip r H) := fun b xs e => by
  rw [strip_ne (fun q => by
    obtain ⟨_, _, z, _⟩ := hR
    rw [q, z] at e
    cases e)]
  exact e
/-- an expression that gives the datum d, and nothing else new than data -/
def Ev (r : Addr) (σ : L2.St) (H0 : Hp) (te : TE) (d : PyData) : Prop := ∀ H Q, Same H0 H → (∀ H' v, Same H H' → Dw (strip r H') v d → Q v H') → te σ H Q
def Evs (r : Addr) (σ : L2.St) (H0 : Hp) (ta : TA) (ds : List PyData) : Prop := ∀ H Q, Same H0 H → (∀ H' vs, Same H H' → DwAll (strip r H') vs ds → Q vs H') → ta σ H Q
section
variable {r : Addr} {σ : L2.St} {H0 : Hp}
theorem evs_nil : Evs r σ H0 tNil [] := fun H Q _ q => q H [] (Same.refl H) .nil
theorem evs_cons {te : TE} {ta : TA} {d : PyData} {ds : List PyData} (h : Ev r σ H0 te d) (t : Evs r σ H0 ta ds) : Evs r σ H0 (tCons te ta) (d :: ds) := fun H Q S q =>
  h H _ S fun H1 v S1 hv => t H1 _ (S.trans S1) fun H2 vs S2 hvs => q H2 (v :: vs) (S1.trans S2) (.cons (Dw.same (strip_but (But.of S2)) hv) hvs)
theorem ev_str (x : Str) : Ev r σ H0 (tC (.str x)) (.str x) := fun H Q _ q => q H _ (Same.refl H) (.str x)
theorem ev_int (x : Int) : Ev r σ H0 (tC (.int x)) (.int x) := fun H Q _ q => q H _ (Same.refl H) (.int x)
theorem ev_neg (x : Int) : Ev r σ H0 (tUn (rU fun i => V.int (-i)) (tC (.int x))) (.int (-x)) := fun H Q _ q => ⟨_, rfl, q H _ (Same.refl H) (.int (-x))⟩
theorem ev_bl (x : Bool) : Ev r σ H0 (tC (.bl x)) (.bool x) := fun H Q _ q => q H _ (Same.refl H) (.bl x)
theorem ev_non : Ev r σ H0 (tC .non) .none := fun H Q _ q => q H _ (Same.refl H) .non
theorem ev_var {i : Nat} {v : V} {d : PyData} (h : σ[i]? = some (some v)) (hv : Dw (strip r H0) v d) : Ev r σ H0 (tVar i) d := fun H Q S q => ⟨v, h, q H v (Same.refl H) (Dw.same (strip_but (But.of S)) hv)⟩
theorem ev_tup {ta : TA} {ds : List PyData} (hR : Rg H0 r) (hn : ds.length ≤ 100) (h : Evs r σ H0 ta ds) : Ev r σ H0 (tTup ta) (.tuple ds) := fun H Q S q => h H _ S fun H1 vs S1 hvs => by
  refine ⟨by rw [hvs.length, sizeLine_eq]; omega, fun p np => ?_⟩
  have S2 := fresh_upd (o := .tup vs) np
  have pr : p ≠ r := ((hR.same (S.trans S1)).ne np).symm
  exact q _ _ (S1.trans S2) (.tup (by rw [strip_ne pr, upd_same]) (DwAll.same (strip_but (But.of S2)) hvs))
theorem ev_lst {ta : TA} {ds : List PyData} (hR : Rg H0 r) (hn : ds.length ≤ 100) (h : Evs r σ H0 ta ds) : Ev r σ H0 (tLst ta) (.list ds) := fun H Q S q => h H _ S fun H1 vs S1 hvs => by
  refine ⟨by rw [hvs.length, sizeLine_eq]; omega, fun p np => ?_⟩
  have S2 := fresh_upd (o := .lst vs) np
  have pr : p ≠ r := ((hR.same (S.trans S1)).ne np).symm
  exact q _ _ (S1.trans S2) (.lst (by rw [strip_ne pr, upd_same]) (DwAll.same (strip_but (But.of S2)) hvs))
theorem ev_d0 (hR : Rg H0 r) : Ev r σ H0 tDNewK (.dict []) := fun H Q S q p np => by
  have S2 := fresh_upd (o := .dK []) np
  have pr : p ≠ r := ((hR.same S).ne np).symm
  exact q _ _ S2 (.dct (kvs := []) (ds := []) (by rw [strip_ne pr, upd_same]) .nil)
theorem ev_d1 (hR : Rg H0 r) {k : Str} {v : V} {d : PyData} {te : TE} (he : ∀ H (Q : VK), Q v H → te σ H Q) (hv : Dw (strip r H0) v d) : Ev r σ H0 (tDisp [(tC (.str k), te)]) (.dict [(.str k, d)]) := fun H Q S q p np => by
  have pr : p ≠ r := ((hR.same S).ne np).symm
  refine he _ _ ⟨upd_same, [(.inr k, v)], rfl, by show 1 ≤ 15; decide, ?_⟩
  have S2 : Same H (upd (upd H p (.dK [])) p (.dK (mergeK [] [(.inr k, v)]))) := fun b o e => by
    rw [upd_ne (ne_of_none e np), upd_ne (ne_of_none e np)]
    exact e
  refine q _ _ S2 ?_
  exact .dct (kvs := [(.inr k, v)]) (ds := [d]) (by rw [strip_ne pr, upd_same]; rfl) (.cons (Dw.same (strip_but (But.of (S.trans S2))) hv) .nil)
end
def near : PyData := .tuple [.str "in", .str "x", .int 0]
def far : PyData := .tuple [.str "in", .str "x", .int 1]
def o1 (ts : List PyData) : List PyData := [.list ts, .tuple (ts ++ [.int 0]), .tuple (ts.take 1), .tuple [], .none, .int 0, .str "in", .dict [], .dict [(.str "in", near)], .tuple [.int 1, .str "x", .int 0], .tuple [.str "in", .str "X", .int 0]]
def o2 : List PyData := [.tuple [.str "in", .str "x", .int (-1)], .tuple [.str "in", .str "x", .bool true], .tuple [.str "in", .str "x", .str "0"], .tuple [.str "in", .str "abcdefghi", .int 0], .tuple [.str "in", .str "x"]]
def o3 (t : PyData) : List PyData := [.tuple [.str "in", .int 3, .int 0], .tuple [.str "let", .str "f", .tuple []], .tuple [.str "let", .str "f", .tuple [near, near, far, far]], .tuple [.str "let", .str "f", .list [t]]]
def o4 (t : PyData) : List PyData := [.tuple [.str "let", .str "", .tuple [t]], .tuple [.str "let", .str "f", t], .tuple [.str "let", .str "f", .tuple [t, .none]], .tuple [.str "let", .tuple [t]]]
def o5 (t : PyData) : List PyData := [.tuple [.str "sum", .tuple [t]], .tuple [.str "sum", .tuple []], .tuple [.str "sum", .list [near, far]], .tuple [.str "sum", .tuple [far, near]]]
def o6 : List PyData := [.tuple [.str "greatest", .tuple [near, near]], .tuple [.str "least", .tuple [near, near, far]], .tuple [.str "most", .tuple [near, far]]]
def o7 : List PyData := [.tuple [.str "sum", .tuple [near, .tuple [.str "sum", .tuple [near, far]]]]]
def o8 : List PyData := [.tuple [.str "greatest", .tuple [.tuple [.str "greatest", .tuple [near, far]], far]], .tuple [.str "sum", .tuple [near, far], .int 2], .tuple [.str "sum", .tuple [near, .none]]]
structure Odk (d : PyData) : Prop where
  no : isT d = false
  fi : Fine 12 d
  sh : Shw d
  mz : mz d ≤ 200000
theorem odk_of {l : List PyData} (h : ∀ d ∈ l, isT d = false ∧ gd d = true ∧ d.depth ≤ 12 ∧ d.showable = true ∧ d.shown.length ≤ mz d ∧ mz d ≤ 200000 ∧ PyData.strOk d.shown = true) : ∀ d ∈ l, Odk d := fun d hd => by
  obtain ⟨a, b, c, e, f, g, k⟩ := h d hd
  exact ⟨a, ⟨b, c⟩, ⟨e, f, wo_iff.mp k⟩, g⟩
theorem odk_2 : ∀ d ∈ o2 ++ o6 ++ o7 ++ o8, Odk d := odk_of (by decide +kernel)
def oc : List PyData := [.tuple [], .none, .int 0, .str "in", .dict [], .dict [(.str "in", near)], .tuple [.int 1, .str "x", .int 0], .tuple [.str "in", .str "X", .int 0], .tuple [.str "in", .int 3, .int 0], .tuple [.str "let", .str "f", .tuple []], .tuple [.str "let", .str "f", .tuple [near, near, far, far]],
  .tuple [.str "sum", .tuple []], .tuple [.str "sum", .list [near, far]], .tuple [.str "sum", .tuple [far, near]]]
theorem odk_c : ∀ d ∈ oc, Odk d := odk_of (by decide +kernel)
/-- what is known of the term -/
structure Tk (t : PyData) : Prop where
  tm : isT t = true
  fi : Fine 7 t
  mz : mz t ≤ 50210
theorem Tk.shw {t : PyData} (h : Tk t) : Shw t := shw_T h.tm h.fi.gd
theorem shs (x : Str) (h : PyData.strOk x = true := by decide +kernel) : Shw (.str x) := Shw.str h
theorem fin_str (x : Str) (h : x.length ≤ 700 := by decide) {n : Nat} : Fine n (.str x) := ⟨by rw [gd, decide_eq_true_eq]; exact h, by simp [PyData.depth]⟩
theorem fin_tup {n : Nat} {xs : List PyData} (h : ∀ x ∈ xs, Fine n x) (hl : xs.length ≤ 700) : Fine (n + 1) (.tuple xs) := ⟨gd_tup.mpr ⟨hl, fun x hx => (h x hx).gd⟩, dep_tup.mpr fun x hx => (h x hx).dep⟩
theorem fin_lst {n : Nat} {xs : List PyData} (h : ∀ x ∈ xs, x.depth ≤ n) : Fine (n + 1) (.list xs) := ⟨by simp [gd], by
  have z := (dep_tup (xs := xs) (n := n)).mpr h
  simp only [PyData.depth] at z ⊢
  exact z⟩
theorem all2 {p : PyData → Prop} {a b : PyData} (h1 : p a) (h2 : p b) : ∀ x ∈ [a, b], p x := fun x hx => by
  rcases List.mem_cons.mp hx with rfl | hx
  · exact h1
  · rw [List.mem_singleton.mp hx]
    exact h2
theorem all1 {p : PyData → Prop} {a : PyData} (h1 : p a) : ∀ x ∈ [a], p x := fun x hx => by
  rw [List.mem_singleton.mp hx]
  exact h1
theorem all3 {p : PyData → Prop} {a b c : PyData} (h1 : p a) (h2 : p b) (h3 : p c) : ∀ x ∈ [a, b, c], p x := fun x hx => by
  rcases List.mem_cons.mp hx with rfl | hx
  · exact h1
  · exact all2 h2 h3 x hx
theorem fin_non {n : Nat} : Fine n .none := ⟨by simp [gd], by simp [PyData.depth]⟩
theorem shw_non : Shw .none := ⟨by decide +kernel, by decide +kernel, wo_iff.mp (by decide +kernel)⟩
/-- the parts of a term -/
theorem tk_items {ts : List PyData} (h : Tk (.tuple ts)) : ts.length ≤ 3 ∧ 2 ≤ ts.length ∧ (∀ x ∈ ts, Fine 6 x ∧ Shw x) ∧ (∃ h r, ts = .str h :: r) := by
  have hsh : ∀ x ∈ ts, Shw x := by
    have hT := h.tm
    have hg := h.fi.gd
    generalize e : PyData.tuple ts = d at hT hg
    cases knd hT with
    | @rd s i h1 h2 =>
      cases e
      have hi := gd_int ((gd_tup.mp hg).2 (.int i) (show PyData.int i ∈ [PyData.str "in", .str s, .int i] by simp))
      exact all3 (shs _) (Shw.str (nm_ok h1)) (Shw.int h2 hi)
    | @lt s us h1 _ _ h4 =>
      cases e
      have hts := (gd_tup.mp ((gd_tup.mp hg).2 (.tuple us) (show PyData.tuple us ∈ [PyData.str "let", .str s, .tuple us] by simp))).2
      exact all3 (shs _) (Shw.str (nm_ok h1)) (Shw.tup fun t ht => shw_T (h4 t ht) (hts t ht))
    | @wd w us h1 _ h4 _ =>
      cases e
      have hts := (gd_tup.mp ((gd_tup.mp hg).2 (.tuple us) (show PyData.tuple us ∈ [PyData.str w, .tuple us] by simp))).2
      exact all2 (Shw.str (word_ok h1)) (Shw.tup fun t ht => shw_T (h4 t ht) (hts t ht))
  have h2 := h.tm
  generalize e : PyData.tuple ts = d at h2
  have hf := h.fi
  cases knd h2 with
  | rd _ _ =>
    cases e
    exact ⟨by simp, by simp, fun x hx => ⟨hf.item hx, hsh x hx⟩, _, _, rfl⟩
  | lt _ _ _ _ =>
    cases e
    exact ⟨by simp, by simp, fun x hx => ⟨hf.item hx, hsh x hx⟩, _, _, rfl⟩
  | wd _ _ _ _ =>
    cases e
    exact ⟨by simp, by simp, fun x hx => ⟨hf.item hx, hsh x hx⟩, _, _, rfl⟩
theorem odk_t {ts : List PyData} (h : Tk (.tuple ts)) : ∀ d ∈ [.list ts, .tuple (ts ++ [.int 0]), .tuple (ts.take 1), .tuple [.str "let", .str "f", .list [.tuple ts]], .tuple [.str "let", .str "", .tuple [.tuple ts]], .tuple [.str "let", .str "f", .tuple ts], .tuple [.str "let", .str "f", .tuple [.tuple ts, .none]],
    .tuple [.str "let", .tuple [.tuple ts]], .tuple [.str "sum", .tuple [.tuple ts]]], Odk d := by
  obtain ⟨hl, hl2, hi, hh, r, eh⟩ := tk_items h
  have hT := h.tm
  have hf := h.fi
  have hm := h.mz
  have hs := h.shw
  have em := mz_tup ts
  have l2 : ("in" : Str).length = 2 := by decide
  have l3 : ("let" : Str).length = 3 := by decide
  have l3b : ("sum" : Str).length = 3 := by decide
  have l1 : ("f" : Str).length = 1 := by decide
  have l0 : ("" : Str).length = 0 := by decide
  have i0 : Shw (.int 0) := Shw.int (by decide) (by decide)
  intro d hd
  simp only [List.mem_cons, List.not_mem_nil, or_false] at hd
  rcases hd with rfl | rfl | rfl | rfl | rfl | rfl | rfl | rfl | rfl
  · exact ⟨by simp [isT], (fin_lst (n := 6) fun x hx => (hi x hx).1.dep).up (by omega), Shw.lst fun x hx => (hi x hx).2, by rw [mz]; omega⟩
  · refine ⟨?_, (fin_tup (n := 6) (fun x hx => ?_) (by rw [List.length_append, List.length_singleton]; omega)).up (by omega), Shw.tup fun x hx => ?_, ?_⟩
    · cases knd hT <;> simp [isT, inF, frm, lastT]
    · rcases List.mem_append.mp hx with hx | hx
      · exact (hi x hx).1
      · rw [List.mem_singleton.mp hx]
        exact ⟨by rw [gd]; decide, by simp [PyData.depth]⟩
    · rcases List.mem_append.mp hx with hx | hx
      · exact (hi x hx).2
      · rw [List.mem_singleton.mp hx]
        exact i0
    · rw [mz_tup, mzs_app, mzs_cons]
      simp only [mz, mzs]
      omega
  · refine ⟨isT_short (by rw [List.length_take]; omega), (fin_tup (n := 6) (fun x hx => (hi x (List.mem_of_mem_take hx)).1) (by rw [List.length_take]; omega)).up (by omega), Shw.tup fun x hx => (hi x (List.mem_of_mem_take hx)).2, ?_⟩
    have z : mzs (ts.take 1) ≤ mzs ts := by
      rw [mzs_su, mzs_su]
      exact su_sub (List.take_sublist _ _)
    rw [mz_tup]
    omega
  · refine ⟨by simp [isT, inF, lastT, frm], (fin_tup (n := 8) (all3 (fin_str "let") (fin_str "f") ((fin_lst (n := 7) (all1 hf.dep)))) (by simp)).up (by omega), Shw.tup (all3 (shs _) (shs _) (Shw.lst (all1 hs))), ?_⟩
    rw [mz_tup]
    simp only [mz, mzs, l3, l1]
    omega
  · refine ⟨by simp [isT, inF, lastT, frm, isNm, show ("" : Str).length = 0 by decide], (fin_tup (n := 8) (all3 (fin_str "let") (fin_str "") (fin_tup (n := 7) (all1 hf) (by simp))) (by simp)).up (by omega), Shw.tup (all3 (shs _) (shs _) (Shw.tup (all1 hs))), ?_⟩
    rw [mz_tup]
    simp only [mz, mzs, l3, l0]
    omega
  · refine ⟨?_, (fin_tup (n := 7) (all3 (fin_str "let") (fin_str "f") hf) (by simp)).up (by omega), Shw.tup (all3 (shs _) (shs _) hs), ?_⟩
    · rw [eh]
      simp [isT, inF, lastT, allT]
    · rw [mz_tup, mzs_cons, mzs_cons, mzs_cons]
      have e1 : mz (.str "let") = 42 := by simp [mz, l3]
      have e2 : mz (.str "f") = 22 := by simp [mz, l1]
      have e3 : mzs [] = 0 := by simp [mzs]
      omega
  · refine ⟨by simp [isT, inF, lastT, allT], (fin_tup (n := 8) (all3 (fin_str "let") (fin_str "f") (fin_tup (n := 7) (all2 hf fin_non) (by simp))) (by simp)).up (by omega), Shw.tup (all3 (shs _) (shs _) (Shw.tup (all2 hs shw_non))), ?_⟩
    rw [mz_tup]
    simp only [mz, mzs, l3, l1]
    omega
  · refine ⟨?_, (fin_tup (n := 8) (all2 (fin_str "let") (fin_tup (n := 7) (all1 hf) (by simp))) (by simp)).up (by omega), Shw.tup (all2 (shs _) (Shw.tup (all1 hs))), ?_⟩
    · have e1 : decide (("let" : Str) ∈ words) = false := by decide
      simp [isT, inF, lastT, allT, frm, e1]
    · rw [mz_tup]
      simp only [mz, mzs, l3]
      omega
  · refine ⟨by simp [isT, inF, lastT, allT, frm], (fin_tup (n := 8) (all2 (fin_str "sum") (fin_tup (n := 7) (all1 hf) (by simp))) (by simp)).up (by omega), Shw.tup (all2 (shs _) (Shw.tup (all1 hs))), ?_⟩
    rw [mz_tup]
    simp only [mz, mzs, l3b]
    omega
end K40
set_option maxHeartbeats 8000000
namespace K40
open PySem PySem.Spec PyProof.Rows L2 TL

/-! ### _law_odd */ -/
abbrev sOdd : Stmt := top 37
section
variable {K : PySem.W.Frag} {r : Addr} {σ : L2.St} {H0 : Hp}
theorem st_tup {b : Addr} {H : Hp} {xs : List V} (h : strip r H b = some (.tup xs)) : H b = some (.tup xs) := strip_same r H _ _ h
theorem ev_listOf {i : Nat} {v : V} {ds : List PyData} (hR : Rg H0 r) (h : σ[i]? = some (some v)) (hv : Dw (strip r H0) v (.tuple ds)) :
    Ev r σ H0 (tCB (fun xs H Q => ∃ p ys, xs = [V.ref p] ∧ (SqL K H p ys ∨ SqT K H p ys) ∧ ∀ l, H l = none → Q (.ref l) (upd H l (.lst ys))) (tCons (tVar i) tNil)) (.list ds) := fun H Q S q => by
  obtain ⟨b, xs, rfl, hb, hx⟩ := dw_tup hv
  refine ⟨_, h, b, xs, rfl, .inr (sqT_of (S _ _ (st_tup hb))), fun l nl => ?_⟩
  have S2 := fresh_upd (o := .lst xs) nl
  have pr : l ≠ r := ((hR.same S).ne nl).symm
  exact q _ _ S2 (.lst (by rw [strip_ne pr, upd_same]) (DwAll.same (strip_but (But.of (S.trans S2))) hx))
theorem ev_catT {i : Nat} {v : V} {ds es : List PyData} {te : TE} (hR : Rg H0 r) (h : σ[i]? = some (some v)) (hv : Dw (strip r H0) v (.tuple ds)) (hd : ds ≠ []) (he : es ≠ []) (hl : ds.length + es.length ≤ 1000) (ht : Ev r σ H0 te (.tuple es)) :
    Ev r σ H0 (tOp (rCatT K) (tVar i) te) (.tuple (ds ++ es)) := fun H Q S q => by
  obtain ⟨b, xs, rfl, hb, hx⟩ := dw_tup hv
  refine ⟨_, h, ht H _ S fun H1 u S1 hu => ?_⟩
  obtain ⟨c, ys, rfl, hc, hy⟩ := dw_tup hu
  have lx := hx.length
  have ly := hy.length
  refine ⟨b, c, xs, ys, rfl, rfl, sqT_of ((S.trans S1) _ _ (st_tup hb)), sqT_of (st_tup hc), (fun e => hd (by rw [e] at lx; exact List.length_eq_zero_iff.mp lx.symm)), by rw [sizeLine_eq]; omega, fun e => absurd (by rw [e] at ly; exact List.length_eq_zero_iff.mp ly.symm) he, fun _ p np => ?_⟩
  have S2 := fresh_upd (o := .tup (xs ++ ys)) np
  have pr : p ≠ r := ((hR.same (S.trans S1)).ne np).symm
  exact q _ _ (S1.trans S2) (.tup (by rw [strip_ne pr, upd_same]) (dwa_app (DwAll.same (strip_but (But.of (S.trans (S1.trans S2)))) hx) (DwAll.same (strip_but (But.of S2)) hy)))
theorem ev_catL {i : Nat} {v : V} {ds es : List PyData} {te : TE} (hR : Rg H0 r) (h : σ[i]? = some (some v)) (hv : Dw (strip r H0) v (.list ds)) (hl : ds.length + es.length ≤ 1000) (ht : Ev r σ H0 te (.list es)) :
    Ev r σ H0 (tOp rCat (tVar i) te) (.list (ds ++ es)) := fun H Q S q => by
  cases hv with
  | @lst b xs _ hb hx =>
  refine ⟨_, h, ht H _ S fun H1 u S1 hu => ?_⟩
  cases hu with
  | @lst c ys _ hc hy =>
  have lx := hx.length
  have ly := hy.length
  refine ⟨b, c, xs, ys, rfl, rfl, (S.trans S1) _ _ (strip_same r _ _ _ hb), strip_same r _ _ _ hc, by rw [sizeLine_eq]; omega, fun p np => ?_⟩
  have S2 := fresh_upd (o := .lst (xs ++ ys)) np
  have pr : p ≠ r := ((hR.same (S.trans S1)).ne np).symm
  exact q _ _ (S1.trans S2) (.lst (by rw [strip_ne pr, upd_same]) (dwa_app (DwAll.same (strip_but (But.of (S.trans (S1.trans S2)))) hx) (DwAll.same (strip_but (But.of S2)) hy)))
theorem dwa_take {H : Hp} : ∀ {xs : List V} {ds : List PyData}, DwAll H xs ds → ∀ n, DwAll H (xs.take n) (ds.take n)
  | _, _, .nil, n => by
    rw [List.take_nil, List.take_nil]
    exact .nil
  | _, _, .cons h t, 0 => .nil
  | _, _, .cons h t, n + 1 => .cons h (dwa_take t n)
theorem cut01 (xs : List V) (h : 2 ≤ xs.length) : cutV xs none (some 1) = xs.take 1 ∧ ¬ (HT.sIx xs.length 0 none = 0 ∧ HT.sIx xs.length xs.length (some 1) = xs.length) := by
  have e1 : HT.sIx xs.length 0 none = 0 := rfl
  have e2 : HT.sIx xs.length xs.length (some 1) = 1 := by
    unfold HT.sIx
    first | (simp; omega) | (split <;> omega) | omega
  unfold cutV
  rw [e1, e2]
  exact ⟨rfl, fun z => by have := z.2; omega⟩
theorem ev_sl1 {i : Nat} {v : V} {ds : List PyData} (hR : Rg H0 r) (h : σ[i]? = some (some v)) (hv : Dw (strip r H0) v (.tuple ds)) (h2 : 2 ≤ ds.length) :
    Ev r σ H0 (tSl (rSlT K) (tVar i) tNoPart (tPart (tC (.int 1)))) (.tuple (ds.take 1)) := fun H Q S q => by
  obtain ⟨b, xs, rfl, hb, hx⟩ := dw_tup hv
  have lx := hx.length
  obtain ⟨c1, c2⟩ := cut01 xs (by omega)
  refine ⟨_, h, ?_⟩
  refine ⟨_, rfl, b, xs, rfl, sqT_of (S _ _ (st_tup hb)), c2, fun p np => ?_⟩
  rw [c1]
  have S2 := fresh_upd (o := .tup (xs.take 1)) np
  have pr : p ≠ r := ((hR.same S).ne np).symm
  exact q _ _ S2 (.tup (by rw [strip_ne pr, upd_same]) (dwa_take (DwAll.same (strip_but (But.of (S.trans S2))) hx) 1))
end
/-- what is drawn at last -/
structure Odf (d : PyData) : Prop where
  no : isT d = false
  fi : Fine 16 d
  sh : Shw d
  mz : mz d ≤ 500000
theorem odf_1 {d : PyData} (h : Odk d) : Odf d := ⟨h.no, h.fi.up (by omega), h.sh, by have := h.mz; omega⟩
theorem odf_2 {t d : PyData} (ht : Tk t) (h : Odk d) : Odf (.tuple [.str "let", .str "f", .tuple [t, d]]) := by
  refine ⟨by simp [isT, inF, lastT, allT, h.no], (fin_tup (n := 13) (all3 (fin_str "let") (fin_str "f") (fin_tup (n := 12) (all2 (ht.fi.up (by omega)) h.fi) (by simp))) (by simp)).up (by omega), Shw.tup (all3 (shs _) (shs _) (Shw.tup (all2 ht.shw h.sh))), ?_⟩
  have l3 : ("let" : Str).length = 3 := by decide
  have l1 : ("f" : Str).length = 1 := by decide
  have := h.mz
  have := ht.mz
  rw [mz_tup]
  simp only [mz, mzs, l3, l1]
  omega
theorem odf_3 {d : PyData} (h : Odk d) : Odf (.tuple [.str "let", .str "g", .tuple [d]]) := by
  refine ⟨by simp [isT, inF, lastT, allT, h.no], (fin_tup (n := 13) (all3 (fin_str "let") (fin_str "g") (fin_tup (n := 12) (all1 h.fi) (by simp))) (by simp)).up (by omega), Shw.tup (all3 (shs _) (shs _) (Shw.tup (all1 h.sh))), ?_⟩
  have l3 : ("let" : Str).length = 3 := by decide
  have l1 : ("g" : Str).length = 1 := by decide
  have := h.mz
  rw [mz_tup]
  simp only [mz, mzs, l3, l1]
  omega
theorem odk_o1 {ts : List PyData} (h : Tk (.tuple ts)) : ∀ d ∈ o1 ts, Odk d := by
  unfold o1
  repeat refine List.forall_mem_cons.mpr ⟨by first | (apply odk_c; simp [oc]; done) | (apply odk_t h; simp; done), ?_⟩
  exact fun _ z => nomatch z
theorem odk_o3 {ts : List PyData} (h : Tk (.tuple ts)) : ∀ d ∈ o3 (.tuple ts), Odk d := by
  unfold o3
  repeat refine List.forall_mem_cons.mpr ⟨by first | (apply odk_c; simp [oc]; done) | (apply odk_t h; simp; done), ?_⟩
  exact fun _ z => nomatch z
theorem odk_o4 {ts : List PyData} (h : Tk (.tuple ts)) : ∀ d ∈ o4 (.tuple ts), Odk d := by
  unfold o4
  repeat refine List.forall_mem_cons.mpr ⟨by first | (apply odk_c; simp [oc]; done) | (apply odk_t h; simp; done), ?_⟩
  exact fun _ z => nomatch z
theorem odk_o5 {ts : List PyData} (h : Tk (.tuple ts)) : ∀ d ∈ o5 (.tuple ts), Odk d := by
  unfold o5
  repeat refine List.forall_mem_cons.mpr ⟨by first | (apply odk_c; simp [oc]; done) | (apply odk_t h; simp; done), ?_⟩
  exact fun _ z => nomatch z
def oAll (ts : List PyData) : List PyData := o1 ts ++ o2 ++ o3 (.tuple ts) ++ o4 (.tuple ts) ++ o5 (.tuple ts) ++ o6 ++ o7 ++ o8
theorem odk_all {ts : List PyData} (h : Tk (.tuple ts)) : ∀ d ∈ oAll ts, Odk d := fun d hd => by
  unfold oAll at hd
  simp only [List.mem_append] at hd
  rcases hd with ((((((hd | hd) | hd) | hd) | hd) | hd) | hd) | hd
  · exact odk_o1 h d hd
  · exact odk_2 d (by simp only [List.mem_append]; exact .inl (.inl (.inl hd)))
  · exact odk_o3 h d hd
  · exact odk_o4 h d hd
  · exact odk_o5 h d hd
  · exact odk_2 d (by simp only [List.mem_append]; exact .inl (.inl (.inr hd)))
  · exact odk_2 d (by simp only [List.mem_append]; exact .inl (.inr hd))
  · exact odk_2 d (by simp only [List.mem_append]; exact .inr hd)
theorem asg_of {te : TE} {g : TG} {D : Ends} {σ : L2.St} {H : Hp} (h : te σ H fun x H1 => g x σ H1 D.nx) : tAsg te g D σ H := h
theorem seq_of {a b : TS} {D : Ends} {σ : L2.St} {H : Hp} (h : a { D with nx := b D } σ H) : tSeq a b D σ H := h
def NOd : List Str := ["_law_rng_here", "_law_term_here", "_law_near", "_law_far", "_law_some", "_law_odd_here"]
def spOdd : Sp := fun vs H Q _ => ∃ (r : Addr) (v : V) (t : PyData), vs = [.ref r, v] ∧ Rg H r ∧ Dw H v t ∧ Tk t ∧ ∀ H' u d, Rg H' r → But r H H' → Dw (strip r H') u d → Odf d → Q u H'
section
variable {P : Program} {w : World} {K : PySem.W.Frag} {mg : Str → Option Value} {base : Heap}
theorem scOd : FnScope NOd ["_law_rng_here", "_law_term_here"] (defScope sOdd) :=
  ⟨rfl, rfl, rfl, by decide +kernel, rfl, by decide +kernel, by decide +kernel⟩
theorem ok_odd {f : Addr} {fd : FuncData} (F : Fun K "_law_odd" "_law_odd" sOdd f fd) (X : LmX P w K mg base) (lN : mg "list" = none) : FnOk P w K mg base CX0 3 f fd ["_law_rng_here", "_law_term_here"] spOdd := by
  obtain ⟨fC, fdC, gC, GC, kC, bC⟩ := X.ch
  refine F.ok scOd (fun vs H Q E h => ?_) (fun cdv A outer s H vs Q E hr h => ?_)
  · obtain ⟨r, v, t, rfl, _⟩ := h
    rfl
  · obtain ⟨r, v, t, rfl, hR, hv, hk, q⟩ := h
    refine ⟨_, pss_cons (ps_asg (pe_tup (pa_cons (pe_tup (pa_cons pe_str (pa_cons pe_str (pa_cons pe_int pa_nil)))) (pa_cons (pe_tup (pa_cons pe_str (pa_cons pe_str (pa_cons pe_int pa_nil)))) pa_nil))) (pg_tup rfl (pgs_cons (pg_name (i := 2) scOd.nd rfl (Or.inl rfl)) (pgs_cons (pg_name (i := 3) scOd.nd rfl (Or.inl rfl)) pgs_nil))))
      (pss_cons (ps_set (i := 4) scOd.nd rfl (.inl rfl) (pe_lst (pa_cons (pe_callTy call_list_of (by rfl) lN (by decide +kernel) (pa_cons (pv 1) pa_nil)) (pa_cons (pe_op op_catT (pv 1) (pe_tup (pa_cons pe_int pa_nil))) (pa_cons (pe_slice sl_tup (pv 1) po_none (po_some pe_int))
        (pa_cons (pe_tup pa_nil) (pa_cons pe_non (pa_cons pe_int (pa_cons pe_str (pa_cons pe_dnewK (pa_cons (pe_disp (pps_cons pe_str (pv 2) pps_nil) (by rfl) (by rfl) (fun z => by cases z) (by decide))
        (pa_cons (pe_tup (pa_cons pe_int (pa_cons pe_str (pa_cons pe_int pa_nil)))) (pa_cons (pe_tup (pa_cons pe_str (pa_cons pe_str (pa_cons pe_int pa_nil)))) pa_nil)))))))))))))
      (pss_cons (ps_set (i := 4) scOd.nd rfl (.inl rfl) (pe_op op_cat (pv 4) (pe_lst (pa_cons (pe_tup (pa_cons pe_str (pa_cons pe_str (pa_cons (pe_un un_neg pe_int) pa_nil)))) (pa_cons (pe_tup (pa_cons pe_str (pa_cons pe_str (pa_cons pe_bl pa_nil)))) (pa_cons (pe_tup (pa_cons pe_str (pa_cons pe_str (pa_cons pe_str pa_nil))))
        (pa_cons (pe_tup (pa_cons pe_str (pa_cons pe_str (pa_cons pe_int pa_nil)))) (pa_cons (pe_tup (pa_cons pe_str (pa_cons pe_str pa_nil))) pa_nil))))))))
      (pss_cons (ps_set (i := 4) scOd.nd rfl (.inl rfl) (pe_op op_cat (pv 4) (pe_lst (pa_cons (pe_tup (pa_cons pe_str (pa_cons pe_int (pa_cons pe_int pa_nil)))) (pa_cons (pe_tup (pa_cons pe_str (pa_cons pe_str (pa_cons (pe_tup pa_nil) pa_nil))))
        (pa_cons (pe_tup (pa_cons pe_str (pa_cons pe_str (pa_cons (pe_tup (pa_cons (pv 2) (pa_cons (pv 2) (pa_cons (pv 3) (pa_cons (pv 3) pa_nil))))) pa_nil)))) (pa_cons (pe_tup (pa_cons pe_str (pa_cons pe_str (pa_cons (pe_lst (pa_cons (pv 1) pa_nil)) pa_nil)))) pa_nil)))))))
      (pss_cons (ps_set (i := 4) scOd.nd rfl (.inl rfl) (pe_op op_cat (pv 4) (pe_lst (pa_cons (pe_tup (pa_cons pe_str (pa_cons pe_str (pa_cons (pe_tup (pa_cons (pv 1) pa_nil)) pa_nil)))) (pa_cons (pe_tup (pa_cons pe_str (pa_cons pe_str (pa_cons (pv 1) pa_nil))))
        (pa_cons (pe_tup (pa_cons pe_str (pa_cons pe_str (pa_cons (pe_tup (pa_cons (pv 1) (pa_cons pe_non pa_nil))) pa_nil)))) (pa_cons (pe_tup (pa_cons pe_str (pa_cons (pe_tup (pa_cons (pv 1) pa_nil)) pa_nil))) pa_nil)))))))
      (pss_cons (ps_set (i := 4) scOd.nd rfl (.inl rfl) (pe_op op_cat (pv 4) (pe_lst (pa_cons (pe_tup (pa_cons pe_str (pa_cons (pe_tup (pa_cons (pv 1) pa_nil)) pa_nil))) (pa_cons (pe_tup (pa_cons pe_str (pa_cons (pe_tup pa_nil) pa_nil)))
        (pa_cons (pe_tup (pa_cons pe_str (pa_cons (pe_lst (pa_cons (pv 2) (pa_cons (pv 3) pa_nil))) pa_nil))) (pa_cons (pe_tup (pa_cons pe_str (pa_cons (pe_tup (pa_cons (pv 3) (pa_cons (pv 2) pa_nil))) pa_nil))) pa_nil)))))))
      (pss_cons (ps_set (i := 4) scOd.nd rfl (.inl rfl) (pe_op op_cat (pv 4) (pe_lst (pa_cons (pe_tup (pa_cons pe_str (pa_cons (pe_tup (pa_cons (pv 2) (pa_cons (pv 2) pa_nil))) pa_nil))) (pa_cons (pe_tup (pa_cons pe_str (pa_cons (pe_tup (pa_cons (pv 2) (pa_cons (pv 2) (pa_cons (pv 3) pa_nil)))) pa_nil)))
        (pa_cons (pe_tup (pa_cons pe_str (pa_cons (pe_tup (pa_cons (pv 2) (pa_cons (pv 3) pa_nil))) pa_nil))) pa_nil))))))
      (pss_cons (ps_set (i := 4) scOd.nd rfl (.inl rfl) (pe_op op_cat (pv 4) (pe_lst (pa_cons (pe_tup (pa_cons pe_str (pa_cons (pe_tup (pa_cons (pv 2) (pa_cons (pe_tup (pa_cons pe_str (pa_cons (pe_tup (pa_cons (pv 2) (pa_cons (pv 3) pa_nil))) pa_nil))) pa_nil))) pa_nil))) pa_nil))))
      (pss_cons (ps_set (i := 4) scOd.nd rfl (.inl rfl) (pe_op op_cat (pv 4) (pe_lst (pa_cons (pe_tup (pa_cons pe_str (pa_cons (pe_tup (pa_cons (pe_tup (pa_cons pe_str (pa_cons (pe_tup (pa_cons (pv 2) (pa_cons (pv 3) pa_nil))) pa_nil))) (pa_cons (pv 3) pa_nil))) pa_nil)))
        (pa_cons (pe_tup (pa_cons pe_str (pa_cons (pe_tup (pa_cons (pv 2) (pa_cons (pv 3) pa_nil))) (pa_cons pe_int pa_nil)))) (pa_cons (pe_tup (pa_cons pe_str (pa_cons (pe_tup (pa_cons (pv 2) (pa_cons pe_non pa_nil))) pa_nil))) pa_nil))))))
      (pss_cons (ps_set (i := 5) scOd.nd rfl (.inl rfl) (pe_call GC hr rfl gC kC bC .nil pass0 (pa_cons (pv 0) (pa_cons (pv 4) pa_nil))))
      (pss_one (ps_ret (pe_call GC hr rfl gC kC bC .nil pass0 (pa_cons (pv 0) (pa_cons (pe_lst (pa_cons (pv 5) (pa_cons (pe_tup (pa_cons pe_str (pa_cons pe_str (pa_cons (pe_tup (pa_cons (pv 1) (pa_cons (pv 5) pa_nil))) pa_nil))))
        (pa_cons (pe_tup (pa_cons pe_str (pa_cons pe_str (pa_cons (pe_tup (pa_cons (pv 5) pa_nil)) pa_nil)))) pa_nil)))) pa_nil)))))))))))))), ?_⟩
    have hR' := hR
    have hv0 : Dw (strip r H) v t := Dw.stp (stp_strip hR) hk.tm hv
    obtain ⟨ts, rfl⟩ : ∃ ts, t = .tuple ts := by
      cases knd hk.tm <;> exact ⟨_, rfl⟩
    obtain ⟨hl3, hl2, _, _⟩ := tk_items hk
    have en : Ev r (L2.start NOd [V.ref r, v]) H (tTup (tCons (tTup (tCons (tC (.str "in")) (tCons (tC (.str "x")) (tCons (tC (.int 0)) tNil)))) (tCons (tTup (tCons (tC (.str "in")) (tCons (tC (.str "x")) (tCons (tC (.int 1)) tNil)))) tNil))) (.tuple [near, far]) :=
      ev_tup hR (by simp) (evs_cons (ev_tup hR (by simp) (evs_cons (ev_str _) (evs_cons (ev_str _) (evs_cons (ev_int _) evs_nil)))) (evs_cons (ev_tup hR (by simp) (evs_cons (ev_str _) (evs_cons (ev_str _) (evs_cons (ev_int _) evs_nil)))) evs_nil))
    refine seq_of (asg_of ?_)
    refine en H _ (Same.refl H) fun H1 vp S1 hp => ?_
    obtain ⟨bp, xp, rfl, hbp, hxp⟩ := dw_tup hp
    cases hxp with
    | @cons vn _ _ _ hn hxp =>
    cases hxp with
    | @cons vf _ _ _ hf hxp =>
    cases hxp
    refine ⟨bp, _, rfl, sqT_of (st_tup hbp), rfl, _, _, rfl, _, _, rfl, rfl, ?_⟩
    have hR1 := hR.same S1
    have hv1 := Dw.same (strip_but (But.of S1)) hv0
    have e1 : Ev r [some (V.ref r), some v, some vn, some vf, none, none] H1 (tLst (tCons (tCB (fun xs H Q => ∃ p ys, xs = [V.ref p] ∧ (SqL K H p ys ∨ SqT K H p ys) ∧ ∀ l, H l = none → Q (.ref l) (upd H l (.lst ys))) (tCons (tVar 1) tNil)) (tCons (tOp (rCatT K) (tVar 1) (tTup (tCons (tC (.int 0)) tNil))) (tCons (tSl (rSlT K) (tVar 1) tNoPart (tPart (tC (.int 1))))
        (tCons (tTup tNil) (tCons (tC .non) (tCons (tC (.int 0)) (tCons (tC (.str "in")) (tCons tDNewK (tCons (tDisp [(tC (.str "in"), tVar 2)]) (tCons (tTup (tCons (tC (.int 1)) (tCons (tC (.str "x")) (tCons (tC (.int 0)) tNil)))) (tCons (tTup (tCons (tC (.str "in")) (tCons (tC (.str "X")) (tCons (tC (.int 0)) tNil)))) tNil)))))))))))) (.list (o1 ts)) := by
      unfold o1
      refine ev_lst hR1 (by simp) (evs_cons (ev_listOf hR1 rfl hv1) (evs_cons (ev_catT hR1 rfl hv1 (fun e => by rw [e] at hl2; simp at hl2) (by simp) (by simp; omega) (ev_tup hR1 (by simp) (evs_cons (ev_int _) evs_nil))) (evs_cons (ev_sl1 hR1 rfl hv1 hl2) (evs_cons (ev_tup hR1 (by simp) evs_nil) (evs_cons ev_non (evs_cons (ev_int _) (evs_cons (ev_str _) (evs_cons (ev_d0 hR1)
        (evs_cons (ev_d1 hR1 (v := vn) (fun H Q q => ⟨_, rfl, q⟩) hn) (evs_cons (ev_tup hR1 (by simp) (evs_cons (ev_int _) (evs_cons (ev_str _) (evs_cons (ev_int _) evs_nil)))) (evs_cons (ev_tup hR1 (by simp) (evs_cons (ev_str _) (evs_cons (ev_str _) (evs_cons (ev_int _) evs_nil)))) evs_nil)))))))))))
    dsimp only
    refine seq_of (asg_of ?_)
    refine e1 H1 _ (Same.refl H1) fun H2 L2' S2 hL2 => ?_
    have step : ∀ {H : Hp} {L : V} {ds es : List PyData} {te : TE} {D : Ends}, Rg H r → Dw (strip r H) L (.list ds) → ds.length + es.length ≤ 1000 → Ev r [some (V.ref r), some v, some vn, some vf, some L, none] H te (.list es) →
        (∀ H' L', Same H H' → Dw (strip r H') L' (.list (ds ++ es)) → D.nx [some (V.ref r), some v, some vn, some vf, some L', none] H') → tAsg (tOp rCat (tVar 4) te) (gName 4) D [some (V.ref r), some v, some vn, some vf, some L, none] H :=
      fun {H L ds es te D} hR hL hl ht k => ev_catL hR rfl hL hl ht H _ (Same.refl H) fun H' L' S' h' => k H' L' S' h'
    have S12 : Same H1 H2 := S2
    have R2 := hR1.same S12
    have n2 := Dw.same (strip_but (But.of S12)) hn
    have f2 := Dw.same (strip_but (But.of S12)) hf
    have v2 := Dw.same (strip_but (But.of S12)) hv1
    dsimp only
    refine seq_of (step (es := o2) R2 hL2 (by simp [o1, o2, o3, o4, o5, o6, o7, o8]) ?_ fun H3 L3' S3 hL3 => ?_)
    · unfold o2
      repeat (first
        | exact evs_nil
        | refine evs_cons ?_ ?_
        | exact ev_str _
        | exact ev_int _
        | exact ev_neg _
        | exact ev_bl _
        | exact ev_non
        | exact ev_var rfl n2
        | exact ev_var rfl f2
        | exact ev_var rfl v2
        | refine ev_tup R2 (by simp) ?_
        | refine ev_lst R2 (by simp) ?_)
    have S13 : Same H1 H3 := S12.trans S3
    have R3 := hR1.same S13
    have n3 := Dw.same (strip_but (But.of S13)) hn
    have f3 := Dw.same (strip_but (But.of S13)) hf
    have v3 := Dw.same (strip_but (But.of S13)) hv1
    dsimp only
    refine seq_of (step (es := o3 (.tuple ts)) R3 hL3 (by simp [o1, o2, o3, o4, o5, o6, o7, o8]) ?_ fun H4 L4' S4 hL4 => ?_)
    · unfold o3
      repeat (first
        | exact evs_nil
        | refine evs_cons ?_ ?_
        | exact ev_str _
        | exact ev_int _
        | exact ev_neg _
        | exact ev_bl _
        | exact ev_non
        | exact ev_var rfl n3
        | exact ev_var rfl f3
        | exact ev_var rfl v3
        | refine ev_tup R3 (by simp) ?_
        | refine ev_lst R3 (by simp) ?_)
    have S14 : Same H1 H4 := S13.trans S4
    have R4 := hR1.same S14
    have n4 := Dw.same (strip_but (But.of S14)) hn
    have f4 := Dw.same (strip_but (But.of S14)) hf
    have v4 := Dw.same (strip_but (But.of S14)) hv1
    dsimp only
    refine seq_of (step (es := o4 (.tuple ts)) R4 hL4 (by simp [o1, o2, o3, o4, o5, o6, o7, o8]) ?_ fun H5 L5' S5 hL5 => ?_)
    · unfold o4
      repeat (first
        | exact evs_nil
        | refine evs_cons ?_ ?_
        | exact ev_str _
        | exact ev_int _
        | exact ev_neg _
        | exact ev_bl _
        | exact ev_non
        | exact ev_var rfl n4
        | exact ev_var rfl f4
        | exact ev_var rfl v4
        | refine ev_tup R4 (by simp) ?_
        | refine ev_lst R4 (by simp) ?_)
    have S15 : Same H1 H5 := S14.trans S5
    have R5 := hR1.same S15
    have n5 := Dw.same (strip_but (But.of S15)) hn
    have f5 := Dw.same (strip_but (But.of S15)) hf
    have v5 := Dw.same (strip_but (But.of S15)) hv1
    dsimp only
    refine seq_of (step (es := o5 (.tuple ts)) R5 hL5 (by simp [o1, o2, o3, o4, o5, o6, o7, o8]) ?_ fun H6 L6' S6 hL6 => ?_)
    · unfold o5
      repeat (first
        | exact evs_nil
        | refine evs_cons ?_ ?_
        | exact ev_str _
        | exact ev_int _
        | exact ev_neg _
        | exact ev_bl _
        | exact ev_non
        | exact ev_var rfl n5
        | exact ev_var rfl f5
        | exact ev_var rfl v5
        | refine ev_tup R5 (by simp) ?_
        | refine ev_lst R5 (by simp) ?_)
    have S16 : Same H1 H6 := S15.trans S6
    have R6 := hR1.same S16
    have n6 := Dw.same (strip_but (But.of S16)) hn
    have f6 := Dw.same (strip_but (But.of S16)) hf
    have v6 := Dw.same (strip_but (But.of S16)) hv1
    dsimp only
    refine seq_of (step (es := o6) R6 hL6 (by simp [o1, o2, o3, o4, o5, o6, o7, o8]) ?_ fun H7 L7' S7 hL7 => ?_)
    · unfold o6
      repeat (first
        | exact evs_nil
        | refine evs_cons ?_ ?_
        | exact ev_str _
        | exact ev_int _
        | exact ev_neg _
        | exact ev_bl _
        | exact ev_non
        | exact ev_var rfl n6
        | exact ev_var rfl f6
        | exact ev_var rfl v6
        | refine ev_tup R6 (by simp) ?_
        | refine ev_lst R6 (by simp) ?_)
    have S17 : Same H1 H7 := S16.trans S7
    have R7 := hR1.same S17
    have n7 := Dw.same (strip_but (But.of S17)) hn
    have f7 := Dw.same (strip_but (But.of S17)) hf
    have v7 := Dw.same (strip_but (But.of S17)) hv1
    dsimp only
    refine seq_of (step (es := o7) R7 hL7 (by simp [o1, o2, o3, o4, o5, o6, o7, o8]) ?_ fun H8 L8' S8 hL8 => ?_)
    · unfold o7
      repeat (first
        | exact evs_nil
        | refine evs_cons ?_ ?_
        | exact ev_str _
        | exact ev_int _
        | exact ev_neg _
        | exact ev_bl _
        | exact ev_non
        | exact ev_var rfl n7
        | exact ev_var rfl f7
        | exact ev_var rfl v7
        | refine ev_tup R7 (by simp) ?_
        | refine ev_lst R7 (by simp) ?_)
    have S18 : Same H1 H8 := S17.trans S8
    have R8 := hR1.same S18
    have n8 := Dw.same (strip_but (But.of S18)) hn
    have f8 := Dw.same (strip_but (But.of S18)) hf
    have v8 := Dw.same (strip_but (But.of S18)) hv1
    dsimp only
    refine seq_of (step (es := o8) R8 hL8 (by simp [o1, o2, o3, o4, o5, o6, o7, o8]) ?_ fun H9 L9' S9 hL9 => ?_)
    · unfold o8
      repeat (first
        | exact evs_nil
        | refine evs_cons ?_ ?_
        | exact ev_str _
        | exact ev_int _
        | exact ev_neg _
        | exact ev_bl _
        | exact ev_non
        | exact ev_var rfl n8
        | exact ev_var rfl f8
        | exact ev_var rfl v8
        | refine ev_tup R8 (by simp) ?_
        | refine ev_lst R8 (by simp) ?_)
    have S19 : Same H1 H9 := S18.trans S9
    have R9 := hR1.same S19
    have v9 := Dw.same (strip_but (But.of S19)) hv1
    have hL9 : Dw (strip r H9) L9' (.list (oAll ts)) := by
      unfold oAll
      exact hL9
    cases hL9 with
    | @lst bl xl _ hbl hxl =>
    have hbl9 := strip_same r _ _ _ hbl
    have lr : bl ≠ r := fun e => by
      unfold strip at hbl
      rw [if_pos e] at hbl
      cases hbl
    have lxl := hxl.length
    have lo : (oAll ts).length = 35 + 0 := by simp [oAll, o1, o2, o3, o4, o5, o6, o7, o8]
    dsimp only
    refine seq_of (asg_of ?_)
    refine ⟨_, rfl, _, rfl, r, bl, xl, rfl, R9, lr, hbl9, by omega, by omega, fun H10 u hu hR10 B10 => ?_⟩
    obtain ⟨d, hdm, hud⟩ := dw_in hxl u hu
    have hd := odk_all hk d hdm
    have u10 := Dw.same (strip_but B10) hud
    have v10 := Dw.same (strip_but B10) v9
    have er : Ev r [some (V.ref r), some v, some vn, some vf, some (V.ref bl), some u] H10 (tLst (tCons (tVar 5) (tCons (tTup (tCons (tC (.str "let")) (tCons (tC (.str "f")) (tCons (tTup (tCons (tVar 1) (tCons (tVar 5) tNil))) tNil)))) (tCons (tTup (tCons (tC (.str "let")) (tCons (tC (.str "g")) (tCons (tTup (tCons (tVar 5) tNil)) tNil)))) tNil))))
        (.list [d, .tuple [.str "let", .str "f", .tuple [.tuple ts, d]], .tuple [.str "let", .str "g", .tuple [d]]]) :=
      ev_lst hR10 (by simp) (evs_cons (ev_var rfl u10) (evs_cons (ev_tup hR10 (by simp) (evs_cons (ev_str _) (evs_cons (ev_str _) (evs_cons (ev_tup hR10 (by simp) (evs_cons (ev_var rfl v10) (evs_cons (ev_var rfl u10) evs_nil))) evs_nil)))) (evs_cons (ev_tup hR10 (by simp) (evs_cons (ev_str _) (evs_cons (ev_str _) (evs_cons (ev_tup hR10 (by simp) (evs_cons (ev_var rfl u10) evs_nil)) evs_nil)))) evs_nil)))
    refine ⟨_, rfl, ?_⟩
    refine er H10 _ (Same.refl H10) fun H11 w11 S11 h11 => ?_
    cases h11 with
    | @lst c yl _ hc hyl =>
    have hc11 := strip_same r _ _ _ hc
    have cr : c ≠ r := fun e => by
      unfold strip at hc
      rw [if_pos e] at hc
      cases hc
    have lyl := hyl.length
    have hR11 := hR10.same S11
    refine ⟨r, c, yl, rfl, hR11, cr, hc11, by rw [lyl]; simp, by rw [lyl]; simp, fun H12 x hx hR12 B12 => ?_⟩
    obtain ⟨e, hem, hxe⟩ := dw_in hyl x hx
    have B : But r H H12 := ((But.of (S1.trans S19)).trans B10).trans ((But.of S11).trans B12)
    refine q H12 x e hR12 B (Dw.same (strip_but B12) hxe) ?_
    rcases List.mem_cons.mp hem with rfl | hem
    · exact odf_1 hd
    rcases List.mem_cons.mp hem with rfl | hem
    · exact odf_2 hk hd
    rw [List.mem_singleton.mp hem]
    exact odf_3 hd
end
end K40
set_option maxHeartbeats 8000000
namespace L2
open PySem PySem.Spec PyProof.Rows
/-! several except clauses, each 'as e' */ -/
/-- what the clauses wish of an exception of the body, one after the other -/
def wManyAs (K : PySem.W.Frag) (i : Nat) (Wout : WX) (D : Ends) : List (Value × (Addr → Value → Option Addr → TS)) → WX
  | [] => Wout
  | (c, ts) :: r => fun cls d σ H => ∃ b, PySem.W.exmOne K cls c = some b ∧ (b = true → ∀ a, H a = none → ts a cls d { nx := fun σ' H' => D.nx (σ'.set i none) H', rt := D.rt, bk := fun σ' H' => D.bk (σ'.set i none) H', ct := fun σ' H' => D.ct (σ'.set i none) H' } (σ.set i (some (.ref a))) H) ∧ (b = false → wManyAs K i Wout D r cls d σ H)
inductive HdsAs (X : Cx) (n : Str) : List ExceptHandler → List (Value × (Addr → Value → Option Addr → TS)) → Prop
  | nil : HdsAs X n [] []
  | cons {x : Str} {c : Value} {ts : Addr → Value → Option Addr → TS} {b₀ : Stmt} {suite : List Stmt} {np pos' : Pos} {hds : List ExceptHandler} {l : List (Value × (Addr → Value → Option Addr → TS))} (hc : Names X x c)
      (hsu : ∀ (a : Addr) (oe : Obj) (cls : Value) (d : Option Addr) (pn : List (Addr × Obj)), Zc cls d oe → (∃ vs, oe.data = .fields vs) → PSs (X.suite a ((a, oe) :: pn)) (b₀ :: suite) (ts a cls d)) (r : HdsAs X n hds l) :
      HdsAs X n (.ExceptHandler (some (.Name x np)) (some n) (b₀ :: suite) pos' :: hds) ((c, ts) :: l)
section
variable {X : Cx} {n : Str} {i : Nat} {body : List Stmt} {h₀ : ExceptHandler} {hds : List ExceptHandler} {l : List (Value × (Addr → Value → Option Addr → TS))} {pos : Pos} {tb : WX → TS} {Wout : WX}
theorem ps_try_manyAs (hs : X.stack = X.env :: X.outer) (hf : X.env.frame = some X.env.locals) (hN : X.N.Nodup) (hi : X.N[i]? = some n) (hln : X.env.kindOf n = some .local) (tk : Takes X Wout)
    (hb : ∀ (W : WX) (pn : List (Addr × Obj)) (xe : Value → Shared → Prop), Takes (X.tr pn xe) W → PassesOwn (model X.prog X.w) X.A X.env xe → PSs (X.tr pn xe) body (tb W))
    (hh : HdsAs X n (h₀ :: hds) l) : PS X (.Try body (h₀ :: hds) [] [] pos) (fun D σ H => tb (wManyAs X.K i Wout D l) D σ H) := by
  refine ⟨fun pins s σ H D I h => ?_⟩
  have ok := I.ok
  have hloc : Loc X.env.scope n := .inl hln
  have hfr : X.A.frames = some (X.env :: X.outer) := by rw [ok.frames, hs]
  refine wpAny_Try_except ?_
  refine wpAny_mono ((hb (wManyAs X.K i Wout D l) (X.pn ++ pins) (fun e s₁ => wpAny (model X.prog X.w) X.A (noteFrame e X.env) (fun _ s₂ => wpAny (model X.prog X.w) X.A (setFlight e none) (fun _ s₃ =>
    wpAny (model X.prog X.w) X.A (handleBy e X.env (h₀ :: hds)) (SP X pins D) X.xe s₃) X.xe s₂) X.xe s₁) (fun u s' xx => ?_) PassesOwn.looking).run [] s σ H D (I.toTry _) h) (fun f s1 hsp => ?_) (fun e s1 he => he)
  · -- the catch
    obtain ⟨a, B, sI, pins', σ', H', cls, d, rfl, J', nb, up, sky, na, os, ag, w⟩ := xx
    have J : Inv X pins σ' H' sI := J'.ofTry ok
    have sky' : Sky B (X.env :: X.outer) a (Zc cls d) X.env.locals s'.heap := by rw [← hs]; exact sky
    show wpAny (model X.prog X.w) X.A (noteFrame (.ref a) X.env) _ _ _
    refine Sky.land Zc.steady hfr hf sky' fun h3 fl3 up3 => ?_
    have J3 : Inv X pins σ' H' { s' with heap := h3 } := J.landed nb fl3.1 (up.trans up3) os ag
    obtain ⟨oe3, vs3, he3, hz3, hd3⟩ := fl3.there
    have notFr : ∀ {h : Heap} {o : Obj} {vs : Array Value}, h.FunFrames B (X.env :: X.outer) → h.get? a = some o → o.data = .fields vs → a ∉ frs (X.env :: X.outer) := fun {h o vs} ff e dd hm => by
      obtain ⟨_, o', e', hnf⟩ := ff.mem hm
      rw [e] at e'; cases e'
      exact hnf _ dd
    have nfr := notFr fl3.2.2.1 he3 hd3
    have nL : a ≠ X.env.locals := fun z => nfr (List.mem_filterMap.mpr ⟨X.env, List.mem_cons_self, by rw [hf, z]⟩)
    have nF : a ∉ X.fs := fun hm => by
      obtain ⟨e, he, q⟩ := List.mem_filterMap.mp hm
      exact nfr (List.mem_filterMap.mpr ⟨e, List.mem_cons_of_mem _ he, q⟩)
    have S3 := J3.suite he3 hd3 na nL nF
    have go : ∀ {hds' : List ExceptHandler} {l' : List (Value × (Addr → Value → Option Addr → TS))}, HdsAs X n hds' l' → wManyAs X.K i Wout D l' cls d σ' H' →
        wpAny (model X.prog X.w) X.A (handleBy (.ref a) X.env hds') (SP X pins D) X.xe { s' with heap := h3 } := by
      intro hds' l' hk
      induction hk with
      | nil =>
        intro w
        refine wpAny_handleBy_nil ?_
        obtain ⟨k1, k2, k3, oe, vs, T, oT, ts', he, hz, hd, h1, hr⟩ := id fl3
        unfold PySem.passOn
        refine wpAny_bind (wpAny_field he hd h1 ?_)
        rw [if_neg (show ¬ ((Value.ref T == Value.none) = true) from by simp)]
        have fin : wpAny (model X.prog X.w) X.A (setFlight (.ref a) X.env.frame) (fun _ s4 => wpAny (model X.prog X.w) X.A (throw (.ref a) : Sem Flow) (SP X pins D) X.xe s4) X.xe { s' with heap := h3 } := by
          rw [hf]
          refine HandSPX.setFlight_upZ fl3 fun h4 hh4 up4 => wpAny_throw (tk _ _ ?_)
          exact ⟨a, B, sI, pins, σ', H', cls, d, rfl, J, nb, (up.trans up3).trans up4, .inr (.inr (by rw [hs]; exact hh4)), na, os, ag, w⟩
        first
          | exact wpAny_bind (wpAny_pure (wpAny_bind fin))
          | exact wpAny_bind fin
      | @cons x c ts b₀ suite np pos' hds2 l2 hc hsu r ih =>
        intro w
        obtain ⟨b, hb1, hyes, hno⟩ := w
        refine wpAny_handleBy_cons (codeAny_handlers_test ?_) (by intro q; cases q)
        have LT : PySem.W.Looks (model X.prog X.w) h3 (typeOf (.ref a)) cls := fun A Q E s k q => wpAny_typeOf_ref (k _ _ he3) (by rw [hz3.1]; exact q)
        have LM := PySem.W.exm_one (M := model X.prog X.w) (J3.kIn) LT hb1
        have test : ∀ {Q : Value → Shared → Prop} {E : Value → Shared → Prop}, Q c { s' with heap := h3 } → wpAny (model X.prog X.w) (X.A.mark (some (.ref a))) (eval (.Name x np) X.env) Q E { s' with heap := h3 } := fun {Q E} q => by
          obtain ⟨hg, hdbg, hm | ⟨hm, hv, hnn⟩⟩ := hc
          · exact ld_glob (X := X.suite a ((a, oe3) :: (X.pn ++ pins))) S3 hg hm q hdbg
          · exact ld_blt (X := X.suite a ((a, oe3) :: (X.pn ++ pins))) S3 hg hm hv q hnn hdbg
        refine test (LM.here ?_)
        cases b with
        | true =>
          refine codeAny_handlers_suite_as ?_
          refine HandSPX.lands_againZ fl3 fun h4 fl4 up4 => ?_
          have J4 : Inv X pins σ' H' { s' with heap := h4 } := J.landed nb fl4.1 ((up.trans up3).trans up4) os ag
          obtain ⟨oe4, vs4, he4, hz4, hd4⟩ := fl4.there
          have S4 := J4.suite he4 hd4 na nL nF
          refine store_ok (X := X.suite a ((a, oe4) :: (X.pn ++ pins))) (v := .ref a) S4 hN hi hloc rfl (fun s5 S5 => ?_) (.inr hln)
          refine wpAny_mono ((hsu a oe4 cls d (X.pn ++ pins) hz4 ⟨_, hd4⟩).run [] s5 _ H' _ S5 (hyes rfl a na)) (fun f s6 hsp => ?_) (fun _ _ z => False.elim z)
          have end_ : ∀ {σ6 : St} {H6 : Hp} {Q : Shared → Prop}, Inv (X.suite a ((a, oe4) :: (X.pn ++ pins))) [] σ6 H6 s6 → (∀ s7, Inv X pins (σ6.set i none) H6 s7 → Q s7) →
              wpAny (model X.prog X.w) X.A (do bindName X.env n .none; unbindBehindTheSuite X.env n pos') (fun _ s7 => Q s7) X.xe s6 := fun {σ6 H6 Q} S6 hq => gone_ok (S6.unsuite ok) hN hi hln hq
          cases f with
          | next =>
            obtain ⟨σ6, H6, S6, q6⟩ := hsp
            exact end_ S6 fun s7 J7 => ⟨_, _, J7, q6⟩
          | brk =>
            obtain ⟨σ6, H6, S6, q6⟩ := hsp
            exact end_ S6 fun s7 J7 => ⟨_, _, J7, q6⟩
          | cont =>
            obtain ⟨σ6, H6, S6, q6⟩ := hsp
            exact end_ S6 fun s7 J7 => ⟨_, _, J7, q6⟩
          | ret u =>
            obtain ⟨v6, σ6, H6, S6, r6, q6⟩ := hsp
            exact end_ S6 fun s7 J7 => ⟨_, _, _, J7, r6, q6⟩
        | false =>
          show wpAny _ X.A (handleBy (.ref a) X.env hds2) _ _ _
          exact ih (hno rfl)
    exact go hh w
  · cases f with
    | next =>
      obtain ⟨σ', H', J', q⟩ := hsp
      exact wpAny_execs_nil ⟨σ', H', J'.ofTry ok, q⟩
    | brk =>
      obtain ⟨σ', H', J', q⟩ := hsp
      exact ⟨σ', H', J'.ofTry ok, q⟩
    | cont =>
      obtain ⟨σ', H', J', q⟩ := hsp
      exact ⟨σ', H', J'.ofTry ok, q⟩
    | ret u =>
      obtain ⟨v, σ', H', J', r, q⟩ := hsp
      exact ⟨v, σ', H', J'.ofTry ok, r, q⟩
end
end L2
set_option maxHeartbeats 8000000
namespace K40
open PySem PySem.Spec PyProof.Rows L2 TL

/-! ### _law_told */ -/
abbrev sTold : Stmt := top 38
def rXbT (K : PySem.W.Frag) (a : Addr) (cls : Value) (d : Option Addr) (C : Addr) : List V → Hp → VK → Prop := fun xs H Q =>
  ∃ (tp : Addr) (cs : List V) (us : List Value) (b : Bool) (dd : Addr) (fs : List (Str × V)), xs = [.ref a, .ref tp] ∧ cls = .ref C ∧ d = some dd ∧ H dd = some (.xd fs) ∧ H tp = some (.tup cs) ∧ Paired ClsV cs us ∧ PySem.W.kitAny K (.ref C) us = some b ∧ Q (.bl b) H
theorem call_xbT {X : Cx} {a C : Addr} {oe : Obj} {cls : Value} {d : Option Addr} {pn : List (Addr × Obj)} (G : XG X.K C) (hz : Zc cls d oe) (hf : ∃ vs, oe.data = .fields vs) : CallR (X.suite a ((a, oe) :: pn)) (.builtin "isinstance") (rXbT X.K a cls d C) := by
  intro pins s σ H xs us Q I r h
  obtain ⟨tp, cs, ws, b, dd, fs, rfl, ec, ed, ea, hT, k, ek, q⟩ := h
  obtain ⟨u1, u2, rfl, r1, r2⟩ := vals2 r
  obtain rfl : u1 = Value.ref a := r1
  cases (show u2 = Value.ref tp from r2)
  subst ec
  subst ed
  obtain ⟨ha, _⟩ := I.pin (a, oe) (List.mem_append_left _ List.mem_cons_self)
  obtain ⟨vs, hd⟩ := hf
  have hx : ObjOk X.prog X.w H s.heap dd (.xd fs) := I.hok dd _ ea
  obtain ⟨mA, hns, hr⟩ := hx
  obtain ⟨od, ho, hl⟩ := lookIn_ns hns
  have J : PySem.W.InstAt s.heap a oe C (some od) := ⟨ha, hz.1, by unfold PySem.W.notCls; rw [hd] <;> rfl, by rw [hz.2]; exact ho⟩
  obtain ⟨_, its, rv, o, h1, h2, n, h3⟩ := (show ObjOk X.prog X.w H s.heap tp (.tup cs) from I.hok tp _ hT)
  have e3 := ClsV.all k rv
  subst e3
  obtain ⟨oc, od2, dt, sl⟩ := o
  simp only at h2 h3
  subst h2 h3
  exact PySem.W.kia_tup (PySem.W.kitx_exc G.cl G.ga G.gg G.ex G.cc G.cn G.ct G.co) I.kIn J h1 ek (fun z => nomatch z) fun tk => ⟨.bl b, H, I.tok tk, rfl, q⟩
/-- the classes of the errors -/
structure Xe (K : PySem.W.Frag) (mg : Str → Option Value) (CW CS CT CA : Addr) : Prop where
  gW : mg "InvalidWord" = some (.ref CW)
  gS : mg "InvalidTerms" = some (.ref CS)
  gT : mg "InvalidTerm" = some (.ref CT)
  gA : mg "AnyshapeError" = some (.ref CA)
  eWW : PySem.W.exmOne K (.ref CW) (.ref CW) = some true
  eSW : PySem.W.exmOne K (.ref CS) (.ref CW) = some false
  eSS : PySem.W.exmOne K (.ref CS) (.ref CS) = some true
  eTT : PySem.W.exmOne K (.ref CT) (.ref CT) = some true
  kW : PySem.W.kitOne K (.ref CW) (.ref CA) = some true
  kS : PySem.W.kitOne K (.ref CS) (.ref CA) = some true
  aW : PySem.W.kitAny K (.ref CW) [.ref CS, .ref CT] = some false
  aS : PySem.W.kitAny K (.ref CS) [.ref CW, .ref CT] = some false
  nW : PySem.W.findIn K (.ref CW) "value" = some none
  nS : PySem.W.findIn K (.ref CS) "position" = some none
  nT : PySem.W.findIn K (.ref CT) "value" = some none
  xW : XG K CW
  xS : XG K CS
  xT : XG K CT
/-- what the list of terms is refused with -/
def Bad (n : Nat) (dt : PyData) (p : V) : Prop := (∀ ds, seqOf dt = some ds → ds.length ≤ 700 ∧ ∀ d ∈ ds, Fine n d) ∧
  (((∀ ds, seqOf dt = some ds → ds = []) ∧ p = .non) ∨ ∃ ds i d, seqOf dt = some ds ∧ ds[i]? = some d ∧ isT d = false ∧ (∀ j e, j < i → ds[j]? = some e → isT e = true) ∧ p = .int (i : Nat))
def spTold (n : Nat) : Sp := fun vs H Q _ => ∃ (vw vt : V) (dw dt : PyData), vs = [vw, vt] ∧ Dw H vw dw ∧ Dw H vt dt ∧
  (((∀ wd, dw = .str wd → wd ∉ words) ∧ ∀ H' L, Same H H' → H' L = some (.lst [.str "word", vw, .bl true]) → Q (.ref L) H') ∨
    ∃ wd p, dw = .str wd ∧ wd ∈ words ∧ Bad n dt p ∧ ∀ H' L, Same H H' → H' L = some (.lst [.str "terms", p, .bl true]) → Q (.ref L) H')
def NTo2 : List Str := ["_law_word", "_law_terms", "_law_told_here", "e"]
section
variable {P : Program} {w : World} {K : PySem.W.Frag} {mg : Str → Option Value} {base : Heap} {CW CS CT CA : Addr}
theorem scTold : FnScope NTo2 ["_law_word", "_law_terms"] (defScope sTold) :=
  ⟨rfl, rfl, rfl, by decide +kernel, rfl, by decide +kernel, by decide +kernel⟩
theorem ok_told {n : Nat} {f fP : Addr} {fd fdP : FuncData} (F : Fun K "_law_told" "_law_told" sTold f fd) (T : Nk mg) (X : Xe K mg CW CS CT CA)
    (GP : FnOk P w K mg base (L2.CX P w) (n + 4) fP fdP ["word", "terms"] (spPut CW CS n)) (kP : PySem.W.keepIn K (.ref fP) = true) (bP : Binds K fdP ["word", "terms"] []) (gP : mg "put_together" = some (.ref fP)) :
    FnOk P w K mg base CX0 (n + 5) f fd ["_law_word", "_law_terms"] (spTold n) := by
  refine F.ok scTold (fun vs H Q E h => ?_) (fun cdv A outer s H vs Q E hr h => ?_)
  · obtain ⟨vw, vt, dw, dt, rfl, _⟩ := h
    rfl
  · obtain ⟨vw, vt, dw, dt, rfl, hw, ht, h⟩ := h
    refine ⟨_, pss_cons (ps_set (i := 2) scTold.nd rfl (.inl rfl) (pe_lst (pa_cons pe_str pa_nil)))
      (pss_cons (ps_try_manyAs (i := 3) (n := "e") rfl rfl scTold.nd rfl rfl takes0
        (fun W pn xe tk _ => pss_one (ps_set (i := 2) scTold.nd rfl (.inl rfl) (pe_lst (pa_cons pe_str (pa_cons (pe_callS GP hr rfl gP kP bP (fun σ => passAt tk σ) (pa_cons (pv 0) (pa_cons (pv 1) pa_nil))) pa_nil)))))
        (HdsAs.cons (c := .ref CW) ⟨rfl, by decide, .inl X.gW⟩ (fun a oe cls d pn hz hf => pss_one (ps_set (i := 2) scTold.nd rfl (.inl rfl) (pe_lst (pa_cons pe_str (pa_cons (pe_xb X.xW X.nW hz hf (pv 3)) (pa_cons
            (pe_and (pe_callB (call_xb X.xW hz hf) (by rfl) T.isi (by decide +kernel) (pa_cons (pv 3) (pa_cons (pe_glob (v := .ref CA) (by rfl) X.gA rfl) pa_nil)))
              (pe_one (pe_not (pe_callB (call_xbT X.xW hz hf) (by rfl) T.isi (by decide +kernel) (pa_cons (pv 3) (pa_cons (pe_tup (pa_cons (pe_glob (v := .ref CS) (by rfl) X.gS rfl) (pa_cons (pe_glob (v := .ref CT) (by rfl) X.gT rfl) pa_nil))) pa_nil)))))) pa_nil))))))
        (HdsAs.cons (c := .ref CS) ⟨rfl, by decide, .inl X.gS⟩ (fun a oe cls d pn hz hf => pss_one (ps_set (i := 2) scTold.nd rfl (.inl rfl) (pe_lst (pa_cons pe_str (pa_cons (pe_xb X.xS X.nS hz hf (pv 3)) (pa_cons
            (pe_and (pe_callB (call_xb X.xS hz hf) (by rfl) T.isi (by decide +kernel) (pa_cons (pv 3) (pa_cons (pe_glob (v := .ref CA) (by rfl) X.gA rfl) pa_nil)))
              (pe_one (pe_not (pe_callB (call_xbT X.xS hz hf) (by rfl) T.isi (by decide +kernel) (pa_cons (pv 3) (pa_cons (pe_tup (pa_cons (pe_glob (v := .ref CW) (by rfl) X.gW rfl) (pa_cons (pe_glob (v := .ref CT) (by rfl) X.gT rfl) pa_nil))) pa_nil)))))) pa_nil)))))) HdsAs.nil)))
      (pss_one (ps_ret (pv 2)))), ?_⟩
    refine ⟨by rw [sizeLine_eq]; show 1 ≤ 16777216; decide, fun L0 n0 => ?_⟩
    have S0 := fresh_upd (o := .lst [V.str "other"]) n0
    rcases h with ⟨hno, k⟩ | ⟨wd, p, rfl, hwd, ⟨hf, hb⟩, k⟩
    · refine ⟨_, rfl, _, rfl, vw, vt, dw, dt, rfl, Dw.same S0 hw, Dw.same S0 ht, fun _ H1 dd S1 nd ed => ?_, fun wd e hin => absurd hin (hno wd e)⟩
      refine ⟨true, X.eWW, fun _ a na => ?_, fun q => nomatch q⟩
      refine ⟨_, rfl, rfl, rfl, dd, _, vw, rfl, ed, rfl, ?_⟩
      refine ⟨_, rfl, _, _, true, dd, _, rfl, rfl, rfl, ed, .own CA, X.kW, _, rfl, iteT ?_⟩
      refine ⟨_, rfl, by rw [sizeLine_eq]; show 2 ≤ 16777216; decide, fun tp ntp => ?_⟩
      have S2 := fresh_upd (o := .tup [V.ref CS, V.ref CT]) ntp
      refine ⟨tp, [.ref CS, .ref CT], [.ref CS, .ref CT], false, dd, _, rfl, rfl, rfl, S2 _ _ ed, upd_same, .cons (.own CS) (.cons (.own CT) .nil), X.aW, _, rfl, ?_⟩
      refine ⟨by rw [sizeLine_eq]; show 3 ≤ 16777216; decide, fun L nL => ?_⟩
      have S3 := fresh_upd (o := .lst [V.str "word", vw, V.bl true]) nL
      exact ⟨_, rfl, k _ L (S0.trans (S1.trans (S2.trans S3))) upd_same⟩
    · refine ⟨_, rfl, _, rfl, vw, vt, _, dt, rfl, Dw.same S0 hw, Dw.same S0 ht, fun hno => absurd hwd (hno wd rfl), fun wd' e hin => ?_⟩
      refine ⟨hf, fun he H1 dd S1 nd ed => ?_, fun ds i d es ei ed0 hj H1 dd S1 nd ed => ?_, fun ds es hne hall => ?_⟩
      · rcases hb with ⟨_, rfl⟩ | ⟨ds, i, d, e1, e2, _⟩
        · refine ⟨false, X.eSW, (fun q => nomatch q), fun _ => ?_⟩
          refine ⟨true, X.eSS, fun _ a na => ?_, fun q => nomatch q⟩
          refine ⟨_, rfl, rfl, rfl, dd, _, _, rfl, ed, rfl, ?_⟩
          refine ⟨_, rfl, _, _, true, dd, _, rfl, rfl, rfl, ed, .own CA, X.kS, _, rfl, iteT ?_⟩
          refine ⟨_, rfl, by rw [sizeLine_eq]; show 2 ≤ 16777216; decide, fun tp ntp => ?_⟩
          have S2 := fresh_upd (o := .tup [V.ref CW, V.ref CT]) ntp
          refine ⟨tp, [.ref CW, .ref CT], [.ref CW, .ref CT], false, dd, _, rfl, rfl, rfl, S2 _ _ ed, upd_same, .cons (.own CW) (.cons (.own CT) .nil), X.aS, _, rfl, ?_⟩
          refine ⟨by rw [sizeLine_eq]; show 3 ≤ 16777216; decide, fun L nL => ?_⟩
          have S3 := fresh_upd (o := .lst [V.str "terms", V.non, V.bl true]) nL
          exact ⟨_, rfl, k _ L (S0.trans (S1.trans (S2.trans S3))) upd_same⟩
        · have z := he ds e1
          rw [z] at e2
          cases e2
      · rcases hb with ⟨e1, _⟩ | ⟨ds2, i2, d2, e1, e2, e3, e4, rfl⟩
        · have z := e1 ds es
          rw [z] at ei
          cases ei
        · have eds : ds2 = ds := by
            rw [es] at e1
            exact (Option.some.inj e1).symm
          subst eds
          have ii : i = i2 := by
            rcases Nat.lt_trichotomy i i2 with z | z | z
            · have := e4 i d z ei
              rw [ed0] at this
              cases this
            · exact z
            · have := hj i2 d2 z e2
              rw [e3] at this
              cases this
          subst ii
          refine ⟨false, X.eSW, (fun q => nomatch q), fun _ => ?_⟩
          refine ⟨true, X.eSS, fun _ a na => ?_, fun q => nomatch q⟩
          refine ⟨_, rfl, rfl, rfl, dd, _, _, rfl, ed, rfl, ?_⟩
          refine ⟨_, rfl, _, _, true, dd, _, rfl, rfl, rfl, ed, .own CA, X.kS, _, rfl, iteT ?_⟩
          refine ⟨_, rfl, by rw [sizeLine_eq]; show 2 ≤ 16777216; decide, fun tp ntp => ?_⟩
          have S2 := fresh_upd (o := .tup [V.ref CW, V.ref CT]) ntp
          refine ⟨tp, [.ref CW, .ref CT], [.ref CW, .ref CT], false, dd, _, rfl, rfl, rfl, S2 _ _ ed, upd_same, .cons (.own CW) (.cons (.own CT) .nil), X.aS, _, rfl, ?_⟩
          refine ⟨by rw [sizeLine_eq]; show 3 ≤ 16777216; decide, fun L nL => ?_⟩
          have S3 := fresh_upd (o := .lst [V.str "terms", V.int (i : Nat), V.bl true]) nL
          exact ⟨_, rfl, k _ L (S0.trans (S1.trans (S2.trans S3))) upd_same⟩
      · exfalso
        rcases hb with ⟨e1, _⟩ | ⟨ds2, i2, d2, e1, e2, e3, _⟩
        · exact hne (e1 ds es)
        · rw [es] at e1
          cases e1
          have := hall d2 (List.mem_of_getElem? e2)
          rw [e3] at this
          cases this
end
end K40
set_option maxHeartbeats 8000000
namespace K40
open PySem PySem.Spec PyProof.Rows L2 TL

/-! ### _law_refused */ -/
abbrev sRef : Stmt := top 39
/-- repr(x), x any datum -/
def rReprA : List V → Hp → VK → Prop := fun xs H Q => ∃ (v : V) (d : PyData), xs = [v] ∧ Dw H v d ∧ d.showable = true ∧ d.depth ≤ 60 ∧ d.shown.length ≤ sizeLine ∧ Q (.str d.shown) H
theorem call_reprA {X : Cx} (hgu : X.A.guards = some []) (hu : X.A.units + 64 < cLine) (hsys : (X.K.lookup sysModules).isSome = true) : CallR X (.builtin "repr") rReprA := by
  intro pins s σ H xs us Q I r h
  obtain ⟨v, d, rfl, hd, h1, h2, h3, q⟩ := h
  have ref : ∀ b, v = .ref b → wpAny (model X.prog X.w) X.A (call (.builtin "repr") us) (EP X pins σ Q) X.xe s := fun b e => by
    subst e
    exact call_reprD hgu hu hsys pins s σ H _ us Q I r ⟨b, d, rfl, hd, h1, h2, h3, q⟩
  obtain ⟨u, rfl, ru⟩ := vals1 r
  cases hd with
  | non =>
    cases ru
    exact PySem.P.repr_of_none ⟨.str "None", H, I.tok _, ⟨_, rfl⟩, by simpa only [PyData.shown] using q⟩
  | bl b =>
    cases ru
    exact PySem.P.repr_of_bool ⟨.str (if b then "True" else "False"), H, I.tok _, ⟨_, rfl⟩, by simpa only [PyData.shown] using q⟩
  | int i =>
    obtain ⟨t, rfl⟩ := ru
    exact PySem.P.repr_of_int (by simp only [PyData.showable] at h1; exact of_decide_eq_true h1) ⟨.str _, H, I.tok _, ⟨_, rfl⟩, by simpa only [PyData.shown] using q⟩
  | str x =>
    obtain ⟨t, rfl⟩ := ru
    exact PySem.P.repr_of_str ⟨.str _, H, I.tok _, ⟨_, rfl⟩, by simpa only [PyData.shown] using q⟩ (by simpa only [PyData.shown] using h3)
  | lst _ _ => exact ref _ rfl
  | tup _ _ => exact ref _ rfl
  | dct _ _ => exact ref _ rfl
theorem rd_repr {v : V} {d : PyData} {H : Hp} {Q : VK} (hd : Dw H v d) (hs : Shw d) (hp : d.depth ≤ 60) (hm : mz d ≤ 16000000) (q : Q (.str d.shown) H) : rReprA [v] H Q := ⟨v, d, rfl, hd, hs.sh, hp, by rw [sizeLine_eq]; have := hs.ln; omega, q⟩
def NRf : List Str := ["_law_term_here", "_law_told_here", "e"]
def spRef : Sp := fun vs H Q _ => ∃ (v : V) (d : PyData), vs = [v] ∧ Dw H v d ∧ Odf d ∧ ∀ H' L, Same H H' → H' L = some (.lst [.str d.shown, .str d.shown]) → Q (.ref L) H'
section
variable {P : Program} {w : World} {K : PySem.W.Frag} {mg : Str → Option Value} {base : Heap} {CW CS CT CA : Addr}
theorem scRf : FnScope NRf ["_law_term_here"] (defScope sRef) :=
  ⟨rfl, rfl, rfl, by decide +kernel, rfl, by decide +kernel, by decide +kernel⟩
theorem ok_ref {f fR fT : Addr} {fd fdR fdT : FuncData} (F : Fun K "_law_refused" "_law_refused" sRef f fd) (X : Xe K mg CW CS CT CA) (rN : mg "repr" = none) (hsys : (K.lookup sysModules).isSome = true)
    (GR : FnOk P w K mg base (L2.CX P w) 21 fR fdR ["term"] (spRo CT 16)) (kR : PySem.W.keepIn K (.ref fR) = true) (bR : Binds K fdR ["term"] []) (gR : mg "reads_of" = some (.ref fR))
    (GT : FnOk P w K mg base (L2.CX P w) 21 fT fdT ["term"] (spTt CT 16)) (kT : PySem.W.keepIn K (.ref fT) = true) (bT : Binds K fdT ["term"] []) (gT : mg "term_text" = some (.ref fT)) :
    FnG P w K mg base 22 f fd ["_law_term_here"] spRef := by
  refine F.okG scRf (fun vs H Q h => ?_) (fun cdv A outer s H vs Q hgu hr h => ?_)
  · obtain ⟨v, d, rfl, _⟩ := h
    rfl
  · obtain ⟨v, d, rfl, hd, hO, q⟩ := h
    have hu : (A.deeper (envOfC "_law_refused" (defScope sRef) s.heap.objs.size f cdv)).units + 64 < cLine := by have := hr.units; omega
    refine ⟨_, pss_cons (ps_set (i := 1) scRf.nd rfl (.inl rfl) (pe_lst pa_nil))
      (pss_cons (ps_try_as (i := 2) (ts := fun a cls d => tDrop (tBM K "list" rAppend (tVar 1) (tCons (tCB rReprA (tCons (tXb a cls d CT "value" (tVar 2)) tNil)) tNil))) rfl rfl scRf.nd rfl rfl ⟨rfl, by decide, .inl X.gT⟩ takes0
        (fun W pn xe tk _ => pss_one (ps_expr (pe_callS GR hr rfl gR kR bR (fun σ => passAt tk σ) (pa_cons (pv 0) pa_nil))))
        (fun a oe cls d pn hz hf => pss_one (ps_expr (pe_bm PySem.F.plainAttrs_list PySem.F.slot_list_append PySem.F.type_list_append mt_append (pv 1) (pa_cons (pe_callB (call_reprA hgu hu hsys) (by rfl) rN (by decide +kernel) (pa_cons (pe_xb X.xT X.nT hz hf (pv 2)) pa_nil)) pa_nil)))))
      (pss_cons (ps_try_as (i := 2) (ts := fun a cls d => tDrop (tBM K "list" rAppend (tVar 1) (tCons (tCB rReprA (tCons (tXb a cls d CT "value" (tVar 2)) tNil)) tNil))) rfl rfl scRf.nd rfl rfl ⟨rfl, by decide, .inl X.gT⟩ takes0
        (fun W pn xe tk _ => pss_one (ps_expr (pe_callS GT hr rfl gT kT bT (fun σ => passAt tk σ) (pa_cons (pv 0) pa_nil))))
        (fun a oe cls d pn hz hf => pss_one (ps_expr (pe_bm PySem.F.plainAttrs_list PySem.F.slot_list_append PySem.F.type_list_append mt_append (pv 1) (pa_cons (pe_callB (call_reprA hgu hu hsys) (by rfl) rN (by decide +kernel) (pa_cons (pe_xb X.xT X.nT hz hf (pv 2)) pa_nil)) pa_nil)))))
      (pss_one (ps_ret (pv 1))))), ?_⟩
    refine ⟨Nat.zero_le _, fun L nL => ?_⟩
    have S0 := fresh_upd (o := .lst []) nL
    refine ⟨_, rfl, v, d, rfl, Dw.same S0 hd, hO.fi, fun _ H1 dd S1 nd ed => ?_, fun e => absurd e (by rw [hO.no]; exact Bool.false_ne_true)⟩
    refine ⟨true, X.eTT, fun _ a na => ?_, fun q => nomatch q⟩
    have eL1 := S1 _ _ (show upd H L (.lst []) L = some (.lst []) from upd_same)
    refine ⟨_, rfl, .inl ⟨rfl, _, SqL.of eL1⟩, _, rfl, rfl, rfl, dd, _, v, rfl, ed, rfl, ?_⟩
    have d1 := Dw.same (S0.trans S1) hd
    dsimp only [tNil, tCons]
    refine rd_repr d1 hO.sh (Nat.le_trans hO.fi.dep (by decide)) (by have := hO.mz; omega) ?_
    refine ⟨L, [], _, rfl, rfl, eL1, by rw [sizeLine_eq]; show 0 < 16777216; decide, ?_⟩
    have S2 : Same H (upd H1 L (.lst ([] ++ [V.str d.shown]))) := fun b o e => by
      rw [upd_ne (ne_of_none e nL)]
      exact S1 _ _ (S0 _ _ e)
    refine ⟨_, rfl, v, d, rfl, Dw.same S2 hd, hO.fi, fun _ H3 d3 S3 n3 e3 => ?_, fun e => absurd e (by rw [hO.no]; exact Bool.false_ne_true)⟩
    refine ⟨true, X.eTT, fun _ a na => ?_, fun q => nomatch q⟩
    have eL3 := S3 _ _ (show upd H1 L (.lst ([] ++ [V.str d.shown])) L = some (.lst [V.str d.shown]) from upd_same)
    refine ⟨_, rfl, .inl ⟨rfl, _, SqL.of eL3⟩, _, rfl, rfl, rfl, d3, _, v, rfl, e3, rfl, ?_⟩
    have d3' := Dw.same (S2.trans S3) hd
    dsimp only [tNil, tCons]
    refine rd_repr d3' hO.sh (Nat.le_trans hO.fi.dep (by decide)) (by have := hO.mz; omega) ?_
    refine ⟨L, _, _, rfl, rfl, eL3, by rw [sizeLine_eq]; show 1 < 16777216; decide, ?_⟩
    have S4 : Same H (upd H3 L (.lst ([V.str d.shown] ++ [V.str d.shown]))) := fun b o e => by
      rw [upd_ne (ne_of_none e nL)]
      exact S3 _ _ (S2 _ _ e)
    exact ⟨_, rfl, q _ L S4 upd_same⟩
end
end K40
set_option maxHeartbeats 8000000
namespace K40
open PySem PySem.Spec PyProof.Rows L2 TL

/-! ### _law_bag_right */ -/
abbrev sBr : Stmt := top 40
/-- put_together of terms -/
theorem rd_put {CW CS : Addr} {H : Hp} {wd : Str} {vt : V} {dt : PyData} {ds : List PyData} {Q : VK} {E : XK} (hw : wd ∈ words) (hd : Dw H vt dt) (es : seqOf dt = some ds) (hn : ds ≠ []) (hT : AllT ds) (hf : ∀ d ∈ ds, Fine 16 d) (hl : ds.length ≤ 700)
    (q : ∀ H' v, Same H H' → Dw H' v (putD wd ds) → Q v H') : spPut CW CS 16 [.str wd, vt] H Q E := by
  refine ⟨.str wd, vt, .str wd, dt, rfl, .str wd, hd, fun h => absurd hw (h wd rfl), fun wd' e hw' => ?_⟩
  cases e
  refine ⟨fun ds' e => ?_, fun h => absurd (h ds es) hn, fun ds' i d e ei hT' => ?_, fun ds' e _ _ H' v S hv => ?_⟩
  · rw [es] at e
    cases e
    exact ⟨hl, hf⟩
  · rw [es] at e
    cases e
    have := hT d (List.mem_of_getElem? ei)
    rw [hT'] at this
    cases this
  · rw [es] at e
    cases e
    exact q H' v S hv
theorem cut_to {xs : List V} {k : Nat} (h : k ≤ xs.length) : cutV xs none (some ((k : Nat) : Int)) = xs.take k := by
  have e1 : HT.sIx xs.length 0 none = 0 := rfl
  have e2 : HT.sIx xs.length xs.length (some ((k : Nat) : Int)) = k := by
    rw [HT.sIx_nat]
    omega
  unfold cutV
  rw [e1, e2]
  rfl
theorem cut_from {xs : List V} {k : Nat} (h : k ≤ xs.length) : cutV xs (some ((k : Nat) : Int)) none = xs.drop k := by
  have e1 : HT.sIx xs.length xs.length none = xs.length := rfl
  have e2 : HT.sIx xs.length 0 (some ((k : Nat) : Int)) = k := by
    rw [HT.sIx_nat]
    omega
  unfold cutV
  rw [e1, e2, List.take_of_length_le]
  rw [List.length_drop]
  omega
theorem dwa_drop {H : Hp} : ∀ {xs : List V} {ds : List PyData}, DwAll H xs ds → ∀ n, DwAll H (xs.drop n) (ds.drop n)
  | _, _, .nil, n => by
    rw [List.drop_nil, List.drop_nil]
    exact .nil
  | _, _, .cons h t, 0 => .cons h t
  | _, _, .cons h t, n + 1 => dwa_drop t n
theorem dwa_rev {H : Hp} : ∀ {xs : List V} {ds : List PyData}, DwAll H xs ds → DwAll H xs.reverse ds.reverse
  | _, _, .nil => .nil
  | _, _, .cons h t => by
    rw [List.reverse_cons, List.reverse_cons]
    exact dwa_app (dwa_rev t) (.cons h .nil)
def NBr : List Str := ["_law_rng_here", "_law_word", "_law_bag_here", "_law_shown", "_law_due", "_law_at", "_law_parts", "_law_told_here", "_law_some", "_law_term_here"]
def spBr : Sp := fun vs H Q _ => ∃ r : Addr, vs = [.ref r] ∧ Rg H r ∧ ∀ H', Rg H' r → But r H H' → Q (.bl true) H'
structure BrX (P : Program) (w : World) (K : PySem.W.Frag) (mg : Str → Option Value) (base : Heap) (CW CS : Addr) : Prop where
  lm : LmX P w K mg base
  bg : ∃ f fd, mg "_law_bag" = some (.ref f) ∧ FnOk P w K mg base CX0 8 f fd ["_law_rng_here", "_law_deep"] (spLbg 2) ∧ PySem.W.keepIn K (.ref f) = true ∧ Binds K fd ["_law_rng_here", "_law_deep"] []
  pt : ∃ f fd, mg "put_together" = some (.ref f) ∧ FnOk P w K mg base (L2.CX P w) 20 f fd ["word", "terms"] (spPut CW CS 16) ∧ PySem.W.keepIn K (.ref f) = true ∧ Binds K fd ["word", "terms"] []
  tm : ∃ f fd, mg "is_term" = some (.ref f) ∧ FnOk P w K mg base CX0 19 f fd ["value"] (spTerm 16) ∧ PySem.W.keepIn K (.ref f) = true ∧ Binds K fd ["value"] []
  repr : mg "repr" = none
  tuple : mg "tuple" = none
  len : mg "len" = none
  all : mg "all" = none
section
variable {P : Program} {w : World} {K : PySem.W.Frag} {mg : Str → Option Value} {base : Heap} {CW CS : Addr}
theorem scBr : FnScope NBr ["_law_rng_here"] (defScope sBr) :=
  ⟨rfl, rfl, rfl, by decide +kernel, rfl, by decide +kernel, by decide +kernel⟩
theorem ok_br {f : Addr} {fd : FuncData} (F : Fun K "_law_bag_right" "_law_bag_right" sBr f fd) (X : BrX P w K mg base CW CS) (hsys : (K.lookup sysModules).isSome = true) : FnG P w K mg base 22 f fd ["_law_rng_here"] spBr := by
  obtain ⟨fD, fdD, gD, GD, kD, bD⟩ := X.lm.dr
  obtain ⟨fC, fdC, gC, GC, kC, bC⟩ := X.lm.ch
  obtain ⟨fL, fdL, gL, GL, kL, bL⟩ := X.lm.pt
  obtain ⟨fB, fdB, gB, GB, kB, bB⟩ := X.bg
  obtain ⟨fP, fdP, gP, GP, kP, bP⟩ := X.pt
  obtain ⟨fT, fdT, gT, GT, kT, bT⟩ := X.tm
  have GD2 := GD.mono (k := 21) (by omega)
  have GC2 := GC.mono (k := 21) (by omega)
  have GL2 := GL.mono (k := 21) (by omega)
  have GB2 := GB.mono (k := 21) (by omega)
  have GP2 := GP.mono (k := 21) (by omega)
  have GT2 := GT.mono (k := 21) (by omega)
  refine F.okG scBr (fun vs H Q h => ?_) (fun cdv A outer s H vs Q hgu hr h => ?_)
  · obtain ⟨r, rfl, _⟩ := h
    rfl
  · obtain ⟨r, rfl, hR, q⟩ := h
    have hu : (A.deeper (envOfC "_law_bag_right" (defScope sBr) s.heap.objs.size f cdv)).units + 64 < cLine := by have := hr.units; omega
    refine ⟨_, pss_cons (ps_asg (pe_tup (pa_cons (pe_call (E := E0) GC2 hr rfl gC kC bC .nil pass0 (pa_cons (pv 0) (pa_cons (pe_lst (pa_cons pe_str (pa_cons pe_str (pa_cons pe_str pa_nil)))) pa_nil)))
        (pa_cons (pe_call (E := E0) GB2 hr rfl gB kB bB .nil pass0 (pa_cons (pv 0) (pa_cons pe_int pa_nil))) pa_nil))) (pg_tup rfl (pgs_cons (pg_name (i := 1) scBr.nd rfl (Or.inr rfl)) (pgs_cons (pg_name (i := 2) scBr.nd rfl (Or.inl rfl)) pgs_nil))))
      (pss_cons (ps_par (i := 3) (j := 4) (by rfl) scBr.nd rfl rfl (by decide) rfl rfl (pa_cons (pe_callB (call_reprA hgu hu hsys) (by rfl) X.repr (by decide +kernel) (pa_cons (pv 2) pa_nil))
        (pa_cons (pe_call (E := E0) GL2 hr rfl gL kL bL .nil pass0 (pa_cons (pv 1) (pa_cons (pv 2) pa_nil))) pa_nil)) (by rfl))
      (pss_cons (ps_set (i := 5) scBr.nd rfl (.inl rfl) (pe_op op_add pe_int (pe_call (E := E0) GD2 hr rfl gD kD bD .nil pass0 (pa_cons (pv 0) (pa_cons (pe_callB call_len_seq (by rfl) X.len PySem.boot_len (pa_cons (pv 2) pa_nil)) pa_nil)))))
      (pss_cons (ps_set (i := 6) scBr.nd rfl (.inl rfl) (pe_op op_cat (pe_lst (pa_cons (pe_call (E := E0) GP2 hr rfl gP kP bP .nil pass0C (pa_cons (pv 1) (pa_cons (pe_slice sl_list (pv 2) po_none (po_some (pv 5))) pa_nil))) pa_nil))
        (pe_lc (own := [("_law_some", 8)]) (g := gName 8) (tt := tTest (tOp (rNeD K) (tVar 8) (tLst tNil))) (te := tCall (spPut CW CS 16) [] E0 (tCons (tVar 1) (tCons (tVar 8) tNil))) rfl scBr.nd
          (pi_list (pe_lst (pa_cons (pe_slice sl_list (pv 2) (po_some (pv 5)) po_none) pa_nil)))
          (blkOk_by (own := [("_law_some", 8)]) (N := NBr) (sc := defScope sBr) (by decide +kernel)) (fun _ _ _ _ _ => pg_name (i := 8) scBr.nd rfl (Or.inl rfl))
          (fun _ _ _ _ _ => pts_one (by exact pt_cmpR (op_neD hu) (pv 8) (pe_lst pa_nil) rfl)) (fun _ _ _ _ _ => by exact pe_call (E := E0) GP2 hr rfl gP kP bP .nil pass0C (pa_cons (pv 1) (pa_cons (pv 8) pa_nil))))))
      (pss_cons (ps_set (i := 7) scBr.nd rfl (.inl rfl) (pe_lst (pa_cons (pe_call (E := E0) GP2 hr rfl gP kP bP .nil pass0C (pa_cons (pv 1) (pa_cons (pv 2) pa_nil)))
        (pa_cons (pe_call (E := E0) GP2 hr rfl gP kP bP .nil pass0C (pa_cons (pv 1) (pa_cons (pe_callTy call_tuple_of (by rfl) X.tuple (by decide +kernel) (pa_cons (pe_revL (pv 2)) pa_nil)) pa_nil)))
        (pa_cons (pe_call (E := E0) GP2 hr rfl gP kP bP .nil pass0C (pa_cons (pv 1) (pa_cons (pv 6) pa_nil))) pa_nil)))))
      (pss_cons (ps_if (PW.pt (pw_or (pt_cmpR op_ne (pe_callB (call_reprA hgu hu hsys) (by rfl) X.repr (by decide +kernel) (pa_cons (pv 7) pa_nil)) (pe_callB (call_reprA hgu hu hsys) (by rfl) X.repr (by decide +kernel) (pa_cons (pe_op op_rep (pe_lst (pa_cons (pv 4) pa_nil)) pe_int) pa_nil)) (nomark _))
          (pw_or (pt_cmpR op_ne (pe_callB (call_reprA hgu hu hsys) (by rfl) X.repr (by decide +kernel) (pa_cons (pv 2) pa_nil)) (pv 3) (nomark _))
            (pw_or1 (pt_cmpR op_ne (pe_callB (call_reprA hgu hu hsys) (by rfl) X.repr (by decide +kernel) (pa_cons (pe_call (E := E0) GP2 hr rfl gP kP bP .nil pass0C (pa_cons (pv 1) (pa_cons (pe_lst (pa_cons (pv 4) pa_nil)) pa_nil))) pa_nil)) (pe_callB (call_reprA hgu hu hsys) (by rfl) X.repr (by decide +kernel) (pa_cons (pv 4) pa_nil)) (nomark _))))))
        (pss_one (ps_ret pe_bl)) pss_nil)
      (pss_one (ps_ret (pe_and (pe_cmpR op_is_bl (pe_call (E := E0) GT2 hr rfl gT kT bT .nil pass0 (pa_cons (pv 4) pa_nil)) pe_bl rfl)
        (pe_one (pe_callB (cr_all rfl) (by rfl) X.all (by decide +kernel) (pa_cons
          (pe_lc (own := [("_law_term_here", 9)]) (g := gName 9) (tt := tYes) (te := tOp (fun x y H Q => ∃ a b, x = .bl a ∧ y = .bl b ∧ Q (.bl (decide (a = b))) H) (tCall (spTerm 16) [] E0 (tCons (tVar 9) tNil)) (tC (.bl true))) rfl scBr.nd (pi_list (pv 2))
            (blkOk_by (own := [("_law_term_here", 9)]) (N := NBr) (sc := defScope sBr) (by decide +kernel)) (fun _ _ _ _ _ => pg_name (i := 9) scBr.nd rfl (Or.inl rfl)) (fun _ _ _ _ _ => pts_nil)
            (fun _ _ _ _ _ => by exact pe_cmpR op_is_bl (pe_call (E := E0) GT2 hr rfl gT kT bT .nil pass0 (pa_cons (pv 9) pa_nil)) pe_bl rfl)) pa_nil))))))))))), ?_⟩
    refine ⟨_, rfl, by rw [sizeLine_eq]; show 3 ≤ 16777216; decide, fun L nL => ?_⟩
    have S1 := fresh_upd (o := .lst [V.str "sum", V.str "greatest", V.str "least"]) nL
    have hR1 := hR.same S1
    refine ⟨r, L, _, rfl, hR1, (hR.ne nL).symm, upd_same, by decide, by decide, fun H2 v hv hR2 B2 => ?_⟩
    have B02 := (But.of S1).trans B2
    obtain ⟨wd, hw, rfl⟩ : ∃ s ∈ words, v = V.str s := by
      have z : v ∈ words.map V.str := hv
      obtain ⟨s, hs, e⟩ := List.mem_map.mp z
      exact ⟨s, hs, e.symm⟩
    refine ⟨_, rfl, r, rfl, hR2, fun H3 M xs ds hR3 B3 nM Mr hM hx hl hne h5 => ?_⟩
    have hT : AllT ds := fun d hd => (hl d hd).t
    have hF : ∀ d ∈ ds, Fine 16 d := fun d hd => (hl d hd).fine (by omega) (by omega)
    have hdue := lk_put (k := 2) (by omega) hw hne h5 hl
    have hsD := shw_T hdue.t hdue.gd
    have hxl := hx.length
    refine ⟨by rw [sizeLine_eq]; show 2 ≤ 16777216; decide, fun T nT => ?_⟩
    have S4 := fresh_upd (o := .tup [V.str wd, V.ref M]) nT
    refine ⟨T, _, rfl, sqT_of upd_same, rfl, _, _, rfl, _, _, rfl, rfl, ?_⟩
    have B04 := (B02.trans B3).trans (But.of S4)
    have hR4 := hR3.same S4
    have hM4 := S4 _ _ hM
    have hx4 := DwAll.same S4 hx
    have shL : Shw (.list ds) := Shw.lst fun d hd => shw_T (hT d hd) (hF d hd).gd
    have dpL : (PyData.list ds).depth ≤ 60 := Nat.le_trans (fin_lst (n := 16) fun x hx => (hF x hx).dep).dep (by decide)
    have mzL : mz (.list ds) ≤ 16000000 := by
      have e : mz (.list ds) = 90 + mzs ds := by rw [mz]
      have z := su_le (f := fun t => mz t + 2) (B := mB 3 + 2) (ts := ds) fun t ht => by
        have := ((hl t ht).up (k := 3) (by omega)).mz
        show mz t + 2 ≤ mB 3 + 2
        omega
      have z2 := Nat.mul_le_mul_right (mB 3 + 2) h5
      rw [e, mzs_su]
      have := mB3
      omega
    generalize upd H3 T (.tup [V.str wd, V.ref M]) = H4 at S4 B04 hR4 hM4 hx4
    refine ⟨_, rfl, ?_⟩
    dsimp only [tCons, tNil]
    refine rd_repr (.lst hM4 hx4) shL dpL mzL ?_
    refine ⟨_, rfl, _, rfl, wd, M, xs, ds, rfl, hw, hM4, hx4, hT, fun d hd => (hF d hd).up (by omega), by omega, fun H5 vd S5 hvd => ?_⟩
    refine ⟨_, _, rfl, ?_⟩
    have hR5 := hR4.same S5
    have hM5 := S5 _ _ hM4
    have hx5 := DwAll.same S5 hx4
    refine ⟨_, rfl, _, rfl, M, xs, rfl, .inl (SqL.of hM5), r, _, rfl, hR5, by have : ds.length ≠ 0 := fun e => hne (List.length_eq_zero_iff.mp e); omega, by omega, fun H6 d d0 d1 hR6 B6 => ?_⟩
    obtain ⟨n, rfl⟩ : ∃ n : Nat, d = (n : Int) := ⟨d.toNat, by omega⟩
    refine ⟨_, _, rfl, rfl, ?_⟩
    have eat : (1 : Int) + (n : Int) = ((n + 1 : Nat) : Int) := by omega
    have hn : n + 1 ≤ xs.length := by omega
    have P6 := Stp.but hR5 B6
    have hM6 := B6 _ _ Mr hM5
    have hx6 := DwAll.stp P6 hT hx5
    have hd6 := Dw.stp P6 hdue.t hvd
    have B06 := (B04.trans (But.of S5)).trans B6
    -- the parts
    refine ⟨_, rfl, _, rfl, _, rfl, _, rfl, M, xs, rfl, SqL.of hM6, fun p np => ?_⟩
    rw [eat, cut_to hn]
    have S7 := fresh_upd (o := .lst (xs.take (n + 1))) np
    dsimp only [tCons, tNil, List.cons_append, List.nil_append]
    have hxp := DwAll.same S7 (dwa_take hx6 (n + 1))
    have hTt : AllT (ds.take (n + 1)) := fun d hd => hT d (List.mem_of_mem_take hd)
    have net : ds.take (n + 1) ≠ [] := fun e => by
      have := congrArg List.length e
      rw [List.length_take] at this
      simp only [List.length_nil] at this
      omega
    refine rd_put (dt := .list (ds.take (n + 1))) hw (.lst upd_same hxp) rfl net hTt (fun d hd => hF d (List.mem_of_mem_take hd)) (by rw [List.length_take]; omega) fun H8 v1 S8 hv1 => ?_
    refine ⟨by rw [sizeLine_eq]; show 1 ≤ 16777216; decide, fun P1 nP1 => ?_⟩
    have S9 := fresh_upd (o := .lst [v1]) nP1
    have S69 := S7.trans (S8.trans S9)
    have hp1 : isT (putD wd (ds.take (n + 1))) = true := put_T hw hTt net
    have e1 : upd H8 P1 (.lst [v1]) P1 = some (.lst [v1]) := upd_same
    have hv1' := Dw.same S9 hv1
    generalize upd H8 P1 (.lst [v1]) = H9 at S69 e1 hv1'
    refine ⟨_, rfl, _, rfl, _, rfl, M, xs, rfl, SqL.of (S69 _ _ hM6), fun p2 np2 => ?_⟩
    rw [eat, cut_from hn]
    have S10 := fresh_upd (o := .lst (xs.drop (n + 1))) np2
    refine ⟨by rw [sizeLine_eq]; show 1 ≤ 16777216; decide, fun l2 nl2 => ?_⟩
    have S11 := fresh_upd (o := .lst [V.ref p2]) nl2
    refine ⟨l2, rfl, ⟨_, SqL.of upd_same⟩, fun D nD => ?_⟩
    have S9b := S10.trans S11
    have el2 : upd (upd H9 p2 (.lst (xs.drop (n + 1)))) l2 (.lst [V.ref p2]) l2 = some (.lst [V.ref p2]) := upd_same
    have ep2 := S11 _ _ (show upd H9 p2 (.lst (xs.drop (n + 1))) p2 = _ from upd_same)
    generalize upd (upd H9 p2 (.lst (xs.drop (n + 1)))) l2 (.lst [V.ref p2]) = HC at S9b el2 ep2 nD
    have S6C := S69.trans S9b
    have hxC := DwAll.same S6C (dwa_drop hx6 (n + 1))
    have hTd : AllT (ds.drop (n + 1)) := fun d hd => hT d (List.mem_of_mem_drop hd)
    let rest : List PyData := if ds.drop (n + 1) = [] then [] else [putD wd (ds.drop (n + 1))]
    refine lc_it (walk_list (K := K) (a := l2) (xs := [V.ref p2])) (fun i H2 => Same HC H2 ∧ ∃ ys, H2 D = some (.lst ys) ∧ DwAll H2 ys (if i = 0 then [] else rest)) ⟨fresh_upd nD, [], upd_same, .nil⟩ (fun i H2 _ h => SqL.of (h.1 _ _ el2)) ?_ ?_
    · rintro i x H2 H3 hi ⟨S, ys, hD, hy⟩ ⟨rfl, hx⟩
      have i0 : i = 0 := by
        simp only [List.length_singleton] at hi
        omega
      subst i0
      cases hx
      rw [if_pos rfl] at hy
      cases hy
      refine ⟨rfl, _, rfl, Nat.zero_le _, fun z nz => ?_⟩
      have Sz := fresh_upd (o := .lst []) nz
      have ep3 := (S.trans Sz) _ _ ep2
      have hx3 := DwAll.same (S.trans Sz) hxC
      have shD : SeqAt.shaped (.list (ds.drop (n + 1))) = true := by
        unfold SeqAt.shaped
        have z := (fin_lst (n := 16) (xs := ds.drop (n + 1)) fun x hx => (hF x (List.mem_of_mem_drop hx)).dep).dep
        rw [decide_eq_true (Nat.le_trans z (by decide)), Bool.and_true]
        simp only [PyData.canLay0]
        exact lays_of fun t ht => lay_T (hTd t ht)
      have Dr : D ≠ z := ne_of_none hD nz
      have hDz := Sz _ _ hD
      refine ⟨_, _, Dw.dp (.lst ep3 hx3) (SeqAt.canLay_of_shaped shD), Dw.dp (.lst upd_same .nil) (by simp [PyData.canLay0, PyData.canLayAll0]), shD, (by decide), _, rfl, ?_⟩
      by_cases he : ds.drop (n + 1) = []
      · have er : rest = [] := if_pos he
        rw [he]
        refine iteF ?_
        exact ⟨S.trans Sz, [], hDz, by rw [if_neg (by omega), er]; exact .nil⟩
      · have er : rest = [putD wd (ds.drop (n + 1))] := if_neg he
        have eq0 : PyData.eqv (.list (ds.drop (n + 1))) (.list []) = false := by
          cases hh : ds.drop (n + 1) with
          | nil => exact absurd hh he
          | cons _ _ => simp [PyData.eqv, PyData.eqvAll]
        rw [eq0]
        refine iteT' rfl ?_
        refine ⟨_, rfl, _, rfl, ?_⟩
        dsimp only [tCons, tNil, List.cons_append, List.nil_append]
        refine rd_put (dt := .list (ds.drop (n + 1))) hw (.lst ep3 hx3) rfl he hTd (fun d hd => hF d (List.mem_of_mem_drop hd)) (by rw [List.length_drop]; omega) fun H5 v2 S5 hv2 => ?_
        have hD5 := S5 _ _ hDz
        have nt : ∀ ys, H5 D ≠ some (.tup ys) := fun ys e => by rw [hD5] at e; cases e
        refine ⟨[], hD5, by rw [sizeLine_eq]; show 0 < 16777216; decide, fun b o e => ?_, [v2], upd_same, ?_⟩
        · rw [upd_ne (ne_of_none e nD)]
          exact S5 _ _ ((S.trans Sz) _ _ e)
        · rw [if_neg (by omega), er]
          exact .cons (Dw.stp (Stp.lst nt) (put_T hw hTd he) hv2) .nil
    · rintro HD ⟨SD, ys, hD, hy⟩
      have hy : DwAll HD ys rest := hy
      have rl : rest.length ≤ 1 := by
        show (if ds.drop (n + 1) = [] then [] else [putD wd (ds.drop (n + 1))]).length ≤ 1
        split <;> simp
      have lys := hy.length
      have S9D := S9b.trans SD
      refine ⟨P1, D, [v1], ys, rfl, rfl, S9D _ _ e1, hD, by rw [sizeLine_eq]; show 1 + ys.length ≤ 16777216; omega, fun PL nPL => ?_⟩
      have SE := fresh_upd (o := .lst ([v1] ++ ys)) nPL
      have S6E := S6C.trans (SD.trans SE)
      have hPL : upd HD PL (.lst ([v1] ++ ys)) PL = some (.lst ([v1] ++ ys)) := upd_same
      have hparts : DwAll (upd HD PL (.lst ([v1] ++ ys))) ([v1] ++ ys) (putD wd (ds.take (n + 1)) :: rest) := .cons (Dw.same (S9D.trans SE) hv1') (DwAll.same SE hy)
      generalize upd HD PL (.lst ([v1] ++ ys)) = HE at S6E hPL hparts
      have hME := S6E _ _ hM6
      have hxE := DwAll.same S6E hx6
      have hdE := Dw.same S6E hd6
      have hTp : AllT (putD wd (ds.take (n + 1)) :: rest) := fun t ht => by
        rcases List.mem_cons.mp ht with rfl | ht
        · exact hp1
        · by_cases he : ds.drop (n + 1) = []
          · have er : rest = [] := if_pos he
            rw [er] at ht
            cases ht
          · have er : rest = [putD wd (ds.drop (n + 1))] := if_neg he
            rw [er] at ht
            rw [List.mem_singleton.mp ht]
            exact put_T hw hTd he
      have hFp : ∀ t ∈ putD wd (ds.take (n + 1)) :: rest, Fine 16 t := fun t ht => by
        rcases List.mem_cons.mp ht with rfl | ht
        · exact (lk_put (k := 2) (by omega) hw net (by rw [List.length_take]; omega) fun d hd => hl d (List.mem_of_mem_take hd)).fine (by omega) (by omega)
        · by_cases he : ds.drop (n + 1) = []
          · have er : rest = [] := if_pos he
            rw [er] at ht
            cases ht
          · have er : rest = [putD wd (ds.drop (n + 1))] := if_neg he
            rw [er] at ht
            rw [List.mem_singleton.mp ht]
            exact (lk_put (k := 2) (by omega) hw he (by rw [List.length_drop]; omega) fun d hd => hl d (List.mem_of_mem_drop hd)).fine (by omega) (by omega)
      have edue : putD wd (putD wd (ds.take (n + 1)) :: rest) = putD wd ds := by
        by_cases he : ds.drop (n + 1) = []
        · have er : rest = [] := if_pos he
          have et : ds.take (n + 1) = ds := by
            have := List.take_append_drop (n + 1) ds
            rw [he, List.append_nil] at this
            exact this
          rw [er, et]
          exact put_one hw hT
        · have er : rest = [putD wd (ds.drop (n + 1))] := if_neg he
          rw [er, put_two hw hTt hTd net he, List.take_append_drop]
      refine ⟨_, rfl, _, rfl, ?_⟩
      dsimp only [tCons, tNil, List.cons_append, List.nil_append]
      refine rd_put (dt := .list ds) hw (.lst hME hxE) rfl hne hT hF (by omega) fun H21 w1 S21 hw1 => ?_
      refine ⟨_, rfl, _, rfl, M, xs, rfl, SqL.of (S21 _ _ hME), fun pr npr => ?_⟩
      have S22 := fresh_upd (o := .lst xs.reverse) npr
      refine ⟨pr, xs.reverse, rfl, .inl ⟨SqL.of upd_same, fun tr ntr => ?_⟩⟩
      have S23 := fresh_upd (o := .tup xs.reverse) ntr
      dsimp only [tCons, tNil, List.cons_append, List.nil_append]
      have SEr := S21.trans (S22.trans S23)
      refine rd_put (dt := .tuple ds.reverse) hw (.tup upd_same (dwa_rev (DwAll.same SEr hxE))) rfl (by simpa using hne) (fun t ht => hT t (List.mem_reverse.mp ht)) (fun t ht => hF t (List.mem_reverse.mp ht)) (by rw [List.length_reverse]; omega) fun H24 w2 S24 hw2 => ?_
      rw [put_perm hw (fun t ht => hT t (List.mem_reverse.mp ht)) (List.reverse_perm ds)] at hw2
      have SE4 := SEr.trans S24
      refine ⟨_, rfl, _, rfl, ?_⟩
      dsimp only [tCons, tNil, List.cons_append, List.nil_append]
      refine rd_put (dt := .list (putD wd (ds.take (n + 1)) :: rest)) hw (.lst (SE4 _ _ hPL) (DwAll.same SE4 hparts)) rfl (by simp) hTp hFp (by rw [List.length_cons]; omega) fun H25 w3 S25 hw3 => ?_
      rw [edue] at hw3
      refine ⟨by rw [sizeLine_eq]; show 3 ≤ 16777216; decide, fun TL nTL => ?_⟩
      have S26 := fresh_upd (o := .lst [w1, w2, w3]) nTL
      have SE6 := SE4.trans (S25.trans S26)
      have hTL : Dw (upd H25 TL (.lst [w1, w2, w3])) (.ref TL) (.list [putD wd ds, putD wd ds, putD wd ds]) := .lst upd_same (.cons (Dw.same (S22.trans (S23.trans (S24.trans (S25.trans S26)))) hw1) (.cons (Dw.same (S25.trans S26) hw2) (.cons (Dw.same S26 hw3) .nil)))
      generalize upd H25 TL (.lst [w1, w2, w3]) = HT at SE6 hTL
      have hMT := SE6 _ _ hME
      have hxT := DwAll.same SE6 hxE
      have hdT := Dw.same SE6 hdE
      have sh3 : Shw (.list [putD wd ds, putD wd ds, putD wd ds]) := Shw.lst (all3 hsD hsD hsD)
      have dp3 : (PyData.list [putD wd ds, putD wd ds, putD wd ds]).depth ≤ 60 := Nat.le_trans (fin_lst (n := 7) (all3 hdue.dp hdue.dp hdue.dp)).dep (by decide)
      have mz3 : mz (.list [putD wd ds, putD wd ds, putD wd ds]) ≤ 16000000 := by
        have := hdue.mz
        have e3 : mB (2 + 1) = 50210 := mB3
        rw [mz]
        simp only [mzs]
        omega
      have mzD : mz (putD wd ds) ≤ 16000000 := by
        have := hdue.mz
        have e3 : mB (2 + 1) = 50210 := mB3
        omega
      have dpD : (putD wd ds).depth ≤ 60 := Nat.le_trans hdue.dp (by decide)
      refine ⟨_, rfl, ?_⟩
      dsimp only [tCons, tNil]
      refine rd_repr hTL sh3 dp3 mz3 ?_
      refine ⟨_, rfl, by rw [sizeLine_eq]; show 1 ≤ 16777216; decide, fun d1 nd1 => ?_⟩
      have S31 := fresh_upd (o := .lst [vd]) nd1
      refine ⟨d1, 3, [vd], rfl, rfl, upd_same, by decide, by decide, by rw [sizeLine_eq]; show 3 ≤ 16777216; decide, fun d3 nd3 => ?_⟩
      have S32 := fresh_upd (o := .lst (List.replicate (3 : Int).toNat [vd]).flatten) nd3
      have SF := S31.trans S32
      have hd3 : Dw (upd (upd HT d1 (.lst [vd])) d3 (.lst (List.replicate (3 : Int).toNat [vd]).flatten)) (.ref d3) (.list [putD wd ds, putD wd ds, putD wd ds]) := .lst (xs := [vd, vd, vd]) upd_same (.cons (Dw.same SF hdT) (.cons (Dw.same SF hdT) (.cons (Dw.same SF hdT) .nil)))
      dsimp only [tCons, tNil]
      refine rd_repr hd3 sh3 dp3 mz3 ?_
      refine ⟨rfl, _, rfl, ?_⟩
      rw [decide_eq_true rfl]
      refine iteF ?_
      generalize upd (upd HT d1 (.lst [vd])) d3 (.lst (List.replicate (3 : Int).toNat [vd]).flatten) = HF at SF
      refine ⟨_, rfl, ?_⟩
      dsimp only [tCons, tNil]
      refine rd_repr (.lst (SF _ _ hMT) (DwAll.same SF hxT)) shL dpL mzL ?_
      refine ⟨_, rfl, rfl, _, rfl, ?_⟩
      rw [decide_eq_true rfl]
      refine iteF ?_
      refine ⟨_, rfl, _, rfl, by rw [sizeLine_eq]; show 1 ≤ 16777216; decide, fun d4 nd4 => ?_⟩
      have S41 := fresh_upd (o := .lst [vd]) nd4
      dsimp only [tCons, tNil, List.cons_append, List.nil_append]
      refine rd_put (dt := .list [putD wd ds]) hw (.lst upd_same (.cons (Dw.same (SF.trans S41) hdT) .nil)) rfl (by simp) (all1 hdue.t) (all1 (hdue.fine (by omega) (by omega))) (by simp) fun H42 w4 S42 hw4 => ?_
      rw [put_one hw hT] at hw4
      refine rd_repr hw4 hsD dpD mzD ?_
      have SG := SF.trans (S41.trans S42)
      refine ⟨_, rfl, ?_⟩
      dsimp only [tCons, tNil]
      refine rd_repr (Dw.same SG hdT) hsD dpD mzD ?_
      refine ⟨rfl, _, rfl, ?_⟩
      rw [decide_eq_true rfl]
      refine iteF ?_
      have SH : Same H6 H42 := S6E.trans (SE6.trans SG)
      refine ⟨_, rfl, vd, _, rfl, Dw.same SG hdT, hdue.fine (by omega) (by omega), fun H43 S43 => ⟨_, _, rfl, rfl, _, rfl, ?_⟩⟩
      rw [hdue.t]
      refine iteT' (by decide) ?_
      have SI := SH.trans S43
      refine ⟨_, rfl, M, rfl, ⟨_, SqL.of (SI _ _ hM6)⟩, fun DD nDD => ?_⟩
      refine lc_it (walk_list (K := K) (a := M) (xs := xs)) (fun i H2 => H2 DD = some (.lst ((List.replicate i true).map V.bl)) ∧ Same H43 H2) ⟨upd_same, fresh_upd nDD⟩ (fun i H2 _ h => SqL.of (h.2 _ _ (SI _ _ hM6))) ?_ ?_
      · rintro i x H2 H3 hi ⟨hD2, S⟩ ⟨rfl, hx2⟩
        obtain ⟨t, et, hxt⟩ := dwa_at hx6 hx2
        have htm := List.mem_of_getElem? et
        refine ⟨rfl, ?_⟩
        unfold tYes
        dsimp only
        rw [if_pos rfl]
        refine ⟨_, rfl, x, t, rfl, Dw.same (SI.trans S) hxt, hF t htm, fun H4 S4 => ⟨_, _, rfl, rfl, _, S4 _ _ hD2, ?_, ?_, fun b o e => ?_⟩⟩
        · rw [List.length_map, List.length_replicate, sizeLine_eq]
          omega
        · rw [upd_same, hT t htm, List.replicate_succ', List.map_append]
          rfl
        · rw [upd_ne (ne_of_none e nDD)]
          exact S4 _ _ (S _ _ e)
      · rintro H2 ⟨hD2, S⟩
        refine ⟨DD, _, rfl, SqL.of hD2, ?_⟩
        have e : (List.replicate xs.length true).all id = true := by simp
        rw [e]
        exact q H2 (hR6.same (SI.trans S)) (B06.trans (But.of (SI.trans S)))
end
end K40
set_option maxHeartbeats 8000000
namespace K40
open PySem PySem.Spec PyProof.Rows L2 TL

/-! ### _law_wrong_right */ -/
abbrev sWr : Stmt := top 41
def cW : List PyData := [.none, .str "", .str "max", .str "in", .str "let", .str "Sum", .int 0, .bool true, .list [.str "sum"], .tuple [.str "sum"], .dict []]
def cN : List PyData := [.none, .list [], .tuple [], .dict [], .str "sum", .int 0, .dict [(.str "sum", .int 1)]]
def noW (d : PyData) : Bool := match d with
  | .str x => !decide (x ∈ words)
  | _ => true
def noS (d : PyData) : Bool := match seqOf d with
  | some (_ :: _) => false
  | _ => true
theorem cw_ok : ∀ d ∈ cW, noW d = true ∧ d.depth ≤ 5 ∧ d.showable = true ∧ d.shown.length ≤ mz d ∧ mz d ≤ 2000 ∧ PyData.strOk d.shown = true := by decide +kernel
theorem cn_ok : ∀ d ∈ cN, noS d = true := by decide +kernel
theorem noW_of {d : PyData} (h : noW d = true) : ∀ wd, d = .str wd → wd ∉ words := fun wd e hm => by
  subst e
  simp [noW, hm] at h
theorem noS_of {d : PyData} (h : noS d = true) : ∀ ds, seqOf d = some ds → ds = [] := fun ds e => by
  unfold noS at h
  rw [e] at h
  cases ds with
  | nil => rfl
  | cons _ _ => cases h
def ny : PyData := .tuple [.str "in", .str "y", .int 2]
theorem ny_T : isT ny = true := by decide +kernel
theorem ny_F : Fine 16 ny := ⟨by decide +kernel, by decide +kernel⟩
theorem bad_none {d : PyData} (h : noS d = true) : Bad 16 d .non := by
  refine ⟨fun ds e => ?_, .inl ⟨noS_of h, rfl⟩⟩
  have := noS_of h ds e
  subst this
  exact ⟨Nat.zero_le _, fun _ z => nomatch z⟩
theorem bad_one {d : PyData} (h : Odf d) : Bad 16 (.tuple [d]) (.int 0) := by
  refine ⟨fun ds e => ?_, .inr ⟨[d], 0, d, rfl, rfl, h.no, (fun j e hj => absurd hj (Nat.not_lt_zero j)), rfl⟩⟩
  cases e
  exact ⟨by simp, all1 h.fi⟩
theorem bad_two {d : PyData} (h : Odf d) : Bad 16 (.list [ny, d, d]) (.int 1) := by
  refine ⟨fun ds e => ?_, .inr ⟨[ny, d, d], 1, d, rfl, rfl, h.no, (fun j e hj ej => ?_), rfl⟩⟩
  · cases e
    exact ⟨by simp, all3 ny_F h.fi h.fi⟩
  · cases j with
    | zero =>
      cases ej
      exact ny_T
    | succ j => omega
theorem iteF' {c : Bool} {A B : Prop} (hc : c = false) (h : B) : if c = true then A else B := by
  rw [if_neg (by rw [hc]; decide)]
  exact h
theorem cons_of {te : TE} {ta : TA} {σ : L2.St} {H : Hp} {Q : List V → Hp → Prop} (h : te σ H fun v H1 => ta σ H1 fun vs H2 => Q (v :: vs) H2) : tCons te ta σ H Q := h
theorem nxt_of {D : Ends} {σ : L2.St} {H : Hp} (h : D.nx σ H) : tNext D σ H := h
def NWr : List Str := ["_law_rng_here", "_law_term_here", "_law_odd_here", "_law_near", "_law_word", "_law_none", "_law_told_here"]
def spWr : Sp := fun vs H Q _ => ∃ (r : Addr) (v : V) (t : PyData), vs = [.ref r, v] ∧ Rg H r ∧ Dw H v t ∧ Tk t ∧ ∀ H', Rg H' r → But r H H' → Q (.bl true) H'
structure WrX (P : Program) (w : World) (K : PySem.W.Frag) (mg : Str → Option Value) (base : Heap) : Prop where
  lm : LmX P w K mg base
  od : ∃ f fd, mg "_law_odd" = some (.ref f) ∧ FnOk P w K mg base CX0 3 f fd ["_law_rng_here", "_law_term_here"] spOdd ∧ PySem.W.keepIn K (.ref f) = true ∧ Binds K fd ["_law_rng_here", "_law_term_here"] []
  tm : ∃ f fd, mg "is_term" = some (.ref f) ∧ FnOk P w K mg base CX0 19 f fd ["value"] (spTerm 16) ∧ PySem.W.keepIn K (.ref f) = true ∧ Binds K fd ["value"] []
  rf : ∃ f fd, mg "_law_refused" = some (.ref f) ∧ FnG P w K mg base 22 f fd ["_law_term_here"] spRef ∧ PySem.W.keepIn K (.ref f) = true ∧ Binds K fd ["_law_term_here"] []
  td : ∃ f fd, mg "_law_told" = some (.ref f) ∧ FnOk P w K mg base CX0 21 f fd ["_law_word", "_law_terms"] (spTold 16) ∧ PySem.W.keepIn K (.ref f) = true ∧ Binds K fd ["_law_word", "_law_terms"] []
  repr : mg "repr" = none
section
variable {P : Program} {w : World} {K : PySem.W.Frag} {mg : Str → Option Value} {base : Heap}
theorem scWr : FnScope NWr ["_law_rng_here", "_law_term_here"] (defScope sWr) :=
  ⟨rfl, rfl, rfl, by decide +kernel, rfl, by decide +kernel, by decide +kernel⟩
theorem ok_wr {f : Addr} {fd : FuncData} (F : Fun K "_law_wrong_right" "_law_wrong_right" sWr f fd) (X : WrX P w K mg base) (hsys : (K.lookup sysModules).isSome = true) : FnG P w K mg base 23 f fd ["_law_rng_here", "_law_term_here"] spWr := by
  obtain ⟨fC, fdC, gC, GC, kC, bC⟩ := X.lm.ch
  obtain ⟨fO, fdO, gO, GO, kO, bO⟩ := X.od
  obtain ⟨fT, fdT, gT, GT, kT, bT⟩ := X.tm
  obtain ⟨fF, fdF, gF, GF, kF, bF⟩ := X.rf
  obtain ⟨fD, fdD, gD, GD, kD, bD⟩ := X.td
  have GC2 := GC.mono (k := 22) (by omega)
  have GO2 := GO.mono (k := 22) (by omega)
  have GT2 := GT.mono (k := 22) (by omega)
  have GD2 := GD.mono (k := 22) (by omega)
  refine F.okG scWr (fun vs H Q h => ?_) (fun cdv A outer s H vs Q hgu hr h => ?_)
  · obtain ⟨r, v, t, rfl, _⟩ := h
    rfl
  · obtain ⟨r, v, t, rfl, hR, hv, hk, q⟩ := h
    have hu : (A.deeper (envOfC "_law_wrong_right" (defScope sWr) s.heap.objs.size f cdv)).units + 64 < cLine := by have := hr.units; omega
    refine ⟨_, pss_cons (ps_par (i := 2) (j := 3) (by rfl) scWr.nd rfl rfl (by decide) rfl rfl (pa_cons (pe_call (E := E0) GO2 hr rfl gO kO bO .nil pass0 (pa_cons (pv 0) (pa_cons (pv 1) pa_nil))) (pa_cons (pe_tup (pa_cons pe_str (pa_cons pe_str (pa_cons pe_int pa_nil)))) pa_nil)) (by rfl))
      (pss_cons (ps_if (PW.pt (pw_or (pt_cmpR op_isnot_bl (pe_call (E := E0) GT2 hr rfl gT kT bT .nil pass0 (pa_cons (pv 2) pa_nil)) pe_bl rfl)
          (pw_or1 (pt_cmpR (op_neD hu) (pe_callG GF hgu hr rfl gF kF bF (pa_cons (pv 2) pa_nil)) (pe_op op_rep (pe_lst (pa_cons (pe_callB (call_reprA hgu hu hsys) (by rfl) X.repr (by decide +kernel) (pa_cons (pv 2) pa_nil)) pa_nil)) pe_int) rfl))))
        (pss_one (ps_ret pe_bl)) pss_nil)
      (pss_cons (ps_set (i := 4) scWr.nd rfl (.inl rfl) (pe_call (E := E0) GC2 hr rfl gC kC bC .nil pass0 (pa_cons (pv 0) (pa_cons (pe_lst (pa_cons pe_non (pa_cons pe_str (pa_cons pe_str (pa_cons pe_str (pa_cons pe_str (pa_cons pe_str (pa_cons pe_int (pa_cons pe_bl
          (pa_cons (pe_lst (pa_cons pe_str pa_nil)) (pa_cons (pe_tup (pa_cons pe_str pa_nil)) (pa_cons pe_dnewK pa_nil)))))))))))) pa_nil))))
      (pss_cons (ps_if (pt_cmpR op_ne (pe_callB (call_reprA hgu hu hsys) (by rfl) X.repr (by decide +kernel) (pa_cons (pe_call (E := E0) GD2 hr rfl gD kD bD .nil pass0 (pa_cons (pv 4) (pa_cons (pv 2) pa_nil))) pa_nil))
          (pe_callB (call_reprA hgu hu hsys) (by rfl) X.repr (by decide +kernel) (pa_cons (pe_lst (pa_cons pe_str (pa_cons (pv 4) (pa_cons pe_bl pa_nil)))) pa_nil)) (nomark _))
        (pss_one (ps_ret pe_bl)) pss_nil)
      (pss_cons (ps_set (i := 5) scWr.nd rfl (.inl rfl) (pe_call (E := E0) GC2 hr rfl gC kC bC .nil pass0 (pa_cons (pv 0) (pa_cons (pe_lst (pa_cons pe_non (pa_cons (pe_lst pa_nil) (pa_cons (pe_tup pa_nil) (pa_cons pe_dnewK (pa_cons pe_str (pa_cons pe_int
          (pa_cons (pe_disp (pps_cons pe_str pe_int pps_nil) (by rfl) (by rfl) (fun z => by cases z) (by decide)) pa_nil)))))))) pa_nil))))
      (pss_cons (ps_set (i := 6) scWr.nd rfl (.inl rfl) (pe_lst (pa_cons (pe_call (E := E0) GD2 hr rfl gD kD bD .nil pass0 (pa_cons pe_str (pa_cons (pv 5) pa_nil)))
          (pa_cons (pe_call (E := E0) GD2 hr rfl gD kD bD .nil pass0 (pa_cons pe_str (pa_cons (pe_lst (pa_cons (pv 3) (pa_cons (pv 2) (pa_cons (pv 2) pa_nil)))) pa_nil)))
          (pa_cons (pe_call (E := E0) GD2 hr rfl gD kD bD .nil pass0 (pa_cons pe_str (pa_cons (pe_tup (pa_cons (pv 2) pa_nil)) pa_nil))) pa_nil)))))
      (pss_one (ps_ret (pe_cmpR op_eq (pe_callB (call_reprA hgu hu hsys) (by rfl) X.repr (by decide +kernel) (pa_cons (pv 6) pa_nil))
          (pe_callB (call_reprA hgu hu hsys) (by rfl) X.repr (by decide +kernel) (pa_cons (pe_lst (pa_cons (pe_lst (pa_cons pe_str (pa_cons pe_non (pa_cons pe_bl pa_nil)))) (pa_cons (pe_lst (pa_cons pe_str (pa_cons pe_int (pa_cons pe_bl pa_nil)))) (pa_cons (pe_lst (pa_cons pe_str (pa_cons pe_int (pa_cons pe_bl pa_nil)))) pa_nil)))) pa_nil)) (nomark _))))))))), ?_⟩
    refine ⟨_, rfl, _, rfl, r, v, t, rfl, hR, hv, hk, fun H1 u d hR1 B1 hu1 hO => ?_⟩
    dsimp only
    refine cons_of ?_
    refine ev_tup (r := r) (ds := [.str "in", .str "y", .int 2]) hR1 (by simp) (evs_cons (ev_str _) (evs_cons (ev_str _) (evs_cons (ev_int _) evs_nil))) H1 _ (Same.refl H1) fun H2 vn S2 hn => ?_
    have hn : Dw (strip r H2) vn ny := hn
    have hR2 := hR1.same S2
    have hu2 := Dw.same (strip_but (But.of S2)) hu1
    have hD2 := Dw.same (strip_same r H2) hu2
    have dpO : d.depth ≤ 60 := Nat.le_trans hO.fi.dep (by decide)
    have mzO : mz d ≤ 16000000 := by have := hO.mz; omega
    refine ⟨_, _, rfl, ?_⟩
    refine ⟨_, rfl, u, d, rfl, hD2, hO.fi, fun H3 S3 => ⟨_, _, rfl, rfl, _, rfl, ?_⟩⟩
    rw [hO.no]
    refine iteF' (by decide) ?_
    refine ⟨_, rfl, u, d, rfl, Dw.same S3 hD2, hO, fun H4 L4 S4 hL4 => ?_⟩
    refine ⟨_, rfl, ?_⟩
    dsimp only [tCons, tNil]
    refine rd_repr (Dw.same (S3.trans S4) hD2) hO.sh dpO mzO ?_
    refine ⟨by rw [sizeLine_eq]; show 1 ≤ 16777216; decide, fun d1 nd1 => ?_⟩
    have S5 := fresh_upd (o := .lst [V.str d.shown]) nd1
    refine ⟨d1, 2, [.str d.shown], rfl, rfl, upd_same, by decide, by decide, by rw [sizeLine_eq]; show 2 ≤ 16777216; decide, fun d3 nd3 => ?_⟩
    have S6 := fresh_upd (o := .lst (List.replicate (2 : Int).toNat [V.str d.shown]).flatten) nd3
    have shS : SeqAt.shaped (.list [.str d.shown, .str d.shown]) = true := by
      simp [SeqAt.shaped, PyData.canLay0, PyData.canLayAll0, PyData.depth, PyData.depthAll, wo_iff.mpr hO.sh.wo]
    refine ⟨.list [.str d.shown, .str d.shown], .list [.str d.shown, .str d.shown], Dw.dp (.lst (S6 _ _ (S5 _ _ hL4)) (.cons (.str _) (.cons (.str _) .nil))) (SeqAt.canLay_of_shaped shS), Dw.dp (.lst upd_same (.cons (.str _) (.cons (.str _) .nil))) (SeqAt.canLay_of_shaped shS), shS, shS, _, rfl, ?_⟩
    rw [SeqAt.eqv_refl _ (SeqAt.canLay_of_shaped shS)]
    refine iteF' rfl ?_
    have S26 := S3.trans (S4.trans (S5.trans S6))
    generalize upd (upd H4 d1 (.lst [V.str d.shown])) d3 (.lst (List.replicate (2 : Int).toNat [V.str d.shown]).flatten) = H6 at S26
    have hR6 := hR2.same S26
    have hn6 := Dw.same (strip_but (But.of S26)) hn
    have hu6 := Dw.same (strip_but (But.of S26)) hu2
    have B6 := B1.trans ((But.of S2).trans (But.of S26))
    refine nxt_of ?_
    dsimp only
    refine seq_of (asg_of ?_)
    refine ⟨_, rfl, ?_⟩
    dsimp only
    refine cons_of ?_
    refine ev_lst (r := r) (ds := cW) hR6 (by decide) (evs_cons ev_non (evs_cons (ev_str _) (evs_cons (ev_str _) (evs_cons (ev_str _) (evs_cons (ev_str _) (evs_cons (ev_str _) (evs_cons (ev_int _) (evs_cons (ev_bl _)
      (evs_cons (ev_lst hR6 (by decide) (evs_cons (ev_str _) evs_nil)) (evs_cons (ev_tup hR6 (by decide) (evs_cons (ev_str _) evs_nil)) (evs_cons (ev_d0 hR6) evs_nil))))))))))) H6 _ (Same.refl H6) fun H7 w7 S7 h7 => ?_
    cases h7 with
    | @lst c yl _ hc hyl =>
    have hc7 := strip_same r _ _ _ hc
    have cr : c ≠ r := fun e => by
      unfold strip at hc
      rw [if_pos e] at hc
      cases hc
    have lyl := hyl.length
    have lcw : cW.length = 11 := rfl
    have hR7 := hR6.same S7
    refine ⟨r, c, yl, rfl, hR7, cr, hc7, by omega, by omega, fun H8 x hx hR8 B78 => ?_⟩
    obtain ⟨dw, hdw, hxd⟩ := dw_in hyl x hx
    obtain ⟨c1, c2, c3, c4, c5, c6⟩ := cw_ok dw hdw
    have B68 := (But.of S7).trans B78
    have hn8 := Dw.same (strip_but B68) hn6
    have hu8 := Dw.same (strip_but B68) hu6
    have hD8 := Dw.same (strip_same r H8) hu8
    have hx8 := Dw.same (strip_same r H8) (Dw.same (strip_but B78) hxd)
    have B8 := B6.trans B68
    have shx : Shw dw := ⟨c3, c4, wo_iff.mp c6⟩
    have shW : Shw (.list [.str "word", dw, .bool true]) := Shw.lst (all3 (shs _) shx ⟨by decide, by decide, wo_iff.mp (by decide +kernel)⟩)
    have dpW : (PyData.list [.str "word", dw, .bool true]).depth ≤ 60 := Nat.le_trans (fin_lst (n := 5) (all3 (by decide) c2 (by decide))).dep (by decide)
    have mzW : mz (.list [.str "word", dw, .bool true]) ≤ 16000000 := by
      have l4 : ("word" : Str).length = 4 := by decide
      simp only [mz, mzs, l4]
      omega
    refine ⟨_, rfl, _, rfl, x, u, dw, d, rfl, hx8, hD8, .inl ⟨noW_of c1, fun H9 L9 S9 hL9 => ?_⟩⟩
    dsimp only [tCons, tNil]
    refine rd_repr (.lst hL9 (.cons (.str _) (.cons (Dw.same S9 hx8) (.cons (.bl _) .nil)))) shW dpW mzW ?_
    refine ⟨_, rfl, by rw [sizeLine_eq]; show 3 ≤ 16777216; decide, fun e1 ne1 => ?_⟩
    have S10 := fresh_upd (o := .lst [V.str "word", x, V.bl true]) ne1
    dsimp only [tCons, tNil]
    refine rd_repr (.lst upd_same (.cons (.str _) (.cons (Dw.same (S9.trans S10) hx8) (.cons (.bl _) .nil)))) shW dpW mzW ?_
    refine ⟨rfl, _, rfl, ?_⟩
    rw [decide_eq_true rfl]
    refine iteF' rfl ?_
    have S8a := S9.trans S10
    generalize upd H9 e1 (.lst [V.str "word", x, V.bl true]) = Ha at S8a
    have hRa := hR8.same S8a
    have hna := Dw.same (strip_but (But.of S8a)) hn8
    have hua := Dw.same (strip_but (But.of S8a)) hu8
    have Ba := B8.trans (But.of S8a)
    refine nxt_of ?_
    dsimp only
    refine seq_of (asg_of ?_)
    refine ⟨_, rfl, ?_⟩
    dsimp only
    refine cons_of ?_
    refine ev_lst (r := r) (ds := cN) hRa (by decide) (evs_cons ev_non (evs_cons (ev_lst hRa (by decide) evs_nil) (evs_cons (ev_tup hRa (by decide) evs_nil) (evs_cons (ev_d0 hRa) (evs_cons (ev_str _) (evs_cons (ev_int _)
      (evs_cons (ev_d1 hRa (v := V.int 1) (fun H Q q => q) (.int 1)) evs_nil))))))) Ha _ (Same.refl Ha) fun Hb wb Sb hb => ?_
    cases hb with
    | @lst c' yl' _ hc' hyl' =>
    have hcb := strip_same r _ _ _ hc'
    have cr' : c' ≠ r := fun e => by
      unfold strip at hc'
      rw [if_pos e] at hc'
      cases hc'
    have lyl' := hyl'.length
    have lcn : cN.length = 7 := rfl
    have hRb := hRa.same Sb
    refine ⟨r, c', yl', rfl, hRb, cr', hcb, by omega, by omega, fun Hd x2 hx2 hRd Bbd => ?_⟩
    obtain ⟨dn, hdn, hxn⟩ := dw_in hyl' x2 hx2
    have cn := cn_ok dn hdn
    have Bad' := (But.of Sb).trans Bbd
    have hnd := Dw.same (strip_same r Hd) (Dw.same (strip_but Bad') hna)
    have hud := Dw.same (strip_same r Hd) (Dw.same (strip_but Bad') hua)
    have hxd2 := Dw.same (strip_same r Hd) (Dw.same (strip_but Bbd) hxn)
    have Bd := Ba.trans Bad'
    refine seq_of (asg_of ?_)
    refine ⟨_, rfl, .str "sum", x2, .str "sum", dn, rfl, .str _, hxd2, .inr ⟨"sum", .non, rfl, by decide, bad_none cn, fun He Le Se hLe => ?_⟩⟩
    have hDe := Dw.same Se hud
    have hNe := Dw.same Se hnd
    refine ⟨_, rfl, _, rfl, _, rfl, by rw [sizeLine_eq]; show 3 ≤ 16777216; decide, fun f1 nf1 => ?_⟩
    have Sf := fresh_upd (o := .lst [vn, u, u]) nf1
    refine ⟨.str "least", _, .str "least", .list [ny, d, d], rfl, .str _, .lst upd_same (.cons (Dw.same Sf hNe) (.cons (Dw.same Sf hDe) (.cons (Dw.same Sf hDe) .nil))), .inr ⟨"least", .int 1, rfl, by decide, bad_two hO, fun Hg Lg Sg hLg => ?_⟩⟩
    refine ⟨_, rfl, by rw [sizeLine_eq]; show 1 ≤ 16777216; decide, fun g1 ng1 => ?_⟩
    have Sg1 := fresh_upd (o := .tup [u]) ng1
    refine ⟨.str "greatest", _, .str "greatest", .tuple [d], rfl, .str _, .tup upd_same (.cons (Dw.same (Sf.trans (Sg.trans Sg1)) hDe) .nil), .inr ⟨"greatest", .int 0, rfl, by decide, bad_one hO, fun Hh Lh Sh hLh => ?_⟩⟩
    refine ⟨by rw [sizeLine_eq]; show 3 ≤ 16777216; decide, fun T nT => ?_⟩
    have ST := fresh_upd (o := .lst [V.ref Le, V.ref Lg, V.ref Lh]) nT
    have hT : Dw (upd Hh T (.lst [V.ref Le, V.ref Lg, V.ref Lh])) (.ref T) (.list [.list [.str "terms", .none, .bool true], .list [.str "terms", .int 1, .bool true], .list [.str "terms", .int 0, .bool true]]) :=
      .lst upd_same (.cons (.lst ((Sf.trans (Sg.trans (Sg1.trans (Sh.trans ST)))) _ _ hLe) (.cons (.str _) (.cons .non (.cons (.bl _) .nil)))) (.cons (.lst ((Sg1.trans (Sh.trans ST)) _ _ hLg) (.cons (.str _) (.cons (.int _) (.cons (.bl _) .nil)))) (.cons (.lst (ST _ _ hLh) (.cons (.str _) (.cons (.int _) (.cons (.bl _) .nil)))) .nil)))
    have SZ := Se.trans (Sf.trans (Sg.trans (Sg1.trans (Sh.trans ST))))
    generalize upd Hh T (.lst [V.ref Le, V.ref Lg, V.ref Lh]) = HT at hT SZ
    have shD : Shw (.list [.list [.str "terms", .none, .bool true], .list [.str "terms", .int 1, .bool true], .list [.str "terms", .int 0, .bool true]]) := ⟨by decide +kernel, by decide +kernel, wo_iff.mp (by decide +kernel)⟩
    refine ⟨_, rfl, ?_⟩
    dsimp only [tCons, tNil]
    refine rd_repr hT shD (by decide +kernel) (by decide +kernel) ?_
    refine ⟨by rw [sizeLine_eq]; show 3 ≤ 16777216; decide, fun a1 n1 => ⟨by rw [sizeLine_eq]; show 3 ≤ 16777216; decide, fun a2 n2 => ⟨by rw [sizeLine_eq]; show 3 ≤ 16777216; decide, fun a3 n3 => ⟨by rw [sizeLine_eq]; show 3 ≤ 16777216; decide, fun a4 n4 => ?_⟩⟩⟩⟩
    have A1 := fresh_upd (o := .lst [V.str "terms", V.non, V.bl true]) n1
    have A2 := fresh_upd (o := .lst [V.str "terms", V.int 1, V.bl true]) n2
    have A3 := fresh_upd (o := .lst [V.str "terms", V.int 0, V.bl true]) n3
    have A4 := fresh_upd (o := .lst [V.ref a1, V.ref a2, V.ref a3]) n4
    dsimp only [tCons, tNil]
    refine rd_repr (d := .list [.list [.str "terms", .none, .bool true], .list [.str "terms", .int 1, .bool true], .list [.str "terms", .int 0, .bool true]]) (.lst upd_same (.cons (.lst ((A2.trans (A3.trans A4)) _ _ upd_same) (.cons (.str _) (.cons .non (.cons (.bl _) .nil)))) (.cons (.lst ((A3.trans A4) _ _ upd_same) (.cons (.str _) (.cons (.int _) (.cons (.bl _) .nil)))) (.cons (.lst (A4 _ _ upd_same) (.cons (.str _) (.cons (.int _) (.cons (.bl _) .nil)))) .nil)))) shD (by decide +kernel) (by decide +kernel) ?_
    have SA := SZ.trans (A1.trans (A2.trans (A3.trans A4)))
    refine ⟨rfl, ?_⟩
    rw [decide_eq_true rfl]
    exact q _ (hRd.same SA) (Bd.trans (But.of SA))
end
end K40
set_option maxHeartbeats 8000000
namespace K40
open PySem PySem.Spec PyProof.Rows L2 TL

/-! ### _law_right */ -/
abbrev sRt : Stmt := top 42
theorem pD_ok : ∀ s ∈ NmS, ∀ i ∈ NuS, (pD (s, i)).showable = true ∧ (pD (s, i)).shown.length ≤ mz (pD (s, i)) ∧ PyData.strOk (pD (s, i)).shown = true ∧ mz (pD (s, i)) ≤ 2000 ∧ (pD (s, i)).depth ≤ 3 := by decide +kernel
theorem ky_ok {d : PyData} (h : ∀ r ∈ rds d, pk r ∈ KyS) : ∀ x ∈ (rds d).map pD, Shw x ∧ mz x ≤ 2000 ∧ x.depth ≤ 3 := fun x hx => by
  obtain ⟨r, hr, rfl⟩ := List.mem_map.mp hx
  obtain ⟨s, hs, z⟩ := List.mem_flatMap.mp (h r hr)
  obtain ⟨i, hi, e⟩ := List.mem_map.mp z
  have e2 : pD r = pD (s, i) := by rw [← tD_pk r, ← tD_pk (s, i), e]
  rw [e2]
  obtain ⟨a, b, c, k, l⟩ := pD_ok s hs i hi
  exact ⟨⟨a, b, wo_iff.mp c⟩, k, l⟩
theorem mzs_le {B : Nat} : ∀ {ts : List PyData}, (∀ x ∈ ts, mz x ≤ B) → mzs ts ≤ ts.length * (B + 2)
  | [], _ => by simp [mzs]
  | x :: r, h => by
    have h1 := h x (List.mem_cons_self ..)
    have h2 := mzs_le fun y hy => h y (List.mem_cons_of_mem x hy)
    rw [mzs_cons, List.length_cons, Nat.add_mul]
    omega
theorem layAll : ∀ {ts : List PyData}, (∀ x ∈ ts, x.canLay0 = true) → PyData.canLayAll0 ts = true
  | [], _ => by simp only [PyData.canLayAll0]
  | x :: r, h => by
    simp only [PyData.canLayAll0, h x (List.mem_cons_self ..), layAll fun y hy => h y (List.mem_cons_of_mem _ hy), Bool.and_self]
theorem mem_rdO {d x : PyData} (h : x ∈ rdO d) : x ∈ (rds d).map pD := mem_srt.mp ((ddp_sub _).subset h)
theorem len_rdO (d : PyData) : (rdO d).length ≤ (rds d).length := by
  have h1 := (ddp_sub (srtD ((rds d).map pD))).length_le
  have h2 := (srt_perm ((rds d).map pD)).length_eq
  rw [List.length_map] at h2
  unfold rdO
  omega
def NRt : List Str := ["_law_rng_here", "_law_turn", "_law_term_here", "_law_told_here", "_law_due", "_law_k", "_law_one"]
def spRt : Sp := fun vs H Q _ => ∃ r : Addr, vs = [.ref r] ∧ Rg H r ∧ ∀ H', Rg H' r → But r H H' → Q (.bl true) H'
structure RtX (P : Program) (w : World) (K : PySem.W.Frag) (mg : Str → Option Value) (base : Heap) (CT : Addr) : Prop where
  lm : ∃ f fd, mg "_law_term" = some (.ref f) ∧ FnOk P w K mg base CX0 9 f fd ["_law_rng_here", "_law_deep"] (spLtm 3) ∧ PySem.W.keepIn K (.ref f) = true ∧ Binds K fd ["_law_rng_here", "_law_deep"] []
  tm : ∃ f fd, mg "is_term" = some (.ref f) ∧ FnOk P w K mg base CX0 19 f fd ["value"] (spTerm 16) ∧ PySem.W.keepIn K (.ref f) = true ∧ Binds K fd ["value"] []
  tt : ∃ f fd, mg "term_text" = some (.ref f) ∧ FnOk P w K mg base (L2.CX P w) 21 f fd ["term"] (spTt CT 16) ∧ PySem.W.keepIn K (.ref f) = true ∧ Binds K fd ["term"] []
  lt : ∃ f fd, mg "_law_text" = some (.ref f) ∧ FnOk P w K mg base CX0 17 f fd ["_law_term_here"] (spLt 16) ∧ PySem.W.keepIn K (.ref f) = true ∧ Binds K fd ["_law_term_here"] []
  ro : ∃ f fd, mg "reads_of" = some (.ref f) ∧ FnOk P w K mg base (L2.CX P w) 21 f fd ["term"] (spRo CT 16) ∧ PySem.W.keepIn K (.ref f) = true ∧ Binds K fd ["term"] []
  lr : ∃ f fd, mg "_law_reads" = some (.ref f) ∧ FnOk P w K mg base CX0 17 f fd ["_law_term_here"] (spLr 16) ∧ PySem.W.keepIn K (.ref f) = true ∧ Binds K fd ["_law_term_here"] []
  br : ∃ f fd, mg "_law_bag_right" = some (.ref f) ∧ FnG P w K mg base 22 f fd ["_law_rng_here"] spBr ∧ PySem.W.keepIn K (.ref f) = true ∧ Binds K fd ["_law_rng_here"] []
  wr : ∃ f fd, mg "_law_wrong_right" = some (.ref f) ∧ FnG P w K mg base 23 f fd ["_law_rng_here", "_law_term_here"] spWr ∧ PySem.W.keepIn K (.ref f) = true ∧ Binds K fd ["_law_rng_here", "_law_term_here"] []
  repr : mg "repr" = none
  sorted : mg "sorted" = none
  enum : mg "enumerate" = none
  range : mg "range" = none
section
variable {P : Program} {w : World} {K : PySem.W.Frag} {mg : Str → Option Value} {base : Heap} {CT : Addr}
theorem scRt : FnScope NRt ["_law_rng_here"] (defScope sRt) :=
  ⟨rfl, rfl, rfl, by decide +kernel, rfl, by decide +kernel, by decide +kernel⟩
theorem ok_rt {f : Addr} {fd : FuncData} (F : Fun K "_law_right" "_law_right" sRt f fd) (X : RtX P w K mg base CT) (hsys : (K.lookup sysModules).isSome = true) : FnG P w K mg base 24 f fd ["_law_rng_here"] spRt := by
  obtain ⟨fM, fdM, gM, GM, kM, bM⟩ := X.lm
  obtain ⟨fT, fdT, gT, GT, kT, bT⟩ := X.tm
  obtain ⟨fA, fdA, gA, GA, kA, bA⟩ := X.tt
  obtain ⟨fL, fdL, gL, GL, kL, bL⟩ := X.lt
  obtain ⟨fO, fdO, gO, GO, kO, bO⟩ := X.ro
  obtain ⟨fD, fdD, gD, GD, kD, bD⟩ := X.lr
  obtain ⟨fB, fdB, gB, GB, kB, bB⟩ := X.br
  obtain ⟨fW, fdW, gW, GW, kW, bW⟩ := X.wr
  have GM2 := GM.mono (k := 23) (by omega)
  have GT2 := GT.mono (k := 23) (by omega)
  have GA2 := GA.mono (k := 23) (by omega)
  have GL2 := GL.mono (k := 23) (by omega)
  have GO2 := GO.mono (k := 23) (by omega)
  have GD2 := GD.mono (k := 23) (by omega)
  refine F.okG scRt (fun vs H Q h => ?_) (fun cdv A outer s H vs Q hgu hr h => ?_)
  · obtain ⟨r, rfl, _⟩ := h
    rfl
  · obtain ⟨r, rfl, hR, q⟩ := h
    have hu : (A.deeper (envOfC "_law_right" (defScope sRt) s.heap.objs.size f cdv)).units + 65 < cLine := by have := hr.un; omega
    have hu' : (A.deeper (envOfC "_law_right" (defScope sRt) s.heap.objs.size f cdv)).units + 64 < cLine := by omega
    refine ⟨_, pss_cons (ps_for PassesOwn.never rfl (pi_range1 (by rfl) X.range (pa_cons pe_int pa_nil)) (pg_name (i := 1) scRt.nd rfl (Or.inl rfl))
        (pss_cons (ps_set (i := 2) scRt.nd rfl (.inl rfl) (pe_call (E := E0) GM2 hr rfl gM kM bM .nil pass0 (pa_cons (pv 0) (pa_cons pe_int pa_nil))))
        (pss_cons (ps_if (PW.pt (pw_or (pt_cmpR op_isnot_bl (pe_call (E := E0) GT2 hr rfl gT kT bT .nil pass0 (pa_cons (pv 2) pa_nil)) pe_bl rfl)
            (pw_or1 (pt_cmpR op_ne (pe_call (E := E0) GA2 hr rfl gA kA bA .nil pass0C (pa_cons (pv 2) pa_nil)) (pe_call (E := E0) GL2 hr rfl gL kL bL .nil pass0 (pa_cons (pv 2) pa_nil)) (nomark _)))))
          (pss_one (ps_ret pe_bl)) pss_nil)
        (pss_cons (ps_set (i := 3) scRt.nd rfl (.inl rfl) (pe_call (E := E0) GO2 hr rfl gO kO bO .nil pass0C (pa_cons (pv 2) pa_nil)))
        (pss_cons (ps_set (i := 4) scRt.nd rfl (.inr rfl) (pe_callB (cr_sortD hu') (by rfl) X.sorted (by decide +kernel) (pa_cons (pe_call (E := E0) GD2 hr rfl gD kD bD .nil pass0 (pa_cons (pv 2) pa_nil)) pa_nil)))
        (pss_cons (ps_if (pt_cmpR op_ne (pe_callB (call_reprA hgu hu' hsys) (by rfl) X.repr (by decide +kernel) (pa_cons (pv 3) pa_nil))
            (pe_callB (call_reprA hgu hu' hsys) (by rfl) X.repr (by decide +kernel) (pa_cons
              (pe_lc (own := [("_law_k", 5), ("_law_one", 6)]) (g := gTup K 2 (gCons (gName 5) (gCons (gName 6) gNil))) (tt := tOr (tTest (tOp rEq (tVar 5) (tC (.int 0)))) (tTest (tOp (rNeD K) (tVar 6) (tOp (rIxL K) (tVar 4) (tOp (rI0 fun i j => V.int (i - j)) (tVar 5) (tC (.int 1))))))) (te := tVar 6) rfl scRt.nd (pi_enum (by rfl) X.enum (pa_cons (pv 4) pa_nil))
                (blkOk_by (own := [("_law_k", 5), ("_law_one", 6)]) (N := NRt) (sc := defScope sRt) (by decide +kernel)) (fun _ _ _ _ _ => pg_tup rfl (pgs_cons (pg_name (i := 5) scRt.nd rfl (Or.inl rfl)) (pgs_cons (pg_name (i := 6) scRt.nd rfl (Or.inl rfl)) pgs_nil)))
                (fun _ _ _ _ _ => pts_one (by exact PW.pt (pw_or (pt_cmpR op_eq (pv 5) pe_int (nomark _)) (pw_or1 (pt_cmpR (op_neD hu') (pv 6) (pe_ix ix_list (pv 4) (pe_op op_sub (pv 5) pe_int) (fun _ _ => rfl)) rfl))))) (fun _ _ _ _ _ => by exact pv 6)) pa_nil)) (nomark _))
          (pss_one (ps_ret pe_bl)) pss_nil)
        (pss_cons (ps_expr (pe_bm PySem.F.plainAttrs_list PySem.F.slot_list_append PySem.F.type_list_append mt_append (pv 3) (pa_cons pe_non pa_nil)))
        (pss_one (ps_if (PW.pt (pw_or (pt_cmpR (op_inD hu) pe_non (pe_call (E := E0) GO2 hr rfl gO kO bO .nil pass0C (pa_cons (pv 2) pa_nil)) rfl)
            (pw_or (pt_not (pt_val (pe_callG GB hgu (hr.mono (by omega)) rfl gB kB bB (pa_cons (pv 0) pa_nil))))
              (pw_or1 (pt_not (pt_val (pe_callG GW hgu hr rfl gW kW bW (pa_cons (pv 0) (pa_cons (pv 2) pa_nil)))))))))
          (pss_one (ps_ret pe_bl)) pss_nil)))))))))
      (pss_one (ps_ret pe_bl)), ?_⟩
    refine ⟨4, rfl, by decide, by decide, ?_⟩
    refine for_it (walk_range (lo := 0) (n := (4 : Int).toNat)) (fun i σ H2 => (∃ o1 o2 o3 o4, σ = [some (.ref r), o1, o2, o3, o4, none, none]) ∧ Rg H2 r ∧ But r H H2) ⟨⟨none, none, none, none, rfl⟩, hR, fun b o _ e => e⟩ (fun _ _ _ _ _ => trivial) ?_ ?_
    · rintro i x σ H1 H1' hi ⟨⟨o1, o2, o3, o4, rfl⟩, hR1, B1⟩ ⟨rfl, rfl⟩
      refine ⟨_, rfl, r, rfl, hR1, fun H2 v d hR2 B2 hv hd => ?_⟩
      have fi : Fine 16 d := hd.fine (by omega) (by omega)
      have nt : isT d = false → False := fun e => by rw [hd.t] at e; cases e
      have mz3 : mz d ≤ 50210 := by have := hd.mz; have e3 : mB 3 = 50210 := mB3; omega
      have nr3 : (rds d).length ≤ 125 := hd.nr
      have hP := rds_P hd.t
      have kk := ky_ok hd.ky
      refine ⟨_, rfl, v, d, rfl, hv, fi, fun H3 S3 => ⟨_, _, rfl, rfl, _, rfl, ?_⟩⟩
      rw [hd.t]
      refine iteF' (by decide) ?_
      refine ⟨_, rfl, v, d, rfl, Dw.same S3 hv, fi, (fun e => (nt e).elim), fun _ => ⟨by omega, fun H4 S4 => ?_⟩⟩
      refine ⟨_, rfl, v, d, rfl, Dw.same (S3.trans S4) hv, hd.t, fi, by omega, fun H5 S5 => ?_⟩
      refine ⟨rfl, _, rfl, ?_⟩
      rw [decide_eq_true rfl]
      refine iteF' rfl ?_
      have S25 := S3.trans (S4.trans S5)
      refine nxt_of ?_
      dsimp only
      refine seq_of (asg_of ?_)
      refine ⟨_, rfl, v, d, rfl, Dw.same S25 hv, fi, (fun e => (nt e).elim), fun _ => ⟨by omega, ⟨KyS, hd.ky, kyS_len⟩, fun H6 L ys S6 nL hL hy => ?_⟩⟩
      dsimp only
      refine seq_of (asg_of ?_)
      refine ⟨_, rfl, v, d, rfl, Dw.same (S25.trans S6) hv, hd.t, fi, by omega, fun H7 M xs S7 nM hM hx => ?_⟩
      refine ⟨M, xs, _, rfl, SqL.of hM, hx, fun x hx => tt_P (hP x hx), hP.lik, fun zs p hz _ np => ?_⟩
      have S8 := fresh_upd (o := .lst zs) np
      have hp8 : upd H7 p (.lst zs) p = some (.lst zs) := upd_same
      have hz8 := DwAll.same S8 hz
      have S28 := S25.trans (S6.trans (S7.trans S8))
      have hL8 := (S7.trans S8) _ _ hL
      have hy8 := DwAll.same (S7.trans S8) hy
      have S8u := S6.trans (S7.trans S8)
      generalize upd H7 p (.lst zs) = H8 at S28 hL8 hy8 hp8 hz8 S8u
      have shO : Shw (.list (rdO d)) := Shw.lst fun x hx => (kk x (mem_rdO hx)).1
      have dpO : (PyData.list (rdO d)).depth ≤ 60 := Nat.le_trans (fin_lst (n := 3) fun x hx => (kk x (mem_rdO hx)).2.2).dep (by decide)
      have mzO : mz (.list (rdO d)) ≤ 16000000 := by
        have h1 := mzs_le (B := 2000) fun x hx => (kk x (mem_rdO hx)).2.1
        have h2 := len_rdO d
        have h3 : (rdO d).length * 2002 ≤ 125 * 2002 := Nat.mul_le_mul_right _ (by omega)
        rw [mz]
        omega
      refine ⟨_, rfl, ?_⟩
      dsimp only [tCons, tNil]
      refine rd_repr (.lst hL8 hy8) shO dpO mzO ?_
      have shI : ∀ x ∈ srtD ((rds d).map pD), SeqAt.shaped x = true := fun x hx => by
        have hx := mem_srt.mp hx
        unfold SeqAt.shaped
        rw [lay_P (hP x hx), decide_eq_true (Nat.le_trans (kk x hx).2.2 (by decide))]
        rfl
      have zl : zs.length ≤ 1000000 := by
        rw [hz8.length, (srt_perm _).length_eq, List.length_map]
        omega
      refine cons_of ?_
      refine rd_ddG (σ := [some (V.ref r), some (V.int (0 + ((i : Nat) : Int))), some v, some (V.ref L), some (V.ref p), none, none]) rfl hp8 hz8 shI (eqv_symP hP.srt) zl (fun _ _ => rfl) (fun _ _ => rfl) (fun _ _ => rfl) (fun _ _ => rfl) fun H9 b ys2 S9 nb hb hy2 => ?_
      have hy2 : DwAll H9 ys2 (rdO d) := hy2
      dsimp only [tNil]
      refine rd_repr (.lst hb hy2) shO dpO mzO ?_
      refine ⟨rfl, _, rfl, ?_⟩
      rw [decide_eq_true rfl]
      refine iteF' rfl ?_
      refine nxt_of ?_
      dsimp only
      refine seq_of ?_
      have hL9 := S9 _ _ hL8
      have yl : ys.length ≤ 125 := by
        have h1 := hy8.length
        have h2 := len_rdO d
        omega
      refine ⟨_, rfl, .inl ⟨rfl, _, SqL.of hL9⟩, L, ys, .non, rfl, rfl, hL9, by rw [sizeLine_eq]; omega, ?_⟩
      have SU : Same H5 (upd H9 L (.lst (ys ++ [V.non]))) := fun b o e => by
        rw [upd_ne (ne_of_none e nL)]
        exact S9 _ _ (S8u _ _ e)
      generalize upd H9 L (.lst (ys ++ [V.non])) = HA at SU
      have S2A := S25.trans SU
      have hvA := Dw.same S2A hv
      have hRA := hR2.same S2A
      refine ⟨_, rfl, v, d, rfl, hvA, fi, (fun e => (nt e).elim), fun _ => ⟨by omega, ⟨KyS, hd.ky, kyS_len⟩, fun HB L2 ys3 SB nL2 hL2 hy3 => ?_⟩⟩
      have shR : SeqAt.shaped (.list (rdO d)) = true := by
        unfold SeqAt.shaped
        rw [decide_eq_true (Nat.le_trans dpO (by decide)), Bool.and_true]
        simp only [PyData.canLay0]
        exact layAll fun x hx => lay_P (hP x (mem_rdO hx))
      refine ⟨.none, rdO d, .non, Dw.dp (.lst hL2 hy3) (SeqAt.canLay_of_shaped shR), by decide, shR, _, rfl, ?_⟩
      have ea : ((rdO d).any fun z => PyData.eqv z .none) = false := by
        rw [List.any_eq_false]
        intro x hx
        obtain ⟨s, i, rfl, _⟩ := hP x (mem_rdO hx)
        simp [PyData.eqv]
      rw [ea]
      refine iteF' rfl ?_
      have hRB := hRA.same SB
      have hvB := Dw.same (strip_but (But.of SB)) (Dw.stp (stp_strip hRA) hd.t hvA)
      refine ⟨_, rfl, r, rfl, hRB, fun HC hRC BC => ?_⟩
      refine ⟨_, rfl, ?_⟩
      dsimp only
      refine iteF' rfl ?_
      have hvC := Dw.same (strip_same r HC) (Dw.same (strip_but BC) hvB)
      refine ⟨_, rfl, _, rfl, r, v, d, rfl, hRC, hvC, ⟨hd.t, hd.fine (by omega) (by omega), mz3⟩, fun HD hRD BD => ⟨_, rfl, ?_⟩⟩
      refine iteF' rfl ?_
      refine nxt_of ?_
      exact ⟨⟨_, _, _, _, rfl⟩, hRD, B1.trans (B2.trans ((But.of (S2A.trans SB)).trans (BC.trans BD)))⟩
    · rintro σ H2 ⟨_, hR2, B2⟩
      exact q H2 hR2 B2
end
end K40
set_option maxHeartbeats 8000000
namespace K40
open PySem PySem.Spec PyProof.Rows L2 TL

/-! ### law -/
abbrev sLw : Stmt := top 43
def NLw : List Str := ["_law_script", "_law_k"]
def spLaw (K : PySem.W.Frag) : Sp := fun vs H Q _ => ∃ (a : Addr) (ns : List Int), vs = [.ref a] ∧ SqL K H a (ns.map V.int) ∧ ns.length ≤ 1000 ∧
  ∀ H', Q (.bl true) H'
theorem many_nat (n : Nat) : (if (if (n : Int) < 4 then (n : Int) else 4) > 1 then (if (n : Int) < 4 then (n : Int) else 4) else 1) = ((max 1 (min 4 n) : Nat) : Int) := by
  split <;> split <;> omega
theorem many_nat' (n : Nat) : (if (if (4 : Int) < (n : Int) then (4 : Int) else (n : Int)) > 1 then (if (4 : Int) < (n : Int) then (4 : Int) else (n : Int)) else 1) = ((max 1 (min 4 n) : Nat) : Int) := by
  split <;> split <;> omega
theorem all_true (n : Nat) : (List.replicate n true).all id = true := by
  rw [List.all_eq_true]
  intro x hx
  rw [List.eq_of_mem_replicate hx]
  rfl
section
variable {P : Program} {w : World} {K : PySem.W.Frag} {mg : Str → Option Value} {base : Heap}
theorem scLw : FnScope NLw ["_law_script"] (defScope sLw) :=
  ⟨rfl, rfl, rfl, by decide +kernel, rfl, by decide +kernel, by decide +kernel⟩
theorem ok_law {f fG fR : Addr} {fd fdG fdR : FuncData} (F : Fun K "law" "law" sLw f fd) (Nn : Nb mg)
    (GG : FnOk P w K mg base CX0 1 fG fdG ["_law_script", "_law_k"] (spRng K)) (kG : PySem.W.keepIn K (.ref fG) = true)
    (bG : Binds K fdG ["_law_script", "_law_k"] []) (gG : mg "_law_rng" = some (.ref fG))
    (GR : FnG P w K mg base 24 fR fdR ["_law_rng_here"] spRt) (kR : PySem.W.keepIn K (.ref fR) = true)
    (bR : Binds K fdR ["_law_rng_here"] []) (gR : mg "_law_right" = some (.ref fR)) :
    FnG P w K mg base 25 f fd ["_law_script"] (spLaw K) := by
  have GG9 := GG.mono (k := 24) (by decide)
  refine F.okG scLw (fun vs H Q h => ?_) (fun cdv A outer s H vs Q hgu hr h => ?_)
  · obtain ⟨a, ns, rfl, _⟩ := h
    rfl
  · obtain ⟨a, ns, rfl, hS, hn, q⟩ := h
    refine ⟨_, pss_one (ps_ret (pe_callB (cr_all rfl) (by rfl) Nn.all (by decide +kernel) (pa_cons
      (pe_lc (own := [("_law_k", 1)]) (g := gName 1) (tt := tYes)
        (te := tCall spRt [] E0 (tCons (tCall (spRng K) [] E0 (tCons (tVar 0) (tCons (tVar 1) tNil))) tNil)) rfl scLw.nd
        (pi_range1 (by rfl) Nn.range (pa_cons (pe_callB (call_max2 rfl) (by rfl) Nn.max (by decide +kernel) (pa_cons pe_int (pa_cons
          (pe_callB (call_min2 rfl) (by rfl) Nn.min (by decide +kernel) (pa_cons pe_int (pa_cons
            (pe_callB call_len_seq (by rfl) Nn.len PySem.boot_len (pa_cons (pv 0) pa_nil)) pa_nil))) pa_nil))) pa_nil))
        (blkOk_by (own := [("_law_k", 1)]) (N := NLw) (sc := defScope sLw) (by decide +kernel)) (fun _ _ _ _ _ => pg_name (i := 1) scLw.nd rfl (Or.inl rfl))
        (fun _ _ _ _ _ => pts_nil)
        (fun _ _ _ _ _ => by exact pe_callG GR hgu hr rfl gR kR bR (pa_cons (pe_call (E := E0) GG9 hr rfl gG kG bG .nil pass0 (pa_cons (pv 0) (pa_cons (pv 1) pa_nil))) pa_nil))) pa_nil))), ?_⟩
    refine ⟨_, rfl, a, _, rfl, .inl hS, _, _, rfl, _, _, rfl, ?_⟩
    rw [List.length_map]
    first
      | rw [many_nat]
      | rw [many_nat']
    have hm4 : max 1 (min 4 ns.length) ≤ 4 := by omega
    generalize max 1 (min 4 ns.length) = m at hm4
    refine ⟨m, rfl, by omega, by omega, fun D hD => ?_⟩
    refine lc_range (lo := 0) (n := m) (fun i H2 => H2 D = some (.lst (List.replicate i (V.bl true))) ∧ Same H H2)
      ⟨upd_same, fresh_upd hD⟩ ?_ ?_
    · rintro i H2 hi ⟨hD2, S2'⟩
      refine ⟨rfl, ?_⟩
      unfold tYes
      dsimp only
      rw [if_pos rfl]
      refine ⟨_, rfl, _, rfl, a, ns, _, rfl, S2'.seq hS, by omega, by omega, hn, fun p x y hp h0 h1 h2 => ?_⟩
      refine ⟨p, rfl, ⟨x, y, upd_same, h0, h1, h2⟩, fun H3' _ hB => ?_⟩
      have S3' : Same H2 H3' := fun b o e => hB b o (ne_of_none e hp) ((upd_ne (ne_of_none e hp)).trans e)
      refine ⟨_, S3' _ _ hD2, by rw [List.length_replicate, sizeLine_eq]; omega, ?_, fun b o e => ?_⟩
      · rw [upd_same, List.replicate_succ']
      · rw [upd_ne (ne_of_none e hD)]
        exact S3' b o (S2' b o e)
    · rintro H2 ⟨hD2, S2'⟩
      refine ⟨D, List.replicate m true, rfl, SqL.of (by rw [List.map_replicate]; exact hD2), ?_⟩
      rw [all_true]
      exact q _
end
end K40
set_option maxHeartbeats 8000000
namespace K40
open PySem PySem.Spec PyProof.Rows L2 He
theorem fun_of {K : PySem.W.Frag} {f : Addr} {x qual : Str} {st : Stmt} (e : fnX K f = fnT x qual st) (c : fnB K f qual = true) : ∃ fd, Fun K x qual st f fd := by
  unfold fnB at c
  obtain ⟨kp, c2⟩ := Bool.and_eq_true_iff.mp c
  unfold fnX at e
  cases q : K.lookup f with
  | none =>
    rw [q] at c2
    cases c2
  | some o =>
    obtain ⟨oc, od, dt, osl⟩ := o
    rw [q] at c2 e
    cases dt with
    | func fd =>
      obtain ⟨n1, n2, n3, n4, n5, n6, n7, n8, n9, n10, n11, n12, n13, n14, n15⟩ := fd
      have e2 : (some (n1, n2, n3, n4, n5, n6, n15) : FnX) = some (x, qual, defArgs st, .stmts (defBody st), defScope st, mainGlobals, builtinsNs) := e
      simp only [Option.some.injEq, Prod.mk.injEq] at e2
      obtain ⟨h1, h2, h3, h4, h5, h6, h7⟩ := e2
      subst h1 h2 h3 h4 h5 h6 h7
      dsimp only at c2
      split at c2
      · exact ⟨_, ⟨oc, od, n9, n10, n11, n12, n13, n14, osl, rfl, q, c2⟩, kp⟩
      · cases c2
    | _ => cases c2
/-- what stands of an own class' __init__ -/
structure InX (file : Str) (K : PySem.W.Frag) (C fI : Addr) (cc cda : Addr) (qual : Str) (params : Arguments) (body : List Stmt) (scope : Scope) : Prop where
  fn : ∃ (oc : Value) (od : Option Addr) (kV doc pm ct : Value) (an : Option Addr) (osl : Array (Option Value)), K.lookup fI = some ⟨oc, od,
      .func (PySem.W.ksFn "__init__" qual params body scope .none kV doc pm an (.ref cda) ct cc), osl⟩
  cod : PySem.W.codeIn K (.ref cda) qual = true
  code : ∃ ccl cdd vs ccs fl tf, K.lookup cda = some ⟨ccl, cdd, .fields vs, ccs⟩ ∧ vs[2]? = some (.str fl tf) ∧ (file == fl) = true
  cell : ∃ cl cld csl, K.lookup cc = some ⟨cl, cld, .cell (some (.ref C)), csl⟩
theorem in_of {file : Str} {K : PySem.W.Frag} {C f : Addr} {qual : Str} {st : Stmt} (e : fnX K f = fnT "__init__" qual st) (c : inB K file C f qual = true) :
    ∃ cc cda, InX file K C f cc cda qual (defArgs st) (defBody st) (defScope st) := by
  unfold inB at c
  unfold fnX at e
  cases q : K.lookup f with
  | none =>
    rw [q] at c
    cases c
  | some o =>
    obtain ⟨oc, od, dt, osl⟩ := o
    rw [q] at c e
    cases dt with
    | func fd =>
      obtain ⟨n1, n2, n3, n4, n5, n6, n7, n8, n9, n10, n11, n12, n13, n14, n15⟩ := fd
      have e2 : (some (n1, n2, n3, n4, n5, n6, n15) : FnX) = some (("__init__" : Str), qual, defArgs st, .stmts (defBody st), defScope st, mainGlobals, builtinsNs) := e
      simp only [Option.some.injEq, Prod.mk.injEq] at e2
      obtain ⟨h1, h2, h3, h4, h5, h6, h7⟩ := e2
      subst h1 h2 h3 h4 h5 h6 h7
      dsimp only at c
      split at c
      · rename_i x cc cda
        rw [Bool.and_eq_true, Bool.and_eq_true, Bool.and_eq_true] at c
        obtain ⟨⟨⟨c1, c2⟩, c3⟩, c4⟩ := c
        have ex := of_decide_eq_true c1
        subst ex
        refine ⟨cc, cda, ⟨oc, od, n9, n10, n11, n14, n12, osl, q⟩, c3, ?_, ?_⟩
        · split at c4
          · rename_i a1 a2 vs a4 q2
            split at c4
            · rename_i fl tf q3
              exact ⟨_, _, vs, _, fl, tf, q2, q3, c4⟩
            · cases c4
          · cases c4
        · split at c2
          · rename_i a1 a2 D a4 q2
            have eD := of_decide_eq_true c2
            subst eD
            exact ⟨_, _, _, q2⟩
          · cases c2
      · cases c
    | _ => cases c
theorem ob_eq (s : PySem.W.SharedT) : ob s = hk.obs s.abs := by
  have e : HandSHeadRun.getT s = s.abs.heap.get? := funext (HandSHeadRun.getT_eq s)
  show obK (KX (HandSHeadRun.getT s)) = obK (KX s.abs.heap.get?)
  rw [e]
theorem words_of {K : PySem.W.Frag} (h : wordsB K = true) : ∀ H, SqT K H (ga K "WORDS") (words.map V.str) := by
  unfold wordsB at h
  split at h
  · rename_i c dd its n sl q
    obtain ⟨c1, c2⟩ := Bool.and_eq_true_iff.mp h
    have hc := of_decide_eq_true c1
    split at c2
    · rename_i a ta b tb d td eL
      rw [Bool.and_eq_true, Bool.and_eq_true] at c2
      obtain ⟨e1, e2, e3⟩ := c2
      have e1 := of_decide_eq_true e1
      have e2 := of_decide_eq_true e2
      have e3 := of_decide_eq_true e3
      subst e1 e2 e3
      refine fun H => .inr ⟨_, its, n, q, hc, rfl, ?_, ?_⟩
      · have : its.size = its.toList.length := by simp
        rw [this, eL]
        show 3 ≤ sizeLine
        decide
      · rw [eL]
        exact .cons ⟨ta, rfl⟩ (.cons ⟨tb, rfl⟩ (.cons ⟨td, rfl⟩ .nil))
    · cases c2
  · cases h
end K40
set_option maxHeartbeats 8000000
namespace K40
open PySem PySem.Spec PyProof.Rows L2 He

/-! ### what the facts say -/
theorem foldr_map {α β : Type} (f : α → β) (t : List β) : ∀ l : List α, l.foldr (fun a r => f a :: r) t = l.map f ++ t
  | [] => rfl
  | a :: l => congrArg (f a :: ·) (foldr_map f t l)
theorem facts_of {K : PySem.W.Frag} (c : obK K = vaX) : allB K = true ∧ fnX K (ma K (ga K "InvalidTerm") "__init__") = fnT "__init__" "InvalidTerm.__init__" sXInvalidTerm ∧ fnX K (ma K (ga K "InvalidTerms") "__init__") = fnT "__init__" "InvalidTerms.__init__" sXInvalidTerms ∧ fnX K (ma K (ga K "InvalidWord") "__init__") = fnT "__init__" "InvalidWord.__init__" sXInvalidWord ∧ (∀ p ∈ meths, fnX K (faM K p.1) = fnT p.1 (quM p.1) (inClass sSize p.2)) ∧
    (∀ p ∈ fns, fnX K (ga K p.1) = fnT p.1 p.1 (top p.2)) ∧ (∀ p ∈ om, fnX K (ofa K (p.1, p.2.1)) = fnT p.2.1 p.2.2.1 (inClass (top p.2.2.2.1) p.2.2.2.2)) ∧ ∀ p ∈ oi, fnX K (oma K (p.1, "__init__")) = fnT "__init__" p.2.1 (inClass (top p.2.2.1) p.2.2.2) := by
  have c1 : allB K = true := congrArg (fun z : AlX => z.1) c
  have c2 : obF K = vaF := congrArg (fun z : AlX => z.2) c
  unfold obF vaF at c2
  rw [foldr_map, foldr_map, foldr_map, foldr_map, List.append_nil] at c2
  have h := c2
  obtain ⟨x0, h⟩ := List.cons.inj h
  obtain ⟨x1, h⟩ := List.cons.inj h
  obtain ⟨x2, h⟩ := List.cons.inj h
  obtain ⟨h1, h⟩ := List.append_inj h (by rw [List.length_map, List.length_map])
  obtain ⟨h2, h⟩ := List.append_inj h (by rw [List.length_map, List.length_map])
  obtain ⟨h3, h4⟩ := List.append_inj h (by rw [List.length_map, List.length_map])
  exact ⟨c1, x0, x1, x2, List.map_inj_left.mp h1, List.map_inj_left.mp h2, List.map_inj_left.mp h3, List.map_inj_left.mp h4⟩
theorem eO_ok {a b : Option (Option Value)} (h : eO a b = true) : a = b := of_decide_eq_true h
theorem eB_ok {a b : Option Bool} (h : eB a b = true) : a = b := of_decide_eq_true h
theorem ba2 {a b : Bool} (h : (a && b) = true) : a = true ∧ b = true := Bool.and_eq_true_iff.mp h
structure XF (K : PySem.W.Frag) (nm qu : Str) (B nw it : String) (fs : List Str) : Prop where
  glo : PySem.W.nsIn K mainGlobals nm = some (some (.ref (ga K nm)))
  ini : PySem.W.findIn K (.ref (ga K nm)) "__init__" = some (some (.ref (ma K (ga K nm) "__init__")))
  tyI : PySem.W.typeIn K (.ref (ma K (ga K nm) "__init__")) = some (.type "function")
  inb : inB K fileK (ga K nm) (ma K (ga K nm) "__init__") qu = true
  exI : PySem.W.excInitIn K (ga K nm) (bmL B) nw = true
  exO : PySem.W.excOver K (ga K nm) (bmL B) = true
  hd : PySem.W.hasDictIn K (ga K nm) = true
  sa : PySem.W.findIn K (.ref (ga K nm)) "__setattr__" = some (some (.builtin "object.__setattr__"))
  kp : PySem.W.keepIn K (.ref (ga K nm)) = true
  cls : (PySem.W.clsIn K (ga K nm)).isSome = true
  slf : PySem.W.mroIn K (ga K nm) (.ref (ga K nm)) = some true
  isB : PySem.W.subIn K (.ref (ga K nm)) (.type B) = some true
  sup : PySem.W.ks_superIn K (ga K nm) (ga K nm) "__init__" = some (some (.builtin it))
  gat : PySem.W.findIn K (.ref (ga K nm)) "__getattribute__" = some (some (.builtin "BaseException.__getattribute__"))
  gga : PySem.W.findIn K (.ref (ga K nm)) "__getattr__" = some none
  exb : PySem.W.subIn K (.ref (ga K nm)) (.type "BaseException") = some true
  cc : PySem.W.findIn K (.ref (ga K nm)) "__class__" = some (some (.builtin "object.__class__"))
  co : PySem.W.mroIn K (ga K nm) (.type "object") = some true
  tyC : PySem.W.typeIn K (.ref (ga K nm)) = some (.type "type")
  nf : ∀ f ∈ fs, PySem.W.findIn K (.ref (ga K nm)) f = some none
theorem xf_of {K : PySem.W.Frag} {nm qu : Str} {B nw it : String} {fs : List Str} (h : xB K nm qu B nw it fs = true) : XF K nm qu B nw it fs := by
  unfold xB at h
  obtain ⟨h1, h⟩ := ba2 h
  obtain ⟨h2, h⟩ := ba2 h
  obtain ⟨h3, h⟩ := ba2 h
  obtain ⟨h4, h⟩ := ba2 h
  obtain ⟨h5, h⟩ := ba2 h
  obtain ⟨h6, h⟩ := ba2 h
  obtain ⟨h7, h⟩ := ba2 h
  obtain ⟨h8, h⟩ := ba2 h
  obtain ⟨h9, h⟩ := ba2 h
  obtain ⟨h10, h⟩ := ba2 h
  obtain ⟨h11, h⟩ := ba2 h
  obtain ⟨h12, h⟩ := ba2 h
  obtain ⟨h13, h⟩ := ba2 h
  obtain ⟨h14, h⟩ := ba2 h
  obtain ⟨h15, h⟩ := ba2 h
  obtain ⟨h16, h⟩ := ba2 h
  obtain ⟨h17, h⟩ := ba2 h
  obtain ⟨h18, h⟩ := ba2 h
  obtain ⟨h19, h⟩ := ba2 h
  exact ⟨eO_ok h1, eO_ok h2, of_decide_eq_true h3, h4, h5, h6, h7, eO_ok h8, h9, h10, eB_ok h11, eB_ok h12, eO_ok h13, eO_ok h14, eO_ok h15, eB_ok h16, eO_ok h17, eB_ok h18, of_decide_eq_true h19, fun f hf => of_decide_eq_true (List.all_eq_true.mp h f hf)⟩
structure GF (K : PySem.W.Frag) : Prop where
  blt : ∀ x ∈ bltN, PySem.W.nsIn K mainGlobals x = some none
  fng : ∀ p ∈ fns, PySem.W.nsIn K mainGlobals p.1 = some (some (.ref (ga K p.1)))
  fnb : ∀ p ∈ fns, fnB K (ga K p.1) p.1 = true
  sys : (K.lookup sysModules).isSome = true
  cn : PySem.W.specialIn K (.builtin "object.__class__") "__get__" = some (some (.builtin "getset_descriptor.__get__"))
  ct : PySem.W.takesIn K (.builtin "object.__class__") = some true
  con : conB K = true
  ini : true = true
  mes : ∀ p ∈ meths, fnB K (faM K p.1) (quM p.1) = true
  pl : ∀ m ∈ plain, plB K m = true
  pr : ∀ m ∈ props, prB K m = true
  cm : ∀ m ∈ cms, cmmB K m = true
theorem gf_of {K : PySem.W.Frag} (h : gloB K = true) : GF K := by
  unfold gloB at h
  obtain ⟨h1, h⟩ := ba2 h
  obtain ⟨h2, h⟩ := ba2 h
  obtain ⟨h3, h⟩ := ba2 h
  obtain ⟨h4, h⟩ := ba2 h
  obtain ⟨h5, h⟩ := ba2 h
  obtain ⟨h6, h⟩ := ba2 h
  obtain ⟨h7, h⟩ := ba2 h
  obtain ⟨h8, h⟩ := ba2 h
  obtain ⟨h9, h⟩ := ba2 h
  obtain ⟨h10, h⟩ := ba2 h
  exact ⟨fun x hx => eO_ok (List.all_eq_true.mp h1 x hx), fun p hp => eO_ok (ba2 (List.all_eq_true.mp h2 p hp)).1, fun p hp => (ba2 (List.all_eq_true.mp h2 p hp)).2, h3, eO_ok h4, eB_ok h5, h6, h7,
    List.all_eq_true.mp h8, List.all_eq_true.mp h9, List.all_eq_true.mp h10, List.all_eq_true.mp h⟩
theorem con_ok {K : PySem.W.Frag} (h : conB K = true) : (∃ t, PySem.W.nsIn K mainGlobals "LETTERS" = some (some (.str abc t))) ∧ (∃ t, PySem.W.nsIn K mainGlobals "LONGEST_NAME" = some (some (.int (8) t))) ∧ (∃ t, PySem.W.nsIn K mainGlobals "CHUNK" = some (some (.int (10 ^ 60) t))) ∧ (∃ t, PySem.W.nsIn K mainGlobals "MOST_JOINED" = some (some (.int (3) t))) := by
  unfold conB at h
  obtain ⟨h1, h⟩ := ba2 h
  obtain ⟨h2, h⟩ := ba2 h
  obtain ⟨h3, h⟩ := ba2 h
  refine ⟨?_, ?_, ?_, ?_⟩
  · split at h1
    · rename_i x t e
      exact ⟨t, by rw [e, of_decide_eq_true h1]⟩
    · cases h1
  · split at h2
    · rename_i x t e
      exact ⟨t, by rw [e, of_decide_eq_true h2]⟩
    · cases h2
  · split at h3
    · rename_i x t e
      exact ⟨t, by rw [e, of_decide_eq_true h3]⟩
    · cases h3
  · split at h
    · rename_i x t e
      exact ⟨t, by rw [e, of_decide_eq_true h]⟩
    · cases h
abbrev PG : Program := PySem.Challenge.pw_anyshape_k40_terms
section
variable {w : World} {K : PySem.W.Frag} {mg : Str → Option Value} {h : Heap}
end
theorem tk_of {K : PySem.W.Frag} {C : Addr} {f : Str} (h : PySem.W.findIn K (.ref C) f = some none) : PySem.W.takerIn K C f = some none := by
  unfold PySem.W.takerIn
  rw [h]
  rfl
section
open Xc
variable {w : World} {K : PySem.W.Frag} {mg : Str → Option Value} {C fI cc cda : Addr} {B newId initId : String} {bmB : List Value}
variable {qual msg f1 f2 f3 : Str} {j : Nat} {p0 p1 p2 p3 p4 p5 a0 a1 a2 a3 q1 q2 q3 q4 r1 r2 r3 r4 u1 u2 u3 u4 : Pos} {ar : Arguments} {bo : List Stmt} {sc : Scope}
theorem fs1 {fs : List (Str × Value)} (h : fs.map (·.1) = [f1]) : ∃ v, fs = [(f1, v)] := by
  match fs, h with
  | [(a, v)], h =>
    injection h with h1 _
    exact ⟨v, by rw [show a = f1 from h1]⟩
theorem mkAll1 (hA : ar = iArgs [("self", a0), (f1, a1)]) (hB : bo = [supS msg j p0 p1 p2 p3 p4 p5, stS f1 q1 q2 q3 q4]) (hS : sc = iScope ["self", f1])
    (hln : (p2.endLine == p4.line) = true) (n1 : Nm f1)
    (T : XC K C B newId initId bmB) (iC : PySem.W.findIn K (.ref C) "__init__" = some (some (.ref fI))) (tI : PySem.W.typeIn K (.ref fI) = some (.type "function"))
    (S : XI PG K mg C fI cc cda qual ar bo sc B initId) (kp : PySem.W.keepIn K (.ref C) = true) (t1 : PySem.W.takerIn K C f1 = some none)
    (hp : ∀ v s x kV doc pm ct an, BindsTo s (PySem.W.ksFn "__init__" qual ar bo sc .none kV doc pm an (.ref cda) ct cc) ⟨[.ref x, v], []⟩ [("self", .ref x), (f1, v)])
    (hk : ∀ v s x kV doc pm ct an, BindsTo s (PySem.W.ksFn "__init__" qual ar bo sc .none kV doc pm an (.ref cda) ct cc) ⟨[.ref x], [(f1, v)]⟩ [("self", .ref x), (f1, v)]) :
    MkAll PG w K mg C [f1] := by
  subst hA hB hS
  refine ⟨fun fs h => ?_, fun fs h => ?_, kp⟩
  · obtain ⟨v, rfl⟩ := fs1 h
    exact mk1 n1 T iC tI S hln t1 (by show 1 ≤ sizeLine; decide) (hp v)
  · obtain ⟨v, rfl⟩ := fs1 h
    exact mk1 n1 T iC tI S hln t1 (Nat.zero_le _) (hk v)
end
theorem nmy {p : Str} (h1 : (p == ("self" : Str)) = false) (h2 : (p == ("super" : Str)) = false) (h3 : (p == ("__class__" : Str)) = false) (h4 : (p == ("__debug__" : Str)) = false) : Xc.Nm p :=
  ⟨Xc.ns_of _ _ h1, Xc.ns_of _ _ h2, Xc.ns_of _ _ h3, Xc.ns_of _ _ h4⟩
section
variable {w : World} {K : PySem.W.Frag} {mg : Str → Option Value}
theorem mk_InvalidTerm (c : XF K "InvalidTerm" "InvalidTerm.__init__" "ValueError" "ValueError.__new__" "ValueError.__init__" ["value"]) (ox : PySem.W.nsIn K cStatics "thirdparty.any" = some none) (ns : mg "super" = none) (e : fnX K (ma K (ga K "InvalidTerm") "__init__") = fnT "__init__" "InvalidTerm.__init__" sXInvalidTerm) : MkAll PG w K mg (ga K "InvalidTerm") ["value"] := by
  obtain ⟨cc, cda, Z⟩ := in_of e c.inb
  exact mkAll1 rfl rfl rfl rfl (nmy (by decide) (by decide) (by decide) (by decide)) ⟨F.excBase_ValueError, F.store_ValueError, PySem.W.kxs_ValueError, c.exI, c.exO, c.hd, c.sa⟩ c.ini c.tyI ⟨Z.fn, Z.cod, Z.code, Z.cell, c.cls, c.slf, c.isB, c.sup, ox, ns, by decide +kernel⟩ c.kp (tk_of (c.nf "value" (by decide))) (fun _ _ _ _ _ _ _ _ => .of_eq rfl) (fun _ _ _ _ _ _ _ _ => .of_eq rfl)
theorem mk_InvalidTerms (c : XF K "InvalidTerms" "InvalidTerms.__init__" "ValueError" "ValueError.__new__" "ValueError.__init__" ["position"]) (ox : PySem.W.nsIn K cStatics "thirdparty.any" = some none) (ns : mg "super" = none) (e : fnX K (ma K (ga K "InvalidTerms") "__init__") = fnT "__init__" "InvalidTerms.__init__" sXInvalidTerms) : MkAll PG w K mg (ga K "InvalidTerms") ["position"] := by
  obtain ⟨cc, cda, Z⟩ := in_of e c.inb
  exact mkAll1 rfl rfl rfl rfl (nmy (by decide) (by decide) (by decide) (by decide)) ⟨F.excBase_ValueError, F.store_ValueError, PySem.W.kxs_ValueError, c.exI, c.exO, c.hd, c.sa⟩ c.ini c.tyI ⟨Z.fn, Z.cod, Z.code, Z.cell, c.cls, c.slf, c.isB, c.sup, ox, ns, by decide +kernel⟩ c.kp (tk_of (c.nf "position" (by decide))) (fun _ _ _ _ _ _ _ _ => .of_eq rfl) (fun _ _ _ _ _ _ _ _ => .of_eq rfl)
theorem mk_InvalidWord (c : XF K "InvalidWord" "InvalidWord.__init__" "ValueError" "ValueError.__new__" "ValueError.__init__" ["value"]) (ox : PySem.W.nsIn K cStatics "thirdparty.any" = some none) (ns : mg "super" = none) (e : fnX K (ma K (ga K "InvalidWord") "__init__") = fnT "__init__" "InvalidWord.__init__" sXInvalidWord) : MkAll PG w K mg (ga K "InvalidWord") ["value"] := by
  obtain ⟨cc, cda, Z⟩ := in_of e c.inb
  exact mkAll1 rfl rfl rfl rfl (nmy (by decide) (by decide) (by decide) (by decide)) ⟨F.excBase_ValueError, F.store_ValueError, PySem.W.kxs_ValueError, c.exI, c.exO, c.hd, c.sa⟩ c.ini c.tyI ⟨Z.fn, Z.cod, Z.code, Z.cell, c.cls, c.slf, c.isB, c.sup, ox, ns, by decide +kernel⟩ c.kp (tk_of (c.nf "value" (by decide))) (fun _ _ _ _ _ _ _ _ => .of_eq rfl) (fun _ _ _ _ _ _ _ _ => .of_eq rfl)
end
section
variable {w : World} {K : PySem.W.Frag} {mg : Str → Option Value} {h : Heap}
theorem law_mk {fa : Addr} (X : K.In h) (G : h.Ns mainGlobals mg) (c : obK K = vaX) (hfa : mg "law" = some (.ref fa)) :
    ∃ fd : FuncData, (∀ (s : Shared) (u : Value), BindsTo s fd ⟨[u], []⟩ [("_law_script", u)]) ∧
      ∀ base : Heap, K.In base → base.Ns mainGlobals mg → FnG PG w K mg base 25 fa fd ["_law_script"] (spLaw K) := by
  obtain ⟨hB, hX0, hX1, hX2, hM, hT, hO, hOI⟩ := facts_of c
  unfold allB at hB
  obtain ⟨h0, hB⟩ := ba2 hB
  obtain ⟨h1, hB⟩ := ba2 hB
  obtain ⟨h2, h3⟩ := ba2 hB
  have g := gf_of h1
  unfold exB at h3
  obtain ⟨z0, h3⟩ := ba2 h3
  obtain ⟨z1, h3⟩ := ba2 h3
  obtain ⟨z2, h3⟩ := ba2 h3
  obtain ⟨z3, h3⟩ := ba2 h3
  obtain ⟨z4, h3⟩ := ba2 h3
  obtain ⟨z5, h3⟩ := ba2 h3
  obtain ⟨z6, h3⟩ := ba2 h3
  obtain ⟨z7, h3⟩ := ba2 h3
  obtain ⟨z8, h3⟩ := ba2 h3
  obtain ⟨z9, h3⟩ := ba2 h3
  obtain ⟨z10, h3⟩ := ba2 h3
  obtain ⟨z11, h3⟩ := ba2 h3
  obtain ⟨z12, h3⟩ := ba2 h3
  obtain ⟨z13, h3⟩ := ba2 h3
  have ox := eO_ok h3
  have xf0 := xf_of z0
  have xf1 := xf_of z1
  have xf2 := xf_of z2
  have zx0 := eB_ok z3
  have zx1 := eB_ok z4
  have zx2 := eB_ok z5
  have zx3 := eB_ok z6
  have zx4 := eB_ok z7
  have zx5 := eB_ok z8
  have zx6 := eB_ok z9
  have zx7 := eB_ok z10
  have zx8 := eO_ok z11
  have zx9 := eO_ok z12
  have zx10 := z13
  have bn : ∀ x ∈ bltN, mg x = none := fun x hx => PySem.W.mg_none_of X G (g.blt x hx)
  obtain ⟨⟨t0, con0⟩, ⟨t1, con1⟩, ⟨t2, con2⟩, ⟨t3, con3⟩⟩ := con_ok g.con
  have ns : mg "super" = none := bn "super" (by simp [bltN])
  have MX0 := mk_InvalidTerm (w := w) xf0 ox ns hX0
  have gX0 : mg "InvalidTerm" = some (.ref (ga K "InvalidTerm")) := PySem.W.mg_of X G xf0.glo
  have xg0 : XG K (ga K "InvalidTerm") := ⟨xf0.gat, xf0.gga, xf0.exb, xf0.hd, xf0.cls, xf0.cc, g.cn, g.ct, xf0.co⟩
  have MX1 := mk_InvalidTerms (w := w) xf1 ox ns hX1
  have gX1 : mg "InvalidTerms" = some (.ref (ga K "InvalidTerms")) := PySem.W.mg_of X G xf1.glo
  have xg1 : XG K (ga K "InvalidTerms") := ⟨xf1.gat, xf1.gga, xf1.exb, xf1.hd, xf1.cls, xf1.cc, g.cn, g.ct, xf1.co⟩
  have MX2 := mk_InvalidWord (w := w) xf2 ox ns hX2
  have gX2 : mg "InvalidWord" = some (.ref (ga K "InvalidWord")) := PySem.W.mg_of X G xf2.glo
  have xg2 : XG K (ga K "InvalidWord") := ⟨xf2.gat, xf2.gga, xf2.exb, xf2.hd, xf2.cls, xf2.cc, g.cn, g.ct, xf2.co⟩
  have NB : Nb mg := ⟨bn "len" (by simp [bltN]), bn "max" (by simp [bltN]), bn "min" (by simp [bltN]), bn "abs" (by simp [bltN]), bn "int" (by simp [bltN]), bn "divmod" (by simp [bltN]), bn "repr" (by simp [bltN]), bn "isinstance" (by simp [bltN]), bn "range" (by simp [bltN]), bn "enumerate" (by simp [bltN]), bn "all" (by simp [bltN])⟩
  have NK : Nk mg := ⟨bn "isinstance" (by simp [bltN]), bn "int" (by simp [bltN]), bn "bool" (by simp [bltN]), bn "str" (by simp [bltN]), bn "dict" (by simp [bltN]), bn "len" (by simp [bltN]), bn "all" (by simp [bltN])⟩
  have NO : No mg := ⟨bn "sorted" (by simp [bltN]), bn "enumerate" (by simp [bltN]), bn "len" (by simp [bltN]), bn "tuple" (by simp [bltN])⟩
  have NN : Nn2 mg := ⟨⟨t1, PySem.W.mg_of X G con1⟩, ⟨t0, PySem.W.mg_of X G con0⟩⟩
  have NSx : Ns mg := ⟨bn "str" (by simp [bltN]), ⟨t2, PySem.W.mg_of X G con2⟩⟩
  have WDx : Wd K mg := ⟨⟨_, PySem.W.mg_of X G zx9, words_of zx10⟩, ⟨t3, PySem.W.mg_of X G con3⟩⟩
  have gA : mg "AnyshapeError" = some (.ref (ga K "AnyshapeError")) := PySem.W.mg_of X G zx8
  obtain ⟨d0, F0⟩ := fun_of (K := K) (f := ga K "decimal_text") (x := "decimal_text") (qual := "decimal_text") (st := top 3) (hT ("decimal_text", 3) (by simp [fns, fns0, fns1])) (g.fnb ("decimal_text", 3) (by simp [fns, fns0, fns1]))
  have m0 : mg "decimal_text" = some (.ref (ga K "decimal_text")) := PySem.W.mg_of X G (g.fng ("decimal_text", 3) (by simp [fns, fns0, fns1]))
  have b0 := F0.binds (ps := ["number"]) fun _ _ _ _ _ _ us hl => match us, hl with | [_], _ => rfl
  obtain ⟨d1, F1⟩ := fun_of (K := K) (f := ga K "is_integer") (x := "is_integer") (qual := "is_integer") (st := top 10) (hT ("is_integer", 10) (by simp [fns, fns0, fns1])) (g.fnb ("is_integer", 10) (by simp [fns, fns0, fns1]))
  have m1 : mg "is_integer" = some (.ref (ga K "is_integer")) := PySem.W.mg_of X G (g.fng ("is_integer", 10) (by simp [fns, fns0, fns1]))
  have b1 := F1.binds (ps := ["value"]) fun _ _ _ _ _ _ us hl => match us, hl with | [_], _ => rfl
  obtain ⟨d2, F2⟩ := fun_of (K := K) (f := ga K "is_count") (x := "is_count") (qual := "is_count") (st := top 11) (hT ("is_count", 11) (by simp [fns, fns0, fns1])) (g.fnb ("is_count", 11) (by simp [fns, fns0, fns1]))
  have m2 : mg "is_count" = some (.ref (ga K "is_count")) := PySem.W.mg_of X G (g.fng ("is_count", 11) (by simp [fns, fns0, fns1]))
  have b2 := F2.binds (ps := ["value"]) fun _ _ _ _ _ _ us hl => match us, hl with | [_], _ => rfl
  obtain ⟨d3, F3⟩ := fun_of (K := K) (f := ga K "is_list") (x := "is_list") (qual := "is_list") (st := top 12) (hT ("is_list", 12) (by simp [fns, fns0, fns1])) (g.fnb ("is_list", 12) (by simp [fns, fns0, fns1]))
  have m3 : mg "is_list" = some (.ref (ga K "is_list")) := PySem.W.mg_of X G (g.fng ("is_list", 12) (by simp [fns, fns0, fns1]))
  have b3 := F3.binds (ps := ["value"]) fun _ _ _ _ _ _ us hl => match us, hl with | [_], _ => rfl
  obtain ⟨d4, F4⟩ := fun_of (K := K) (f := ga K "is_name") (x := "is_name") (qual := "is_name") (st := top 16) (hT ("is_name", 16) (by simp [fns, fns0, fns1])) (g.fnb ("is_name", 16) (by simp [fns, fns0, fns1]))
  have m4 : mg "is_name" = some (.ref (ga K "is_name")) := PySem.W.mg_of X G (g.fng ("is_name", 16) (by simp [fns, fns0, fns1]))
  have b4 := F4.binds (ps := ["value"]) fun _ _ _ _ _ _ us hl => match us, hl with | [_], _ => rfl
  obtain ⟨d5, F5⟩ := fun_of (K := K) (f := ga K "is_term") (x := "is_term") (qual := "is_term") (st := top 20) (hT ("is_term", 20) (by simp [fns, fns0, fns1])) (g.fnb ("is_term", 20) (by simp [fns, fns0, fns1]))
  have m5 : mg "is_term" = some (.ref (ga K "is_term")) := PySem.W.mg_of X G (g.fng ("is_term", 20) (by simp [fns, fns0, fns1]))
  have b5 := F5.binds (ps := ["value"]) fun _ _ _ _ _ _ us hl => match us, hl with | [_], _ => rfl
  obtain ⟨d6, F6⟩ := fun_of (K := K) (f := ga K "put_together") (x := "put_together") (qual := "put_together") (st := top 21) (hT ("put_together", 21) (by simp [fns, fns0, fns1])) (g.fnb ("put_together", 21) (by simp [fns, fns0, fns1]))
  have m6 : mg "put_together" = some (.ref (ga K "put_together")) := PySem.W.mg_of X G (g.fng ("put_together", 21) (by simp [fns, fns0, fns1]))
  have b6 := F6.binds (ps := ["word", "terms"]) fun _ _ _ _ _ _ us hl => match us, hl with | [_, _], _ => rfl
  obtain ⟨d7, F7⟩ := fun_of (K := K) (f := ga K "word_over") (x := "word_over") (qual := "word_over") (st := top 22) (hT ("word_over", 22) (by simp [fns, fns0, fns1])) (g.fnb ("word_over", 22) (by simp [fns, fns0, fns1]))
  have m7 : mg "word_over" = some (.ref (ga K "word_over")) := PySem.W.mg_of X G (g.fng ("word_over", 22) (by simp [fns, fns0, fns1]))
  have b7 := F7.binds (ps := ["word", "terms"]) fun _ _ _ _ _ _ us hl => match us, hl with | [_, _], _ => rfl
  obtain ⟨d8, F8⟩ := fun_of (K := K) (f := ga K "reads_of") (x := "reads_of") (qual := "reads_of") (st := top 23) (hT ("reads_of", 23) (by simp [fns, fns0, fns1])) (g.fnb ("reads_of", 23) (by simp [fns, fns0, fns1]))
  have m8 : mg "reads_of" = some (.ref (ga K "reads_of")) := PySem.W.mg_of X G (g.fng ("reads_of", 23) (by simp [fns, fns0, fns1]))
  have b8 := F8.binds (ps := ["term"]) fun _ _ _ _ _ _ us hl => match us, hl with | [_], _ => rfl
  obtain ⟨d9, F9⟩ := fun_of (K := K) (f := ga K "term_text") (x := "term_text") (qual := "term_text") (st := top 24) (hT ("term_text", 24) (by simp [fns, fns0, fns1])) (g.fnb ("term_text", 24) (by simp [fns, fns0, fns1]))
  have m9 : mg "term_text" = some (.ref (ga K "term_text")) := PySem.W.mg_of X G (g.fng ("term_text", 24) (by simp [fns, fns0, fns1]))
  have b9 := F9.binds (ps := ["term"]) fun _ _ _ _ _ _ us hl => match us, hl with | [_], _ => rfl
  obtain ⟨d10, F10⟩ := fun_of (K := K) (f := ga K "check_term") (x := "check_term") (qual := "check_term") (st := top 25) (hT ("check_term", 25) (by simp [fns, fns0, fns1])) (g.fnb ("check_term", 25) (by simp [fns, fns0, fns1]))
  have m10 : mg "check_term" = some (.ref (ga K "check_term")) := PySem.W.mg_of X G (g.fng ("check_term", 25) (by simp [fns, fns0, fns1]))
  have b10 := F10.binds (ps := ["value"]) fun _ _ _ _ _ _ us hl => match us, hl with | [_], _ => rfl
  obtain ⟨d11, F11⟩ := fun_of (K := K) (f := ga K "_reads_in") (x := "_reads_in") (qual := "_reads_in") (st := top 26) (hT ("_reads_in", 26) (by simp [fns, fns0, fns1])) (g.fnb ("_reads_in", 26) (by simp [fns, fns0, fns1]))
  have m11 : mg "_reads_in" = some (.ref (ga K "_reads_in")) := PySem.W.mg_of X G (g.fng ("_reads_in", 26) (by simp [fns, fns0, fns1]))
  have b11 := F11.binds (ps := ["term"]) fun _ _ _ _ _ _ us hl => match us, hl with | [_], _ => rfl
  obtain ⟨d12, F12⟩ := fun_of (K := K) (f := ga K "_text_of") (x := "_text_of") (qual := "_text_of") (st := top 27) (hT ("_text_of", 27) (by simp [fns, fns0, fns1])) (g.fnb ("_text_of", 27) (by simp [fns, fns0, fns1]))
  have m12 : mg "_text_of" = some (.ref (ga K "_text_of")) := PySem.W.mg_of X G (g.fng ("_text_of", 27) (by simp [fns, fns0, fns1]))
  have b12 := F12.binds (ps := ["term"]) fun _ _ _ _ _ _ us hl => match us, hl with | [_], _ => rfl
  obtain ⟨d13, F13⟩ := fun_of (K := K) (f := ga K "_law_rng") (x := "_law_rng") (qual := "_law_rng") (st := top 29) (hT ("_law_rng", 29) (by simp [fns, fns0, fns1])) (g.fnb ("_law_rng", 29) (by simp [fns, fns0, fns1]))
  have m13 : mg "_law_rng" = some (.ref (ga K "_law_rng")) := PySem.W.mg_of X G (g.fng ("_law_rng", 29) (by simp [fns, fns0, fns1]))
  have b13 := F13.binds (ps := ["_law_script", "_law_k"]) fun _ _ _ _ _ _ us hl => match us, hl with | [_, _], _ => rfl
  obtain ⟨d14, F14⟩ := fun_of (K := K) (f := ga K "_law_draw") (x := "_law_draw") (qual := "_law_draw") (st := top 30) (hT ("_law_draw", 30) (by simp [fns, fns0, fns1])) (g.fnb ("_law_draw", 30) (by simp [fns, fns0, fns1]))
  have m14 : mg "_law_draw" = some (.ref (ga K "_law_draw")) := PySem.W.mg_of X G (g.fng ("_law_draw", 30) (by simp [fns, fns0, fns1]))
  have b14 := F14.binds (ps := ["_law_rng_here", "_law_many"]) fun _ _ _ _ _ _ us hl => match us, hl with | [_, _], _ => rfl
  obtain ⟨d15, F15⟩ := fun_of (K := K) (f := ga K "_law_choice") (x := "_law_choice") (qual := "_law_choice") (st := top 31) (hT ("_law_choice", 31) (by simp [fns, fns0, fns1])) (g.fnb ("_law_choice", 31) (by simp [fns, fns0, fns1]))
  have m15 : mg "_law_choice" = some (.ref (ga K "_law_choice")) := PySem.W.mg_of X G (g.fng ("_law_choice", 31) (by simp [fns, fns0, fns1]))
  have b15 := F15.binds (ps := ["_law_rng_here", "_law_some"]) fun _ _ _ _ _ _ us hl => match us, hl with | [_, _], _ => rfl
  obtain ⟨d16, F16⟩ := fun_of (K := K) (f := ga K "_law_put") (x := "_law_put") (qual := "_law_put") (st := top 32) (hT ("_law_put", 32) (by simp [fns, fns0, fns1])) (g.fnb ("_law_put", 32) (by simp [fns, fns0, fns1]))
  have m16 : mg "_law_put" = some (.ref (ga K "_law_put")) := PySem.W.mg_of X G (g.fng ("_law_put", 32) (by simp [fns, fns0, fns1]))
  have b16 := F16.binds (ps := ["_law_word", "_law_terms"]) fun _ _ _ _ _ _ us hl => match us, hl with | [_, _], _ => rfl
  obtain ⟨d17, F17⟩ := fun_of (K := K) (f := ga K "_law_term") (x := "_law_term") (qual := "_law_term") (st := top 33) (hT ("_law_term", 33) (by simp [fns, fns0, fns1])) (g.fnb ("_law_term", 33) (by simp [fns, fns0, fns1]))
  have m17 : mg "_law_term" = some (.ref (ga K "_law_term")) := PySem.W.mg_of X G (g.fng ("_law_term", 33) (by simp [fns, fns0, fns1]))
  have b17 := F17.binds (ps := ["_law_rng_here", "_law_deep"]) fun _ _ _ _ _ _ us hl => match us, hl with | [_, _], _ => rfl
  obtain ⟨d18, F18⟩ := fun_of (K := K) (f := ga K "_law_bag") (x := "_law_bag") (qual := "_law_bag") (st := top 34) (hT ("_law_bag", 34) (by simp [fns, fns0, fns1])) (g.fnb ("_law_bag", 34) (by simp [fns, fns0, fns1]))
  have m18 : mg "_law_bag" = some (.ref (ga K "_law_bag")) := PySem.W.mg_of X G (g.fng ("_law_bag", 34) (by simp [fns, fns0, fns1]))
  have b18 := F18.binds (ps := ["_law_rng_here", "_law_deep"]) fun _ _ _ _ _ _ us hl => match us, hl with | [_, _], _ => rfl
  obtain ⟨d19, F19⟩ := fun_of (K := K) (f := ga K "_law_reads") (x := "_law_reads") (qual := "_law_reads") (st := top 35) (hT ("_law_reads", 35) (by simp [fns, fns0, fns1])) (g.fnb ("_law_reads", 35) (by simp [fns, fns0, fns1]))
  have m19 : mg "_law_reads" = some (.ref (ga K "_law_reads")) := PySem.W.mg_of X G (g.fng ("_law_reads", 35) (by simp [fns, fns0, fns1]))
  have b19 := F19.binds (ps := ["_law_term_here"]) fun _ _ _ _ _ _ us hl => match us, hl with | [_], _ => rfl
  obtain ⟨d20, F20⟩ := fun_of (K := K) (f := ga K "_law_text") (x := "_law_text") (qual := "_law_text") (st := top 36) (hT ("_law_text", 36) (by simp [fns, fns0, fns1])) (g.fnb ("_law_text", 36) (by simp [fns, fns0, fns1]))
  have m20 : mg "_law_text" = some (.ref (ga K "_law_text")) := PySem.W.mg_of X G (g.fng ("_law_text", 36) (by simp [fns, fns0, fns1]))
  have b20 := F20.binds (ps := ["_law_term_here"]) fun _ _ _ _ _ _ us hl => match us, hl with | [_], _ => rfl
  obtain ⟨d21, F21⟩ := fun_of (K := K) (f := ga K "_law_odd") (x := "_law_odd") (qual := "_law_odd") (st := top 37) (hT ("_law_odd", 37) (by simp [fns, fns0, fns1])) (g.fnb ("_law_odd", 37) (by simp [fns, fns0, fns1]))
  have m21 : mg "_law_odd" = some (.ref (ga K "_law_odd")) := PySem.W.mg_of X G (g.fng ("_law_odd", 37) (by simp [fns, fns0, fns1]))
  have b21 := F21.binds (ps := ["_law_rng_here", "_law_term_here"]) fun _ _ _ _ _ _ us hl => match us, hl with | [_, _], _ => rfl
  obtain ⟨d22, F22⟩ := fun_of (K := K) (f := ga K "_law_told") (x := "_law_told") (qual := "_law_told") (st := top 38) (hT ("_law_told", 38) (by simp [fns, fns0, fns1])) (g.fnb ("_law_told", 38) (by simp [fns, fns0, fns1]))
  have m22 : mg "_law_told" = some (.ref (ga K "_law_told")) := PySem.W.mg_of X G (g.fng ("_law_told", 38) (by simp [fns, fns0, fns1]))
  have b22 := F22.binds (ps := ["_law_word", "_law_terms"]) fun _ _ _ _ _ _ us hl => match us, hl with | [_, _], _ => rfl
  obtain ⟨d23, F23⟩ := fun_of (K := K) (f := ga K "_law_refused") (x := "_law_refused") (qual := "_law_refused") (st := top 39) (hT ("_law_refused", 39) (by simp [fns, fns0, fns1])) (g.fnb ("_law_refused", 39) (by simp [fns, fns0, fns1]))
  have m23 : mg "_law_refused" = some (.ref (ga K "_law_refused")) := PySem.W.mg_of X G (g.fng ("_law_refused", 39) (by simp [fns, fns0, fns1]))
  have b23 := F23.binds (ps := ["_law_term_here"]) fun _ _ _ _ _ _ us hl => match us, hl with | [_], _ => rfl
  obtain ⟨d24, F24⟩ := fun_of (K := K) (f := ga K "_law_bag_right") (x := "_law_bag_right") (qual := "_law_bag_right") (st := top 40) (hT ("_law_bag_right", 40) (by simp [fns, fns0, fns1])) (g.fnb ("_law_bag_right", 40) (by simp [fns, fns0, fns1]))
  have m24 : mg "_law_bag_right" = some (.ref (ga K "_law_bag_right")) := PySem.W.mg_of X G (g.fng ("_law_bag_right", 40) (by simp [fns, fns0, fns1]))
  have b24 := F24.binds (ps := ["_law_rng_here"]) fun _ _ _ _ _ _ us hl => match us, hl with | [_], _ => rfl
  obtain ⟨d25, F25⟩ := fun_of (K := K) (f := ga K "_law_wrong_right") (x := "_law_wrong_right") (qual := "_law_wrong_right") (st := top 41) (hT ("_law_wrong_right", 41) (by simp [fns, fns0, fns1])) (g.fnb ("_law_wrong_right", 41) (by simp [fns, fns0, fns1]))
  have m25 : mg "_law_wrong_right" = some (.ref (ga K "_law_wrong_right")) := PySem.W.mg_of X G (g.fng ("_law_wrong_right", 41) (by simp [fns, fns0, fns1]))
  have b25 := F25.binds (ps := ["_law_rng_here", "_law_term_here"]) fun _ _ _ _ _ _ us hl => match us, hl with | [_, _], _ => rfl
  obtain ⟨d26, F26⟩ := fun_of (K := K) (f := ga K "_law_right") (x := "_law_right") (qual := "_law_right") (st := top 42) (hT ("_law_right", 42) (by simp [fns, fns0, fns1])) (g.fnb ("_law_right", 42) (by simp [fns, fns0, fns1]))
  have m26 : mg "_law_right" = some (.ref (ga K "_law_right")) := PySem.W.mg_of X G (g.fng ("_law_right", 42) (by simp [fns, fns0, fns1]))
  have b26 := F26.binds (ps := ["_law_rng_here"]) fun _ _ _ _ _ _ us hl => match us, hl with | [_], _ => rfl
  obtain ⟨d27, F27⟩ := fun_of (K := K) (f := ga K "law") (x := "law") (qual := "law") (st := top 43) (hT ("law", 43) (by simp [fns, fns0, fns1])) (g.fnb ("law", 43) (by simp [fns, fns0, fns1]))
  have m27 : mg "law" = some (.ref (ga K "law")) := PySem.W.mg_of X G (g.fng ("law", 43) (by simp [fns, fns0, fns1]))
  have b27 := F27.binds (ps := ["_law_script"]) fun _ _ _ _ _ _ us hl => match us, hl with | [_], _ => rfl
  have e := hfa.symm.trans m27
  cases e
  obtain ⟨oc, od, kV, doc, pm, an, cdv, ct, osl, ef, lk, hcd⟩ := id F27.ex
  refine ⟨d27, fun s u => ?_, fun base _ _ => ?_⟩
  · rw [ef]
    exact .of_eq rfl
  · have GIntD := ok_intD (P := PG) (w := w) (base := base) F1 NK
    have GCnt := ok_cntD (P := PG) (w := w) (base := base) F2 NK GIntD F1.kp b1 m1
    have GSeq := ok_seqD (P := PG) (w := w) (base := base) F3 NK (bn "list" (by simp [bltN])) (bn "tuple" (by simp [bltN]))
    have GNm := ok_isname (P := PG) (w := w) (base := base) F4 NK NN
    have GOv := ok_over (P := PG) (w := w) (base := base) F7 NO
    have TX : TmX PG w K mg base := ⟨NK, NO, WDx, ⟨_, _, m4, GNm, F4.kp, b4⟩, ⟨_, _, m2, GCnt, F2.kp, b2⟩, ⟨_, _, m7, GOv, F7.kp, b7⟩⟩
    have GTm := ok_term F5 TX m5 b5 16 (by decide)
    have GChk := ok_chk (P := PG) (w := w) (base := base) (n := 16) F10 GTm F5.kp b5 m5 (⟨gX0, MX0, xf0.exb, xf0.tyC⟩ : Xk PG w K mg "InvalidTerm" "value" (ga K "InvalidTerm"))
    have PX : PtX PG w K mg base 16 (ga K "InvalidWord") (ga K "InvalidTerms") := ⟨NK, NO, WDx, ⟨_, _, m5, GTm, F5.kp, b5⟩, ⟨_, _, m3, GSeq, F3.kp, b3⟩, ⟨_, _, m7, GOv, F7.kp, b7⟩, (⟨gX2, MX2, xf2.exb, xf2.tyC⟩ : Xk PG w K mg "InvalidWord" "value" (ga K "InvalidWord")), (⟨gX1, MX1, xf1.exb, xf1.tyC⟩ : Xk PG w K mg "InvalidTerms" "position" (ga K "InvalidTerms"))⟩
    have GPut := ok_put (by decide) F6 PX
    have GRin := ok_rin (P := PG) (w := w) (mg := mg) (base := base) F11 m11 b11 16 (by decide)
    have GRo := ok_ro (P := PG) (w := w) (base := base) (n := 16) F8 ⟨bn "set" (by simp [bltN]), bn "sorted" (by simp [bltN])⟩ GChk F10.kp b10 m10 GRin F11.kp b11 m11
    have GDec := ok_dec0 (P := PG) (w := w) (base := base) F0 NSx
    have GTo := ok_to (P := PG) (w := w) (mg := mg) (base := base) F12 m12 b12 GDec F0.kp b0 m0 16 (by decide)
    have GTt := ok_tt (P := PG) (w := w) (base := base) (n := 16) F9 GChk F10.kp b10 m10 GTo F12.kp b12 m12
    have GLp := ok_lput (P := PG) (w := w) (base := base) F16 NO ⟨bn "list" (by simp [bltN])⟩
    have GLr := ok_lr (P := PG) (w := w) (base := base) F19 m19 b19 (bn "len" (by simp [bltN])) 16 (by decide)
    have GLt := ok_lt (P := PG) (w := w) (base := base) F20 m20 b20 (bn "len" (by simp [bltN])) (bn "str" (by simp [bltN])) 16 (by decide)
    have GDr := ok_draw (P := PG) (w := w) (base := base) F14 NB
    have GCh := ok_choice (P := PG) (w := w) (base := base) F15 NB F14 b14 m14
    have LX : LmX PG w K mg base := ⟨⟨_, _, m14, GDr, F14.kp, b14⟩, ⟨_, _, m15, GCh, F15.kp, b15⟩, ⟨_, _, m16, GLp, F16.kp, b16⟩, bn "tuple" (by simp [bltN]), bn "range" (by simp [bltN])⟩
    have GLtm := ok_ltm F17 LX b17 m17 F18 b18 m18
    have GLtm2 : FnOk PG w K mg base CX0 7 _ _ _ _ := GLtm 2 (by decide)
    have GLtm3 : FnOk PG w K mg base CX0 9 _ _ _ _ := GLtm 3 (by decide)
    have GLbg : FnOk PG w K mg base CX0 8 _ _ _ _ := ok_lbg (m := 7) (k := 2) (by decide) F18 LX GLtm2 F17.kp b17 m17
    have GOdd := ok_odd F21 LX (bn "list" (by simp [bltN]))
    have XEx : Xe K mg (ga K "InvalidWord") (ga K "InvalidTerms") (ga K "InvalidTerm") (ga K "AnyshapeError") := ⟨gX2, gX1, gX0, gA, zx0, zx1, zx2, zx3, zx4, zx5, zx6, zx7, xf2.nf "value" (by simp), xf1.nf "position" (by simp), xf0.nf "value" (by simp), xg2, xg1, xg0⟩
    have GTold := ok_told (P := PG) (w := w) (base := base) (n := 16) F22 NK XEx GPut F6.kp b6 m6
    have GRef := ok_ref (P := PG) (w := w) (base := base) F23 XEx (bn "repr" (by simp [bltN])) g.sys GRo F8.kp b8 m8 GTt F9.kp b9 m9
    have BX : BrX PG w K mg base (ga K "InvalidWord") (ga K "InvalidTerms") := ⟨LX, ⟨_, _, m18, GLbg, F18.kp, b18⟩, ⟨_, _, m6, GPut, F6.kp, b6⟩, ⟨_, _, m5, GTm, F5.kp, b5⟩, bn "repr" (by simp [bltN]), bn "tuple" (by simp [bltN]), bn "len" (by simp [bltN]), bn "all" (by simp [bltN])⟩
    have GBr := ok_br F24 BX g.sys
    have WX1 : WrX PG w K mg base := ⟨LX, ⟨_, _, m21, GOdd, F21.kp, b21⟩, ⟨_, _, m5, GTm, F5.kp, b5⟩, ⟨_, _, m23, GRef, F23.kp, b23⟩, ⟨_, _, m22, GTold, F22.kp, b22⟩, bn "repr" (by simp [bltN])⟩
    have GWr := ok_wr F25 WX1 g.sys
    have RX1 : RtX PG w K mg base (ga K "InvalidTerm") := ⟨⟨_, _, m17, GLtm3, F17.kp, b17⟩, ⟨_, _, m5, GTm, F5.kp, b5⟩, ⟨_, _, m9, GTt, F9.kp, b9⟩, ⟨_, _, m20, GLt, F20.kp, b20⟩, ⟨_, _, m8, GRo, F8.kp, b8⟩, ⟨_, _, m19, GLr, F19.kp, b19⟩, ⟨_, _, m24, GBr, F24.kp, b24⟩, ⟨_, _, m25, GWr, F25.kp, b25⟩, bn "repr" (by simp [bltN]), bn "sorted" (by simp [bltN]), bn "enumerate" (by simp [bltN]), bn "range" (by simp [bltN])⟩
    have GRt := ok_rt F26 RX1 g.sys
    exact ok_law (P := PG) (w := w) (base := base) F27 NB (ok_rng (P := PG) (w := w) (base := base) F13 NB) F13.kp b13 m13 GRt F26.kp b26 m26
end
end K40
set_option maxHeartbeats 8000000
namespace K40
open PySem PySem.Spec PyProof.Rows L2 He

theorem walk_ofX {l : PySem.W.OpenLaw} {n k : Nat} {q : Program} {loose : List Str}
    {XP : (Str → Option Value) → Heap → Prop} {YP : World → Heap → Prop} {d : DefRec} {x : Str}
    (hn : l.most = some n) (hn2 : n ≤ sizeLine) (hdf : d.params.defaults = []) (hr : Room k callerA)
    (F : ∀ (w : World) (mg : Str → Option Value) (fa : Addr) (h : Heap), YP w h → h.Ns mainGlobals mg →
      mg d.name = some (.ref fa) → ∃ (K : PySem.W.Frag) (fd : FuncData) (sp : Sp), K.In h ∧
        (∀ (s : Shared) (u : Value), BindsTo s fd ⟨[u], []⟩ [(x, u)]) ∧
        (∀ (H : Hp) (a : Addr) (ns : List Int), ns.length ≤ n → Only H → SqL K H a (ns.map V.int) →
          sp [.ref a] H (fun v _ => v = .bl true) E0) ∧
        ∀ base : Heap, K.In base → base.Ns mainGlobals mg → FnG l.prog w K mg base k fa fd [x] sp) :
    PySem.W.WalkO q loose XP YP l.row.toRowW d [] (fun f vs => PySem.call f vs) := by
  refine Att.attach_call hn hdf fun w s0 s1 mg mb fa o pm cd doc a vs ns G Y ho hd hcd hmg hobj hints hlen hg => ?_
  obtain ⟨K, fd, sp, KX, hb, hsp, hF⟩ := F w mg fa _ Y G.T.g hmg
  exact law_callG KX G.T.g G.T.b G.T.builtins G.T.nolimit hg hobj hints (Nat.le_trans hlen hn2) hr hF hb
    fun H hO hS => hsp H a ns hlen hO hS
end K40
open PySem PySem.W PySem.Calls PyProof.Rows
theorem PySem.Challenge.cw_anyshape_k40_terms_holds : PySem.Challenge.rw_anyshape_k40_terms.Holds := by
  w_on; o_law
  refine HandSHeadRun.head_any (r := OpenLaw.row PySem.Challenge.rw_anyshape_k40_terms) (q := K40.qv) (H := K40.hk) (ob := K40.ob)
    (M := 12500) (loose := K40.names) (d := HandSHeadRun.topDef (OpenLaw.row PySem.Challenge.rw_anyshape_k40_terms).prog 43) (kwd := [])
    K40.ob_eq (by kernel_rfl) (fun s => by kernel_rfl) K40.run (by kernel_rfl) (by kernel_rfl) (by kernel_rfl) (by rfl)
    (by first | assumption | decide +kernel) (by decide +kernel) ⟨rfl, rfl, rfl, rfl, rfl, by decide +kernel⟩ ?hw ?hc
  case hw => w_witness2
  case hc =>
    refine K40.walk_ofX (l := PySem.Challenge.rw_anyshape_k40_terms) (n := 63) (k := 25) (x := "_law_script") rfl (by decide) (by kernel_rfl) ⟨rfl, by decide, by decide⟩ ?F
    intro w mg fa h Y G hmg0
    obtain ⟨K, KX, c⟩ := Y
    have hmg : mg ("law" : PySem.Str) = some (.ref fa) := by
      have e : (HandSHeadRun.topDef (OpenLaw.row PySem.Challenge.rw_anyshape_k40_terms).prog 43).name = ("law" : PySem.Str) := by kernel_rfl
      rw [← e]
      exact hmg0
    obtain ⟨fd, hb, hF⟩ := K40.law_mk (w := w) KX G c hmg
    exact ⟨K, fd, K40.spLaw K, KX, hb, fun H a ns hl _ hS => ⟨a, ns, rfl, hS, Nat.le_trans hl (by decide), fun _ => rfl⟩, hF⟩
#print axioms PySem.Challenge.cw_anyshape_k40_terms_holds
