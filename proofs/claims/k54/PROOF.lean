import PyProof.Rows.All
import Wide.All
import OpenK.AllK
import Wide.FinOn
import HandS.Words
import HandS.WordsExc
import KE.KExcInit
import KE.KExcIs
import KE.KExcSuper
import HandS.Property
import HandS.WideBits
import KE.KStateDown
import HandS.Head0
import HandS.Head1
import HandS.Head2
import HandS.Head3
import HandS.HeadHook1
import HandS.ForMost
import HandS.Exc
import HandS.ExcInit
import HandS.IsInst
import HandS.Walk
import HandS.Steps
import HandS.DictComp
import HandS.WordsDict
import HandS.Defaults
import HandS.Gcd
import HandS.Wide
import HandS.TryOnly
import HandS.OwnEq
import KE.KEqDict
import HandS.Text
import HandS.Style
import KE.KCallOwn
import HandS.RaiseMore
import PyProof.Rows.StrDigitsNeg
import PyProof.Rows.StrJoinMade
import HandS.StrMore
import KE.IntTextLaws
import HandS.FStr
import OpenK.KOps
import PyProof.ReprHeadsEmpty
import HandS.Nested
import HandS.ClsMeth
import KE.KSuper
import KE.GoesEnum
import KE.KDictZip
import HandS.Conv
import HandS.NoneIn
import HandS.HeadEnd
import PySem.Challenge.RW_anyshape_k54_rows_at_numbers
set_option Elab.async false
set_option linter.all false
set_option maxRecDepth 100000
set_option maxHeartbeats 8000000
namespace K54
open PySem PySem.Spec PyProof.Rows L2 He
def abc : Str := "abcdefghijklmnopqrstuvwxyz"
def top (i : Nat) : Stmt := PySem.Challenge.pw_anyshape_k54_rows_at_numbers.main.body.getD i (.Pass ⟨0, 0, 0, 0⟩)
abbrev sSize : Stmt := top 44
abbrev sInit : Stmt := inClass sSize 0
/-! ### what is looked at behind the top -/
/-- an object that a namespace names -/
def gNs (g : Addr → Option Obj) (ns : Addr) (x : Str) : Addr := match g ns with
  | some ⟨_, _, .dict es _, _⟩ => (match es.toList.find? (·.key.isStr x) with
    | some e => (match e.val with
      | .ref a => a
      | _ => 0)
    | none => 0)
  | _ => 0
/-- a function, its code, its defaults -/
def gFn (g : Addr → Option Obj) (f : Addr) : List Addr := f :: (match g f with
  | some ⟨_, _, .func fd, _⟩ => (match fd.code with
    | .ref c => [c]
    | _ => []) ++ (match fd.defaults with
    | .ref t => [t]
    | _ => []) ++ fd.closure.map (·.2)
  | _ => [])
/-- .., or a record over it -/
def gMb (g : Addr → Option Obj) (p : Addr) : List Addr := match g p with
  | some ⟨_, _, .fields vs, _⟩ => (match vs[0]? with
    | some (Value.ref f) => p :: gFn g f
    | _ => [p])
  | _ => gFn g p
def meths : List (Str × Nat) := [("names", 7), ("exponents", 8), ("at", 12), ("__mul__", 14), ("__eq__", 17), ("__repr__", 19)]
def gCl (g : Addr → Option Obj) (C : Addr) : List Addr := C :: (match g C with
  | some ⟨_, _, .cls cd, _⟩ => cd.ns :: gMb g (gNs g cd.ns "__init__") ++ meths.flatMap fun p => gMb g (gNs g cd.ns p.1)
  | _ => [])
def xCl (g : Addr → Option Obj) (C : Addr) : List Addr := C :: (match g C with
  | some ⟨_, _, .cls cd, _⟩ => cd.ns :: gFn g (gNs g cd.ns "__init__")
  | _ => [])
def om0 : List (Str × Str × Str × Nat × Nat) := [("Digit", "__init__", "Digit.__init__", 52, 0), ("Unused", "turned", "Unused.turned", 53, 4), ("Unused", "__eq__", "Unused.__eq__", 53, 5), ("Unused", "__repr__", "Unused.__repr__", 53, 6), ("Unused", "radix", "Unused.radix", 53, 2), ("Unused", "factor", "Unused.factor", 53, 3), ("Straight", "turned", "Straight.turned", 54, 4), ("Straight", "__eq__", "Straight.__eq__", 54, 5), ("Straight", "__repr__", "Straight.__repr__", 54, 6), ("Straight", "radix", "Straight.radix", 54, 2), ("Straight", "factor", "Straight.factor", 54, 3), ("Turned", "turned", "Turned.turned", 55, 4)]
def om1 : List (Str × Str × Str × Nat × Nat) := [("Turned", "__eq__", "Turned.__eq__", 55, 5), ("Turned", "__repr__", "Turned.__repr__", 55, 6), ("Turned", "radix", "Turned.radix", 55, 2), ("Turned", "factor", "Turned.factor", 55, 3), ("Row", "digits", "Row.digits", 56, 1), ("Row", "cuts", "Row.cuts", 56, 3), ("Row", "place", "Row.place", 56, 4), ("Row", "__len__", "Row.__len__", 56, 7), ("Row", "__eq__", "Row.__eq__", 56, 9), ("Row", "__repr__", "Row.__repr__", 56, 10), ("Row", "total", "Row.total", 56, 2)]
def om : List (Str × Str × Str × Nat × Nat) := om0 ++ om1
def opl : List (Str × Str) := [("Digit", "__init__"), ("Unused", "turned"), ("Unused", "__eq__"), ("Unused", "__repr__"), ("Straight", "turned"), ("Straight", "__eq__"), ("Straight", "__repr__"), ("Turned", "turned"), ("Turned", "__eq__"), ("Turned", "__repr__"), ("Row", "digits"), ("Row", "cuts"), ("Row", "place"), ("Row", "__len__"), ("Row", "__eq__"), ("Row", "__repr__")]
def opr : List (Str × Str) := [("Unused", "radix"), ("Unused", "factor"), ("Straight", "radix"), ("Straight", "factor"), ("Turned", "radix"), ("Turned", "factor"), ("Row", "total")]
def oi : List (Str × Str × Nat × Nat) := [("Unused", "Unused.__init__", 53, 1), ("Straight", "Straight.__init__", 54, 1), ("Turned", "Turned.__init__", 55, 1), ("Row", "Row.__init__", 56, 0)]
def ocl : List (Str × List Str) := [("Digit", []), ("Unused", ["_radix", "_factor"]), ("Straight", ["_radix", "_factor"]), ("Turned", ["_radix", "_factor"]), ("Row", ["_digits"])]
def osup : List (Str × Str) := [("Unused", "Digit"), ("Straight", "Digit"), ("Turned", "Digit")]
def odf : List Str := ["Row"]
def okit : List (Str × Str × Bool) := [("Unused", "Straight", false), ("Unused", "Turned", false), ("Straight", "Unused", false), ("Straight", "Turned", false), ("Turned", "Unused", false), ("Turned", "Straight", false), ("Unused", "Digit", true), ("Straight", "Digit", true), ("Turned", "Digit", true)]
def onf : List (Str × Str) := [("Unused", "Unused"), ("Unused", "Straight"), ("Unused", "Turned"), ("Straight", "Unused"), ("Straight", "Straight"), ("Straight", "Turned"), ("Turned", "Unused"), ("Turned", "Straight"), ("Turned", "Turned")]
def oway : List (Str × Str × Str) := [("Unused", "WAY", "unused"), ("Straight", "WAY", "straight"), ("Turned", "WAY", "turned")]
/-- another own class: it, its names, its methods -/
def gOc (g : Addr → Option Obj) (c : Str) : List Addr := gNs g mainGlobals c :: (match g (gNs g mainGlobals c) with
  | some ⟨_, _, .cls cd, _⟩ => cd.ns :: gMb g (gNs g cd.ns "__init__") ++ (om.filter fun p => decide (p.1 = c)).flatMap fun p => gMb g (gNs g cd.ns p.2.1)
  | _ => [])
/-- what the defaults of its __init__ are -/
def gDf (g : Addr → Option Obj) (c : Str) : List Addr := match g (gNs g mainGlobals c) with
  | some ⟨_, _, .cls cd, _⟩ => (match g (gNs g cd.ns "__init__") with
    | some ⟨_, _, .func fd, _⟩ => (match fd.defaults with
      | .ref t => (match g t with
        | some ⟨_, _, .seq its _, _⟩ => its.toList.filterMap fun v => match v with
          | .ref a => some a
          | _ => none
        | _ => [])
      | _ => [])
    | _ => [])
  | _ => []
def fns0 : List (Str × Nat) := [("is_integer", 15), ("is_list", 17), ("raised", 19), ("orders", 20), ("coprime_bases", 21), ("order_in", 22), ("_refined", 23), ("_sharing", 24), ("is_name", 28), ("is_numbers", 29), ("check_numbers", 30), ("added", 32), ("decimal_text", 37), ("exponents_text", 40), ("_power_text", 42), ("check_size", 45)]
def fns1 : List (Str × Nat) := [("_is_exponents", 47), ("product_of", 50), ("cuts_of", 57), ("digits_at", 58), ("place_at", 59), ("_law_rng", 61), ("_law_draw", 62), ("_law_choice", 63), ("_law_names", 64), ("_law_times", 65), ("_law_numbers", 66), ("_law_size", 67), ("_law_value", 68), ("_law_digit", 69), ("_law_made", 70), ("_law_size_text", 71)]
def fns2 : List (Str × Nat) := [("_law_digit_text", 72), ("_law_is_digit", 73), ("_law_other_way", 74), ("_law_place", 75), ("_law_cuts", 76), ("_law_indexes", 77), ("_law_places_right", 78), ("_law_told_right", 79), ("_law_right", 80), ("law", 81)]
def fns : List (Str × Nat) := fns0 ++ fns1 ++ fns2
def xcs : List Str := ["AnyshapeError", "StateError", "NotWhole"]
def addrs (g : Addr → Option Obj) : List Addr := [mainGlobals, sysModules, cStatics] ++ gCl g (gNs g mainGlobals "Size") ++ (xcs.flatMap fun x => xCl g (gNs g mainGlobals x)) ++ (ocl.flatMap fun p => gOc g p.1) ++ (odf.flatMap fun c => gDf g c) ++ fns.flatMap fun p => gFn g (gNs g mainGlobals p.1)
def KX (g : Addr → Option Obj) : PySem.W.Frag := He.frG g (addrs g)

/-! ### the facts -/
abbrev FnX : Type := Option (Str × Str × Arguments × FuncBody × Scope × Addr × Addr)
def fnX (K : PySem.W.Frag) (f : Addr) : FnX := match K.lookup f with
  | some ⟨_, _, .func fd, _⟩ => some (fd.name, fd.qualname, fd.params, fd.body, fd.scope, fd.globals, fd.builtins)
  | _ => none
def fnT (x qual : Str) (st : Stmt) : FnX := some (x, qual, defArgs st, .stmts (defBody st), defScope st, mainGlobals, builtinsNs)
def fnB (K : PySem.W.Frag) (f : Addr) (qual : Str) : Bool := PySem.W.keepIn K (.ref f) && match K.lookup f with
  | some ⟨_, _, .func fd, _⟩ => (match fd.closure, fd.defaults with
    | [], .none => PySem.W.codeIn K fd.code qual
    | _, _ => false)
  | _ => false
/-- a def whose one default is None -/
def fnD (K : PySem.W.Frag) (f : Addr) (qual : Str) : Bool := PySem.W.keepIn K (.ref f) && match K.lookup f with
  | some ⟨_, _, .func fd, _⟩ => (match fd.closure, fd.defaults with
    | [], .ref T => PySem.W.codeIn K fd.code qual && (match K.lookup T with
      | some ⟨_, _, .seq its _, _⟩ => decide (its = #[Value.none])
      | _ => false)
    | _, _ => false)
  | _ => false
abbrev caK (K : PySem.W.Frag) : Addr := ga K "Size"
def eO (a b : Option (Option Value)) : Bool := decide (a = b)
def eB (a b : Option Bool) : Bool := decide (a = b)
/-- the function of a record -/
def rcF (K : PySem.W.Frag) (p : Addr) (T : String) : Addr := match PySem.W.recIn K p T with
  | some (.ref g :: _) => g
  | _ => 0
def rcB (K : PySem.W.Frag) (p : Addr) (T : String) : Bool := match PySem.W.recIn K p T with
  | some (.ref _ :: _) => true
  | _ => false
def cmB (K : PySem.W.Frag) (m : Str) : Bool := match PySem.W.findCls K (.ref (caK K)) (.type "type") m with
  | some (.get g a o t) => decide (g = .builtin "classmethod.__get__") && (decide (a = .ref (ma K (caK K) m)) && (decide (o = .none) && decide (t = .ref (caK K))))
  | _ => false
/-- a method's function -/
def meA (K : PySem.W.Frag) (m : Str) : Addr := ma K (caK K) m
def props : List Str := []
def cms : List Str := []
def plain : List Str := ["names", "exponents", "at", "__mul__", "__eq__", "__repr__", "__init__"]
def faM (K : PySem.W.Frag) (m : Str) : Addr := if decide (m ∈ props) then rcF K (meA K m) "property" else if decide (m ∈ cms) then rcF K (meA K m) "classmethod" else meA K m
def quM (m : Str) : Str := ("Size." : Str) ++ m
def clB (K : PySem.W.Frag) : Bool :=
  eO (PySem.W.nsIn K mainGlobals "Size") (some (some (.ref (caK K)))) &&
  (PySem.W.plainGet K (caK K) Str.empty &&
  (PySem.W.hasDictIn K (caK K) &&
  (PySem.W.plainOver K (caK K) &&
  (eO (PySem.W.findIn K (.ref (caK K)) "__setattr__") (some (some (.builtin "object.__setattr__"))) &&
  (eO (PySem.W.findIn K (.ref (caK K)) "_exponents") (some none) &&
  (eO (PySem.W.findIn K (.ref (caK K)) "__class__") (some (some (.builtin "object.__class__"))) &&
  (eB (PySem.W.mroIn K (caK K) (.type "object")) (some true) &&
  (PySem.W.makesIn K (caK K) &&
  (PySem.W.keepIn K (.ref (caK K)) &&
  (PySem.W.selfFirst K (caK K) &&
  (eO (PySem.W.findIn K (.ref (caK K)) "__ne__") (some (some (.builtin "object.__ne__"))) &&
  (PySem.W.readsIn K (caK K) (.type "type") &&
  (eO (PySem.W.specialIn K (.ref (caK K)) "__getattribute__") (some (some (.builtin "type.__getattribute__"))) &&
  (eB (PySem.W.kitOne K (.ref (caK K)) (.type "str")) (some false) &&
  (eB (PySem.W.kitOne K (.type "int") (.ref (caK K))) (some false) &&
  (eB (PySem.W.kitOne K (.type "str") (.ref (caK K))) (some false) &&
  (eB (PySem.W.kitOne K (.type "dict") (.ref (caK K))) (some false))))))))))))))))))
def plB (K : PySem.W.Frag) (m : Str) : Bool := eO (PySem.W.findIn K (.ref (caK K)) m) (some (some (.ref (meA K m)))) && PySem.W.isFn K (.ref (meA K m))
def prB (K : PySem.W.Frag) (m : Str) : Bool := eO (PySem.W.findIn K (.ref (caK K)) m) (some (some (.ref (meA K m)))) && (eO (PySem.W.specialIn K (.ref (meA K m)) "__get__") (some (some (.builtin "property.__get__"))) &&
  (eB (PySem.W.takesIn K (.ref (meA K m))) (some true) && rcB K (meA K m) "property"))
def cmmB (K : PySem.W.Frag) (m : Str) : Bool := cmB K m && (rcB K (meA K m) "classmethod" && PySem.W.fnIn K (rcF K (meA K m) "classmethod"))
def bltN : List Str := ["len", "max", "min", "abs", "int", "divmod", "repr", "isinstance", "range", "enumerate", "all", "any", "bool", "str", "dict", "sorted", "list", "sum", "super", "zip", "tuple"]
def conB (K : PySem.W.Frag) : Bool := (match PySem.W.nsIn K mainGlobals "LETTERS" with
  | some (some (.str x _)) => decide (x = abc)
  | _ => false) && ((match PySem.W.nsIn K mainGlobals "LONGEST_NAME" with
  | some (some (.int i _)) => decide (i = 8)
  | _ => false) && ((match PySem.W.nsIn K mainGlobals "CHUNK" with
  | some (some (.int i _)) => decide (i = 10 ^ 60)
  | _ => false)))

/-! ### own exceptions -/
def inB (K : PySem.W.Frag) (file : Str) (C f : Addr) (qual : Str) : Bool := match K.lookup f with
  | some ⟨_, _, .func fd, _⟩ => (match fd.closure, fd.defaults, fd.code with
    | [(x, cc)], .none, .ref cda => decide (x = "__class__") && (match K.lookup cc with
      | some ⟨_, _, .cell (some (.ref D)), _⟩ => decide (D = C)
      | _ => false) && PySem.W.codeIn K (.ref cda) qual && (match K.lookup cda with
      | some ⟨_, _, .fields vs, _⟩ => (match vs[2]? with
        | some (Value.str fl _) => file == fl
        | _ => false)
      | _ => false)
    | _, _, _ => false)
  | _ => false
def bmL (B : String) : List Value := [.type B, .type "Exception", .type "BaseException", .type "object"]
def fileK : Str := PySem.Challenge.pw_anyshape_k54_rows_at_numbers.main.file
def xB (K : PySem.W.Frag) (nm qu : Str) (B nw it : String) (fs : List Str) : Bool :=
  eO (PySem.W.nsIn K mainGlobals nm) (some (some (.ref (ga K nm)))) &&
  (eO (PySem.W.findIn K (.ref (ga K nm)) "__init__") (some (some (.ref (ma K (ga K nm) "__init__")))) &&
  (decide (PySem.W.typeIn K (.ref (ma K (ga K nm) "__init__")) = some (.type "function")) &&
  (inB K fileK (ga K nm) (ma K (ga K nm) "__init__") qu &&
  (PySem.W.excInitIn K (ga K nm) (bmL B) nw &&
  (PySem.W.excOver K (ga K nm) (bmL B) &&
  (PySem.W.hasDictIn K (ga K nm) &&
  (eO (PySem.W.findIn K (.ref (ga K nm)) "__setattr__") (some (some (.builtin "object.__setattr__"))) &&
  (PySem.W.keepIn K (.ref (ga K nm)) &&
  ((PySem.W.clsIn K (ga K nm)).isSome &&
  (eB (PySem.W.mroIn K (ga K nm) (.ref (ga K nm))) (some true) &&
  (eB (PySem.W.subIn K (.ref (ga K nm)) (.type B)) (some true) &&
  (eO (PySem.W.ks_superIn K (ga K nm) (ga K nm) "__init__") (some (some (.builtin it))) &&
  (eO (PySem.W.findIn K (.ref (ga K nm)) "__getattribute__") (some (some (.builtin "BaseException.__getattribute__"))) &&
  (eO (PySem.W.findIn K (.ref (ga K nm)) "__getattr__") (some none) &&
  (eB (PySem.W.subIn K (.ref (ga K nm)) (.type "BaseException")) (some true) &&
  (eO (PySem.W.findIn K (.ref (ga K nm)) "__class__") (some (some (.builtin "object.__class__"))) &&
  (eB (PySem.W.mroIn K (ga K nm) (.type "object")) (some true) &&
  (decide (PySem.W.typeIn K (.ref (ga K nm)) = some (.type "type")) &&
  (fs.all fun f => decide (PySem.W.findIn K (.ref (ga K nm)) f = some none))))))))))))))))))))
def exB (K : PySem.W.Frag) : Bool := xB K "NotWhole" "NotWhole.__init__" "RuntimeError" "RuntimeError.__new__" "RuntimeError.__init__" ["size"] && (eO (PySem.W.nsIn K mainGlobals "gcd") (some (some (.builtin "math.gcd"))) && (eB (PySem.W.kitOne K (.type "list") (.ref (ga K "Row"))) (some false) && (eO (PySem.W.nsIn K cStatics "thirdparty.any") (some none))))

/-! ### facts of other own classes -/
def oma (K : PySem.W.Frag) (p : Str × Str) : Addr := ma K (ga K p.1) p.2
def ofa (K : PySem.W.Frag) (p : Str × Str) : Addr := if decide (p ∈ opr) then rcF K (oma K p) "property" else oma K p
def oB (K : PySem.W.Frag) (c : Str) (fs : List Str) : Bool :=
  eO (PySem.W.nsIn K mainGlobals c) (some (some (.ref (ga K c)))) &&
  (PySem.W.plainGet K (ga K c) Str.empty &&
  (PySem.W.hasDictIn K (ga K c) &&
  (PySem.W.plainOver K (ga K c) &&
  (eO (PySem.W.findIn K (.ref (ga K c)) "__setattr__") (some (some (.builtin "object.__setattr__"))) &&
  (eO (PySem.W.findIn K (.ref (ga K c)) "__class__") (some (some (.builtin "object.__class__"))) &&
  (eB (PySem.W.mroIn K (ga K c) (.type "object")) (some true) &&
  (PySem.W.makesIn K (ga K c) &&
  (PySem.W.keepIn K (.ref (ga K c)) &&
  (eO (PySem.W.findIn K (.ref (ga K c)) "__ne__") (some (some (.builtin "object.__ne__"))) &&
  (eO (PySem.W.findIn K (.ref (ga K c)) "__init__") (some (some (.ref (oma K (c, "__init__"))))) &&
  (PySem.W.isFn K (.ref (oma K (c, "__init__"))) &&
  (fs.all fun f => decide (PySem.W.findIn K (.ref (ga K c)) f = some none)))))))))))))
def oplB (K : PySem.W.Frag) (p : Str × Str) : Bool := eO (PySem.W.findIn K (.ref (ga K p.1)) p.2) (some (some (.ref (oma K p)))) && PySem.W.isFn K (.ref (oma K p))
def oprB (K : PySem.W.Frag) (p : Str × Str) : Bool := eO (PySem.W.findIn K (.ref (ga K p.1)) p.2) (some (some (.ref (oma K p)))) && (eO (PySem.W.specialIn K (.ref (oma K p)) "__get__") (some (some (.builtin "property.__get__"))) &&
  (eB (PySem.W.takesIn K (.ref (oma K p))) (some true) && rcB K (oma K p) "property"))
/-- a class whose __init__ calls super().__init__ of the base -/
def supB (K : PySem.W.Frag) (p : Str × Str) : Bool :=
  inB K fileK (ga K p.1) (oma K (p.1, "__init__")) (p.1 ++ (".__init__" : Str)) &&
  ((PySem.W.clsIn K (ga K p.1)).isSome &&
  (eB (PySem.W.mroIn K (ga K p.1) (.ref (ga K p.1))) (some true) &&
  (eO (PySem.W.ks_superIn K (ga K p.1) (ga K p.1) "__init__") (some (some (.ref (oma K (p.2, "__init__"))))) &&
  (decide (PySem.W.typeIn K (.ref (oma K (p.2, "__init__"))) = some (.type "function")) && PySem.W.fnIn K (oma K (p.2, "__init__"))))))
def wayB (K : PySem.W.Frag) (p : Str × Str × Str) : Bool := match PySem.W.findIn K (.ref (ga K p.1)) p.2.1 with
  | some (some (.str x t)) => decide (x = p.2.2) && eO (PySem.W.specialIn K (.str x t) "__get__") (some none)
  | _ => false
/-- a def whose one default is () -/
def fnE (K : PySem.W.Frag) (f : Addr) (qual : Str) : Bool := PySem.W.keepIn K (.ref f) && match K.lookup f with
  | some ⟨_, _, .func fd, _⟩ => (match fd.closure, fd.defaults with
    | [], .ref T => PySem.W.codeIn K fd.code qual && (match K.lookup T with
      | some ⟨_, _, .seq its _, _⟩ => (match its.toList with
        | [.ref E] => (match K.lookup E with
          | some ⟨cE, _, .seq itE _, _⟩ => decide (cE = .type "tuple") && decide (itE.toList = [])
          | _ => false)
        | _ => false)
      | _ => false)
    | _, _ => false)
  | _ => false
def othB (K : PySem.W.Frag) : Bool :=
  om.all (fun p => fnB K (ofa K (p.1, p.2.1)) p.2.2.1) &&
  (opl.all (oplB K) &&
  (opr.all (oprB K) &&
  (ocl.all (fun p => oB K p.1 p.2) &&
  (osup.all (supB K) &&
  (okit.all (fun p => eB (PySem.W.kitOne K (.ref (ga K p.1)) (.ref (ga K p.2.1))) (some p.2.2)) &&
  (onf.all (fun p => PySem.W.notFirst K (ga K p.1) (.ref (ga K p.2))) &&
  (oway.all (wayB K) &&
  (odf.all (fun c => fnE K (oma K (c, "__init__")) (c ++ (".__init__" : Str)))))))))))
def gloB (K : PySem.W.Frag) : Bool :=
  bltN.all (fun x => eO (PySem.W.nsIn K mainGlobals x) (some none)) &&
  (fns.all (fun p => eO (PySem.W.nsIn K mainGlobals p.1) (some (some (.ref (ga K p.1)))) && fnB K (ga K p.1) p.1) &&
  ((K.lookup sysModules).isSome &&
  (eO (PySem.W.specialIn K (.builtin "object.__class__") "__get__") (some (some (.builtin "getset_descriptor.__get__"))) &&
  (eB (PySem.W.takesIn K (.builtin "object.__class__")) (some true) &&
  (conB K &&
  (fnD K (meA K "__init__") "Size.__init__" &&
  (meths.all (fun p => fnB K (faM K p.1) (quM p.1)) &&
  (plain.all (plB K) &&
  (props.all (prB K) &&
  (cms.all (cmmB K)))))))))))
def allB (K : PySem.W.Frag) : Bool := othB K && (gloB K && (clB K && exB K))
def obF (K : PySem.W.Frag) : List FnX := fnX K (meA K "__init__") :: fnX K (ma K (ga K "NotWhole") "__init__") :: meths.foldr (fun p r => fnX K (faM K p.1) :: r) (fns.foldr (fun p r => fnX K (ga K p.1) :: r) (om.foldr (fun p r => fnX K (ofa K (p.1, p.2.1)) :: r) (oi.foldr (fun p r => fnX K (oma K (p.1, "__init__")) :: r) [])))
abbrev sXNotWhole : Stmt := inClass (top 13) 0
def vaF : List FnX := fnT "__init__" "Size.__init__" sInit :: fnT "__init__" "NotWhole.__init__" sXNotWhole :: ((meths.map fun p => fnT p.1 (quM p.1) (inClass sSize p.2)) ++ ((fns.map fun p => fnT p.1 p.1 (top p.2)) ++ ((om.map fun p => fnT p.2.1 p.2.2.1 (inClass (top p.2.2.2.1) p.2.2.2.2)) ++ oi.map fun p => fnT "__init__" p.2.1 (inClass (top p.2.2.1) p.2.2.2))))
abbrev AlX : Type := Bool × List FnX
def obK (K : PySem.W.Frag) : AlX := (allB K, obF K)
def vaX : AlX := (true, vaF)
def hk : PySem.W.Hook where
  α := AlX
  obs := fun s => obK (KX s.heap.get?)
  val := fun _ => vaX
  says := fun _ h => ∃ K : PySem.W.Frag, K.In h ∧ obK K = vaX
  of := fun _ _ e => ⟨_, frG_in, e⟩
  keeps := fun _ _ _ ⟨K, hK, c⟩ k => ⟨K, PySem.W.Frag.In.keeps hK k, c⟩
def ob (s : PySem.W.SharedT) : AlX := obK (KX (HandSHeadRun.getT s))
end K54
set_option maxHeartbeats 0
namespace K54
open PySem PySem.W PySem.Calls PyProof.Rows
abbrev R : OpenRow := OpenLaw.row PySem.Challenge.rw_anyshape_k54_rows_at_numbers
abbrev qv : Program := view R.prog [0, 81]
def names1 : List PySem.Str := ["_wall", "AnyshapeError", "InvalidName", "InvalidSize", "InvalidCount", "InvalidNumbers", "InvalidText", "InvalidIndex", "InvalidDigits", "StateError", "NotWhole", "is_integer", "is_count", "is_list", "raised", "orders", "coprime_bases", "order_in", "_refined", "_sharing", "LETTERS", "LONGEST_NAME", "is_name", "is_numbers"]
def names2 : List PySem.Str := ["check_numbers", "added", "DIGITS", "CHUNK_DIGITS", "CHUNK", "decimal_text", "read_decimal", "exponents_text", "read_exponents", "_power_text", "Size", "check_size", "check_sizes", "_is_exponents", "_times", "product_of", "Digit", "Unused", "Straight", "Turned", "Row", "cuts_of", "digits_at", "place_at"]
def names3 : List PySem.Str := ["_law_rng", "_law_draw", "_law_choice", "_law_names", "_law_times", "_law_numbers", "_law_size", "_law_value", "_law_digit", "_law_made", "_law_size_text", "_law_digit_text", "_law_is_digit", "_law_other_way", "_law_place", "_law_cuts", "_law_indexes", "_law_places_right", "_law_told_right", "_law_right"]
def names : List PySem.Str := names1 ++ names2 ++ names3
theorem run (w : World) : HandSHeadRun.RunEqI R qv hk ob 12500 names w := by
  show _ = _
  kernel_rfl
end K54
set_option maxHeartbeats 8000000
/-! own exceptions whose body says super().__init__('..') and then stores its fields -/
namespace Xc
open PySem PySem.W PySem.Calls PyProof.Rows

/-- what the written part says of an own exception class at C, over the built-in B -/
structure XC (K : Frag) (C : Addr) (B newId initId : String) (bmB : List Value) : Prop where
  FB : ExcBaseFacts B newId initId bmB
  SF : StoreFacts B bmB "object.__setattr__" "object"
  KF : KxsFacts B initId
  ini : excInitIn K C bmB newId = true
  ovr : excOver K C bmB = true
  hdc : hasDictIn K C = true
  sa : findIn K (.ref C) "__setattr__" = some (some (.builtin "object.__setattr__"))

section
open Builtin Builtin.ObjectAttr
variable {prog : Program} {w : World} {A : Around} {E : Value → Shared → Prop}
variable {hp : Heap} {g : Array GenState} {d : Drawn} {t : Nat} {os : OsState}
variable {K : Frag} {C x t0 : Addr} {B newId initId : String} {bmB : List Value}
variable {name : Str} {v : Value}

/-- the first field -/
theorem sto0 (T : XC K C B newId initId bmB) (X : K.In hp)
    (hx : hp.get? x = some (excObj C t0 none .none)) (ha : takerIn K C name = some none)
    {Q : Unit → Shared → Prop}
    (hq : ∀ h' tk dx, (∀ b o, b ≠ x → hp.get? b = some o → h'.get? b = some o) →
      hp.objs.size ≤ dx → dx ≠ x → h'.get? x = some (excObj C t0 (some dx) .none) →
      h'.Ns1 dx (fun y => if y = name then some v else none) → Q () ⟨h', g, d, tk, os⟩) :
    wpAny (model prog w) A (setAttr (.ref x) name v) Q E ⟨hp, g, d, t, os⟩ := by
  have hxs : x ≠ hp.objs.size := Nat.ne_of_lt (Heap.lt_size hx)
  have I : W.InstAt hp x (excObj C t0 none .none) C none := ⟨hx, rfl, rfl, trivial⟩
  refine set_plain X I T.sa ?_
  refine osa_openX (r := none) T.SF X I T.ovr ha fun b => ?_
  obtain ⟨cd, hc, hd⟩ := any_some T.hdc
  refine wpAny_bind (wpAny_pure (wpAny_bind
    (instanceDict_exc (s := ⟨hp, g, d, t + 1, os⟩) hx (looks_clsIn X hc) hd ?_)))
  refine HandSPX.store_in_new ?_ fun h' tk hn hs => ?_
  · refine ⟨_, #[], _, (Heap.get?_update_ne _ _ _ _ hxs.symm).trans (Heap.get?_push_at rfl rfl), rfl, ?_, fun _ => rfl⟩
    intro e he
    exact absurd he (by simp)
  · have hx1 : (hp.push (dictOf [] 0)).get? x = some (excObj C t0 none .none) :=
      Heap.get?_push_of_some _ hx
    refine hq h' tk hp.objs.size (fun b o hb ho => ?_) (Nat.le_refl _) hxs.symm ?_ hn
    · have e1 := Heap.get?_push_of_some (dictOf [] 0) ho
      have e2 := (Heap.get?_update_ne _ _ _ (fun o => { o with dict := some hp.objs.size }) hb).trans e1
      exact (hs.2 b (Nat.ne_of_lt (Heap.lt_size ho))).trans e2
    · exact (hs.2 x hxs).trans (Heap.get?_update_self _ hx1 rfl)

end
end Xc
set_option maxHeartbeats 8000000
namespace Xc
open PySem PySem.W PySem.Calls PyProof.Rows

section
variable {prog : Program} {w : World} {A : Around} {E : Value → Shared → Prop}
variable {hp : Heap} {g : Array GenState} {d : Drawn} {t : Nat} {os : OsState}
variable {K : Frag} {C x t0 : Addr} {B newId initId : String} {bmB : List Value}

/-- the bound built-in __init__ is called: the args are laid anew -/
theorem call_mw (T : XC K C B newId initId bmB) (X : K.In hp) {u : Addr} {rest : List Value}
    (hu : hp.get? u = some (kxs_mw initId x)) (hx : hp.get? x = some (excObj C t0 none .none))
    (hz : rest.length ≤ sizeLine) {Q : Value → Shared → Prop}
    (hq : ∀ h' t1, (∀ b o, b ≠ x → hp.get? b = some o → h'.get? b = some o) →
      h'.get? x = some (excObj C t1 none .none) → Q .none ⟨h', g, d, t, os⟩) :
    wpAny (model prog w) A (call (.ref u) rest) Q E ⟨hp, g, d, t, os⟩ := by
  obtain ⟨nm, N', qn, bs, bm, hdct, sn, sub, ab, col, dd, k0, k1, k2, k3, k5, hC, hT⟩ := excInit_of X T.ini
  refine wpAny_call (codeAny_of_tree ?_)
  show wpAny _ A.in1 (callAny (.ref u) ⟨rest, []⟩) _ _ _
  simp only [callAny]
  refine wpAny_bind (wpAny_load hu ?_)
  simp only [kxs_mw, show (Value.type "method-wrapper" == Value.type "method"
    || Value.type "method-wrapper" == Value.type "builtin_function_or_method"
    || Value.type "method-wrapper" == Value.type "method-wrapper") = true by decide, if_true]
  refine KFB.if_so (by decide) ?_
  refine wpAny_bind (check_bound_init T.FB.toExcCallFacts hC hx rfl ?_)
  refine wpAny_bind (wpAny_pure (wpAny_pure ?_))
  refine ⟨plainId_quiet T.FB.init.plain _, codeAny_builtin T.FB.initEntry ?_⟩
  refine exc_init_tree (cls := .ref C) (t0 := t0) (dv := none) (c2 := .none) (c3 := .none)
    (b4 := .bool false) hx hz fun h' k e1 _ => ?_
  exact hq h' hp.objs.size k e1

/-- what the written part says of an __init__ with super() in it -/
structure XI (prog : Program) (K : Frag) (mg : Str → Option Value) (C fI cc cda : Addr)
    (qual : Str) (params : Arguments) (body : List Stmt) (scope : Scope) (B initId : String) : Prop where
  fn : ∃ (oc : Value) (od : Option Addr) (kV doc pm ct : Value) (an : Option Addr)
    (osl : Array (Option Value)), K.lookup fI = some ⟨oc, od,
      .func (ksFn "__init__" qual params body scope .none kV doc pm an (.ref cda) ct cc), osl⟩
  cod : codeIn K (.ref cda) qual = true
  code : ∃ ccl cdd vs ccs file tf, K.lookup cda = some ⟨ccl, cdd, .fields vs, ccs⟩ ∧
    vs[2]? = some (.str file tf) ∧ ((prog.main.file : Str) == file) = true
  cell : ∃ cl cld csl, K.lookup cc = some ⟨cl, cld, .cell (some (.ref C)), csl⟩
  cls : (clsIn K C).isSome = true
  self : mroIn K C (.ref C) = some true
  isB : subIn K (.ref C) (.type B) = some true
  sup : ks_superIn K C C "__init__" = some (some (.builtin initId))
  opq : nsIn K cStatics "thirdparty.any" = some none
  nosup : mg "super" = none
  top : (prog.main.scope.names.lookup ("super" : Str)).isSome = false

/-- the module's facts at a heap -/
structure MH (K : Frag) (mg : Str → Option Value) (h : Heap) : Prop where
  kin : K.In h
  glob : h.Ns mainGlobals mg
  blt : ∃ mb, h.Ns builtinsNs mb ∧ ∀ y : Str, y ≠ "__name__" → mb y = bootBuiltins y
theorem MH.keeps {K : Frag} {mg : Str → Option Value} {h h' : Heap} (m : MH K mg h)
    (k : ∀ b o, h.get? b = some o → h'.get? b = some o) : MH K mg h' := by
  obtain ⟨mb, h1, h2⟩ := m.blt
  exact ⟨m.kin.keeps k, m.glob.keeps k, mb, h1.keeps k, h2⟩

abbrev supS (msg : Str) (j : Nat) (p0 p1 p2 p3 p4 p5 : Pos) : Stmt :=
  .Expr (.Call (.Attribute (.Call (.Name "super" p0) [] [] p1) "__init__" p2)
    [.Constant (.str msg) j p3] [] p4) p5

/-- super().__init__('..') -/
theorem sup_run {mg m : Str → Option Value} {fI cc cda L : Addr} {qual q : Str} {params : Arguments}
    {body body' : List Stmt} {scope : Scope} {ar : Arg} {msg : Str} {j : Nat} {p0 p1 p2 p3 p4 p5 : Pos}
    (T : XC K C B newId initId bmB) (S : XI prog K mg C fI cc cda qual params body scope B initId)
    (Mh : MH K mg hp) (hn : hp.Ns L m) (hx : hp.get? x = some (excObj C t0 none .none))
    (hp1 : (params.posonlyargs ++ params.args).head? = some ar) (hv : m ar.arg = some (.ref x))
    (hks : scope.names.lookup ("super" : Str) = some .globalImplicit)
    (hkc : scope.names.lookup ("__class__" : Str) = some .free)
    (hka : scope.names.lookup ar.arg = some .local) (hk : scope.kind = .function)
    {Q : Flow → Shared → Prop}
    (hq : ∀ h' tk t1, (∀ b o, b ≠ x → hp.get? b = some o → h'.get? b = some o) →
      h'.get? x = some (excObj C t1 none .none) → Q .next ⟨h', g, d, tk, os⟩)
    {pl : Sem Bool}
    (he : eval (.Call (.Attribute (.Call (.Name "super" p0) [] [] p1) "__init__" p2)
        [.Constant (.str msg) j p3] [] p4) (ksEnv q scope L fI (.ref cda) cc) = (do
      let ov ← attributeBase (.Call (.Name "super" p0) [] [] p1) "__init__" (ksEnv q scope L fI (.ref cda) cc)
        (eval (.Call (.Name "super" p0) [] [] p1) (ksEnv q scope L fI (.ref cda) cc))
      standAt p2.atName
      let (f, first) ← holding [ov] (getMethod ov "__init__" pl)
      callWith p4 f first (backTo p4 (starEach [.Constant (.str msg) j p3] (ksEnv q scope L fI (.ref cda) cc))) []))
    (hi : interactive (ksEnv q scope L fI (.ref cda) cc) = false := by rfl)
    (hs : swapsWith (.Call (.Attribute (.Call (.Name "super" p0) [] [] p1) "__init__" p2)
      [.Constant (.str msg) j p3] [] p4) none p5.line (ksEnv q scope L fI (.ref cda) cc) = pure false := by rfl) :
    PySem.wpAt (model prog w) A (.func body' (ksEnv q scope L fI (.ref cda) cc))
      (exec (supS msg j p0 p1 p2 p3 p4 p5) (ksEnv q scope L fI (.ref cda) cc)) Q E ⟨hp, g, d, t, os⟩ := by
  obtain ⟨oc, od, kV, doc, pm, ct, an, osl, hf⟩ := S.fn
  obtain ⟨ccl, cdd, vs, ccs, file, tf, hcode, hvs, hfile⟩ := S.code
  obtain ⟨cl, cld, csl, hcell⟩ := S.cell
  obtain ⟨cdD, hD⟩ := Option.isSome_iff_exists.mp S.cls
  obtain ⟨mb, hmb, hbt⟩ := Mh.blt
  have X := Mh.kin
  obtain ⟨oD, hD1, hD2⟩ : ∃ oD, hp.get? C = some oD ∧ oD.data = .cls cdD := by
    unfold clsIn at hD
    split at hD
    · rename_i c d cd' sl ho
      cases hD
      exact ⟨_, X _ _ ho, rfl⟩
    · cases hD
  have I : W.InstAt hp x (excObj C t0 none .none) C none := ⟨hx, rfl, rfl, trivial⟩
  refine ks_wpAt_Expr_any ?_ hi hs
  refine ks_wpAt_MethodCall (pl := pl) ?_ he
  refine ks_wpAt_super_base (env := ksEnv q scope L fI (.ref cda) cc) hks hkc rfl rfl (X _ _ hf) rfl hp1 rfl
    (X _ _ hcode) rfl hvs hfile S.top ?_
  refine ks_loadName_global hk hks (loadGlobal_builtin (env := ksEnv q scope L fI (.ref cda) cc)
    Mh.glob S.nosup hmb ((hbt _ (by decide +kernel)).trans (by first | rfl | kernel_rfl)) ⟨rfl, ?_⟩)
  refine wpAny_loadName_free hk hkc rfl ⟨_, X _ _ hcell, rfl⟩ ?_
  refine wpAny_loadName_local hk hka hn hv ?_
  refine ks_wpAny_isType_cls hD1 hD2 ⟨rfl, ?_⟩
  refine ks_wpAny_call_super hD1 hD2 hx rfl (fun c e => by cases e) (looks_mroIn X S.self) (fun h1 e1 k1 => ?_)
  have X1 : K.In h1 := X.keeps k1
  have I1 : W.InstAt h1 x (excObj C t0 none .none) C none := ⟨k1 _ _ hx, rfl, rfl, trivial⟩
  have hm := S.sup
  unfold ks_superIn at hm
  rw [hD] at hm
  have hxC : x ≠ C := ks_ne X I hD
  refine kxs_getMethod T.KF e1 (looks_opaque X1 S.opq) (l₀ := cdD.mro) ?_ rfl X1 hm
    (I1.type.andThen (looks_subIn X1 S.isB)) hxC rfl ?_
  · exact fun A Q E s k q => wpAny_bind ((looks_clsIn X1 hD) A _ E s k (wpAny_pure q))
  have hu : (h1.push (kxs_mw initId x)).get? h1.objs.size = some (kxs_mw initId x) := Heap.get?_push_at rfl rfl
  have hx2 : (h1.push (kxs_mw initId x)).get? x = some (excObj C t0 none .none) :=
    Heap.get?_push_of_some _ (k1 _ _ hx)
  have X2 : K.In (h1.push (kxs_mw initId x)) := X1.keeps fun b o e => Heap.get?_push_of_some _ e
  refine kxs_callWith (i := initId) (x := x) (by rfl) ?_
  refine evalArgs_plain ?_
  refine spliced_cons (Constant_str (k := j) (pos := p3) (spliced_nil ⟨hu, ?_⟩))
  refine call_mw T X2 hu hx2 (by rw [sizeLine_eq]; exact (by decide : 1 ≤ 16777216)) fun h' t1 k2 e2 => ?_
  exact hq h' _ t1 (fun b o hb ho => k2 b o hb (Heap.get?_push_of_some _ (k1 b o ho))) e2
end
end Xc
set_option maxHeartbeats 8000000
namespace Xc
open PySem PySem.W PySem.Calls PyProof.Rows

/-! the text of such an __init__ -/
def iArgs (ps : List (Str × Pos)) : Arguments :=
  { posonlyargs := [], args := ps.map fun p => { arg := p.1, annotation := none, pos := p.2 },
    vararg := none, kwonlyargs := [], kw_defaults := [], kwarg := none, defaults := [] }
def iScope (ps : List Str) : Scope :=
  { kind := .function, names := ps.map (fun p => (p, NameKind.local)) ++
      [(PySem.Str.ofString "__class__", .free), (PySem.Str.ofString "super", .globalImplicit)],
    isGenerator := false, isCoroutine := false, more := [] }
abbrev stS (p : Str) (q1 q2 q3 q4 : Pos) : Stmt :=
  .Assign [.Attribute (.Name "self" q1) p q2] (.Name p q3) q4

theorem ns_ne {h : Heap} {L x C t0 : Addr} {dd : Option Addr} {m : Str → Option Value} (hn : h.Ns L m)
    (hx : h.get? x = some (excObj C t0 dd .none)) : L ≠ x := by
  rintro rfl
  obtain ⟨o, es, ep, ho, hd, _⟩ := hn
  rw [hx] at ho
  cases ho
  cases hd
theorem ns_keep {h h' : Heap} {L x : Addr} {m : Str → Option Value} (hn : h.Ns L m) (ne : L ≠ x)
    (k : ∀ b o, b ≠ x → h.get? b = some o → h'.get? b = some o) : h'.Ns L m := by
  obtain ⟨o, es, ep, ho, r⟩ := hn
  exact ⟨o, es, ep, k _ _ ne ho, r⟩
theorem mh_keep {K : Frag} {mg : Str → Option Value} {h h' : Heap} {x : Addr} (Mh : MH K mg h)
    (hx : K.lookup x = none) (hg : x ≠ mainGlobals) (hb : x ≠ builtinsNs)
    (k : ∀ b o, b ≠ x → h.get? b = some o → h'.get? b = some o) : MH K mg h' := by
  obtain ⟨mb, h1, h2⟩ := Mh.blt
  exact ⟨fun a o e => k a o (fun z => by rw [z, hx] at e; cases e) (Mh.kin a o e),
    ns_keep Mh.glob (Ne.symm hg) k, mb, ns_keep h1 (Ne.symm hb) k, h2⟩

section
variable {prog : Program} {w : World} {A : Around} {E : Value → Shared → Prop}
variable {hp : Heap} {g : Array GenState} {d : Drawn} {t : Nat} {os : OsState}
variable {K : Frag} {C x t0 : Addr} {B newId initId : String} {bmB : List Value}

theorem ldN {s : Shared} {q : Str} {scope : Scope} {L fI cc : Addr} {cda : Value} {m : Str → Option Value}
    {y : Str} {p : Pos} {v : Value} {Q : Value → Shared → Prop} {M : Model} (hn : s.heap.Ns L m)
    (hv : m y = some v) (hk : scope.kind = .function) (hl : scope.names.lookup y = some .local)
    (hd : (y == ("__debug__" : Str)) = false) (h : Q v s) :
    wpAny M A (eval (.Name y p) (ksEnv q scope L fI cda cc)) Q E s :=
  wpAny_Name (wpAny_loadName_local hk hl hn hv h) hd

/-- self.f = f, the first one -/
theorem st0 {q : Str} {scope : Scope} {L fI cc : Addr} {cda : Value} {m : Str → Option Value}
    {f : Str} {q1 q2 q3 q4 : Pos} {v : Value} (T : XC K C B newId initId bmB) (X : K.In hp) (hn : hp.Ns L m)
    (hx : hp.get? x = some (excObj C t0 none .none)) (hs : m "self" = some (.ref x)) (hv : m f = some v)
    (hk : scope.kind = .function) (ls : scope.names.lookup ("self" : Str) = some .local)
    (lf : scope.names.lookup f = some .local) (hd : (f == ("__debug__" : Str)) = false)
    (ha : takerIn K C f = some none) {Q : Flow → Shared → Prop}
    (hq : ∀ h' tk dx, (∀ b o, b ≠ x → hp.get? b = some o → h'.get? b = some o) →
      hp.objs.size ≤ dx → dx ≠ x → h'.get? x = some (excObj C t0 (some dx) .none) →
      h'.Ns1 dx (fun y => if y = f then some v else none) → Q .next ⟨h', g, d, tk, os⟩)
    (hw : swapsWith (.Name f q3) (some (.Attribute (.Name "self" q1) f q2)) q4.line
      (ksEnv q scope L fI cda cc) = pure false) :
    wpAny (model prog w) A (exec (stS f q1 q2 q3 q4) (ksEnv q scope L fI cda cc)) Q E ⟨hp, g, d, t, os⟩ :=
  plainObj_wpAny_Assign_Attribute (ldN hn hv hk lf hd (ldN hn hs hk ls (by decide) (sto0 T X hx ha hq))) hw

end

/-- what an __init__ leaves of the fresh exception at x: the fields by fs -/
structure IEnd (h h' : Heap) (x C : Addr) (fs : List (Str × Value)) : Prop where
  keep : ∀ b o, b ≠ x → h.get? b = some o → h'.get? b = some o
  obj : match fs with
    | [] => ∃ t1, h'.get? x = some (excObj C t1 none .none)
    | _ :: _ => ∃ t1 dx, h'.get? x = some (excObj C t1 (some dx) .none) ∧ h.objs.size ≤ dx ∧ dx ≠ x ∧
        h'.Ns1 dx fun y => fs.lookup y

section
variable {prog : Program} {w : World} {A : Around} {R : Result → Shared → Prop} {s : Shared}
variable {K : Frag} {mg : Str → Option Value} {C x t0 fI cc cda : Addr} {B newId initId : String} {bmB : List Value}
variable {qual msg : Str} {j : Nat} {p0 p1 p2 p3 p4 p5 : Pos} {args : Args}

theorem he_of {env : Env} (h : (p2.endLine == p4.line) = true) :
    eval (.Call (.Attribute (.Call (.Name "super" p0) [] [] p1) "__init__" p2)
        [.Constant (.str msg) j p3] [] p4) env = (do
      let ov ← attributeBase (.Call (.Name "super" p0) [] [] p1) "__init__" env
        (eval (.Call (.Name "super" p0) [] [] p1) env)
      standAt p2.atName
      let (f, first) ← holding [ov] (getMethod ov "__init__" (do return (← importBound (.Call (.Name "super" p0) [] [] p1) env).getD true))
      callWith p4 f first (backTo p4 (starEach [.Constant (.str msg) j p3] env)) []) := by
  have e : ∀ b, methodCallPos b (.Call (.Name "super" p0) [] [] p1) env p2 p4 = pure p4 := fun b => by
    unfold methodCallPos
    rw [h, Bool.or_true]
    rfl
  show (do
    let ov ← attributeBase (.Call (.Name "super" p0) [] [] p1) "__init__" env
      (eval (.Call (.Name "super" p0) [] [] p1) env)
    standAt p2.atName
    methodCall (.Call (.Name "super" p0) [] [] p1) "__init__" p2 p4 env ov 1
      (backTo p4 (starEach [.Constant (.str msg) j p3] env)) []) = _
  unfold methodCall
  simp only [e, pure_bind]
  rfl

/-- into the body of such a def -/
theorem enter {params : Arguments} {body : List Stmt} {scope : Scope} {binds : List (Str × Value)}
    (S : XI prog K mg C fI cc cda qual params body scope B initId) (Mh : MH K mg s.heap)
    (hlim : s.heap.NoLimit) (hroom : A.depth < recursionLimit)
    (hbind : ∀ kV doc pm ct an, BindsTo s
      (ksFn "__init__" qual params body scope .none kV doc pm an (.ref cda) ct cc) args binds)
    (hcell : ∀ y ∈ scope.names, y.2 ≠ .cell) (hloc : ∀ y ∈ binds, scope.names.lookup y.1 = some .local)
    (hco : scope.isCoroutine = false) (hge : scope.isGenerator = false) (hk : scope.kind = .function)
    (h : ∀ h1 tk L, h1.Ns L (fun y => binds.reverse.lookup y) → s.heap.objs.size ≤ L →
      (∀ b o, s.heap.get? b = some o → h1.get? b = some o) →
      PySem.wpAt (model prog w) (A.deeper (ksEnv qual scope L fI (.ref cda) cc))
        (.func body (ksEnv qual scope L fI (.ref cda) cc)) (execs body (ksEnv qual scope L fI (.ref cda) cc))
        (fun f s' => R (.ok (.ret (match f with | .ret v => v | _ => .none))) s')
        (fun e s' => wpAny (model prog w) (A.deeper (ksEnv qual scope L fI (.ref cda) cc))
          (leaving (ksEnv qual scope L fI (.ref cda) cc) e) (fun _ s'' => R (.error e) s'')
          (fun e' s'' => R (.error e') s'') s') { s with heap := h1, toks := tk }) :
    codeAny (model prog w) A (.call (.ref fI) args) R s := by
  obtain ⟨oc, od, kV, doc, pm, ct, an, osl, hf⟩ := S.fn
  refine ks_codeAny_call_defAt (fd := ksFn "__init__" qual params body scope .none kV doc pm an (.ref cda) ct cc)
    (body := body) (binds := binds) hroom (Mh.kin _ _ hf) rfl hlim (codeRec_of Mh.kin S.cod) rfl
    (hbind kV doc pm ct an) hcell hloc (fun h1 hns k1 => ?_) hco hge hk
  exact h h1 _ _ hns (Nat.le_refl _) k1

end
end Xc
set_option maxHeartbeats 8000000
namespace Xc
open PySem PySem.W PySem.Calls PyProof.Rows

/-- a name that may be a field -/
structure Nm (p : Str) : Prop where
  s : p ≠ "self"
  u : p ≠ "super"
  c : p ≠ "__class__"
  d : p ≠ "__debug__"
theorem bq {a b : Str} (h : a ≠ b) : (a == b) = false := by simpa using h
theorem lk1 {α : Type} {y p : Str} {v : α} {r : List (Str × α)} (h : y ≠ p) :
    List.lookup y ((p, v) :: r) = List.lookup y r := by
  show (match y == p with | true => some v | false => List.lookup y r) = _
  rw [bq h]
theorem lk0 {α : Type} {p : Str} {v : α} {r : List (Str × α)} : List.lookup p ((p, v) :: r) = some v := by
  unfold List.lookup
  simp
theorem ns_of (a b : Str) (h : (a == b) = false) : a ≠ b := by simpa using h

section
variable {prog : Program} {w : World} {A : Around} {R : Result → Shared → Prop} {s : Shared}
variable {K : Frag} {mg : Str → Option Value} {C x t0 fI cc cda : Addr} {B newId initId : String} {bmB : List Value}
variable {qual msg f1 f2 f3 : Str} {j : Nat} {p0 p1 p2 p3 p4 p5 : Pos} {args : Args} {v1 v2 v3 : Value}

theorem hself : ("self" : Str) ≠ "super" := ns_of _ _ (by decide)
theorem hself2 : ("self" : Str) ≠ "__class__" := ns_of _ _ (by decide)
theorem hcs : ("super" : Str) ≠ "__class__" := ns_of _ _ (by decide)

/-- one field -/
theorem init1 {a0 a1 q1 q2 q3 q4 : Pos} (n1 : Nm f1) (T : XC K C B newId initId bmB)
    (S : XI prog K mg C fI cc cda qual (iArgs [("self", a0), (f1, a1)])
      [supS msg j p0 p1 p2 p3 p4 p5, stS f1 q1 q2 q3 q4] (iScope ["self", f1]) B initId)
    (Mh : MH K mg s.heap) (hlim : s.heap.NoLimit) (hroom : A.depth < recursionLimit)
    (hln : (p2.endLine == p4.line) = true) (hx : s.heap.get? x = some (excObj C t0 none .none))
    (nx : K.lookup x = none) (ng : x ≠ mainGlobals) (nb : x ≠ builtinsNs) (ha : takerIn K C f1 = some none)
    (hb : ∀ kV doc pm ct an, BindsTo s (ksFn "__init__" qual (iArgs [("self", a0), (f1, a1)])
      [supS msg j p0 p1 p2 p3 p4 p5, stS f1 q1 q2 q3 q4] (iScope ["self", f1]) .none kV doc pm an (.ref cda) ct cc)
      args [("self", .ref x), (f1, v1)])
    (hq : ∀ h' tk, IEnd s.heap h' x C [(f1, v1)] → R (.ok (.ret .none)) { s with heap := h', toks := tk }) :
    codeAny (model prog w) A (.call (.ref fI) args) R s := by
  have l0 : (iScope ["self", f1]).names.lookup ("self" : Str) = some .local := lk0
  have l1 : (iScope ["self", f1]).names.lookup f1 = some .local := (lk1 n1.s).trans lk0
  have lc : (iScope ["self", f1]).names.lookup ("__class__" : Str) = some .free :=
    (lk1 hself2.symm).trans ((lk1 n1.c.symm).trans lk0)
  have lsu : (iScope ["self", f1]).names.lookup ("super" : Str) = some .globalImplicit :=
    (lk1 hself.symm).trans ((lk1 n1.u.symm).trans ((lk1 hcs).trans lk0))
  have m0 : List.lookup ("self" : Str) [(f1, v1), ("self", Value.ref x)] = some (.ref x) := (lk1 n1.s.symm).trans lk0
  have m1 : List.lookup f1 [(f1, v1), ("self", Value.ref x)] = some v1 := lk0
  refine enter (binds := [("self", .ref x), (f1, v1)]) S Mh hlim hroom hb
    (by simp [iScope]) (fun y hy => ?_) rfl rfl rfl fun h1 tk L hn hL k1 => ?_
  · rcases List.mem_cons.mp hy with rfl | hy
    · exact l0
    · rcases List.mem_cons.mp hy with rfl | hy
      · exact l1
      · cases hy
  obtain ⟨hp, g, d, t, os⟩ := s
  refine ks_wpAt_execs_cons ?_
  refine sup_run T S (Mh.keeps k1) hn (k1 _ _ hx) (ar := ⟨"self", none, a0⟩) rfl m0 lsu lc l0 rfl
    (fun h2 tk2 t1 k2 e2 => ?_) (he_of hln) (by rfl) (by rfl)
  have nL : L ≠ x := ns_ne hn (k1 _ _ hx)
  have M2 : MH K mg h2 := mh_keep (Mh.keeps k1) nx ng nb k2
  have hn2 := ns_keep hn nL k2
  refine wpAt_of_wpAny (wpAny_execs_cons ?_)
  refine st0 T M2.kin hn2 e2 m0 m1 rfl l0 l1 (bq n1.d) ha (fun h3 tk3 dx k3 hd ne e3 n3 => ?_) (by rfl)
  refine wpAny_execs_nil ?_
  have z : hp.objs.size ≤ dx := Nat.le_trans hL (Nat.le_trans (Nat.le_of_lt hn2.lt) hd)
  refine hq h3 tk3 ⟨fun b o hb ho => k3 b o hb (k2 b o hb (k1 b o ho)), t1, dx, e3, z, ne, ?_⟩
  have e : (fun y => List.lookup y [(f1, v1)]) = fun y => if y = f1 then some v1 else none := by
    funext y
    by_cases h : y = f1
    · rw [h, if_pos rfl, lk0]
    · rw [if_neg h, lk1 h]; rfl
  rw [e]
  exact n3
end
end Xc
set_option maxHeartbeats 8000000
namespace Xc
open PySem PySem.W PySem.Calls PyProof.Rows

theorem wi1 {f : Str} {v : Value} : Within (fun y => if y = f then some v else none) [f] :=
  Within.cons f v Within.nil
section
variable {prog : Program} {w : World} {A : Around} {R : Result → Shared → Prop} {s : Shared}
variable {K : Frag} {mg : Str → Option Value} {C x t0 fI cc cda : Addr} {B newId initId : String} {bmB : List Value}
variable {qual msg f1 f2 f3 : Str} {j : Nat} {p0 p1 p2 p3 p4 p5 : Pos} {args : Args} {v1 v2 v3 : Value}

end
end Xc
set_option maxHeartbeats 8000000
/-! an own exception class is called, with keywords too -/
namespace Xc
open PySem PySem.W PySem.Calls PyProof.Rows PySem.PX

section
variable {prog : Program} {w : World} {M : Model} {A : Around} {E : Value → Shared → Prop}
variable {R : Result → Shared → Prop} {hp : Heap} {g : Array GenState} {d : Drawn} {t : Nat} {os : OsState}
variable {K : Frag} {C x t0 fI : Addr} {B newId initId : String} {bmB : List Value}
variable {nm q : Str} {N : Addr} {bs bm : List Value} {hdct : Bool} {sn : List Str} {sub : List Value}
variable {ab : Bool} {col : Option Bool} {dd : Option Addr} {k0 k1 k2 k3 k5 : Option Value}
variable {rest : List Value} {kw : List (Str × Value)}

abbrev clsO (nm q : Str) (C N : Addr) (bs bm : List Value) (hdct : Bool) (sn : List Str) (sub : List Value)
    (ab : Bool) (col : Option Bool) (dd : Option Addr) (k0 k1 k2 k3 k5 : Option Value) (newId : String) : Obj :=
  excClassObj nm q C N bs bm hdct sn sub ab col dd k0 k1 k2 k3 k5 newId

theorem ckNewK (F : ExcBaseFacts B newId initId bmB)
    (hT : ∀ X : String, bm.contains (.type X) = bmB.contains (.type X)) {Q : Unit → Shared → Prop}
    (hC : hp.get? C = some (clsO nm q C N bs bm hdct sn sub ab col dd k0 k1 k2 k3 k5 newId))
    (hq : Q () ⟨hp, g, d, t, os⟩) :
    wpAny M A (checkBuiltinCall newId ⟨.ref C :: rest, kw⟩) Q E ⟨hp, g, d, t, os⟩ := by
  have hin : (Value.ref C :: bm).contains (.type B) = true := by
    rw [List.contains_cons, hT, F.hasB]
    exact Bool.or_true _
  have hstar := F.noStar
  simp only [checkBuiltinCall, F.newKind, F.newSplit, F.newRow]
  repeat (first
    | refine wpAny_loadPart_at hC ?_
    | (refine wpAny_isSubtype_exc hC ?_; rw [hin])
    | refine wpAny_staticBase_exc hC ?_
    | refine wpAny_madeBy_exc hC ?_
    | simp only [bne_self_eq_false, Bool.false_eq_true, if_false]
    | wp_step)
  exact hq

theorem newK (F : ExcBaseFacts B newId initId bmB)
    (hT : ∀ X : String, bm.contains (.type X) = bmB.contains (.type X))
    (hC : hp.get? C = some (clsO nm q C N bs bm hdct sn sub ab col dd k0 k1 k2 k3 k5 newId))
    (hz : rest.length ≤ sizeLine)
    (hq : R (.ok (.ret (.ref (hp.objs.size + 1))))
      ⟨(hp.push (excTup rest)).push (excObj C hp.objs.size none .none), g, d, t, os⟩) :
    codeAny (model prog w) A (.builtin newId ⟨.ref C :: rest, kw⟩) R ⟨hp, g, d, t, os⟩ := by
  have hends := F.ends
  have i1 : (Value.ref C :: bm).contains (.type B) = true := by
    rw [List.contains_cons, hT, F.hasB]
    exact Bool.or_true _
  have i2 : (Value.ref C :: bm).contains (.type "AttributeError") = false := by
    rw [List.contains_cons, hT, F.noAttr]
    rfl
  have i3 : (Value.ref C :: bm).contains (.type "NameError") = false := by
    rw [List.contains_cons, hT, F.noName]
    rfl
  refine codeAny_builtinAt F.entry ?_
  unfold Builtin.«BaseException.__new__»
  refine PySem.wpAt_bind ?_
  show PySem.wpAt _ _ _ (stack >>= _) _ _ _
  refine PySem.wpAt_bind (PySem.wpAt_stack fun p below => PySem.wpAt_of_wpAny ?_)
  wp_walk
  refine PySem.wpAt_of_wpAny ?_
  rw [F.owner]
  repeat (first
    | with_reducible refine wpAny_madeHere_exc F.canon hC ?_
    | with_reducible refine wpAny_loadPart_at hC ?_
    | (with_reducible refine wpAny_isSubtype_exc hC ?_; first | rw [i1] | rw [i2] | rw [i3])
    | wp_step)
  show R _ _
  rw [Heap.size_push]
  exact hq

theorem typeK (F : ExcBaseFacts B newId initId bmB)
    (hT : ∀ X : String, bm.contains (.type X) = bmB.contains (.type X)) {Q : Fin → Shared → Prop}
    (hC : hp.get? C = some (clsO nm q C N bs bm hdct sn sub ab col dd k0 k1 k2 k3 k5 newId))
    (hi : W.Looks (model prog w) hp (typeLookup (.ref C) "__init__") (some (.ref fI)))
    (hb : ∀ self, W.Looks (model prog w) hp (bindSpecial (.ref fI) self) (.ref fI, [self]))
    (hz : rest.length ≤ sizeLine)
    (hq : codeAny (model prog w) A (.call (.ref fI) ⟨.ref (hp.objs.size + 1) :: rest, kw⟩)
      (fun r s' => match r with
        | .ok (.ret v) => v = .none ∧ Q (.done (.ret (.ref (hp.objs.size + 1)))) s'
        | .ok _ => False
        | .error e => E e s')
      ⟨(hp.push (excTup rest)).push (excObj C hp.objs.size none .none), g, d, t, os⟩) :
    wpAny (model prog w) A (Builtin.«type.__call__» ⟨.ref C :: rest, kw⟩) Q E ⟨hp, g, d, t, os⟩ := by
  repeat (first
    | with_reducible refine wpAny_loadPart_at hC ?_
    | with_reducible refine wpAny_madeBy_exc hC ?_
    | wp_step)
  refine codeAny_call_builtin_code (Code.quiet_builtin _ F.quiet) (ckNewK F hT hC ?_)
  refine newK F hT hC hz ?_
  show wpAny _ _ _ _ _ _
  have k : ∀ b o, hp.get? b = some o →
      ((hp.push (excTup rest)).push (excObj C hp.objs.size none .none)).get? b = some o :=
    fun b o e => Heap.get?_push_of_some _ (Heap.get?_push_of_some _ e)
  have hC1 := k _ _ hC
  have hg : ((hp.push (excTup rest)).push (excObj C hp.objs.size none .none)).get? (hp.objs.size + 1)
      = some (excObj C hp.objs.size none .none) := by heap_get
  have hcC : (Value.ref C :: bm).contains (.ref C) = true := by simp
  have i1 := hi.keeps k
  have b1 := (hb (.ref (hp.objs.size + 1))).keeps k
  unfold isInstance
  repeat (first
    | with_reducible refine wpAny_loadPart_at hg ?_
    | (with_reducible refine wpAny_isSubtype_exc hC1 ?_; rw [hcC])
    | wp_step)
  show wpAny _ _ (typeLookup (.ref C) _) _ _ _
  refine i1.at ?_
  refine wpAny_holding (wpAny_bind (b1.at ?_))
  refine wpAny_bind (wpAny_call (codeAny_mono hq fun r s' z => ?_))
  rcases r with e | (v | _ | _ | _) <;> first
    | exact z
    | exact z.elim
    | (obtain ⟨rfl, z⟩ := z
       first
         | exact wpAny_pure (wpAny_pure z)
         | (wp_walk; exact z))

theorem callK (F : ExcBaseFacts B newId initId bmB)
    (hT : ∀ X : String, bm.contains (.type X) = bmB.contains (.type X))
    (hC : hp.get? C = some (clsO nm q C N bs bm hdct sn sub ab col dd k0 k1 k2 k3 k5 newId))
    (hi : W.Looks (model prog w) hp (typeLookup (.ref C) "__init__") (some (.ref fI)))
    (hb : ∀ self, W.Looks (model prog w) hp (bindSpecial (.ref fI) self) (.ref fI, [self]))
    (hz : rest.length ≤ sizeLine)
    (hq : codeAny (model prog w) (A.under (.builtin "type.__call__" ⟨.ref C :: rest, kw⟩))
      (.call (.ref fI) ⟨.ref (hp.objs.size + 1) :: rest, kw⟩) (W.InitBack (hp.objs.size + 1) R)
      ⟨(hp.push (excTup rest)).push (excObj C hp.objs.size none .none), g, d, t, os⟩) :
    codeAny (model prog w) A (.call (.ref C) ⟨rest, kw⟩) R ⟨hp, g, d, t, os⟩ := by
  have f1 := tc_lookup
  have f2 := tc_bind (.ref C)
  have hTy : (⟨hp, g, d, t, os⟩ : Shared).TypeIs (.ref C) "type" := ⟨_, hC, rfl⟩
  refine codeAny_of_tree ?_
  show wpAny _ _ (callAny (.ref C) _) _ _ _
  repeat (any_goals (first | assumption | with_reducible refine wpAny_loadPart_at hC ?_ | wp_step))
  refine ⟨rfl, ?_⟩
  refine codeAny_call_builtin_at (Code.quiet_builtin _ (by decide +kernel)) entry_typeCall
    (wpAny_check_type_call_sub hC (typeK F hT hC hi hb hz ?_))
  refine codeAny_mono hq fun r s' z => ?_
  rcases r with e | (v | _ | _ | _) <;> exact z
end
end Xc
set_option maxHeartbeats 8000000
namespace Xc
open PySem PySem.W PySem.Calls PyProof.Rows PySem.PX

/-- behind the call of the class: a new exception e, its fields fs -/
structure MkEnd (h h' : Heap) (e C : Addr) (fs : List (Str × Value)) : Prop where
  keep : ∀ b o, h.get? b = some o → h'.get? b = some o
  new : h.objs.size ≤ e
  obj : match fs with
    | [] => ∃ t1, h'.get? e = some (excObj C t1 none .none)
    | _ :: _ => ∃ t1 dx, h'.get? e = some (excObj C t1 (some dx) .none) ∧ h.objs.size ≤ dx ∧ dx ≠ e ∧
        h'.Ns1 dx fun y => fs.lookup y

/-- what calls of the class C do, for the fields fs bound from us and kw -/
def Mk (prog : Program) (w : World) (K : Frag) (mg : Str → Option Value) (C : Addr) (us : List Value)
    (kw : List (Str × Value)) (fs : List (Str × Value)) : Prop :=
  ∀ (A : Around) (R : Result → Shared → Prop) (s : Shared), MH K mg s.heap → s.heap.NoLimit →
    A.depth + 1 < recursionLimit →
    (∀ h' tk e, MkEnd s.heap h' e C fs → R (.ok (.ret (.ref e))) { s with heap := h', toks := tk }) →
    codeAny (model prog w) A (.call (.ref C) ⟨us, kw⟩) R s

section
variable {prog : Program} {w : World} {A : Around} {R : Result → Shared → Prop} {s : Shared}
variable {K : Frag} {mg : Str → Option Value} {C x t0 fI cc cda : Addr} {B newId initId : String} {bmB : List Value}
variable {qual msg f1 f2 f3 : Str} {j : Nat} {p0 p1 p2 p3 p4 p5 : Pos} {us : List Value} {kw : List (Str × Value)} {v1 v2 v3 : Value}

/-- the common way in -/
theorem mk_of (T : XC K C B newId initId bmB) (iC : findIn K (.ref C) "__init__" = some (some (.ref fI)))
    (tI : typeIn K (.ref fI) = some (.type "function")) (hz : us.length ≤ sizeLine) {fs : List (Str × Value)}
    (h : ∀ (A : Around) (R : Result → Shared → Prop) (s : Shared) (x t0 : Addr), MH K mg s.heap → s.heap.NoLimit →
      A.depth < recursionLimit → s.heap.get? x = some (excObj C t0 none .none) → K.lookup x = none →
      x ≠ mainGlobals → x ≠ builtinsNs →
      (∀ h' tk, IEnd s.heap h' x C fs → R (.ok (.ret .none)) { s with heap := h', toks := tk }) →
      codeAny (model prog w) A (.call (.ref fI) ⟨.ref x :: us, kw⟩) R s) : Mk prog w K mg C us kw fs := by
  intro A R s Mh hlim hroom hq
  have X := Mh.kin
  obtain ⟨nm, N', qn, bs, bm, hdct, sn, sub, ab, col, dd, k0, k1, k2, k3, k5, hC, hT⟩ := excInit_of X T.ini
  obtain ⟨hp, g, d, t, os⟩ := s
  have kk : ∀ b o, hp.get? b = some o →
      ((hp.push (excTup us)).push (excObj C hp.objs.size none .none)).get? b = some o :=
    fun b o e => Heap.get?_push_of_some _ (Heap.get?_push_of_some _ e)
  have hg : ((hp.push (excTup us)).push (excObj C hp.objs.size none .none)).get? (hp.objs.size + 1)
      = some (excObj C hp.objs.size none .none) := by heap_get
  have big : ∀ {b : Addr} {o : Obj}, hp.get? b = some o → hp.objs.size + 1 ≠ b := fun {b o} e z => by
    have q := Heap.lt_size e
    rw [← z] at q
    exact absurd (Nat.lt_of_succ_lt q) (Nat.lt_irrefl _)
  have hnx : K.lookup (hp.objs.size + 1) = none := by
    cases e : K.lookup (hp.objs.size + 1) with
    | none => rfl
    | some o => exact absurd rfl (big (X _ _ e))
  have hmg : hp.objs.size + 1 ≠ mainGlobals := by
    obtain ⟨o, _, _, e, _⟩ := Mh.glob
    exact big e
  have hbn : hp.objs.size + 1 ≠ builtinsNs := by
    obtain ⟨mb, ⟨o, _, _, e, _⟩, _⟩ := Mh.blt
    exact big e
  refine callK T.FB hT hC (looks_findIn X iC) (fun self => bind_fn X self tI) hz ?_
  refine h _ _ ⟨(hp.push (excTup us)).push (excObj C hp.objs.size none .none), g, d, t, os⟩ (hp.objs.size + 1) hp.objs.size
    (Mh.keeps kk) (hlim.keeps kk) hroom hg hnx hmg hbn fun h' tk Z => ?_
  refine ⟨rfl, hq h' tk (hp.objs.size + 1) ⟨fun b o e => Z.keep b o (Ne.symm (big e)) (kk b o e), Nat.le_succ _, ?_⟩⟩
  have zo := Z.obj
  cases fs with
  | nil => exact zo
  | cons f r =>
    obtain ⟨t1, dx, e1, e2, e3, e4⟩ := zo
    refine ⟨t1, dx, e1, ?_, e3, e4⟩
    rw [Heap.size_push, Heap.size_push] at e2
    exact Nat.le_trans (Nat.le_trans (Nat.le_succ _) (Nat.le_succ _)) e2

theorem mk1 {a0 a1 q1 q2 q3 q4 : Pos} (n1 : Nm f1) (T : XC K C B newId initId bmB)
    (iC : findIn K (.ref C) "__init__" = some (some (.ref fI))) (tI : typeIn K (.ref fI) = some (.type "function"))
    (S : XI prog K mg C fI cc cda qual (iArgs [("self", a0), (f1, a1)])
      [supS msg j p0 p1 p2 p3 p4 p5, stS f1 q1 q2 q3 q4] (iScope ["self", f1]) B initId)
    (hln : (p2.endLine == p4.line) = true) (ha : takerIn K C f1 = some none) (hz : us.length ≤ sizeLine)
    (hb : ∀ s x kV doc pm ct an, BindsTo s (ksFn "__init__" qual (iArgs [("self", a0), (f1, a1)])
      [supS msg j p0 p1 p2 p3 p4 p5, stS f1 q1 q2 q3 q4] (iScope ["self", f1]) .none kV doc pm an (.ref cda) ct cc)
      ⟨.ref x :: us, kw⟩ [("self", .ref x), (f1, v1)]) : Mk prog w K mg C us kw [(f1, v1)] :=
  mk_of T iC tI hz fun A R s x t0 Mh hlim hroom hx nx ng nb hq =>
    init1 n1 T S Mh hlim hroom hln hx nx ng nb ha (hb s x) hq

end
end Xc
set_option maxHeartbeats 8000000
/-! exceptions as values, over the abstract heap -/
namespace L2
open PySem PySem.Spec PyProof.Rows

theorem kv_lookup : ∀ {fv : List (Str × V)} {fs : List (Str × Value)}, KV fv fs → ∀ y, RelO (fv.lookup y) (fs.lookup y)
  | _, _, .nil, _ => True.intro
  | (f, v) :: fv, (g, u) :: fs, .cons r t, y => by
    obtain ⟨e, rv⟩ := r
    have e' : f = g := e
    subst e'
    rw [lookup_put]
    by_cases h : y = f
    · subst h
      rw [if_pos rfl, Xc.lk0]
      exact rv
    · rw [if_neg h, Xc.lk1 h]
      exact kv_lookup t y

theorem paired_snoc {α β : Type} {R : α → β → Prop} : ∀ {xs : List α} {ys : List β} {x : α} {y : β},
    Paired R xs ys → R x y → Paired R (xs ++ [x]) (ys ++ [y])
  | _, _, _, _, .nil, r => .cons r .nil
  | _, _, _, _, .cons q t, r => .cons q (paired_snoc t r)
theorem vals_rev : ∀ {xs : List V} {us : List Value}, Vals xs us → Vals xs.reverse us.reverse
  | _, _, .nil => .nil
  | _ :: _, _ :: _, .cons r t => by
    rw [List.reverse_cons, List.reverse_cons]
    exact paired_snoc (vals_rev t) r
theorem zip_kv : ∀ (ps : List Str) {xs : List V} {us : List Value}, Vals xs us → KV (ps.zip xs) (ps.zip us)
  | [], _, _, _ => by simp only [List.zip_nil_left]; exact Paired.nil
  | _ :: _, _, _, .nil => .nil
  | p :: ps, _ :: _, _ :: _, .cons r t => .cons ⟨rfl, r⟩ (zip_kv ps t)

section
variable {X : Cx} {pins : List (Addr × Obj)} {σ : St} {H : Hp} {s : Shared} {e C : Addr}

theorem Inv.mh (I : Inv X pins σ H s) : Xc.MH X.K X.mg s.heap := by
  obtain ⟨mb, h1, h2⟩ := I.mod.blt
  exact ⟨I.kIn, I.mod.glob.keeps I.bk, mb, h1.keeps I.bk, h2⟩

end

/-- what is known of calls of the class at C; ps: its fields, the last parameter first -/
structure MkAll (P : Program) (w : World) (K : PySem.W.Frag) (mg : Str → Option Value) (C : Addr) (ps : List Str) : Prop where
  pos : ∀ fs : List (Str × Value), fs.map (·.1) = ps → Xc.Mk P w K mg C (fs.reverse.map (·.2)) [] fs
  kws : ∀ fs : List (Str × Value), fs.map (·.1) = ps → Xc.Mk P w K mg C [] fs fs
  kp : PySem.W.keepIn K (.ref C) = true

theorem zip_rev {ps : List Str} {us : List Value} (h : us.length = ps.length) :
    ((ps.zip us.reverse).reverse.map (·.2)) = us := by
  have e : (ps.zip us.reverse).map (·.2) = us.reverse := by
    rw [List.map_snd_zip]
    rw [List.length_reverse]
    exact Nat.le_of_eq h
  rw [List.map_reverse, e, List.reverse_reverse]
theorem zip_fst {ps : List Str} {us : List Value} (h : us.length = ps.length) : (ps.zip us).map (·.1) = ps := by
  rw [List.map_fst_zip]
  exact Nat.le_of_eq h.symm

section
variable {X : Cx} {C : Addr} {ps : List Str} {k : Nat} {x : Str} {p pos : Pos} {e : Expr} {es : List Expr}
variable {kws : List Keyword} {ta : TA}

end

/-- what the written part says of a field's reading, and of isinstance -/
structure XG (K : PySem.W.Frag) (C : Addr) : Prop where
  ga : PySem.W.findIn K (.ref C) "__getattribute__" = some (some (.builtin "BaseException.__getattribute__"))
  gg : PySem.W.findIn K (.ref C) "__getattr__" = some none
  ex : PySem.W.subIn K (.ref C) (.type "BaseException") = some true
  hd : PySem.W.hasDictIn K C = true
  cl : (PySem.W.clsIn K C).isSome = true
  cc : PySem.W.findIn K (.ref C) "__class__" = some (some (.builtin "object.__class__"))
  cn : PySem.W.specialIn K (.builtin "object.__class__") "__get__" = some (some (.builtin "getset_descriptor.__get__"))
  ct : PySem.W.takesIn K (.builtin "object.__class__") = some true
  co : PySem.W.mroIn K C (.type "object") = some true

end L2
set_option maxHeartbeats 8000000
/-! defs that are known to run outside of any repr; repr of data -/
namespace L2
open PySem PySem.Spec PyProof.Rows

/-- as FnOk, for calls outside of any repr; nothing is raised -/
structure FnG (P : Program) (w : World) (K : PySem.W.Frag) (mg : Str → Option Value) (base : Heap) (k : Nat)
    (f : Addr) (fd : FuncData) (ps : List Str) (sp : Sp) : Prop where
  len : ∀ vs H Q, sp vs H Q E0 → vs.length = ps.length
  run : ∀ (A : Around) (outer : List Env) (s : Shared) (H : Hp) (args : Args) (us : List Value) (vs : List V) (Q : VK),
    A.guards = some [] → Room k A → Env0 P w K mg base A outer s H → BindsTo s fd args (ps.zip us) → Vals vs us →
    sp vs H Q E0 → codeAny (model P w) A (.call (.ref f) args) (CR CX0 outer P w H s Q E0) s

section
variable {P : Program} {w : World} {K : PySem.W.Frag} {mg : Str → Option Value} {base : Heap}

theorem fnG_of {k : Nat} {f : Addr} {name qual : Str} {params : Arguments} {body : List Stmt} {scope : Scope}
    {dV kV doc pm cdv ct oc : Value} {an od : Option Addr} {osl : Array (Option Value)} {N ps : List Str} {sp : Sp}
    (lk : K.lookup f = some ⟨oc, od, .func (PySem.W.fnOf name qual params body scope dV kV doc pm an cdv ct), osl⟩)
    (hcd : PySem.W.codeIn K cdv qual = true) (S : FnScope N ps scope)
    (len : ∀ vs H Q, sp vs H Q E0 → vs.length = ps.length)
    (hbody : ∀ (A : Around) (outer : List Env) (s : Shared) (H : Hp) (vs : List V) (Q : VK), A.guards = some [] →
      Room k (A.deeper (envOfC qual scope s.heap.objs.size f cdv)) → sp vs H Q E0 →
      ∃ t, PSs (cxOf CX0 P w K mg base N qual scope f cdv A outer s H E0) body t ∧
        t { nx := fun _ H' => Q .non H', rt := Q } (start N vs) H) :
    FnG P w K mg base (k + 1) f (PySem.W.fnOf name qual params body scope dV kV doc pm an cdv ct) ps sp := by
  refine ⟨len, fun A outer s H args us vs Q hgu hr e0 hb r hsp => ?_⟩
  have hl := len _ _ _ hsp
  have kb : ∀ b o, base.get? b = some o → s.heap.get? b = some o := fun b o e => (e0.bs b o e).1
  have KX := e0.mod.kin.keeps kb
  have lim := e0.mod.nolimit.keeps kb
  have hkind : ∀ y ∈ ps.zip us, scope.names.lookup y.1 = some .local ∨
      (scope.names.lookup y.1 = some .cell ∧
        ((cellsFrom (s.heap.objs.size + 1) scope.names []).lookup y.1).isSome = true) := by
    rintro ⟨n, v⟩ hy
    rcases S.par n (List.of_mem_zip hy).1 with q | q
    · exact Or.inl q
    · exact Or.inr ⟨q, PySem.W.cellsFrom_some _ _ _ (Or.inl q)⟩
  refine codeAny_call_function hr.depth (KX _ _ lk) rfl S.co S.gen rfl
    (PySem.W.codeRec_of KX hcd) (hb _ _ _ _ ?_)
  refine wpAny_newFunctionEnv_cells S.kind hkind fun env he s1 x => ?_
  cases he
  refine ⟨lim.keeps x.toInCall.keep, codeAny_func ?_⟩
  obtain ⟨t, ht, hq⟩ := hbody A outer s H vs Q hgu (hr.deeper _) hsp
  have I : Inv (cxOf CX0 P w K mg base N qual scope f cdv A outer s H E0) [] (start N vs) H s1 :=
    inv_start S hr.hd e0 hl r x
  refine wpAny_mono (ht.run [] s1 (start N vs) H _ I hq) (fun fl s' hs => ?_) fun e s' hs => hs
  cases fl with
  | ret u =>
    obtain ⟨v, σ', H', J, rv, q⟩ := hs
    exact ⟨v, H', J.os, J.bare, J.base, J.hok, rv, q⟩
  | next =>
    obtain ⟨σ', H', J, q⟩ := hs
    exact ⟨V.non, H', J.os, J.bare, J.base, J.hok, rfl, q⟩
  | brk => exact hs.choose_spec.choose_spec.2.elim
  | cont => exact hs.choose_spec.choose_spec.2.elim

theorem Fun.okG {x qual : Str} {st : Stmt} {f : Addr} {fd : FuncData} {N ps : List Str} {k : Nat} {sp : Sp}
    (F : Fun K x qual st f fd) (S : FnScope N ps (defScope st)) (len : ∀ vs H Q, sp vs H Q E0 → vs.length = ps.length)
    (hbody : ∀ (cdv : Value) (A : Around) (outer : List Env) (s : Shared) (H : Hp) (vs : List V) (Q : VK),
      A.guards = some [] → Room k (A.deeper (envOfC qual (defScope st) s.heap.objs.size f cdv)) → sp vs H Q E0 →
      ∃ t, PSs (cxOf CX0 P w K mg base N qual (defScope st) f cdv A outer s H E0).nox (defBody st) t ∧
        t { nx := fun _ H' => Q .non H', rt := Q } (start N vs) H) : FnG P w K mg base (k + 1) f fd ps sp := by
  obtain ⟨oc, od, kV, doc, pm, an, cdv, ct, osl, rfl, lk, hcd⟩ := F.ex
  refine fnG_of lk hcd S len fun A outer s H vs Q hgu hr hsp => ?_
  obtain ⟨t, h, q⟩ := hbody cdv A outer s H vs Q hgu hr hsp
  exact ⟨t, h.nox, q⟩
end

section
variable {X : Cx} {k : Nat} {f : Addr} {fd : FuncData} {ps : List Str} {sp : Sp} {x : Str} {p pos : Pos}
variable {e : Expr} {es : List Expr} {t : TA}

theorem run_fnG {pins : List (Addr × Obj)} {σ : St} {H : Hp} {s : Shared} {Q : VK} {us : List Value} {vs : List V}
    (F : FnG X.prog X.w X.K X.mg X.base k f fd ps sp) (hgu : X.A.guards = some []) (hr : Room k X.A)
    (hb : Binds X.K fd ps []) (I : Inv X pins σ H s) (r : Vals vs us) (h : sp vs H Q E0) :
    wpAny (model X.prog X.w) X.A (call (.ref f) us) (EP X pins σ Q) X.xe s := by
  have hl : (us ++ []).length = ps.length := by
    rw [List.append_nil, ← r.length]
    exact F.len _ _ _ h
  have hb' := hb s us I.kIn hl
  rw [List.append_nil] at hb'
  refine wpAny_call (codeAny_mono (F.run X.A X.stack s H ⟨us, []⟩ us vs Q hgu hr I.env0 hb' r h) fun r s' hq => ?_)
  cases r with
  | error e => exact False.elim hq
  | ok fl =>
    cases fl with
    | ret u => exact I.after hq
    | next => exact False.elim hq
    | brk => exact False.elim hq
    | cont => exact False.elim hq

theorem pe_callG (F : FnG X.prog X.w X.K X.mg X.base k f fd ps sp) (hgu : X.A.guards = some []) (hr : Room k X.A)
    (hg : Gl X x) (hm : X.mg x = some (.ref f)) (hk : PySem.W.keepIn X.K (.ref f) = true) (hb : Binds X.K fd ps [])
    (ha : PA X (e :: es) t) (hdb : (x == ("__debug__" : Str)) = false := by decide)
    (he : starEach (e :: es) X.env = (false, eval e X.env) :: starEach es X.env := by rfl)
    (hpl : (backTo pos (starEach es X.env)).any (·.1) = false := by rfl) :
    PE X (.Call (.Name x p) (e :: es) [] pos) (tCall sp [] E0 t) := by
  refine ⟨fun pins s σ H Q I h => ?_⟩
  refine wpAny_Call_Name_kw (ld_glob I hg hm ?_ hdb)
  refine PySem.W.callWith_K (h₀ := X.base) I.ok.mod.kin hk
    (thn (ha.run pos pins s σ H _ I h) fun us s1 ⟨vs, H1, I1, r, q⟩ => ⟨I1.kIn, ?_⟩) he hpl
  have q' : sp (vs ++ []) H1 Q E0 := q
  rw [List.append_nil] at q'
  exact run_fnG F hgu hr hb I1 r q'
end

/-! ### data, a dict among it -/
def kD : Key → PyData
  | .inl i => .int i
  | .inr x => .str x
mutual
inductive Dw (H : Hp) : V → PyData → Prop
  | non : Dw H .non .none
  | bl (b : Bool) : Dw H (.bl b) (.bool b)
  | int (i : Int) : Dw H (.int i) (.int i)
  | str (x : Str) : Dw H (.str x) (.str x)
  | lst {a : Addr} {xs : List V} {ds : List PyData} : H a = some (.lst xs) → DwAll H xs ds → Dw H (.ref a) (.list ds)
  | tup {a : Addr} {xs : List V} {ds : List PyData} : H a = some (.tup xs) → DwAll H xs ds → Dw H (.ref a) (.tuple ds)
  | dct {a : Addr} {kvs : List (Key × V)} {ds : List PyData} : H a = some (.dK kvs) → DwAll H (kvs.map (·.2)) ds →
      Dw H (.ref a) (.dict ((kvs.map fun p => kD p.1).zip ds))
inductive DwAll (H : Hp) : List V → List PyData → Prop
  | nil : DwAll H [] []
  | cons {v : V} {vs : List V} {d : PyData} {ds : List PyData} : Dw H v d → DwAll H vs ds → DwAll H (v :: vs) (d :: ds)
end
end L2
set_option maxHeartbeats 8000000
namespace L2
open PySem PySem.Spec PyProof.Rows

theorem DwAll.length {H : Hp} : ∀ {vs : List V} {ds : List PyData}, DwAll H vs ds → vs.length = ds.length
  | _, _, .nil => rfl
  | _ :: _, _ :: _, .cons _ t => congrArg (· + 1) (DwAll.length t)

section
variable {P : Program} {w : World} {H : Hp} {h : Heap}
end

mutual
theorem Dw.same {H H' : Hp} (S : Same H H') : ∀ {v : V} {d : PyData}, Dw H v d → Dw H' v d
  | _, _, .non => .non
  | _, _, .bl b => .bl b
  | _, _, .int i => .int i
  | _, _, .str x => .str x
  | _, _, .lst e hd => .lst (S _ _ e) (DwAll.same S hd)
  | _, _, .tup e hd => .tup (S _ _ e) (DwAll.same S hd)
  | _, _, .dct e hd => .dct (S _ _ e) (DwAll.same S hd)
theorem DwAll.same {H H' : Hp} (S : Same H H') : ∀ {vs : List V} {ds : List PyData}, DwAll H vs ds → DwAll H' vs ds
  | _, _, .nil => .nil
  | _, _, .cons hd ht => .cons (Dw.same S hd) (DwAll.same S ht)
end

end L2
set_option maxHeartbeats 8000000
/-! the law's own call, which is outside of any repr -/
namespace L2
open PySem PySem.Spec PyProof.Rows

theorem law_callG {P : Program} {w : World} {K : PySem.W.Frag} {mg mb : Str → Option Value} {k : Nat} {fa a : Addr}
    {fd : FuncData} {x : Str} {sp : Sp} {s1 : Shared} {vs : List Value} {ns : List Int}
    (KX : K.In s1.heap) (hns : s1.heap.Ns mainGlobals mg) (hb : s1.heap.Ns builtinsNs mb)
    (hbb : ∀ x : Str, x ≠ "__name__" → mb x = bootBuiltins x) (hlim : s1.heap.NoLimit) (hg : s1.gens = #[])
    (ha : s1.heap.get? a = some { cls := .type "list", data := .seq vs.toArray }) (hi : IntsAre vs ns)
    (hl : ns.length ≤ sizeLine) (hr : Room k callerA)
    (F : ∀ base : Heap, K.In base → base.Ns mainGlobals mg → FnG P w K mg base k fa fd [x] sp)
    (hbind : ∀ (s : Shared) (u : Value), BindsTo s fd ⟨[u], []⟩ [(x, u)])
    (hsp : ∀ H : Hp, Only H → SqL K H a (ns.map V.int) → sp [.ref a] H (fun v _ => v = .bl true) E0) :
    codeAny (model P w) callerA (.call (.ref fa) ⟨[.ref a], []⟩)
      (fun r s' => r = .ok (.ret (.bool true)) ∧ OldK s1.heap s'.heap ∧ s'.os = s1.os ∧ AllBare s'.gens) s1 := by
  have rv := vals_ints hi
  have lenV := hi.length
  have core : ∀ H : Hp, Only H → SqL K H a (ns.map V.int) → HOk P w H s1.heap →
      (∀ b, H b ≠ none → b = a) → (H a ≠ none → K.lookup a = none) →
      codeAny (model P w) callerA (.call (.ref fa) ⟨[.ref a], []⟩)
        (fun r s' => r = .ok (.ret (.bool true)) ∧ OldK s1.heap s'.heap ∧ s'.os = s1.os ∧ AllBare s'.gens) s1 := by
    intro H hO hS hok hA hK
    have nowhere : ∀ b, b ≠ a → H b = none := fun b ne => by
      cases q : H b with
      | none => rfl
      | some u => exact absurd (hA b (by rw [q]; simp)) ne
    have baseOf : ∀ {b : Addr} {o : Obj}, s1.heap.get? b = some o → H b = none →
        (hidT s1.heap H).get? b = some o := fun e n => hidT_get e n
    have noA : ∀ {b : Addr} {o : Obj} {es : Array DictEntry} {ep : Nat}, s1.heap.get? b = some o →
        o.data = .dict es ep → H b = none := fun {b o es ep} e d => by
      refine nowhere b fun z => ?_
      rw [z, ha] at e
      cases e
      exact nomatch (show Data.seq vs.toArray _ = Data.dict es ep from d)
    have nsK : ∀ {b : Addr} {m : Str → Option Value}, s1.heap.Ns b m → (hidT s1.heap H).Ns b m :=
      fun {b m} ⟨o, es, ep, e, d, r⟩ => ⟨o, es, ep, baseOf e (noA e d), d, r⟩
    have hKb : K.In (hidT s1.heap H) := fun b o e => baseOf (KX b o e) (by
      cases q : H b with
      | none => rfl
      | some u =>
        have e' : b = a := hA b (by rw [q]; simp)
        have n1 := hK (by rw [← e', q]; simp)
        rw [← e', e] at n1
        cases n1)
    have hM : Mod K mg (hidT s1.heap H) := by
      obtain ⟨mc, h1, h2⟩ := hlim
      exact ⟨hKb, nsK hns, ⟨mb, nsK hb, hbb⟩, ⟨mc, nsK h1, h2⟩⟩
    have e0 : Env0 P w K mg (hidT s1.heap H) callerA [] s1 H :=
      ⟨rfl, hM, fun b o e => of_hidT e, Nat.le_of_eq (hidT_size _ _), trivial,
        fun b hb => absurd (show b ∈ ([] : List Addr) from hb) (by simp), hok, .of_eq hg⟩
    have run := (F _ hKb (nsK hns)).run callerA [] s1 H ⟨[.ref a], []⟩ [.ref a] [.ref a] _ rfl hr e0
      (hbind s1 (.ref a)) (.cons rfl .nil) (hsp H hO hS)
    refine codeAny_mono run fun r s' h => ?_
    cases r with
    | error e => exact False.elim h
    | ok fl =>
      cases fl with
      | next => exact False.elim h
      | brk => exact False.elim h
      | cont => exact False.elim h
      | ret u =>
        obtain ⟨v, H', os, bare, un, hok', r', q⟩ := h
        have q' : v = .bl true := q
        subst q'
        have eu : u = Value.bool true := r'
        subst eu
        refine ⟨rfl, OldK.of_keep fun b o e => ?_, os, bare⟩
        cases q : H b with
        | none => exact un.keep b o e q (fun z => absurd (show b ∈ ([] : List Addr) from z) (by simp)) (by simp)
        | some u =>
          rcases hO b with z | ⟨ob, xs, z⟩
          · rw [q] at z
            cases z
          · obtain ⟨e1, _⟩ := hok b _ z
            obtain ⟨e2, _⟩ := hok' b _ (un.frzs b ob _ z)
            rw [e] at e1
            rw [Option.some.inj e1]
            exact e2
  cases hk : K.lookup a with
  | some o =>
    have e := KX a o hk
    rw [ha] at e
    cases e
    refine core (fun _ => none) (fun _ => .inl rfl) (.inr ⟨_, vs.toArray, _, hk, rfl, rfl, rfl, ?_, ?_⟩)
      (fun b u z => nomatch (show (none : Option HO) = some u from z)) (fun b z => absurd rfl z) fun z => absurd rfl z
    · rw [List.size_toArray, lenV]
      exact hl
    · simpa using rv
  | none =>
    let Hs : Hp := fun b => if b = a then
      some (.frz { cls := .type "list", data := .seq vs.toArray } (.lst (ns.map V.int))) else none
    have Hs1 : Hs a = some (.frz { cls := .type "list", data := .seq vs.toArray } (.lst (ns.map V.int))) := if_pos rfl
    have Hs2 : ∀ {b}, b ≠ a → Hs b = none := fun ne => if_neg ne
    refine core Hs (fun b => ?_) (.inl (.inr ⟨_, Hs1⟩)) (fun b u z => ?_) (fun b z => ?_) fun _ => hk
    · by_cases hb : b = a
      · subst hb
        exact .inr ⟨_, _, Hs1⟩
      · exact .inl (Hs2 hb)
    · by_cases hb : b = a
      · subst hb
        rw [Hs1] at z
        cases z
        refine ⟨ha, ?_, vs, _, rv, ha⟩
        rw [List.length_map]
        exact hl
      · rw [Hs2 hb] at z
        cases z
    · by_cases hb : b = a
      · exact hb
      · exact absurd (Hs2 hb) z

end L2
set_option maxHeartbeats 8000000
namespace K54
open PySem PySem.Spec PyProof.Rows L2

abbrev sRng : Stmt := top 61
abbrev sDraw : Stmt := top 62
abbrev sChoice : Stmt := top 63
/-- the built-in names that are still built-in -/
structure Nb (mg : Str → Option Value) : Prop where
  len : mg "len" = none
  max : mg "max" = none
  min : mg "min" = none
  abs : mg "abs" = none
  int : mg "int" = none
  divmod : mg "divmod" = none
  repr : mg "repr" = none
  isi : mg "isinstance" = none
  range : mg "range" = none
  enum : mg "enumerate" = none
  all : mg "all" = none

/-! ### the promises -/
/-- _law_rng(script, k): a new list of two numbers -/
def spRng (K : PySem.W.Frag) : Sp := fun vs H Q _ => ∃ (a : Addr) (ns : List Int) (k : Int), vs = [.ref a, .int k] ∧
  SqL K H a (ns.map V.int) ∧ 0 ≤ k ∧ k ≤ 100 ∧ ns.length ≤ 1000 ∧
  ∀ (p : Addr) (x y : Int), H p = none → 0 ≤ x → 0 ≤ y → y < 4294967296 → Q (.ref p) (upd H p (.lst [.int x, .int y]))
/-- the numbers at r -/
def Rg (H : Hp) (r : Addr) : Prop := ∃ x y : Int, H r = some (.lst [.int x, .int y]) ∧ 0 ≤ x ∧ 0 ≤ y ∧ y < 4294967296
/-- all but what stands at r is kept -/
def But (r : Addr) (H H' : Hp) : Prop := ∀ b o, b ≠ r → H b = some o → H' b = some o
theorem But.trans {r : Addr} {H H1 H2 : Hp} (a : But r H H1) (b : But r H1 H2) : But r H H2 :=
  fun c o ne e => b c o ne (a c o ne e)
/-- _law_draw(rng, many) -/
def spDraw : Sp := fun vs H Q _ => ∃ (r : Addr) (m : Int), vs = [.ref r, .int m] ∧ Rg H r ∧ 0 < m ∧ m ≤ 1000000 ∧
  ∀ (H' : Hp) (d : Int), 0 ≤ d → d < m → Rg H' r → But r H H' → Q (.int d) H'
/-- _law_choice(rng, some), some a list -/
def spChoice : Sp := fun vs H Q _ => ∃ (r l : Addr) (xs : List V), vs = [.ref r, .ref l] ∧ Rg H r ∧ l ≠ r ∧
  H l = some (.lst xs) ∧ 0 < xs.length ∧ xs.length < 1000000 ∧
  ∀ (H' : Hp) (v : V), v ∈ xs → Rg H' r → But r H H' → Q v H'

section
variable {P : Program} {w : World} {K : PySem.W.Frag} {mg : Str → Option Value} {base : Heap}

theorem scRng : FnScope ["_law_script", "_law_k", "_law_cell"] ["_law_script", "_law_k"] (defScope sRng) :=
  ⟨rfl, rfl, rfl, by decide +kernel, rfl, by decide +kernel, by decide +kernel⟩

theorem rng_end {c k : Int} (hk : 0 ≤ k) (hk2 : k ≤ 100) :
    (0 ≤ (if (if c < 0 then -c else c) - 10 ^ 18 > 0 then (if c < 0 then -c else c) - 10 ^ 18 else (0 : Int))) ∧
    (∀ z : Int, 0 ≤ z → 0 ≤ z * (2 * k + 7) ^ 3 % 2147483489 + 1) ∧
    (∀ z : Int, z * (2 * k + 7) ^ 3 % 2147483489 + 1 < 4294967296) := by
  refine ⟨?_, fun z hz => ?_, fun z => ?_⟩
  · split <;> omega
  · have := Int.emod_nonneg (z * (2 * k + 7) ^ 3) (show (2147483489 : Int) ≠ 0 by decide)
    omega
  · have := Int.emod_lt_of_pos (z * (2 * k + 7) ^ 3) (show (0 : Int) < 2147483489 by decide)
    omega

theorem ok_rng {f : Addr} {fd : FuncData} (F : Fun K "_law_rng" "_law_rng" sRng f fd) (T : Nb mg) :
    FnOk P w K mg base CX0 1 f fd ["_law_script", "_law_k"] (spRng K) := by
  refine F.ok scRng (fun vs H Q E h => ?_) (fun cdv A outer s H vs Q E hr h => ?_)
  · obtain ⟨a, ns, k, rfl, _⟩ := h
    rfl
  · obtain ⟨a, ns, k, rfl, hS, hk, hk2, hn, q⟩ := h
    refine ⟨_, pss_cons (ps_set (i := 2) scRng.nd rfl (.inl rfl) (pe_op op_add (pe_op op_mul pe_int (pv 1)) pe_int))
      (pss_cons (ps_if (pt_cmpR op_lt (pv 1) (pe_callB call_len_seq (by rfl) T.len PySem.boot_len (pa_cons (pv 0) pa_nil)) (nomark _))
        (pss_one (ps_set (i := 2) scRng.nd rfl (.inl rfl) (pe_ix ix_list (pv 0) (pv 1) (fun _ _ => rfl)))) pss_nil)
      (pss_one (ps_ret (pe_lst (pa_cons
        (pe_callB (call_max2 rfl) (by rfl) T.max (by decide +kernel) (pa_cons pe_int (pa_cons
          (pe_op op_sub (pe_callB call_abs (by rfl) T.abs (by decide +kernel) (pa_cons (pv 2) pa_nil)) (pe_op op_pow pe_int pe_int)) pa_nil)))
        (pa_cons (pe_op op_add (pe_op op_mod (pe_op op_mul
          (pe_callTy call_int1 (by rfl) T.int (by decide +kernel) (pa_cons
            (pe_op op_add (pe_op op_mod (pe_callTy call_int1 (by rfl) T.int (by decide +kernel) (pa_cons
              (pe_callB call_abs (by rfl) T.abs (by decide +kernel) (pa_cons (pv 2) pa_nil)) pa_nil)) pe_int) pe_int) pa_nil))
          (pe_op op_pow (pe_op op_add (pe_op op_mul pe_int (pv 1)) pe_int) pe_int)) pe_int) pe_int) pa_nil)))))), ?_⟩
    have fin : ∀ c : Int, ∀ p : Addr, H p = none → Q (.ref p) (upd H p (.lst [
        .int (if (if c < 0 then -c else c) - 10 ^ 18 > 0 then (if c < 0 then -c else c) - 10 ^ 18 else 0),
        .int (((if c < 0 then -c else c) % 2147483549 + 1) * (2 * k + 7) ^ 3 % 2147483489 + 1)])) := fun c p hp => by
      obtain ⟨h1, h2, h3⟩ := rng_end (c := c) hk hk2
      refine q p _ _ hp h1 (h2 _ ?_) (h3 _)
      have := Int.emod_nonneg (if c < 0 then -c else c) (show (2147483549 : Int) ≠ 0 by decide)
      omega
    have ret : ∀ c : Int, ∀ σ : L2.St, σ = [some (.ref a), some (.int k), some (.int c)] →
        tRet (tLst (tCons
            (tCB (fun xs H Q => ∃ i j, xs = [V.int i, V.int j] ∧ Q (V.int (if j > i then j else i)) H)
              (tCons (tC (V.int 0)) (tCons (tOp (rI0 fun i j => V.int (i - j))
                (tCB (fun xs H Q => ∃ i, xs = [V.int i] ∧ Q (V.int (if i < 0 then -i else i)) H) (tCons (tVar 2) tNil))
                (tOp (rI CPow fun i j => V.int (i ^ j.toNat)) (tC (V.int 10)) (tC (V.int 18)))) tNil)))
            (tCons (tOp (rI0 fun i j => V.int (i + j)) (tOp (rI (fun x j => 0 < j) fun i j => V.int (i % j))
              (tOp (rI CMul fun i j => V.int (i * j))
                (tCB (fun xs H Q => (∃ i, xs = [V.int i] ∧ Q (V.int i) H) ∨ ∃ k, xs = [V.bl k] ∧ Q (V.int (if k = true then 1 else 0)) H)
                  (tCons (tOp (rI0 fun i j => V.int (i + j)) (tOp (rI (fun x j => 0 < j) fun i j => V.int (i % j))
                    (tCB (fun xs H Q => (∃ i, xs = [V.int i] ∧ Q (V.int i) H) ∨ ∃ k, xs = [V.bl k] ∧ Q (V.int (if k = true then 1 else 0)) H)
                      (tCons (tCB (fun xs H Q => ∃ i, xs = [V.int i] ∧ Q (V.int (if i < 0 then -i else i)) H) (tCons (tVar 2) tNil)) tNil))
                    (tC (V.int 2147483549))) (tC (V.int 1))) tNil))
                (tOp (rI CPow fun i j => V.int (i ^ j.toNat)) (tOp (rI0 fun i j => V.int (i + j))
                  (tOp (rI CMul fun i j => V.int (i * j)) (tC (V.int 2)) (tVar 1)) (tC (V.int 7))) (tC (V.int 3))))
              (tC (V.int 2147483489))) (tC (V.int 1))) tNil)))
          { nx := fun x H' => Q V.non H', rt := Q } σ H := by
      intro c σ hσ
      subst hσ
      have b1 := Int.emod_nonneg (if c < 0 then -c else c) (show (2147483549 : Int) ≠ 0 by decide)
      have b2 := Int.emod_lt_of_pos (if c < 0 then -c else c) (show (0 : Int) < 2147483549 by decide)
      refine ⟨_, rfl, _, rfl, _, _, rfl, rfl, ⟨by decide, by decide, by decide⟩, _, _, rfl, rfl, _, _, rfl, ?_⟩
      refine ⟨_, rfl, _, rfl, .inl ⟨_, rfl, ?_⟩⟩
      refine ⟨_, _, rfl, rfl, (by show (0 : Int) < 2147483549; decide), _, _, rfl, rfl, .inl ⟨_, rfl, ?_⟩⟩
      refine ⟨_, rfl, _, _, rfl, rfl, .inl ⟨by decide, by decide⟩, _, _, rfl, rfl, _, _, rfl, rfl, ⟨by decide, by decide, by omega⟩, ?_⟩
      refine ⟨_, _, rfl, rfl, .inl ⟨by omega, by omega⟩, _, _, rfl, rfl, (by show (0 : Int) < 2147483489; decide), _, _, rfl, rfl, ?_⟩
      refine ⟨by show 2 ≤ sizeLine; rw [sizeLine_eq]; decide, fun p hp => ?_⟩
      exact fin c p hp
    refine ⟨_, rfl, _, _, rfl, rfl, .inl ⟨by decide, by decide⟩, _, _, rfl, rfl, ?_⟩
    refine ⟨_, rfl, _, rfl, a, _, rfl, .inl hS, _, _, rfl, rfl, _, rfl, ?_⟩
    refine ite2 (fun hlt => ?_) fun _ => ?_
    · have hlt' := of_decide_eq_true hlt
      rw [List.length_map] at hlt'
      obtain ⟨j, rfl⟩ : ∃ j : Nat, k = (j : Int) := ⟨k.toNat, by omega⟩
      have hj : j < ns.length := by omega
      refine ⟨_, rfl, _, rfl, a, _, _, .int ns[j], rfl, rfl, hS, atI_nat ?_, ?_⟩
      · rw [List.getElem?_map, List.getElem?_eq_getElem hj]
        rfl
      · exact ret ns[j] _ rfl
    · exact ret (17 * k + 5) _ rfl
end
end K54
set_option maxHeartbeats 8000000
namespace K54
open PySem PySem.Spec PyProof.Rows L2
section
variable {P : Program} {w : World} {K : PySem.W.Frag} {mg : Str → Option Value} {base : Heap}

theorem scDraw : FnScope ["_law_rng_here", "_law_many", "_law_digit_here"] ["_law_rng_here", "_law_many"] (defScope sDraw) :=
  ⟨rfl, rfl, rfl, by decide +kernel, rfl, by decide +kernel, by decide +kernel⟩
theorem at0 (x y : Int) : atI [V.int x, V.int y] 0 = some (.int x) := rfl
theorem at1 (x y : Int) : atI [V.int x, V.int y] 1 = some (.int y) := rfl

theorem ok_draw {f : Addr} {fd : FuncData} (F : Fun K "_law_draw" "_law_draw" sDraw f fd) (T : Nb mg) :
    FnOk P w K mg base CX0 1 f fd ["_law_rng_here", "_law_many"] spDraw := by
  refine F.ok scDraw (fun vs H Q E h => ?_) (fun cdv A outer s H vs Q E hr h => ?_)
  · obtain ⟨r, m, rfl, _⟩ := h
    rfl
  · obtain ⟨r, m, rfl, ⟨x, y, hR, hx, hy, hy2⟩, hm, hm2, q⟩ := h
    refine ⟨_, pss_cons (ps_if (pt_cmpR op_gt (pe_ix ix_list (pv 0) pe_int (fun _ _ => rfl)) pe_int (nomark _))
        (pss_cons (ps_asg (pe_callB call_divmod (by rfl) T.divmod (by decide +kernel)
            (pa_cons (pe_ix ix_list (pv 0) pe_int (fun _ _ => rfl)) (pa_cons (pv 1) pa_nil)))
          (pg_tup rfl (pgs_cons (pg_sub (pv 0) pe_int set_list) (pgs_cons (pg_name (i := 2) scDraw.nd rfl (Or.inl rfl)) pgs_nil))))
        (pss_one (ps_ret (pv 2)))) pss_nil)
      (pss_cons (ps_asg (pe_op op_mod (pe_callTy call_int1 (by rfl) T.int (by decide +kernel) (pa_cons
          (pe_op op_add (pe_op op_mul (pe_ix ix_list (pv 0) pe_int (fun _ _ => rfl)) pe_int) pe_int) pa_nil)) pe_int)
          (pg_sub (pv 0) pe_int set_list))
      (pss_one (ps_ret (pe_op op_mod (pe_op op_fdiv (pe_op op_mod (pe_callTy call_int1 (by rfl) T.int (by decide +kernel)
        (pa_cons (pe_op op_mul (pe_ix ix_list (pv 0) pe_int (fun _ _ => rfl)) (pe_ix ix_list (pv 0) pe_int (fun _ _ => rfl))) pa_nil))
        pe_int) pe_int) (pv 1))))), ?_⟩
    refine ⟨_, rfl, r, _, _, _, rfl, rfl, SqL.of hR, at0 x y, _, _, rfl, rfl, _, rfl, ?_⟩
    refine ite2 (fun hgt => ?_) fun _ => ?_
    · refine ⟨_, rfl, r, _, _, _, rfl, rfl, SqL.of hR, at0 x y, _, rfl, _, _, rfl, ⟨hm, by omega⟩, fun p hp => ?_⟩
      have npr : p ≠ r := Ne.symm (ne_of_none hR hp)
      have hR1 : upd H p (.tup [.int (x / m), .int (x % m)]) r = some (.lst [.int x, .int y]) := by
        rw [upd_ne npr.symm]
        exact hR
      refine ⟨p, _, rfl, SqT.of upd_same, rfl, ?_⟩
      refine ⟨_, _, rfl, ⟨_, rfl, r, _, _, _, rfl, rfl, hR1, rfl, ?_⟩⟩
      refine ⟨_, _, rfl, rfl, ?_⟩
      refine ⟨_, rfl, ?_⟩
      refine q _ _ (Int.emod_nonneg _ (by omega)) (Int.emod_lt_of_pos _ hm) ⟨x / m, y, upd_same, Int.ediv_nonneg hx (by omega), hy, hy2⟩ ?_
      intro b o ne e
      rw [upd_ne ne, upd_ne (ne_of_none e hp)]
      exact e
    · have c1 := Int.emod_nonneg (y * 40693 + 27017) (show (2147483563 : Int) ≠ 0 by decide)
      have c2 := Int.emod_lt_of_pos (y * 40693 + 27017) (show (0 : Int) < 2147483563 by decide)
      refine ⟨_, rfl, r, _, _, _, rfl, rfl, SqL.of hR, at1 x y, _, _, rfl, rfl, .inl ⟨by omega, by omega⟩, _, _, rfl, rfl, .inl ⟨_, rfl, ?_⟩⟩
      refine ⟨_, _, rfl, rfl, (by show (0 : Int) < 2147483563; decide), ?_⟩
      refine ⟨_, rfl, r, _, _, _, rfl, rfl, hR, rfl, ?_⟩
      refine ⟨_, rfl, r, _, _, _, rfl, rfl, SqL.of upd_same, at1 x _, _, rfl, r, _, _, _, rfl, rfl, SqL.of upd_same, at1 x _, ?_⟩
      refine ⟨_, _, rfl, rfl, .inl ⟨by omega, by omega⟩, .inl ⟨_, rfl, ?_⟩⟩
      refine ⟨_, _, rfl, rfl, (by show (0 : Int) < 2147483477; decide), _, _, rfl, rfl, ⟨by decide, by decide⟩, _, rfl, _, _, rfl, rfl, hm, ?_⟩
      refine q _ _ (Int.emod_nonneg _ (by omega)) (Int.emod_lt_of_pos _ hm) ⟨x, _, upd_same, hx, c1, by omega⟩ ?_
      intro b o ne e
      rw [upd_ne ne]
      exact e

/-! ### _law_choice -/
theorem scChoice : FnScope ["_law_rng_here", "_law_some"] ["_law_rng_here", "_law_some"] (defScope sChoice) :=
  ⟨rfl, rfl, rfl, by decide +kernel, rfl, by decide +kernel, by decide +kernel⟩
theorem ok_choice {f fD : Addr} {fd fdD : FuncData} (F : Fun K "_law_choice" "_law_choice" sChoice f fd) (T : Nb mg)
    (FD : Fun K "_law_draw" "_law_draw" sDraw fD fdD) (bD : Binds K fdD ["_law_rng_here", "_law_many"] [])
    (gD : mg "_law_draw" = some (.ref fD)) :
    FnOk P w K mg base CX0 2 f fd ["_law_rng_here", "_law_some"] spChoice := by
  have GD : FnOk P w K mg base CX0 1 fD fdD ["_law_rng_here", "_law_many"] spDraw := ok_draw FD T
  refine F.ok scChoice (fun vs H Q E h => ?_) (fun cdv A outer s H vs Q E hr h => ?_)
  · obtain ⟨r, l, xs, rfl, _⟩ := h
    rfl
  · obtain ⟨r, l, xs, rfl, hR, hne, hl, h0, h1, q⟩ := h
    refine ⟨_, pss_one (ps_ret (pe_ix ix_list (pv 1) (pe_call GD hr rfl gD FD.kp bD .nil pass0
      (pa_cons (pv 0) (pa_cons (pe_callB call_len_seq (by rfl) T.len PySem.boot_len (pa_cons (pv 1) pa_nil)) pa_nil)))
      (fun _ _ => rfl))), ?_⟩
    refine ⟨_, rfl, _, rfl, _, rfl, l, _, rfl, .inl (SqL.of hl), ?_⟩
    refine ⟨r, _, rfl, hR, by omega, by omega, fun H' d d0 d1 hR' hB => ?_⟩
    obtain ⟨j, rfl⟩ : ∃ j : Nat, d = (j : Int) := ⟨d.toNat, by omega⟩
    have hj : j < xs.length := by omega
    refine ⟨l, xs, _, xs[j], rfl, rfl, SqL.of (hB _ _ hne hl), atI_nat (List.getElem?_eq_getElem hj), ?_⟩
    exact q H' _ (List.getElem_mem hj) hR' hB
end
end K54
set_option maxHeartbeats 8000000
namespace K54
open PySem PySem.Spec PyProof.Rows L2

abbrev sIsInt : Stmt := top 15
abbrev sIsName : Stmt := top 28

/-- a statement that is never come to -/
theorem ps_no {X : Cx} {st : Stmt} : PS X st (fun _ _ _ => False) := ⟨fun _ _ _ _ _ _ h => h.elim⟩

/-- the built-in names of the kinds -/
structure Nk (mg : Str → Option Value) : Prop where
  isi : mg "isinstance" = none
  int : mg "int" = none
  bool : mg "bool" = none
  str : mg "str" = none
  dict : mg "dict" = none
  len : mg "len" = none
  all : mg "all" = none

/-- is_integer(i) -/
def spIsInt : Sp := fun vs H Q _ => ∃ i : Int, vs = [.int i] ∧ Q (.bl true) H
/-- one to eight letters -/
def isNm (x : Str) : Bool := decide (1 ≤ x.length) && (decide (x.length ≤ 8) && x.cps.toList.all fun c => decide (c ∈ abc.cps.toList))
def spIsName (K : PySem.W.Frag) : Sp := fun vs H Q _ => (∃ x : Str, vs = [.str x] ∧ x.length ≤ 1000000 ∧ ∀ H', Same H H' → Q (.bl (isNm x)) H') ∨
  (∃ (v : V) (t : Value), vs = [v] ∧ TyX K H v t ∧ PySem.W.kitOne K t (.type "str") = some false ∧ Q (.bl false) H)

section
variable {P : Program} {w : World} {K : PySem.W.Frag} {mg : Str → Option Value} {base : Heap}
theorem scInt : FnScope ["value"] ["value"] (defScope sIsInt) :=
  ⟨rfl, rfl, rfl, by decide +kernel, rfl, by decide +kernel, by decide +kernel⟩
theorem ok_isint {f : Addr} {fd : FuncData} (F : Fun K "is_integer" "is_integer" sIsInt f fd) (T : Nk mg) :
    FnOk P w K mg base CX0 1 f fd ["value"] spIsInt := by
  refine F.ok scInt (fun vs H Q E h => ?_) (fun cdv A outer s H vs Q E hr h => ?_)
  · obtain ⟨i, rfl, _⟩ := h
    rfl
  · obtain ⟨i, rfl, q⟩ := h
    refine ⟨_, pss_one (ps_ret (pe_and (pe_callB call_isi (by rfl) T.isi (by decide +kernel) (pa_cons (pv 0) (pa_cons (pe_bltn (v := .ty "int") (u := .type "int") (by rfl) T.int (by decide +kernel) rfl) pa_nil)))
      (pe_one (pe_not (pe_callB call_isi (by rfl) T.isi (by decide +kernel) (pa_cons (pv 0) (pa_cons (pe_bltn (v := .ty "bool") (u := .type "bool") (by rfl) T.bool (by decide +kernel) rfl) pa_nil))))))), ?_⟩
    refine ⟨_, rfl, _, _, _, _, true, rfl, .ty _, .base (.int i), kit_ty (by decide +kernel), _, rfl, ?_⟩
    rw [if_pos rfl]
    refine ⟨_, rfl, _, _, _, _, false, rfl, .ty _, .base (.int i), kit_ty (by decide +kernel), _, rfl, ?_⟩
    exact q
theorem iteT' {c : Bool} {A B : Prop} (hc : c = true) (h : A) : if c = true then A else B := by
  rw [if_pos hc]
  exact h
theorem iteN' {c : Prop} [Decidable c] {A B : Prop} (hc : ¬ c) (h : B) : if decide c = true then A else B := by
  rw [decide_eq_false hc]
  exact iteF h
theorem fresh_upd {H : Hp} {p : Addr} {o : HO} (n : H p = none) : Same H (upd H p o) := fun b u e => by
  rw [upd_ne (ne_of_none e n)]
  exact e
structure Nn2 (mg : Str → Option Value) : Prop where
  lng : ∃ t, mg "LONGEST_NAME" = some (.int 8 t)
  let_ : ∃ t, mg "LETTERS" = some (.str abc t)
def NIn : List Str := ["value", "letter"]
theorem scName : FnScope NIn ["value"] (defScope sIsName) :=
  ⟨rfl, rfl, rfl, by decide +kernel, rfl, by decide +kernel, by decide +kernel⟩
theorem ok_isname {f : Addr} {fd : FuncData} (F : Fun K "is_name" "is_name" sIsName f fd) (T : Nk mg) (T2 : Nn2 mg) :
    FnOk P w K mg base CX0 1 f fd ["value"] (spIsName K) := by
  obtain ⟨tl, gl⟩ := T2.lng
  obtain ⟨ta, ga⟩ := T2.let_
  refine F.ok scName (fun vs H Q E h => ?_) (fun cdv A outer s H vs Q E hr h => ?_)
  · rcases h with ⟨x, rfl, _⟩ | ⟨v, t, rfl, _⟩
    · rfl
    · rfl
  · refine ⟨_, pss_cons (ps_if (PW.pt (pw_or (pt_not (pt_val (pe_callB call_isi (by rfl) T.isi (by decide +kernel) (pa_cons (pv 0) (pa_cons (pe_bltn (v := .ty "str") (u := .type "str") (by rfl) T.str (by decide +kernel) rfl) pa_nil)))))
        (pw_or (pt_cmpR op_lt (pe_callB call_len_str (by rfl) T.len PySem.boot_len (pa_cons (pv 0) pa_nil)) pe_int (nomark _))
          (pw_or1 (pt_cmpR op_gt (pe_callB call_len_str (by rfl) T.len PySem.boot_len (pa_cons (pv 0) pa_nil)) (pe_glob (v := .int 8) (by rfl) gl ⟨tl, rfl⟩) (nomark _))))))
        (pss_one (ps_ret pe_bl)) pss_nil)
      (pss_one (ps_ret (pe_callB (cr_all rfl) (by rfl) T.all (by decide +kernel) (pa_cons
        (pe_lc (own := [("letter", 1)]) (g := gName 1) (tt := tYes) (te := tOp rInS (tVar 1) (tC (.str abc))) rfl scName.nd (pi_str (pv 0))
          (blkOk_by (own := [("letter", 1)]) (N := NIn) (sc := defScope sIsName) (by decide +kernel)) (fun _ _ _ _ _ => pg_name (i := 1) scName.nd rfl (Or.inl rfl))
          (fun _ _ _ _ _ => pts_nil) (fun _ _ _ _ _ => by exact pe_cmpR op_inS (pv 1) (pe_glob (v := .str abc) (by rfl) ga ⟨ta, rfl⟩) rfl)) pa_nil)))), ?_⟩
    rcases h with ⟨x, rfl, hx, q⟩ | ⟨v, t, rfl, ht, hk, q⟩
    · refine ⟨_, rfl, _, _, _, _, true, rfl, .ty _, .base (.str x), kit_ty (by decide +kernel), _, rfl, ?_⟩
      refine iteF ?_
      refine ⟨_, rfl, _, rfl, by rw [sizeLine_eq]; omega, _, _, rfl, rfl, _, rfl, ?_⟩
      refine ite2 (fun h1 => ?_) fun h1 => ?_
      · have h1' := of_decide_eq_true h1
        refine iteT' rfl ?_
        have e : isNm x = false := by
          unfold isNm
          rw [decide_eq_false (by omega)]
          rfl
        rw [← e]
        exact q H (Same.refl H)
      · refine ⟨_, rfl, _, rfl, by rw [sizeLine_eq]; omega, _, _, rfl, rfl, _, rfl, ?_⟩
        have h1' : ¬ ((x.length : Nat) : Int) < 1 := fun z => h1 (decide_eq_true z)
        by_cases h2 : (8 : Int) < ((x.length : Nat) : Int)
        · have e : isNm x = false := by
            unfold isNm
            rw [decide_eq_false (show ¬ x.length ≤ 8 by omega), Bool.false_and, Bool.and_false]
          refine iteT' (decide_eq_true h2) ?_
          rw [← e]
          exact q H (Same.refl H)
        · refine iteN' h2 ?_
          refine ⟨_, rfl, x, rfl, fun D hD => ?_⟩
          refine lc_it walk_str (fun i H2 => H2 D = some (.lst (((x.cps.toList.take i).map fun c => decide (c ∈ abc.cps.toList)).map V.bl)) ∧ Same H H2)
            ⟨upd_same, fresh_upd hD⟩ (fun _ _ _ _ => trivial) ?_ ?_
          · rintro i v H2 H3 hi ⟨hD2, S2⟩ ⟨rfl, c, hc, rfl⟩
            refine ⟨rfl, ?_⟩
            unfold tYes
            dsimp only
            rw [if_pos rfl]
            refine ⟨_, rfl, c, abc, rfl, rfl, _, hD2, ?_, ?_, fun b o e => ?_⟩
            · rw [List.length_map, List.length_map, List.length_take, sizeLine_eq]
              have hl : x.length = x.cps.size := rfl
              have hm := Nat.min_le_left i x.cps.toList.length
              omega
            · have hc2 : x.cps.toList[i]? = some c := by rw [Array.getElem?_toList]; exact hc
              rw [upd_same, List.take_add_one, hc2]
              simp
            · rw [upd_ne (ne_of_none e hD)]
              exact S2 b o e
          · rintro H2 ⟨hD2, S2⟩
            refine ⟨D, _, rfl, SqL.of hD2, ?_⟩
            have e : ((x.cps.toList.take x.cps.size).map fun c => decide (c ∈ abc.cps.toList)).all id = isNm x := by
              unfold isNm
              rw [decide_eq_true (show 1 ≤ x.length by omega), decide_eq_true (show x.length ≤ 8 by omega), Bool.true_and, Bool.true_and,
                show x.cps.size = x.cps.toList.length from (Array.length_toList ..).symm, List.take_length, List.all_map]
              rfl
            rw [e]
            exact q H2 S2
    · refine ⟨_, rfl, _, _, _, _, false, rfl, .ty _, ht, hk, _, rfl, ?_⟩
      refine iteT' rfl ?_
      exact q
end
end K54
set_option maxHeartbeats 8000000
namespace K54
open PySem PySem.Spec PyProof.Rows L2

/-! ### dicts from names to integers -/
abbrev Es : Type := List (Str × Int)
def ky (n : Str) : Key := Sum.inr n
def kv (es : Es) : List (Key × V) := es.map fun p => (ky p.1, V.int p.2)
theorem kv_len (es : Es) : (kv es).length = es.length := List.length_map ..
theorem ky_inj {a b : Str} (h : ky a = ky b) : a = b := Sum.inr.inj h
theorem val_kv (n : Str) : ∀ es : Es, valV (kv es) (ky n) = (es.lookup n).map V.int
  | [] => rfl
  | (m, i) :: r => by
    show valV ((ky m, V.int i) :: kv r) (ky n) = _
    by_cases h : m = n
    · subst h
      rw [valV_pos rfl, List.lookup_cons_self]
      rfl
    · rw [valV_neg (show ¬ ky m = ky n from fun z => h (ky_inj z)), val_kv n r]
      have e : (n == m) = false := by simpa using fun z => h z.symm
      rw [List.lookup_cons, e]
theorem val_none {n : Str} {es : Es} (h : n ∉ es.map (·.1)) : valV (kv es) (ky n) = none := by
  rw [val_kv]
  have e : es.lookup n = none := by
    induction es with
    | nil => rfl
    | cons p r ih =>
      rw [List.map_cons, List.mem_cons, not_or] at h
      have e : (n == p.1) = false := by simpa using h.1
      rw [List.lookup_cons, e]
      exact ih h.2
  rw [e]
  rfl

/-- a dict comprehension over any walk -/
theorem dc_it {J : It} {n : Nat} {G : Hp → Prop} {Y : Nat → Hp → V → Hp → Prop} (w : Walk J n G Y) {g : TG} {tt : TT} {tk tv : TE} {vs : List Nat} {σ : L2.St} {H1 : Hp} {D : Addr} {Qd : Hp → Prop}
    (Pv : Nat → Hp → Prop) (h0 : Pv 0 (upd H1 D (.dK []))) (hG : ∀ i H, i ≤ n → Pv i H → G H)
    (hs : ∀ i x H H', i < n → Pv i H → Y i H x H' → g x (wipe σ vs) H' fun σ2 H2 => wipe σ2 vs = wipe σ vs ∧ tt σ2 H2 fun b H3 =>
      if b = true then tk σ2 H3 fun y H4 => tv σ2 H4 fun z H5 => ∃ kvs k, y = kV k ∧ H5 D = some (.dK kvs) ∧ kvs.length < sizeLine ∧ Pv (i + 1) (upd H5 D (.dK (putK kvs k z))) else Pv (i + 1) H3)
    (hd : ∀ H, Pv n H → Qd H) :
    ∃ W : Nat → Nat → Hp → Prop, (∃ m, W 0 m (upd H1 D (.dK []))) ∧ ∀ i m H, W i m H →
      (J.stop i H ∧ Qd H) ∨ (J.go i H ∧ ∃ Nx : Hp → Prop, (∀ H', Nx H' → ∃ m', m' < m ∧ W (i + 1) m' H') ∧ ∀ x H', J.yld i H x H' → g x (wipe σ vs) H' fun σ2 H2 => wipe σ2 vs = wipe σ vs ∧ tt σ2 H2 fun b H3 =>
        if b = true then tk σ2 H3 fun y H4 => tv σ2 H4 fun z H5 => ∃ kvs k, y = kV k ∧ H5 D = some (.dK kvs) ∧ kvs.length < sizeLine ∧ Nx (upd H5 D (.dK (putK kvs k z))) else Nx H3) := by
  refine ⟨fun i m H => m = n - i ∧ i ≤ n ∧ Pv i H, ⟨n, by simp, Nat.zero_le _, h0⟩, ?_⟩
  rintro i m H ⟨rfl, hi, p⟩
  have q := hG i H hi p
  by_cases hlt : i < n
  · refine .inr ⟨w.goes i H hlt q, Pv (i + 1), fun H' p' => ⟨n - (i + 1), by omega, rfl, hlt, p'⟩, fun x H' y => hs i x H H' hlt p (w.yields i H x H' hlt q y)⟩
  · have e : i = n := by omega
    subst e
    exact .inl ⟨w.stops H q, hd H p⟩

theorem new_key {es : Es} {g : Str × Int → Str × Int} (hn : (es.map (·.1)).Nodup) {i : Nat} (hi : i < es.length) (hg : ∀ p, (g p).1 = p.1) :
    es[i].1 ∉ ((es.take i).map g).map (·.1) := fun z => by
  rw [List.map_map] at z
  obtain ⟨p, hp, e⟩ := List.mem_map.mp z
  obtain ⟨j, hj, e2⟩ := List.mem_take_iff_getElem.mp hp
  have hj1 : j < es.length := by omega
  have h1 := List.pairwise_iff_getElem.mp hn j i (by rw [List.length_map]; exact hj1) (by rw [List.length_map]; exact hi) (by omega)
  rw [List.getElem_map, List.getElem_map, e2] at h1
  exact h1 ((hg p).symm.trans e)
theorem kv_step {es : Es} {g : Str × Int → Str × Int} {i : Nat} (hi : i < es.length) :
    kv ((es.take (i + 1)).map g) = kv ((es.take i).map g) ++ [(ky (g es[i]).1, V.int (g es[i]).2)] := by
  have e : es.take (i + 1) = es.take i ++ [es[i]] := by
    rw [List.take_add_one, List.getElem?_eq_getElem hi]
    rfl
  rw [e, List.map_append]
  unfold kv
  rw [List.map_append]
  rfl
section
variable {P : Program} {w : World} {K : PySem.W.Frag} {mg : Str → Option Value} {base : Heap}
end
end K54
set_option maxHeartbeats 8000000
namespace K54
open PySem PySem.Spec PyProof.Rows L2

/-! ### texts in sequence: one list alone has these names in sequence -/
theorem lt_irr : ∀ a : List Nat, ltCps a a = false
  | [] => rfl
  | a :: r => by
    show (decide (a < a) || (a == a && ltCps r r)) = false
    rw [lt_irr r]
    simp
theorem lt_tr : ∀ a b c : List Nat, ltCps a b = true → ltCps b c = true → ltCps a c = true
  | [], [], _, h, _ => by cases h
  | [], _ :: _, [], _, h => by cases h
  | [], _ :: _, _ :: _, _, _ => rfl
  | _ :: _, [], _, h, _ => by cases h
  | _ :: _, _ :: _, [], _, h => by cases h
  | a :: r, b :: s, c :: t, h1, h2 => by
    have h1' : (decide (a < b) || (a == b && ltCps r s)) = true := h1
    have h2' : (decide (b < c) || (b == c && ltCps s t)) = true := h2
    show (decide (a < c) || (a == c && ltCps r t)) = true
    simp only [Bool.or_eq_true, Bool.and_eq_true, decide_eq_true_eq, beq_iff_eq] at *
    rcases h1' with h | ⟨rfl, h⟩
    · rcases h2' with g | ⟨rfl, g⟩
      · exact .inl (by omega)
      · exact .inl h
    · rcases h2' with g | ⟨rfl, g⟩
      · exact .inl g
      · exact .inr ⟨rfl, lt_tr r s t h g⟩
theorem lt_tot : ∀ a b : List Nat, ltCps a b = false → ltCps b a = false → a = b
  | [], [], _, _ => rfl
  | [], _ :: _, h, _ => by cases h
  | _ :: _, [], _, h => by cases h
  | a :: r, b :: s, h1, h2 => by
    have h1' : (decide (a < b) || (a == b && ltCps r s)) = false := h1
    have h2' : (decide (b < a) || (b == a && ltCps s r)) = false := h2
    simp only [Bool.or_eq_false_iff, decide_eq_false_iff_not] at h1' h2'
    have e : a = b := by omega
    subst e
    have g1 := h1'.2
    have g2 := h2'.2
    simp only [beq_self_eq_true, Bool.true_and] at g1 g2
    rw [lt_tot r s g1 g2]
def lt (a b : Str) : Prop := ltCps a.cps.toList b.cps.toList = true
theorem str_eq {a b : Str} (h : a.cps.toList = b.cps.toList) : a = b := by
  cases a
  cases b
  congr
  exact Array.toList_inj.mp h
def Sd (l : List Str) : Prop := l.Pairwise lt
theorem rise_pw : ∀ (p : Str) (l : List Str), risingS p l = true → (p :: l).Pairwise fun a b => ltCps b.cps.toList a.cps.toList = false
  | p, [], _ => List.pairwise_singleton ..
  | p, x :: r, h => by
    have h' : (!ltCps x.cps.toList p.cps.toList && risingS x r) = true := h
    obtain ⟨h1, h2⟩ := Bool.and_eq_true_iff.mp h'
    have h1' : ltCps x.cps.toList p.cps.toList = false := by simpa using h1
    have ih := rise_pw x r h2
    refine List.pairwise_cons.mpr ⟨fun y hy => ?_, ih⟩
    rcases List.mem_cons.mp hy with rfl | hy
    · exact h1'
    · have h3 := (List.pairwise_cons.mp ih).1 y hy
      -- p ≤ x ≤ y
      cases e : ltCps y.cps.toList p.cps.toList with
      | false => rfl
      | true =>
        cases e2 : ltCps p.cps.toList x.cps.toList with
        | true =>
          have z := lt_tr _ _ _ e e2
          rw [z] at h3
          cases h3
        | false =>
          have q := lt_tot _ _ e2 h1'
          rw [q] at e
          rw [e] at h3
          cases h3
theorem sd_of {l : List Str} (h : sortedS l = true) (hn : l.Nodup) : Sd l := by
  cases l with
  | nil => exact List.Pairwise.nil
  | cons p r =>
    have z := rise_pw p r h
    refine List.Pairwise.imp₂ (fun a b h1 h2 => ?_) z hn
    cases e : ltCps a.cps.toList b.cps.toList with
    | true => exact e
    | false => exact absurd (str_eq (lt_tot _ _ e h1)) h2
theorem Sd.nodup {l : List Str} (h : Sd l) : l.Nodup := List.Pairwise.imp (fun {a b} q e => by
  subst e
  have q' : ltCps a.cps.toList a.cps.toList = true := q
  rw [lt_irr] at q'
  cases q') h
theorem sd_one : ∀ {l m : List Str}, Sd l → Sd m → (∀ x, x ∈ l ↔ x ∈ m) → l = m
  | [], [], _, _, _ => rfl
  | [], b :: s, _, _, h => by
    have := (h b).mpr (List.mem_cons_self ..)
    cases this
  | a :: r, [], _, _, h => by
    have := (h a).mp (List.mem_cons_self ..)
    cases this
  | a :: r, b :: s, h1, h2, h => by
    obtain ⟨p1, q1⟩ := List.pairwise_cons.mp h1
    obtain ⟨p2, q2⟩ := List.pairwise_cons.mp h2
    have nab : ∀ {x y : Str}, lt x y → lt y x → False := fun {x y} u v => by
      have z : ltCps x.cps.toList x.cps.toList = true := lt_tr _ _ _ u v
      rw [lt_irr] at z
      cases z
    have e : a = b := by
      rcases List.mem_cons.mp ((h a).mp (List.mem_cons_self ..)) with e | u
      · exact e
      · rcases List.mem_cons.mp ((h b).mpr (List.mem_cons_self ..)) with e | v
        · exact e.symm
        · exact (nab (p2 a u) (p1 b v)).elim
    subst e
    have e2 : r = s := sd_one q1 q2 fun x => by
      constructor
      · intro hx
        rcases List.mem_cons.mp ((h x).mp (List.mem_cons_of_mem _ hx)) with e | u
        · subst e
          exact (nab (p1 _ hx) (p1 _ hx)).elim
        · exact u
      · intro hx
        rcases List.mem_cons.mp ((h x).mpr (List.mem_cons_of_mem _ hx)) with e | u
        · subst e
          exact (nab (p2 _ hx) (p2 _ hx)).elim
        · exact u
    rw [e2]
/-- exponents in sequence -/
def SdE (es : Es) : Prop := Sd (es.map (·.1))
theorem look_mem {n : Str} : ∀ {es : Es}, (es.lookup n).isSome = true ↔ n ∈ es.map (·.1)
  | [] => by simp [List.lookup]
  | p :: r => by
    rw [List.map_cons, List.mem_cons]
    by_cases h : n = p.1
    · subst h
      constructor
      · intro _
        exact .inl rfl
      · intro _
        rw [show (p :: r : Es) = (p.1, p.2) :: r from rfl, List.lookup_cons_self]
        rfl
    · have e : (n == p.1) = false := by simpa using h
      rw [show (p :: r : Es) = (p.1, p.2) :: r from rfl, List.lookup_cons, e]
      constructor
      · intro z
        exact .inr (look_mem.mp z)
      · rintro (z | z)
        · exact absurd z h
        · exact look_mem.mpr z
theorem eq_of_keys : ∀ {es fs : Es}, (es.map (·.1)).Nodup → es.map (·.1) = fs.map (·.1) → (∀ n, es.lookup n = fs.lookup n) → es = fs
  | [], [], _, _, _ => rfl
  | [], _ :: _, _, h, _ => by cases h
  | _ :: _, [], _, h, _ => by cases h
  | (a, i) :: r, (b, j) :: s, hn, h, hl => by
    rw [List.map_cons, List.map_cons] at h
    injection h with h1 h2
    have h1' : a = b := h1
    subst h1'
    have e := hl a
    rw [List.lookup_cons_self, List.lookup_cons_self] at e
    injection e with e
    subst e
    rw [List.map_cons] at hn
    obtain ⟨n1, n2⟩ := List.pairwise_cons.mp hn
    have q : r = s := eq_of_keys n2 h2 fun n => by
      by_cases z : n = a
      · subst z
        have none_ : ∀ {es : Es}, n ∉ es.map (·.1) → es.lookup n = none := fun {es} q => by
          cases e : es.lookup n with
          | none => rfl
          | some v => exact absurd (look_mem.mp (by rw [e]; rfl)) q
        have nr : n ∉ r.map (·.1) := fun q => n1 n q rfl
        rw [none_ nr, none_ (by rw [← h2]; exact nr)]
      · have e := hl n
        have ne : (n == a) = false := by simpa using z
        rw [List.lookup_cons, List.lookup_cons, ne] at e
        exact e
    rw [q]
theorem SdE.one {es fs : Es} (h : SdE es) (g : SdE fs) (hl : ∀ n, es.lookup n = fs.lookup n) : es = fs :=
  eq_of_keys h.nodup (sd_one h g fun n => by rw [← look_mem, ← look_mem, hl]) hl
end K54
set_option maxHeartbeats 8000000
namespace K54
open PySem PySem.Spec PyProof.Rows L2

/-! ### sums, name by name -/
def g0 (es : Es) (n : Str) : Int := (es.lookup n).getD 0
def putE (t : Es) (n : Str) (v : Int) : Es :=
  if (t.any fun p => decide (p.1 = n)) = true then t.map (fun p => if p.1 = n then (p.1, v) else p) else t ++ [(n, v)]
theorem kv_put (t : Es) (n : Str) (v : Int) : kv (putE t n v) = putK (kv t) (ky n) (.int v) := by
  have e1 : ((kv t).any fun p => decide (p.1 = ky n)) = t.any fun p => decide (p.1 = n) := by
    unfold kv
    rw [List.any_map]
    congr
    funext p
    show decide (ky p.1 = ky n) = decide (p.1 = n)
    exact decide_eq_decide.mpr ⟨ky_inj, fun h => by rw [h]⟩
  unfold putE putK
  rw [e1]
  split
  · unfold kv
    rw [List.map_map, List.map_map]
    refine List.map_congr_left fun p _ => ?_
    show (ky (if p.1 = n then (p.1, v) else p).1, V.int (if p.1 = n then (p.1, v) else p).2) = if ky p.1 = ky n then (ky p.1, V.int v) else (ky p.1, V.int p.2)
    by_cases h : p.1 = n
    · rw [if_pos h, if_pos (by rw [h])]
    · rw [if_neg h, if_neg fun z => h (ky_inj z)]
  · unfold kv
    rw [List.map_append]
    rfl
theorem look_put (t : Es) (n m : Str) (v : Int) : (putE t n v).lookup m = if m = n then some v else t.lookup m := by
  have z := valV_put (kv t) (ky n) (ky m) (V.int v)
  rw [← kv_put, val_kv, val_kv] at z
  by_cases h : m = n
  · subst h
    rw [if_pos rfl] at z ⊢
    cases e : (putE t m v).lookup m with
    | none =>
      rw [e] at z
      cases z
    | some u =>
      rw [e] at z
      injection z with z
      injection z with z
      rw [z]
  · rw [if_neg fun q => h (ky_inj q)] at z
    rw [if_neg h]
    cases e : (putE t n v).lookup m with
    | none =>
      rw [e] at z
      cases e2 : t.lookup m with
      | none => rfl
      | some u =>
        rw [e2] at z
        cases z
    | some u =>
      rw [e] at z
      cases e2 : t.lookup m with
      | none =>
        rw [e2] at z
        cases z
      | some u2 =>
        rw [e2] at z
        injection z with z
        injection z with z
        rw [z]
theorem nod_put {t : Es} (h : (t.map (·.1)).Nodup) (n : Str) (v : Int) : ((putE t n v).map (·.1)).Nodup := by
  unfold putE
  split
  · rw [List.map_map]
    have e : ((fun p : Str × Int => p.1) ∘ fun p => if p.1 = n then (p.1, v) else p) = fun p => p.1 := by
      funext p
      show (if p.1 = n then (p.1, v) else p).1 = p.1
      split <;> rfl
    rw [e]
    exact h
  · rename_i hn
    rw [List.map_append, List.nodup_append]
    refine ⟨h, List.pairwise_singleton .., fun a ha b hb e => ?_⟩
    rw [List.map_cons, List.map_nil, List.mem_singleton] at hb
    subst hb
    subst e
    obtain ⟨p, hp, e⟩ := List.mem_map.mp ha
    exact hn (List.any_eq_true.mpr ⟨p, hp, decide_eq_true e⟩)
theorem len_put (t : Es) (n : Str) (v : Int) : (putE t n v).length ≤ t.length + 1 := by
  unfold putE
  split
  · rw [List.length_map]
    omega
  · rw [List.length_append]
    exact Nat.le_refl _
def addE (t es : Es) : Es := es.foldl (fun t p => putE t p.1 (g0 t p.1 + p.2)) t
theorem addE_snoc (t es : Es) (p : Str × Int) : addE t (es ++ [p]) = putE (addE t es) p.1 (g0 (addE t es) p.1 + p.2) := by
  unfold addE
  rw [List.foldl_append]
  rfl
theorem nod_add : ∀ {es t : Es}, (t.map (·.1)).Nodup → ((addE t es).map (·.1)).Nodup
  | [], _, h => h
  | p :: r, _, h => nod_add (es := r) (nod_put h p.1 _)
theorem len_add : ∀ (es t : Es), (addE t es).length ≤ t.length + es.length
  | [], t => Nat.le_refl _
  | p :: r, t => by
    have h1 := len_add r (putE t p.1 (g0 t p.1 + p.2))
    have h2 := len_put t p.1 (g0 t p.1 + p.2)
    show (addE (putE t p.1 (g0 t p.1 + p.2)) r).length ≤ t.length + (r.length + 1)
    omega
theorem g0_none {es : Es} {n : Str} (h : n ∉ es.map (·.1)) : es.lookup n = none := by
  cases e : es.lookup n with
  | none => rfl
  | some v => exact absurd (look_mem.mp (by rw [e]; rfl)) h
theorem look_add : ∀ {es : Es} (t : Es) (n : Str), (es.map (·.1)).Nodup →
    (addE t es).lookup n = if n ∈ es.map (·.1) then some (g0 t n + g0 es n) else t.lookup n
  | [], t, n, _ => by
    rw [if_neg (by simp)]
    rfl
  | (m, c) :: r, t, n, h => by
    rw [List.map_cons] at h
    obtain ⟨h1, h2⟩ := List.pairwise_cons.mp h
    have ih := look_add (es := r) (putE t m (g0 t m + c)) n h2
    show (addE (putE t m (g0 t m + c)) r).lookup n = _
    rw [ih]
    by_cases e : n = m
    · subst e
      have nr : n ∉ r.map (·.1) := fun q => h1 n q rfl
      rw [if_neg nr, if_pos (by simp), look_put, if_pos rfl]
      unfold g0
      rw [List.lookup_cons_self]
      rfl
    · have eb : (n == m) = false := by simpa using e
      have g1 : g0 (putE t m (g0 t m + c)) n = g0 t n := by
        unfold g0
        rw [look_put, if_neg e]
      have g2 : g0 ((m, c) :: r) n = g0 r n := by
        unfold g0
        rw [List.lookup_cons, eb]
      rw [g1, g2, look_put, if_neg e]
      by_cases q : n ∈ r.map (·.1)
      · rw [if_pos q, if_pos (by rw [List.map_cons]; exact List.mem_cons_of_mem _ q)]
      · rw [if_neg q, if_neg]
        rw [List.map_cons, List.mem_cons]
        rintro (z | z)
        · exact e z
        · exact q z
end K54
set_option maxHeartbeats 8000000
namespace K54
open PySem PySem.Spec PyProof.Rows L2

abbrev sAdded : Stmt := top 32
/-- the tables at these places -/
inductive Tabs (H : Hp) : List V → List Es → Prop
  | nil : Tabs H [] []
  | cons {d : Addr} {es : Es} {vs : List V} {ts : List Es} : H d = some (.dK (kv es)) → (es.map (·.1)).Nodup → Tabs H vs ts → Tabs H (.ref d :: vs) (es :: ts)
def sumE (ts : List Es) : Es := ts.foldl addE []
def lenT (ts : List Es) : Nat := (ts.map List.length).sum
def spAdded (K : PySem.W.Frag) : Sp := fun vs H Q _ => ∃ (a : Addr) (xs : List V) (ts : List Es), vs = [.ref a] ∧ SqL K H a xs ∧ Tabs H xs ts ∧ xs.length ≤ 1000 ∧ lenT ts < 64 ∧
  ∀ H' D es, Same H H' → H D = none → H' D = some (.dK (kv es)) → SdE es → (∀ n, es.lookup n = (sumE ts).lookup n) → es.length ≤ lenT ts → Q (.ref D) H'
def NAd : List Str := ["tables", "total", "table", "name", "count"]
structure Na (mg : Str → Option Value) : Prop where
  sorted : mg "sorted" = none
theorem Tabs.len {H : Hp} : ∀ {vs : List V} {ts : List Es}, Tabs H vs ts → vs.length = ts.length
  | _, _, .nil => rfl
  | _, _, .cons _ _ t => congrArg (· + 1) t.len
theorem Tabs.get {H : Hp} : ∀ {vs : List V} {ts : List Es} {i : Nat} {x : V}, Tabs H vs ts → vs[i]? = some x →
    ∃ d es, x = .ref d ∧ ts[i]? = some es ∧ H d = some (.dK (kv es)) ∧ (es.map (·.1)).Nodup
  | _, _, _, _, .nil, e => by simp at e
  | _, _, 0, _, .cons h n t, e => by
    simp at e
    exact ⟨_, _, e.symm, rfl, h, n⟩
  | _, _, i + 1, _, .cons h n t, e => by
    obtain ⟨d, es, h1, h2, h3⟩ := t.get (i := i) (by simpa using e)
    exact ⟨d, es, h1, by simpa using h2, h3⟩
theorem sumE_snoc (ts : List Es) (es : Es) : sumE (ts ++ [es]) = addE (sumE ts) es := by
  unfold sumE
  rw [List.foldl_append]
  rfl
theorem len_sum : ∀ (ts : List Es) (t : Es), (ts.foldl addE t).length ≤ t.length + lenT ts
  | [], t => Nat.le_refl _
  | e :: r, t => by
    have h1 := len_sum r (addE t e)
    have h2 := len_add e t
    show (r.foldl addE (addE t e)).length ≤ t.length + (e.length + lenT r)
    omega
theorem nod_sum : ∀ (ts : List Es) {t : Es}, (t.map (·.1)).Nodup → ((ts.foldl addE t).map (·.1)).Nodup
  | [], _, h => h
  | _ :: r, _, h => nod_sum r (nod_add h)
theorem lenT_take : ∀ (ts : List Es) (i : Nat), lenT (ts.take i) ≤ lenT ts
  | [], i => by rw [List.take_nil]; exact Nat.le_refl _
  | e :: r, 0 => Nat.zero_le _
  | e :: r, i + 1 => by
    have := lenT_take r i
    show e.length + lenT (r.take i) ≤ e.length + lenT r
    omega
theorem lenT_get {ts : List Es} {i : Nat} {es : Es} (h : ts[i]? = some es) : lenT (ts.take i) + es.length ≤ lenT ts := by
  have e : ts.take (i + 1) = ts.take i ++ [es] := by
    rw [List.take_add_one, h]
    rfl
  have z := lenT_take ts (i + 1)
  rw [e] at z
  unfold lenT at z ⊢
  rw [List.map_append, List.sum_append] at z
  simpa using z
theorem get_int (t : Es) (n : Str) : (valV (kv t) (ky n)).getD (V.int 0) = V.int (g0 t n) := by
  rw [val_kv]
  unfold g0
  cases t.lookup n <;> rfl
section
variable {P : Program} {w : World} {K : PySem.W.Frag} {mg : Str → Option Value} {base : Heap}
theorem scAdded : FnScope NAd ["tables"] (defScope sAdded) :=
  ⟨rfl, rfl, rfl, by decide +kernel, rfl, by decide +kernel, by decide +kernel⟩
theorem ok_added {f : Addr} {fd : FuncData} (F : Fun K "added" "added" sAdded f fd) (T : Na mg) :
    FnOk P w K mg base CX0 1 f fd ["tables"] (spAdded K) := by
  refine F.ok scAdded (fun vs H Q E h => ?_) (fun cdv A outer s H vs Q E hr h => ?_)
  · obtain ⟨a, xs, ts, rfl, _⟩ := h
    rfl
  · obtain ⟨a, xs, ts, rfl, hS, hT, hl, hl2, q⟩ := h
    have hu : (A.deeper (envOfC "added" (defScope sAdded) s.heap.objs.size f cdv)).units + 1 < cLine := by have := hr.units; omega
    refine ⟨_, pss_cons (ps_set (i := 1) scAdded.nd rfl (.inr rfl) pe_dnewK)
      (pss_cons (ps_for PassesOwn.never rfl (pi_list (pv 0)) (pg_name (i := 2) scAdded.nd rfl (Or.inl rfl))
        (pss_one (ps_lock (ps_for PassesOwn.never rfl (pi_items (pv 2)) (pg_tup rfl (pgs_cons (pg_name (i := 3) scAdded.nd rfl (Or.inl rfl)) (pgs_cons (pg_name (i := 4) scAdded.nd rfl (Or.inl rfl)) pgs_nil)))
          (pss_one (ps_dput hu (pv 1) (pv 3) (pe_op op_add (pe_dget2 hu (pv 1) (pv 3) pe_int ⟨rfl, rfl, rfl, rfl⟩) (pv 4)) rfl))))))
      (pss_one (ps_ret (pe_dc (own := [("name", 3)]) (g := gName 3) (tt := tYes) (tk := tVar 3) (tv := tDGet (tVar 1) (tVar 3)) rfl scAdded.nd
        (pi_list (pe_callB (call_sortedD rfl) (by rfl) T.sorted (by decide +kernel) (pa_cons (pv 1) pa_nil)))
        (blkOk_by (own := [("name", 3)]) (N := NAd) (sc := defScope sAdded) (by decide +kernel)) (fun _ _ _ _ _ => pg_name (i := 3) scAdded.nd rfl (Or.inl rfl))
        (fun _ _ _ _ _ => pts_nil) (fun _ _ _ _ _ => by exact pv 3) (fun _ _ _ _ _ => by exact pe_dget hu (pv 1) (pv 3) (fun _ _ => rfl)))))), ?_⟩
    intro p np
    have S0 : Same H (upd H p (.dK [])) := fresh_upd np
    refine ⟨_, rfl, a, rfl, ⟨_, S0.seq hS⟩, for_list (K := K) (a := a) (xs := xs) (fun i σ H2 => (∃ o2 o3 o4, σ = [some (.ref a), some (.ref p), o2, o3, o4]) ∧
      H2 p = some (.dK (kv (sumE (ts.take i)))) ∧ Same H H2) ⟨⟨none, none, none, rfl⟩, upd_same, S0⟩ (fun i σ H2 _ h => h.2.2.seq hS) ?_ ?_⟩
    · rintro i x σ H2 hi ⟨⟨o2, o3, o4, rfl⟩, hp, S2⟩
      obtain ⟨d, es, rfl, ht, hd, hn⟩ := hT.get hi
      have pd : p ≠ d := fun z => by
        rw [z, hd] at np
        cases np
      have hd2 := S2 _ _ hd
      refine ⟨d, _, hd2, trivial, fun od => ?_⟩
      refine ⟨_, rfl, d, od, kv es, rfl, upd_same, for_it walk_items (fun j σ H3 => (∃ o3 o4, σ = [some (.ref a), some (.ref p), some (.ref d), o3, o4]) ∧
        H3 p = some (.dK (kv (addE (sumE (ts.take i)) (es.take j)))) ∧ H3 d = some (.frz od (.dK (kv es))) ∧ ∀ b o, b ≠ d → H b = some o → H3 b = some o)
        ⟨⟨o3, o4, rfl⟩, (upd_ne pd).trans hp, upd_same, fun b o hb e => (upd_ne hb).trans (S2 b o e)⟩ (fun j σ H3 _ h => h.2.2.1) ?_ ?_⟩
      · rintro j v σ H3 H4 hj ⟨⟨o3, o4, rfl⟩, hp3, hd3, S3⟩ ⟨T', y, z, rfl, nT, rfl, e1, e2⟩
        rw [kv_len] at hj
        have ej : (kv es)[j]? = some (ky es[j].1, V.int es[j].2) := by
          unfold kv
          rw [List.getElem?_map, List.getElem?_eq_getElem hj]
          rfl
        dsimp only at e1 e2
        rw [ej] at e1 e2
        cases e1
        cases e2
        have pT : p ≠ T' := ne_of_none hp3 nT
        have dT : d ≠ T' := ne_of_none hd3 nT
        have hp4 : (upd H3 T' (.tup [kV (ky es[j].1), V.int es[j].2])) p = some (.dK (kv (addE (sumE (ts.take i)) (es.take j)))) := (upd_ne pT).trans hp3
        refine ⟨T', _, rfl, SqT.of upd_same, rfl, _, _, rfl, _, _, rfl, rfl, ?_⟩
        refine ⟨_, rfl, p, rfl, .inl ⟨_, .inl hp4⟩, _, rfl, _, DGet.k (k := ky es[j].1) hp4, _, rfl, _, _, get_int _ _, rfl, ?_⟩
        have hlen : (addE (sumE (ts.take i)) (es.take j)).length < 64 := by
          have h1 := len_add (es.take j) (sumE (ts.take i))
          have h2 : (sumE (ts.take i)).length ≤ 0 + lenT (ts.take i) := len_sum (ts.take i) []
          have h3 := lenT_get ht
          have h4 : (es.take j).length ≤ es.length := by rw [List.length_take]; exact Nat.min_le_right ..
          omega
        refine ⟨_, rfl, _, rfl, p, _, rfl, .inl ⟨_, ky es[j].1, hp4, rfl, by rw [kv_len, sizeLine_eq]; omega, rfl⟩, ⟨_, _, rfl⟩, ?_, ?_, fun b o hb e => ?_⟩
        · have et : es.take (j + 1) = es.take j ++ [es[j]] := by
            rw [List.take_add_one, List.getElem?_eq_getElem hj]
            rfl
          rw [upd_same, et, addE_snoc, kv_put]
        · rw [upd_ne pd.symm, upd_ne dT]
          exact hd3
        · rw [upd_ne (ne_of_none e np), upd_ne (ne_of_none (S3 b o hb e) nT)]
          exact S3 b o hb e
      · rintro σ H3 ⟨⟨o3, o4, rfl⟩, hp3, hd3, S3⟩
        refine ⟨hd3, ⟨_, o3, o4, rfl⟩, ?_, fun b o e => ?_⟩
        · rw [upd_ne pd, hp3, kv_len, List.take_length]
          have et : ts.take (i + 1) = ts.take i ++ [es] := by
            rw [List.take_add_one, ht]
            rfl
          rw [et, sumE_snoc]
        · by_cases hb : b = d
          · subst hb
            rw [upd_same]
            exact hd.symm.trans e
          · exact (upd_ne hb).trans (S3 b o hb e)
    · rintro σ H2 ⟨⟨o2, o3, o4, rfl⟩, hp, S2⟩
      rw [hT.len, List.take_length] at hp
      have hnd : ((sumE ts).map (·.1)).Nodup := nod_sum ts List.Pairwise.nil
      have hl3 : (sumE ts).length ≤ 0 + lenT ts := len_sum ts []
      refine ⟨_, rfl, p, _, (sumE ts).map (·.1), rfl, .inl hp, ?_, by rw [List.length_map]; omega, fun ys r perm srt nr => ?_⟩
      · unfold kv
        rw [List.map_map, List.map_map]
        rfl
      have S3 := fresh_upd (o := .lst (ys.map V.str)) nr
      refine ⟨r, rfl, ⟨_, SqL.of upd_same⟩, fun D hD => ?_⟩
      have hD0 : H D = none := by
        cases e : H D with
        | none => rfl
        | some o =>
          have z := S3 _ _ (S2 _ _ e)
          rw [hD] at z
          cases z
      have hyl : ys.length = (sumE ts).length := by rw [perm.length_eq, List.length_map]
      have hLf : ∀ n, n ∈ ys ↔ n ∈ (sumE ts).map (·.1) := fun n => perm.mem_iff
      have hp3 := S3 _ _ hp
      refine dc_it (walk_list (K := K) (a := r) (xs := ys.map V.str)) (fun i H3 => H3 D = some (.dK (kv ((ys.map fun n => (n, g0 (sumE ts) n)).take i))) ∧
        Same (upd H2 r (.lst (ys.map V.str))) H3) ⟨upd_same, fresh_upd hD⟩ (fun i H3 _ h => SqL.of (h.2 _ _ upd_same)) ?_ ?_
      · rintro i x H3 H4 hi ⟨hD3, S4⟩ ⟨rfl, hx⟩
        rw [List.length_map] at hi
        have ex : x = .str ys[i] := by
          rw [List.getElem?_map, List.getElem?_eq_getElem hi] at hx
          exact (Option.some.inj hx).symm
        subst ex
        have hin : ys[i] ∈ (sumE ts).map (·.1) := (hLf _).mp (List.getElem_mem hi)
        obtain ⟨v, hv⟩ := Option.isSome_iff_exists.mp (look_mem.mpr hin)
        have hg : g0 (sumE ts) ys[i] = v := by
          unfold g0
          rw [hv]
          rfl
        refine ⟨rfl, ?_⟩
        unfold tYes
        dsimp only
        rw [if_pos rfl]
        refine ⟨_, rfl, _, rfl, _, rfl, p, .int v, rfl, .inl ⟨_, ky ys[i], .inl (S4 _ _ hp3), rfl, ?_⟩, ?_⟩
        · rw [val_kv, hv]
          rfl
        · refine ⟨_, ky ys[i], rfl, hD3, ?_, ?_, fun b o e => ?_⟩
          · rw [kv_len, List.length_take, sizeLine_eq]
            have := Nat.min_le_left i (ys.map fun n => (n, g0 (sumE ts) n)).length
            omega
          · have hi' : i < (ys.map fun n => (n, g0 (sumE ts) n)).length := by rw [List.length_map]; exact hi
            have ek : (ys.map fun n => (n, g0 (sumE ts) n)).map (·.1) = ys := by
              rw [List.map_map]
              exact List.map_id'' (fun _ => rfl) ys
            have en := new_key (es := ys.map fun n => (n, g0 (sumE ts) n)) (g := id) (by rw [ek]; exact perm.nodup_iff.mpr hnd) hi' fun _ => rfl
            rw [List.getElem_map, List.map_id] at en
            have st := kv_step (es := ys.map fun n => (n, g0 (sumE ts) n)) (g := id) hi'
            rw [List.map_id, List.map_id] at st
            rw [upd_same, putK_new _ (val_none en), st, List.getElem_map, ← hg]
            rfl
          · rw [upd_ne (ne_of_none e hD)]
            exact S4 b o e
      · rintro H3 ⟨hD3, S4⟩
        have ek : (ys.map fun n => (n, g0 (sumE ts) n)).map (·.1) = ys := by
          rw [List.map_map]
          exact List.map_id'' (fun _ => rfl) ys
        rw [show (ys.map V.str).length = (ys.map fun n => (n, g0 (sumE ts) n)).length by rw [List.length_map, List.length_map], List.take_length] at hD3
        refine q H3 D _ (S2.trans (S3.trans S4)) hD0 hD3 ?_ (fun n => ?_) (by rw [List.length_map, hyl]; omega)
        · unfold SdE
          rw [ek]
          exact sd_of srt (perm.nodup_iff.mpr hnd)
        · have lk : ∀ zs : List Str, (zs.map fun n => (n, g0 (sumE ts) n)).lookup n = if n ∈ zs then some (g0 (sumE ts) n) else none := by
            intro zs
            induction zs with
            | nil => rfl
            | cons z r ih =>
              rw [List.map_cons]
              by_cases e : n = z
              · subst e
                rw [List.lookup_cons_self, if_pos (List.mem_cons_self ..)]
              · have eb : (n == z) = false := by simpa using e
                rw [List.lookup_cons, eb]
                show (r.map fun n => (n, g0 (sumE ts) n)).lookup n = _
                rw [ih]
                by_cases q : n ∈ r
                · rw [if_pos q, if_pos (List.mem_cons_of_mem _ q)]
                · rw [if_neg q, if_neg]
                  rw [List.mem_cons]
                  rintro (u | u)
                  · exact e u
                  · exact q u
          rw [lk]
          by_cases hin : n ∈ ys
          · rw [if_pos hin]
            obtain ⟨v, hv⟩ := Option.isSome_iff_exists.mp (look_mem.mpr ((hLf n).mp hin))
            unfold g0
            rw [hv]
            rfl
          · rw [if_neg hin]
            exact (g0_none fun z => hin ((hLf n).mpr z)).symm
end
end K54
set_option maxHeartbeats 8000000
namespace K54
open PySem PySem.Spec PyProof.Rows L2

abbrev sIsExp : Stmt := top 47
def spIsExp : Sp := fun vs H Q _ => ∃ (d : Addr) (es : Es), vs = [.ref d] ∧ H d = some (.dK (kv es)) ∧ es.length ≤ 1000 ∧ (es.map (·.1)).Nodup ∧ (∀ p ∈ es, isNm p.1 = true) ∧
  ∀ H', Same H H' → Q (.bl true) H'
def NIe : List Str := ["value", "name"]
theorem nm_len {x : Str} (h : isNm x = true) : x.length ≤ 8 := by
  unfold isNm at h
  rw [Bool.and_eq_true, Bool.and_eq_true, decide_eq_true_eq, decide_eq_true_eq] at h
  exact h.2.1
theorem val_at {es : Es} (hn : (es.map (·.1)).Nodup) {i : Nat} (hi : i < es.length) : valV (kv es) (ky es[i].1) = some (.int es[i].2) := by
  rw [val_kv]
  have z : ∀ {es : Es} (hn : (es.map (·.1)).Nodup) {i : Nat} (hi : i < es.length), es.lookup es[i].1 = some es[i].2 := by
    intro es
    induction es with
    | nil => intro _ i hi; exact absurd hi (Nat.not_lt_zero _)
    | cons p r ih =>
      intro hn i hi
      rw [List.map_cons] at hn
      obtain ⟨n1, n2⟩ := List.pairwise_cons.mp hn
      cases i with
      | zero =>
        show List.lookup p.1 ((p.1, p.2) :: r) = some p.2
        rw [List.lookup_cons_self]
      | succ i =>
        have hi' : i < r.length := by
          rw [List.length_cons] at hi
          omega
        have ne : (r[i].1 == p.1) = false := by
          have q := n1 r[i].1 (List.mem_map.mpr ⟨r[i], List.getElem_mem hi', rfl⟩)
          simpa using fun e => q e.symm
        show List.lookup r[i].1 ((p.1, p.2) :: r) = some r[i].2
        rw [List.lookup_cons, ne]
        exact ih n2 hi'
  rw [z hn hi]
  rfl
section
variable {P : Program} {w : World} {K : PySem.W.Frag} {mg : Str → Option Value} {base : Heap}
theorem scIsExp : FnScope NIe ["value"] (defScope sIsExp) :=
  ⟨rfl, rfl, rfl, by decide +kernel, rfl, by decide +kernel, by decide +kernel⟩
theorem ok_isexp {f fN fI : Addr} {fd fdN fdI : FuncData} (F : Fun K "_is_exponents" "_is_exponents" sIsExp f fd) (T : Nk mg)
    (GN : FnOk P w K mg base CX0 1 fN fdN ["value"] (spIsName K)) (kN : PySem.W.keepIn K (.ref fN) = true) (bN : Binds K fdN ["value"] []) (gN : mg "is_name" = some (.ref fN))
    (GI : FnOk P w K mg base CX0 1 fI fdI ["value"] spIsInt) (kI : PySem.W.keepIn K (.ref fI) = true) (bI : Binds K fdI ["value"] []) (gI : mg "is_integer" = some (.ref fI)) :
    FnOk P w K mg base CX0 2 f fd ["value"] spIsExp := by
  refine F.ok scIsExp (fun vs H Q E h => ?_) (fun cdv A outer s H vs Q E hr h => ?_)
  · obtain ⟨d, es, rfl, _⟩ := h
    rfl
  · obtain ⟨d, es, rfl, hd, hl, hn, hnm, q⟩ := h
    have hu : (A.deeper (envOfC "_is_exponents" (defScope sIsExp) s.heap.objs.size f cdv)).units + 1 < cLine := by have := hr.units; omega
    refine ⟨_, pss_cons (ps_if (pt_not (pt_val (pe_callB call_isi (by rfl) T.isi (by decide +kernel) (pa_cons (pv 0) (pa_cons (pe_bltn (v := .ty "dict") (u := .type "dict") (by rfl) T.dict (by decide +kernel) rfl) pa_nil)))))
        (pss_one (ps_ret pe_bl)) pss_nil)
      (pss_one (ps_ret (pe_lock (pe_callB (cr_all rfl) (by rfl) T.all (by decide +kernel) (pa_cons
        (pe_lc (own := [("name", 1)]) (g := gName 1) (tt := tYes)
          (te := tAndV (tCall (spIsName K) [] E0 (tCons (tVar 1) tNil)) (tCall spIsInt [] E0 (tCons (tDGet (tVar 0) (tVar 1)) tNil))) rfl scIsExp.nd (pi_keys (pv 0))
          (blkOk_by (own := [("name", 1)]) (N := NIe) (sc := defScope sIsExp) (by decide +kernel)) (fun _ _ _ _ _ => pg_name (i := 1) scIsExp.nd rfl (Or.inl rfl))
          (fun _ _ _ _ _ => pts_nil) (fun _ _ _ _ _ => by
            exact pe_and (pe_call GN hr rfl gN kN bN .nil pass0 (pa_cons (pv 1) pa_nil))
              (pe_one (pe_call GI hr rfl gI kI bI .nil pass0 (pa_cons (pe_dget hu (pv 0) (pv 1) (fun _ _ => rfl)) pa_nil))))) pa_nil))))), ?_⟩
    refine ⟨_, rfl, _, _, _, _, true, rfl, .ty _, .base (.dK hd), kit_ty (by decide +kernel), _, rfl, iteF ?_⟩
    refine ⟨d, _, hd, trivial, fun od => ?_⟩
    refine ⟨_, rfl, d, od, rfl, .inl ⟨kv es, upd_same, fun D hD => ?_⟩⟩
    have Dd : D ≠ d := fun z => by
      rw [z, upd_same] at hD
      cases hD
    have hD0 : H D = none := by
      rw [upd_ne Dd] at hD
      exact hD
    refine lc_it walk_keys (fun i H2 => H2 D = some (.lst ((List.replicate i true).map V.bl)) ∧ H2 d = some (.frz od (.dK (kv es))) ∧ ∀ b o, b ≠ d → H b = some o → H2 b = some o)
      ⟨upd_same, (upd_ne Dd.symm).trans upd_same, fun b o e1 e2 => ?_⟩ (fun i H2 _ p => p.2.1) ?_ ?_
    · rw [upd_ne (ne_of_none e2 hD0), upd_ne e1]
      exact e2
    · rintro i v H2 H3 hi ⟨hD2, hd2, S2⟩ ⟨rfl, k', v', e1, rfl⟩
      rw [kv_len] at hi
      have ei : (kv es)[i]? = some (ky es[i].1, V.int es[i].2) := by
        unfold kv
        rw [List.getElem?_map, List.getElem?_eq_getElem hi]
        rfl
      rw [ei] at e1
      cases e1
      have hnmi := hnm es[i] (List.getElem_mem hi)
      refine ⟨rfl, ?_⟩
      unfold tYes
      dsimp only
      rw [if_pos rfl]
      refine ⟨_, rfl, .inl ⟨es[i].1, rfl, by have := nm_len hnmi; omega, fun H4 S4 => ?_⟩⟩
      rw [hnmi]
      refine ⟨_, rfl, iteT' rfl ?_⟩
      refine ⟨_, rfl, _, rfl, d, .int es[i].2, rfl, .inl ⟨_, ky es[i].1, .inr ⟨od, S4 _ _ hd2⟩, rfl, (val_at hn hi).symm⟩, es[i].2, rfl, ?_⟩
      refine ⟨_, S4 _ _ hD2, by rw [List.length_map, List.length_replicate, sizeLine_eq]; omega, ?_, ?_, fun b o hb e => ?_⟩
      · rw [upd_same, List.replicate_succ', List.map_append]
        rfl
      · rw [upd_ne Dd.symm]
        exact S4 _ _ hd2
      · rw [upd_ne (ne_of_none e hD0)]
        exact S4 b o (S2 b o hb e)
    · rintro H2 ⟨hD2, hd2, S2⟩
      refine ⟨D, _, rfl, SqL.of hD2, hd2, ?_⟩
      have e : (List.replicate (kv es).length true).all id = true := by
        rw [List.all_eq_true]
        intro x hx
        exact List.eq_of_mem_replicate hx
      rw [e]
      refine q _ fun b o eb => ?_
      by_cases hb : b = d
      · subst hb
        rw [upd_same]
        exact hd.symm.trans eb
      · exact (upd_ne hb).trans (S2 b o hb eb)
end
end K54
set_option maxHeartbeats 8000000
namespace K54
open PySem PySem.Spec PyProof.Rows L2

abbrev FnD (K : PySem.W.Frag) (x qual : Str) (st : Stmt) (dvs : List V) (f : Addr) (fd : FuncData) : Prop := FunD K x qual (defArgs st) (defBody st) (defScope st) dvs [] f fd
/-- without the names whose exponent is 0 -/
def nzE (es : Es) (n : Str) : Option Int := match es.lookup n with
  | some v => if v = 0 then none else some v
  | none => none
/-- a Size with these exponents stands at p -/
def SizeAt (C : Addr) (H : Hp) (p : Addr) (es : Es) : Prop := ∃ dx D, H p = some (.ins C dx [("_exponents", .ref D)]) ∧ H D = some (.dK (kv es)) ∧ SdE es ∧ (∀ q ∈ es, q.2 ≠ 0) ∧ (∀ q ∈ es, isNm q.1 = true) ∧ es.length < 64
def spInit (C : Addr) : Sp := fun vs H Q _ => ∃ (p dx : Addr) (v : V) (es : Es), vs = [.ref p, v] ∧ H p = some (.ins C dx []) ∧
  ((v = .non ∧ es = []) ∨ ∃ d, v = .ref d ∧ d ≠ p ∧ H d = some (.dK (kv es))) ∧ (es.map (·.1)).Nodup ∧ es.length < 64 ∧ (∀ q ∈ es, isNm q.1 = true) ∧
  ∀ H' D R, (∀ b o, b ≠ p → H b = some o → H' b = some o) → H' p = some (.ins C dx [("_exponents", .ref D)]) → H D = none → H' D = some (.dK (kv R)) →
    SdE R → (∀ n, R.lookup n = nzE es n) → R.length ≤ es.length → Q .non H'
structure Cs (K : PySem.W.Frag) (C : Addr) : Prop where
  cl : Cls K C
  nE : NoAttr K C "_exponents"
def flE (es : Es) (ys : List Str) : Es := (ys.map fun n => (n, g0 es n)).filter fun p => decide (p.2 ≠ 0)
theorem fl_keys (es : Es) (ys : List Str) : ((flE es ys).map (·.1)).Sublist ys := by
  have z : ((flE es ys).map (·.1)).Sublist ((ys.map fun n => (n, g0 es n)).map (·.1)) := List.Sublist.map _ List.filter_sublist
  have ek : (ys.map fun n => (n, g0 es n)).map (·.1) = ys := by
    rw [List.map_map]
    exact List.map_id'' (fun _ => rfl) ys
  rw [ek] at z
  exact z
theorem fl_step {es : Es} {ys : List Str} {i : Nat} (hi : i < ys.length) :
    flE es (ys.take (i + 1)) = if g0 es ys[i] ≠ 0 then flE es (ys.take i) ++ [(ys[i], g0 es ys[i])] else flE es (ys.take i) := by
  have e : ys.take (i + 1) = ys.take i ++ [ys[i]] := by
    rw [List.take_add_one, List.getElem?_eq_getElem hi]
    rfl
  unfold flE
  rw [e, List.map_append, List.filter_append]
  by_cases h : g0 es ys[i] = 0
  · rw [if_neg (fun z => z h)]
    simp [h]
  · rw [if_pos h]
    simp [h]
theorem fl_look (es : Es) (n : Str) : ∀ zs : List Str, (flE es zs).lookup n = if n ∈ zs ∧ g0 es n ≠ 0 then some (g0 es n) else none
  | [] => by simp [flE]
  | z :: r => by
    have ih := fl_look es n r
    have e : flE es (z :: r) = if g0 es z ≠ 0 then (z, g0 es z) :: flE es r else flE es r := by
      unfold flE
      rw [List.map_cons, List.filter_cons]
      by_cases h : g0 es z = 0
      · simp [h]
      · simp [h]
    rw [e]
    by_cases h : g0 es z = 0
    · rw [if_neg (fun q => q h), ih]
      by_cases hz : n = z
      · subst hz
        rw [if_neg (fun q => q.2 h), if_neg (fun q => q.2 h)]
      · simp [hz]
    · rw [if_pos h]
      by_cases hz : n = z
      · subst hz
        rw [List.lookup_cons_self, if_pos ⟨List.mem_cons_self .., h⟩]
      · have eb : (n == z) = false := by simpa using hz
        rw [List.lookup_cons, eb]
        show (flE es r).lookup n = _
        rw [ih]
        simp [hz]
theorem fl_nz {es : Es} {ys : List Str} (h : ∀ n, n ∈ ys ↔ n ∈ es.map (·.1)) (n : Str) : (flE es ys).lookup n = nzE es n := by
  rw [fl_look]
  unfold nzE
  by_cases hin : n ∈ ys
  · obtain ⟨v, hv⟩ := Option.isSome_iff_exists.mp (look_mem.mpr ((h n).mp hin))
    have hg : g0 es n = v := by
      unfold g0
      rw [hv]
      rfl
    rw [hv, hg]
    by_cases z : v = 0
    · rw [if_neg (fun q => q.2 z)]
      show none = if v = 0 then none else some v
      rw [if_pos z]
    · rw [if_pos ⟨hin, z⟩]
      show some v = if v = 0 then none else some v
      rw [if_neg z]
  · rw [if_neg (fun q => hin q.1), g0_none fun z => hin ((h n).mpr z)]
def NIi : List Str := ["self", "exponents", "given", "name"]
section
variable {P : Program} {w : World} {K : PySem.W.Frag} {mg : Str → Option Value} {base : Heap} {C : Addr}
theorem scIni : FnScope NIi ["self", "exponents"] (defScope sInit) :=
  ⟨rfl, rfl, rfl, by decide +kernel, rfl, by decide +kernel, by decide +kernel⟩
theorem rd_ini {p dx g : Addr} {v : V} {es : Es} {H1 : Hp} {DD : Ends} (Tc : Cs K C) (hg : H1 g = some (.dK (kv es))) (hp : H1 p = some (.ins C dx [])) (hn : (es.map (·.1)).Nodup)
    (hl : es.length < 64) (hnm : ∀ q ∈ es, isNm q.1 = true)
    (k : ∀ H2 D R, Same H1 H2 → H1 D = none → H2 D = some (.dK (kv R)) → SdE R → (∀ n, R.lookup n = nzE es n) → R.length ≤ es.length →
      DD.nx [some (.ref p), some v, some (.ref g), none] (upd H2 p (.ins C dx [("_exponents", .ref D)]))) :
    tSeq (tIfS (tNot (tB (tCall spIsExp [] E0 (tCons (tVar 2) tNil)))) (fun _ _ _ => False) tNext)
      (sFld K (tVar 0) (tDc (iList K (tCB (fun xs H Q => ∃ (a : Addr) (kvs : List (Key × V)) (ks : List Str), xs = [.ref a] ∧ Rd H a (.dK kvs) ∧ kvs.map (·.1) = ks.map Sum.inr ∧ ks.length < 64 ∧
          ∀ ys p, ys.Perm ks → sortedS ys = true → H p = none → Q (.ref p) (upd H p (.lst (ys.map V.str)))) (tCons (tVar 2) tNil)))
        (gName 3) (tTest (tOp rNe (tDGet (tVar 2) (tVar 3)) (tC (.int 0)))) (tVar 3) (tDGet (tVar 2) (tVar 3)) [3]) "_exponents") DD
      [some (.ref p), some v, some (.ref g), none] H1 := by
  refine ⟨_, rfl, g, es, rfl, hg, by omega, hn, hnm, fun H2 S2 => ?_⟩
  refine ⟨_, rfl, iteF ?_⟩
  have hg2 := S2 _ _ hg
  refine ⟨_, rfl, g, _, es.map (·.1), rfl, .inl hg2, ?_, by rw [List.length_map]; exact hl, fun ys r perm srt nr => ?_⟩
  · unfold kv
    rw [List.map_map, List.map_map]
    rfl
  have S3 := fresh_upd (o := .lst (ys.map V.str)) nr
  refine ⟨r, rfl, ⟨_, SqL.of upd_same⟩, fun D hD => ?_⟩
  have hD0 : H1 D = none := by
    cases e : H1 D with
    | none => rfl
    | some o =>
      have z := S3 _ _ (S2 _ _ e)
      rw [hD] at z
      cases z
  have hys : ys.Nodup := perm.nodup_iff.mpr hn
  have hyl : ys.length = es.length := by rw [perm.length_eq, List.length_map]
  have hg3 := S3 _ _ hg2
  refine dc_it (walk_list (K := K) (a := r) (xs := ys.map V.str)) (fun i H3 => H3 D = some (.dK (kv (flE es (ys.take i)))) ∧
    Same (upd H2 r (.lst (ys.map V.str))) H3) ⟨upd_same, fresh_upd hD⟩ (fun i H3 _ h => SqL.of (h.2 _ _ upd_same)) ?_ ?_
  · rintro i x H3 H4 hi ⟨hD3, S4⟩ ⟨rfl, hx⟩
    rw [List.length_map] at hi
    have ex : x = .str ys[i] := by
      rw [List.getElem?_map, List.getElem?_eq_getElem hi] at hx
      exact (Option.some.inj hx).symm
    subst ex
    have hin : ys[i] ∈ es.map (·.1) := perm.mem_iff.mp (List.getElem_mem hi)
    obtain ⟨u, hu⟩ := Option.isSome_iff_exists.mp (look_mem.mpr hin)
    have hgu : g0 es ys[i] = u := by
      unfold g0
      rw [hu]
      rfl
    have dg : DGet H4 g (kV (ky ys[i])) (some (.int u)) := .inl ⟨_, ky ys[i], .inl (S4 _ _ hg3), rfl, by rw [val_kv, hu]; rfl⟩
    refine ⟨rfl, ?_⟩
    refine ⟨_, rfl, _, rfl, g, .int u, rfl, dg, rfl, _, rfl, ?_⟩
    by_cases h0 : u = 0
    · subst h0
      rw [decide_eq_true rfl]
      refine iteF ⟨?_, S4⟩
      rw [fl_step hi, hgu, if_neg (fun z => z rfl)]
      exact hD3
    · rw [decide_eq_false (show ¬ V.int u = V.int 0 from fun z => h0 (V.int.inj z))]
      refine iteT' rfl ?_
      refine ⟨_, rfl, _, rfl, _, rfl, g, .int u, rfl, dg, ?_⟩
      refine ⟨_, ky ys[i], rfl, hD3, ?_, ?_, fun b o e => ?_⟩
      · rw [kv_len, sizeLine_eq]
        have h1 : (flE es (ys.take i)).length ≤ (ys.take i).length := by
          unfold flE
          refine Nat.le_trans (List.length_filter_le _ _) ?_
          rw [List.length_map]
          exact Nat.le_refl _
        have h2 : (ys.take i).length ≤ i := by rw [List.length_take]; exact Nat.min_le_left ..
        omega
      · have en : ys[i] ∉ (flE es (ys.take i)).map (·.1) := fun z => by
          have z2 := (fl_keys es (ys.take i)).subset z
          obtain ⟨j, hj, e2⟩ := List.mem_take_iff_getElem.mp z2
          exact List.pairwise_iff_getElem.mp hys j i (by omega) hi (by omega) e2
        rw [upd_same, putK_new _ (val_none en), fl_step hi, hgu, if_pos h0]
        unfold kv
        rw [List.map_append]
        rfl
      · rw [upd_ne (ne_of_none e hD)]
        exact S4 b o e
  · rintro H3 ⟨hD3, S4⟩
    rw [List.length_map, List.take_length] at hD3
    refine ⟨_, rfl, p, C, dx, [], rfl, S4 _ _ (S3 _ _ (S2 _ _ hp)), Tc.cl, Tc.nE, by decide, ?_⟩
    exact k _ D _ (S2.trans (S3.trans S4)) hD0 hD3 (List.Pairwise.sublist (fl_keys es ys) (sd_of srt hys)) (fl_nz fun n => perm.mem_iff)
      (by
        unfold flE
        refine Nat.le_trans (List.length_filter_le _ _) ?_
        rw [List.length_map, hyl]
        exact Nat.le_refl _)
theorem ok_init {f fE : Addr} {fd fdE : FuncData} (F : FnD K "__init__" "Size.__init__" sInit [.non] f fd) (T : Na mg) (Tc : Cs K C)
    (GE : FnOk P w K mg base CX0 2 fE fdE ["value"] spIsExp) (kE : PySem.W.keepIn K (.ref fE) = true) (bE : Binds K fdE ["value"] []) (gE : mg "_is_exponents" = some (.ref fE)) :
    FnOk P w K mg base CX0 3 f fd ["self", "exponents"] (spInit C) := by
  refine F.ok scIni (fun vs H Q E h => ?_) (fun cdv A outer s H vs Q E hr h => ?_)
  · obtain ⟨p, dx, v, es, rfl, _⟩ := h
    rfl
  · obtain ⟨p, dx, v, es, rfl, hp, hv, hn, hl, hnm, q⟩ := h
    have hu : (A.deeper (envOfC "Size.__init__" (defScope sInit) s.heap.objs.size f cdv)).units + 1 < cLine := by have := hr.units; omega
    refine ⟨_, PSs.nox (pss_cons (ps_set (i := 2) scIni.nd rfl (.inr rfl) (pe_ifExp (pt_cmpR op_isN (pv 1) pe_non rfl) pe_dnewK (pv 1)))
      (pss_cons (ps_if (pt_not (pt_val (pe_call GE hr rfl gE kE bE .nil pass0 (pa_cons (pv 2) pa_nil)))) (pss_one ps_no) pss_nil)
      (pss_one (ps_fld (pv 0) (pe_dc (own := [("name", 3)]) (g := gName 3) (tt := tTest (tOp rNe (tDGet (tVar 2) (tVar 3)) (tC (.int 0)))) (tk := tVar 3) (tv := tDGet (tVar 2) (tVar 3)) rfl scIni.nd
        (pi_list (pe_callB (call_sortedD rfl) (by rfl) T.sorted (by decide +kernel) (pa_cons (pv 2) pa_nil)))
        (blkOk_by (own := [("name", 3)]) (N := NIi) (sc := defScope sInit) (by decide +kernel)) (fun _ _ _ _ _ => pg_name (i := 3) scIni.nd rfl (Or.inl rfl))
        (fun _ _ _ _ _ => pts_one (by exact pt_cmpR op_ne (pe_dget hu (pv 2) (pv 3) (fun _ _ => rfl)) pe_int (nomark _)))
        (fun _ _ _ _ _ => by exact pv 3) (fun _ _ _ _ _ => by exact pe_dget hu (pv 2) (pv 3) (fun _ _ => rfl))) rfl)))), ?_⟩
    rcases hv with ⟨rfl, rfl⟩ | ⟨d, rfl, dp, hd⟩
    · refine ⟨_, rfl, rfl, _, rfl, iteT' rfl ?_⟩
      intro g ng
      have gp : g ≠ p := fun z => by
        rw [z, hp] at ng
        cases ng
      refine rd_ini Tc (es := []) upd_same ((upd_ne gp.symm).trans hp) hn hl hnm fun H2 D R S2 nD hD sR lR zR => ?_
      have nD0 : H D = none := by
        cases e : H D with
        | none => rfl
        | some o =>
          have z := fresh_upd (o := .dK []) ng _ _ e
          rw [nD] at z
          cases z
      have Dp : D ≠ p := fun z => by
        rw [z, hp] at nD0
        cases nD0
      exact q _ D R (fun b o hb e => (upd_ne hb).trans (S2 _ _ (fresh_upd ng _ _ e))) upd_same nD0 ((upd_ne Dp).trans hD) sR lR zR
    · refine ⟨_, rfl, rfl, _, rfl, iteF ?_⟩
      refine ⟨_, rfl, ?_⟩
      refine rd_ini Tc hd hp hn hl hnm fun H2 D R S2 nD hD sR lR zR => ?_
      have Dp : D ≠ p := fun z => by
        rw [z, hp] at nD
        cases nD
      exact q _ D R (fun b o hb e => (upd_ne hb).trans (S2 _ _ e)) upd_same nD ((upd_ne Dp).trans hD) sR lR zR
end
end K54
set_option maxHeartbeats 8000000
namespace K54
open PySem PySem.Spec PyProof.Rows L2

abbrev sCheck : Stmt := top 45
/-- the class as a value and as a kind -/
structure Ck (K : PySem.W.Frag) (mg : Str → Option Value) (C : Addr) : Prop extends Cs K C where
  gC : mg "Size" = some (.ref C)
  cc : PySem.W.findIn K (.ref C) "__class__" = some (some (.builtin "object.__class__"))
  cn : PySem.W.specialIn K (.builtin "object.__class__") "__get__" = some (some (.builtin "getset_descriptor.__get__"))
  ct : PySem.W.takesIn K (.builtin "object.__class__") = some true
  co : PySem.W.mroIn K C (.type "object") = some true
def spCheck (C : Addr) : Sp := fun vs H Q _ => ∃ (p dx : Addr) (fs : List (Str × V)), vs = [.ref p] ∧ H p = some (.ins C dx fs) ∧ Q .non H
section
variable {P : Program} {w : World} {K : PySem.W.Frag} {mg : Str → Option Value} {base : Heap} {C : Addr}
theorem scCheck : FnScope ["value"] ["value"] (defScope sCheck) :=
  ⟨rfl, rfl, rfl, by decide +kernel, rfl, by decide +kernel, by decide +kernel⟩
theorem ok_check {f : Addr} {fd : FuncData} (F : Fun K "check_size" "check_size" sCheck f fd) (T : Nk mg) (Tc : Ck K mg C) :
    FnOk P w K mg base CX0 1 f fd ["value"] (spCheck C) := by
  refine F.ok scCheck (fun vs H Q E h => ?_) (fun cdv A outer s H vs Q E hr h => ?_)
  · obtain ⟨p, dx, fs, rfl, _⟩ := h
    rfl
  · obtain ⟨p, dx, fs, rfl, hp, q⟩ := h
    refine ⟨_, pss_one (ps_if (pt_not (pt_val (pe_callB call_isi (by rfl) T.isi (by decide +kernel) (pa_cons (pv 0) (pa_cons (pe_glob (v := .ref C) (by rfl) Tc.gC rfl) pa_nil)))))
      (pss_one ps_no) pss_nil), ?_⟩
    refine ⟨_, rfl, _, _, _, _, true, rfl, .own _, .base (.ins hp Tc.cl Tc.cc Tc.cn Tc.ct Tc.co), ?_, _, rfl, iteF q⟩
    unfold PySem.W.kitOne
    rw [if_pos (by simp)]
end
end K54
set_option maxHeartbeats 8000000
namespace K54
open PySem PySem.Spec PyProof.Rows L2

/-! ### numbers as exponents -/
def cz (v : Int) : Option Int := if v = 0 then none else some v
theorem nz_cz (es : Es) (n : Str) : nzE es n = cz (g0 es n) := by
  unfold nzE cz g0
  cases es.lookup n with
  | none => rfl
  | some v => rfl
theorem g0_cz {R : Es} {n : Str} {v : Int} (h : R.lookup n = cz v) : g0 R n = v := by
  unfold g0
  rw [h]
  unfold cz
  by_cases z : v = 0
  · rw [if_pos z, z]
    rfl
  · rw [if_neg z]
    rfl
theorem g0_add {es t : Es} (h : (es.map (·.1)).Nodup) (n : Str) : g0 (addE t es) n = g0 t n + g0 es n := by
  unfold g0
  rw [look_add t n h]
  by_cases hin : n ∈ es.map (·.1)
  · rw [if_pos hin]
    rfl
  · rw [if_neg hin, g0_none hin]
    show _ = (t.lookup n).getD 0 + 0
    rw [Int.add_zero]
theorem g0_sum2 {es fs : Es} (h : (es.map (·.1)).Nodup) (g : (fs.map (·.1)).Nodup) (n : Str) : g0 (sumE [es, fs]) n = g0 es n + g0 fs n := by
  show g0 (addE (addE [] es) fs) n = _
  rw [g0_add g, g0_add h]
  show 0 + g0 es n + g0 fs n = _
  rw [Int.zero_add]
theorem mem_add {es t : Es} {n : Str} (h : (es.map (·.1)).Nodup) (hn : n ∈ (addE t es).map (·.1)) : n ∈ t.map (·.1) ∨ n ∈ es.map (·.1) := by
  have z := look_mem.mpr hn
  rw [look_add t n h] at z
  by_cases hin : n ∈ es.map (·.1)
  · exact .inr hin
  · rw [if_neg hin] at z
    exact .inl (look_mem.mp z)
/-- what a new Size of es holds -/
theorem size_of {C p dx D : Addr} {es R : Es} {H : Hp} (h1 : H p = some (.ins C dx [("_exponents", .ref D)])) (h2 : H D = some (.dK (kv R))) (sR : SdE R)
    (lR : ∀ n, R.lookup n = nzE es n) (zR : R.length ≤ es.length) (hl : es.length < 64) (hnm : ∀ q ∈ es, isNm q.1 = true) : SizeAt C H p R := by
  have at_ : ∀ q ∈ R, R.lookup q.1 = some q.2 := fun q hq => by
    obtain ⟨i, hi, e⟩ := List.getElem_of_mem hq
    have z := val_at sR.nodup hi
    rw [val_kv, e] at z
    cases e2 : R.lookup q.1 with
    | none =>
      rw [e2] at z
      cases z
    | some v =>
      rw [e2] at z
      injection z with z
      injection z with z
      rw [z]
  refine ⟨dx, D, h1, h2, sR, fun q hq e => ?_, fun q hq => ?_, by omega⟩
  · have z := at_ q hq
    rw [lR, nz_cz] at z
    unfold cz at z
    by_cases h0 : g0 es q.1 = 0
    · rw [if_pos h0] at z
      cases z
    · rw [if_neg h0] at z
      injection z with z
      exact h0 (z.trans e)
  · have z := at_ q hq
    rw [lR] at z
    have hin : q.1 ∈ es.map (·.1) := by
      unfold nzE at z
      cases e : es.lookup q.1 with
      | none =>
        rw [e] at z
        cases z
      | some v => exact look_mem.mp (by rw [e]; rfl)
    obtain ⟨r, hr, e⟩ := List.mem_map.mp hin
    rw [← e]
    exact hnm r hr

abbrev sNames : Stmt := inClass sSize 7
abbrev sExpo : Stmt := inClass sSize 8
abbrev sMul : Stmt := inClass sSize 14
def spNames (C : Addr) : Sp := fun vs H Q _ => ∃ (p : Addr) (es : Es), vs = [.ref p] ∧ SizeAt C H p es ∧ ∀ l, H l = none → Q (.ref l) (upd H l (.lst (es.map fun q => V.str q.1)))
def spExpo (C : Addr) : Sp := fun vs H Q _ => ∃ (p : Addr) (es : Es), vs = [.ref p] ∧ SizeAt C H p es ∧ ∀ l, H l = none → Q (.ref l) (upd H l (.dK (kv es)))
/-- r is new, and what it holds -/
def Nw (C : Addr) (H H' : Hp) (r : Addr) : Prop := ∃ dx D, H' r = some (.ins C dx [("_exponents", .ref D)]) ∧ H r = none ∧ H D = none
theorem none_pre {H H' : Hp} (S : Same H H') {a : Addr} (n : H' a = none) : H a = none := by
  cases e : H a with
  | none => rfl
  | some o =>
    have z := S _ _ e
    rw [n] at z
    cases z
def spMul (C : Addr) : Sp := fun vs H Q _ => ∃ (p q : Addr) (es fs : Es), vs = [.ref p, .ref q] ∧ SizeAt C H p es ∧ SizeAt C H q fs ∧ es.length + fs.length < 64 ∧
  ∀ H' r rs, Same H H' → SizeAt C H' r rs → Nw C H H' r → (∀ n, rs.lookup n = cz (g0 es n + g0 fs n)) → Q (.ref r) H'
theorem SizeAt.same {C p : Addr} {es : Es} {H H' : Hp} (h : SizeAt C H p es) (S : Same H H') : SizeAt C H' p es := by
  obtain ⟨dx, D, h1, h2, h3⟩ := h
  exact ⟨dx, D, S _ _ h1, S _ _ h2, h3⟩
structure Nt (mg : Str → Option Value) : Prop where
  list : mg "list" = none
  dict : mg "dict" = none
  len : mg "len" = none
section
variable {P : Program} {w : World} {K : PySem.W.Frag} {mg : Str → Option Value} {base : Heap} {C : Addr}
theorem scNames : FnScope ["self"] ["self"] (defScope sNames) :=
  ⟨rfl, rfl, rfl, by decide +kernel, rfl, by decide +kernel, by decide +kernel⟩
theorem ok_names {f : Addr} {fd : FuncData} (F : Fun K "names" "Size.names" sNames f fd) (T : Nt mg) (Tc : Ck K mg C) : FnOk P w K mg base CX0 1 f fd ["self"] (spNames C) := by
  refine F.ok scNames (fun vs H Q E h => ?_) (fun cdv A outer s H vs Q E hr h => ?_)
  · obtain ⟨p, es, rfl, _⟩ := h
    rfl
  · obtain ⟨p, es, rfl, ⟨dx, D, h1, h2, _⟩, q⟩ := h
    refine ⟨_, pss_one (ps_ret (pe_callTy (call_listD rfl) (by rfl) T.list (by decide +kernel) (pa_cons (pe_fld (pv 0) rfl) pa_nil))), ?_⟩
    refine ⟨_, rfl, p, C, dx, _, _, rfl, h1, Tc.cl, Tc.nE, rfl, D, _, rfl, .inl h2, fun l nl => ?_⟩
    have z := q l nl
    have e : (kv es).map (fun kv => kV kv.1) = es.map fun q => V.str q.1 := by
      unfold kv
      rw [List.map_map]
      rfl
    rw [e]
    exact z
theorem scExpo : FnScope ["self"] ["self"] (defScope sExpo) :=
  ⟨rfl, rfl, rfl, by decide +kernel, rfl, by decide +kernel, by decide +kernel⟩
theorem ok_expo {f : Addr} {fd : FuncData} (F : Fun K "exponents" "Size.exponents" sExpo f fd) (T : Nt mg) (Tc : Ck K mg C) : FnOk P w K mg base CX0 1 f fd ["self"] (spExpo C) := by
  refine F.ok scExpo (fun vs H Q E h => ?_) (fun cdv A outer s H vs Q E hr h => ?_)
  · obtain ⟨p, es, rfl, _⟩ := h
    rfl
  · obtain ⟨p, es, rfl, ⟨dx, D, h1, h2, _⟩, q⟩ := h
    refine ⟨_, pss_one (ps_ret (pe_callTy call_dictD (by rfl) T.dict (by decide +kernel) (pa_cons (pe_fld (pv 0) rfl) pa_nil))), ?_⟩
    exact ⟨_, rfl, p, C, dx, _, _, rfl, h1, Tc.cl, Tc.nE, rfl, D, _, rfl, .inl h2, q⟩
end
end K54
set_option maxHeartbeats 8000000
namespace K54
open PySem PySem.Spec PyProof.Rows L2
section
variable {P : Program} {w : World} {K : PySem.W.Frag} {mg : Str → Option Value} {base : Heap} {C : Addr}
theorem scMul : FnScope ["self", "other"] ["self", "other"] (defScope sMul) :=
  ⟨rfl, rfl, rfl, by decide +kernel, rfl, by decide +kernel, by decide +kernel⟩
theorem ok_mul {f fC fI fX fA : Addr} {fd fdC fdI fdX fdA : FuncData} (F : Fun K "__mul__" "Size.__mul__" sMul f fd) (Tc : Ck K mg C)
    (GC : FnOk P w K mg base CX0 1 fC fdC ["value"] (spCheck C)) (kC : PySem.W.keepIn K (.ref fC) = true) (bC : Binds K fdC ["value"] []) (gC : mg "check_size" = some (.ref fC))
    (M : Mk K C fI) (GI : FnOk P w K mg base CX0 3 fI fdI ["self", "exponents"] (spInit C)) (bI : Binds K fdI ["self", "exponents"] [])
    (mX : Meth K C "exponents" fX) (GX : FnOk P w K mg base CX0 1 fX fdX ["self"] (spExpo C)) (bX : Binds K fdX ["self"] [])
    (GA : FnOk P w K mg base CX0 1 fA fdA ["tables"] (spAdded K)) (kA : PySem.W.keepIn K (.ref fA) = true) (bA : Binds K fdA ["tables"] []) (gA : mg "added" = some (.ref fA)) :
    FnOk P w K mg base CX0 5 f fd ["self", "other"] (spMul C) := by
  have GC4 := GC.mono (k := 4) (by decide)
  have GA4 := GA.mono (k := 4) (by decide)
  have GX4 := GX.mono (k := 4) (by decide)
  refine F.ok scMul (fun vs H Q E h => ?_) (fun cdv A outer s H vs Q E hr h => ?_)
  · obtain ⟨p, q, es, fs, rfl, _⟩ := h
    rfl
  · obtain ⟨p, q, es, fs, rfl, h1, h2, hl, k⟩ := h
    refine ⟨_, pss_cons (ps_expr (pe_call GC4 hr rfl gC kC bC .nil pass0 (pa_cons (pv 1) pa_nil)))
      (pss_one (ps_ret (pe_make M GI hr rfl Tc.gC bI .nil pass0 (pa_cons (pe_call GA4 hr rfl gA kA bA .nil pass0 (pa_cons (pe_lst (pa_cons (pe_fld (pv 0) rfl)
        (pa_cons (pe_meth0 (pv 1) Tc.cl mX GX4 hr bX .nil pass0) pa_nil))) pa_nil)) pa_nil)))), ?_⟩
    obtain ⟨dx, D, p1, p2, p3, p4, p5, p6⟩ := id h1
    obtain ⟨dy, D', q1, q2, q3, q4, q5, q6⟩ := id h2
    refine ⟨_, rfl, q, dy, _, rfl, q1, ?_⟩
    refine ⟨_, rfl, p, C, dx, _, _, rfl, p1, Tc.cl, Tc.nE, rfl, _, rfl, q, dy, _, rfl, q1, rfl, q, fs, rfl, h2, fun l nl => ?_⟩
    have S1 := fresh_upd (o := .dK (kv fs)) nl
    refine ⟨(by rw [sizeLine_eq]; show 2 ≤ 16777216; decide), fun a na => ?_⟩
    have S2 := fresh_upd (o := .lst [.ref D, .ref l]) na
    refine ⟨a, _, [es, fs], rfl, SqL.of upd_same, .cons (S2 _ _ (S1 _ _ p2)) p3.nodup (.cons (S2 _ _ upd_same) q3.nodup .nil), (by show 2 ≤ 1000; decide), ?_, fun H3 G R S3 nG hG sR lR zR => ?_⟩
    · show es.length + (fs.length + 0) < 64
      omega
    have hlen : R.length < 64 := by
      have z : R.length ≤ es.length + (fs.length + 0) := zR
      omega
    have gR : ∀ n, g0 R n = g0 es n + g0 fs n := fun n => by
      unfold g0
      rw [lR n]
      exact g0_sum2 p3.nodup q3.nodup n
    have nmR : ∀ q ∈ R, isNm q.1 = true := fun q hq => by
      have hin : q.1 ∈ R.map (·.1) := List.mem_map.mpr ⟨q, hq, rfl⟩
      have h3 : q.1 ∈ (sumE [es, fs]).map (·.1) := look_mem.mp (by rw [← lR]; exact look_mem.mpr hin)
      have h4 : q.1 ∈ (addE [] es).map (·.1) ∨ q.1 ∈ fs.map (·.1) := mem_add q3.nodup h3
      rcases h4 with h4 | h4
      · rcases mem_add p3.nodup h4 with h5 | h5
        · cases h5
        · obtain ⟨r, hr, e⟩ := List.mem_map.mp h5
          rw [← e]
          exact p5 r hr
      · obtain ⟨r, hr, e⟩ := List.mem_map.mp h4
        rw [← e]
        exact q5 r hr
    intro x ex nx ndx nex
    have Gx : G ≠ x := ne_of_none hG nx
    have Gex : G ≠ ex := ne_of_none hG ndx
    have Sx : Same H3 (upd (upd H3 ex (.own x)) x (.ins C ex [])) := fun b o e => by
      rw [upd_ne (ne_of_none e nx), upd_ne (ne_of_none e ndx)]
      exact e
    refine ⟨x, ex, .ref G, R, rfl, upd_same, .inr ⟨G, rfl, Gx, Sx _ _ hG⟩, sR.nodup, hlen, nmR, fun H4 D4 R4 S4 hx4 nD4 hD4 sR4 lR4 zR4 => ⟨rfl, ?_⟩⟩
    refine k H4 x R4 (fun b o e => ?_) (size_of hx4 hD4 sR4 lR4 zR4 hlen nmR) ⟨ex, D4, hx4, none_pre (S1.trans (S2.trans S3)) nx, none_pre (S1.trans (S2.trans (S3.trans Sx))) nD4⟩ fun n => by rw [lR4, nz_cz, gR]
    have e3 := S3 _ _ (S2 _ _ (S1 _ _ e))
    exact S4 b o (ne_of_none e3 nx) (Sx _ _ e3)
end
end K54
set_option maxHeartbeats 8000000
namespace K54
open PySem

/-! ### numbers by coprime bases -/
/-- products of members -/
inductive G (l : List Nat) : Nat → Prop
  | one : G l 1
  | mul {x n : Nat} : x ∈ l → G l n → G l (x * n)
theorem G.mulG {l : List Nat} {m n : Nat} (h : G l m) (k : G l n) : G l (m * n) := by
  induction h with
  | one => rw [Nat.one_mul]; exact k
  | mul hx _ ih => rw [Nat.mul_assoc]; exact .mul hx ih
theorem G.mem {l : List Nat} {x : Nat} (h : x ∈ l) : G l x := by
  have z := G.mul h (G.one (l := l))
  rw [Nat.mul_one] at z
  exact z
theorem G.trans {l m : List Nat} {n : Nat} (h : G l n) (k : ∀ x ∈ l, G m x) : G m n := by
  induction h with
  | one => exact .one
  | mul hx _ ih => exact (k _ hx).mulG ih
def Cop (bs : List Nat) : Prop := bs.Pairwise Nat.Coprime ∧ ∀ b ∈ bs, 1 < b
theorem not_cop_self {b : Nat} (h : 1 < b) : ¬ Nat.Coprime b b := fun z => by
  unfold Nat.Coprime at z
  rw [Nat.gcd_self] at z
  omega
theorem Cop.nodup {bs : List Nat} (h : Cop bs) : bs.Nodup := by
  obtain ⟨h1, h2⟩ := h
  induction h1 with
  | nil => exact List.Pairwise.nil
  | @cons a l ha _ ih =>
    refine List.Pairwise.cons (fun b hb e => ?_) (ih fun b hb => h2 b (List.mem_cons_of_mem _ hb))
    have z := ha b hb
    rw [← e] at z
    exact not_cop_self (h2 a (List.mem_cons_self ..)) z
def pw (f : Nat → Nat) : List Nat → Nat
  | [] => 1
  | b :: r => b ^ f b * pw f r
theorem pw_congr {f g : Nat → Nat} : ∀ {bs : List Nat}, (∀ b ∈ bs, f b = g b) → pw f bs = pw g bs
  | [], _ => rfl
  | b :: r, h => by
    show b ^ f b * pw f r = b ^ g b * pw g r
    rw [h b (List.mem_cons_self ..), pw_congr fun c hc => h c (List.mem_cons_of_mem _ hc)]
theorem pw_zero : ∀ bs : List Nat, pw (fun _ => 0) bs = 1
  | [] => rfl
  | b :: r => by
    show b ^ 0 * pw (fun _ => 0) r = 1
    rw [pw_zero r, Nat.pow_zero]
theorem pw_add (f g : Nat → Nat) : ∀ bs : List Nat, pw (fun b => f b + g b) bs = pw f bs * pw g bs
  | [] => rfl
  | b :: r => by
    show b ^ (f b + g b) * pw (fun b => f b + g b) r = b ^ f b * pw f r * (b ^ g b * pw g r)
    rw [pw_add f g r, Nat.pow_add, Nat.mul_mul_mul_comm]
theorem pw_mul (k : Nat) (f : Nat → Nat) : ∀ bs : List Nat, pw (fun b => k * f b) bs = pw f bs ^ k
  | [] => by
    show 1 = 1 ^ k
    rw [Nat.one_pow]
  | b :: r => by
    show b ^ (k * f b) * pw (fun b => k * f b) r = (b ^ f b * pw f r) ^ k
    rw [pw_mul k f r, Nat.mul_pow, ← Nat.pow_mul, Nat.mul_comm k]
theorem pw_one {x : Nat} : ∀ {bs : List Nat}, bs.Nodup → x ∈ bs → pw (fun b => if b = x then 1 else 0) bs = x
  | [], _, h => by cases h
  | b :: r, hn, h => by
    obtain ⟨n1, n2⟩ := List.pairwise_cons.mp hn
    show b ^ (if b = x then 1 else 0) * pw (fun b => if b = x then 1 else 0) r = x
    by_cases e : b = x
    · rw [if_pos e, Nat.pow_one, pw_congr (g := fun _ => 0) (fun c hc => if_neg fun z => n1 c hc (by rw [e, z])), pw_zero, Nat.mul_one, e]
    · rw [if_neg e, Nat.pow_zero, Nat.one_mul]
      rcases List.mem_cons.mp h with z | z
      · exact absurd z.symm e
      · exact pw_one n2 z
theorem G.pw {bs : List Nat} {n : Nat} (h : G bs n) (hn : bs.Nodup) : ∃ f, n = K54.pw f bs := by
  induction h with
  | one => exact ⟨fun _ => 0, (pw_zero bs).symm⟩
  | @mul x m hx _ ih =>
    obtain ⟨f, rfl⟩ := ih
    exact ⟨fun b => (if b = x then 1 else 0) + f b, by rw [pw_add, pw_one hn hx]⟩
theorem cop_pw {c : Nat} (f : Nat → Nat) : ∀ {bs : List Nat}, (∀ b ∈ bs, Nat.Coprime c b) → Nat.Coprime c (pw f bs)
  | [], _ => Nat.coprime_one_right c
  | b :: r, h => Nat.Coprime.mul_right (Nat.Coprime.pow_right _ (h b (List.mem_cons_self ..))) (cop_pw f fun d hd => h d (List.mem_cons_of_mem _ hd))
/-- a base's own part -/
theorem pw_split {b : Nat} (f : Nat → Nat) : ∀ {bs : List Nat}, Cop bs → b ∈ bs → ∃ r, pw f bs = b ^ f b * r ∧ Nat.Coprime b r
  | [], _, h => by cases h
  | c :: r, hc, h => by
    obtain ⟨h1, h2⟩ := hc
    obtain ⟨n1, n2⟩ := List.pairwise_cons.mp h1
    have hr : Cop r := ⟨n2, fun d hd => h2 d (List.mem_cons_of_mem _ hd)⟩
    by_cases e : b = c
    · subst e
      exact ⟨pw f r, rfl, cop_pw f n1⟩
    · have hb : b ∈ r := by
        rcases List.mem_cons.mp h with z | z
        · exact absurd z e
        · exact z
      obtain ⟨q, e2, hq⟩ := pw_split f hr hb
      refine ⟨c ^ f c * q, ?_, Nat.Coprime.mul_right (Nat.Coprime.pow_right _ (n1 b hb).symm) hq⟩
      show c ^ f c * pw f r = _
      rw [e2, Nat.mul_left_comm]
/-- below divides above just if it does so base by base -/
theorem pw_dvd {f g : Nat → Nat} {bs : List Nat} (hc : Cop bs) : pw f bs ∣ pw g bs ↔ ∀ b ∈ bs, f b ≤ g b := by
  constructor
  · intro h b hb
    obtain ⟨r, e1, h1⟩ := pw_split f hc hb
    obtain ⟨q, e2, h2⟩ := pw_split g hc hb
    have h3 : b ^ f b ∣ b ^ g b * q := by
      rw [← e2]
      exact Nat.dvd_trans ⟨r, e1⟩ h
    have h4 : b ^ f b ∣ b ^ g b := (Nat.Coprime.pow_left _ h2).dvd_of_dvd_mul_right h3
    exact (Nat.pow_dvd_pow_iff_le_right (hc.2 b hb)).mp h4
  · intro h
    refine ⟨pw (fun b => g b - f b) bs, ?_⟩
    rw [← pw_add]
    exact pw_congr fun b hb => by have := h b hb; omega
theorem pw_pos {f : Nat → Nat} : ∀ {bs : List Nat}, (∀ b ∈ bs, 1 < b) → 0 < pw f bs
  | [], _ => Nat.one_pos
  | b :: r, h => Nat.mul_pos (Nat.pow_pos (by have := h b (List.mem_cons_self ..); omega)) (pw_pos fun c hc => h c (List.mem_cons_of_mem _ hc))
end K54
set_option maxHeartbeats 8000000
namespace K54
open PySem

/-- how often b goes into n -/
def IsOrd (n b k : Nat) : Prop := ∃ r, n = b ^ k * r ∧ ¬ b ∣ r
theorem IsOrd.zero {n b : Nat} (h : ¬ b ∣ n) : IsOrd n b 0 := ⟨n, by rw [Nat.pow_zero, Nat.one_mul], h⟩
theorem IsOrd.succ {n b k : Nat} (h : b ∣ n) (hk : IsOrd (n / b) b k) : IsOrd n b (k + 1) := by
  obtain ⟨r, e, hr⟩ := hk
  refine ⟨r, ?_, hr⟩
  rw [Nat.pow_succ', Nat.mul_assoc, ← e, Nat.mul_div_cancel' h]
theorem IsOrd.le {b k j r s : Nat} (hb : 1 < b) (e : b ^ k * r = b ^ j * s) (hr : ¬ b ∣ r) : j ≤ k := by
  refine Nat.le_of_not_lt fun h => hr ?_
  obtain ⟨d, rfl⟩ := Nat.exists_eq_add_of_lt h
  have e2 : b ^ k * r = b ^ k * (b * (b ^ d * s)) := by
    rw [e, Nat.add_right_comm, show k + 1 + d = k + (d + 1) by omega, Nat.pow_add, Nat.pow_succ', Nat.mul_assoc, Nat.mul_assoc]
  exact ⟨_, Nat.eq_of_mul_eq_mul_left (Nat.pow_pos (by omega)) e2⟩
theorem IsOrd.one {n b k j : Nat} (hb : 1 < b) (h : IsOrd n b k) (g : IsOrd n b j) : k = j := by
  obtain ⟨r, e1, hr⟩ := h
  obtain ⟨s, e2, hs⟩ := g
  exact Nat.le_antisymm (IsOrd.le hb (e2.symm.trans e1) hs) (IsOrd.le hb (e1.symm.trans e2) hr)
/-! ### the bases, refined -/
def pr : List Nat → Nat
  | [] => 1
  | x :: r => x * pr r
theorem pr_app : ∀ a b : List Nat, pr (a ++ b) = pr a * pr b
  | [], b => (Nat.one_mul _).symm
  | x :: r, b => by
    show x * pr (r ++ b) = x * pr r * pr b
    rw [pr_app r b, Nat.mul_assoc]
theorem pr_pos : ∀ {a : List Nat}, (∀ x ∈ a, 0 < x) → 0 < pr a
  | [], _ => Nat.one_pos
  | x :: r, h => Nat.mul_pos (h x (List.mem_cons_self ..)) (pr_pos fun y hy => h y (List.mem_cons_of_mem _ hy))
structure Rf (ts found pending : List Nat) : Prop where
  cop : Cop found
  pos : ∀ p ∈ pending, 0 < p
  gen : ∀ x ∈ ts, G (found ++ pending) x
def mu (found pending : List Nat) : Nat := 3 * (pr found * pr pending) + pending.length
theorem Rf.fpos {ts found pending : List Nat} (h : Rf ts found pending) : ∀ x ∈ found, 0 < x := fun x hx => by
  have := h.cop.2 x hx
  omega
/-- a part that shares nothing -/
theorem Rf.add {ts found ps : List Nat} {p : Nat} (h : Rf ts found (ps ++ [p])) (hs : ∀ b ∈ found, Nat.gcd b p ≤ 1) (h1 : 1 < p) : Rf ts (found ++ [p]) ps ∧ mu (found ++ [p]) ps < mu found (ps ++ [p]) := by
  refine ⟨⟨⟨?_, fun b hb => ?_⟩, fun x hx => h.pos x (List.mem_append_left _ hx), fun x hx => (h.gen x hx).trans fun y hy => .mem ?_⟩, ?_⟩
  · refine List.pairwise_append.mpr ⟨h.cop.1, List.pairwise_singleton .., fun a ha b hb => ?_⟩
    rw [List.mem_singleton.mp hb]
    have h2 := hs a ha
    have h3 := Nat.gcd_pos_of_pos_right a (show 0 < p by omega)
    show Nat.gcd a p = 1
    omega
  · rcases List.mem_append.mp hb with z | z
    · exact h.cop.2 b z
    · rw [List.mem_singleton.mp z]
      exact h1
  · rcases List.mem_append.mp hy with z | z
    · exact List.mem_append_left _ (List.mem_append_left _ z)
    · rcases List.mem_append.mp z with z | z
      · exact List.mem_append_right _ z
      · exact List.mem_append_left _ (List.mem_append_right _ z)
  · unfold mu
    rw [pr_app, pr_app, List.length_append]
    have e : pr found * pr [p] * pr ps = pr found * (pr ps * pr [p]) := by rw [Nat.mul_assoc, Nat.mul_comm (pr [p])]
    rw [e]
    show _ < _ + (ps.length + 1)
    omega
theorem Rf.drop {ts found ps : List Nat} {p : Nat} (h : Rf ts found (ps ++ [p])) (h1 : ¬ 1 < p) : Rf ts found ps ∧ mu found ps < mu found (ps ++ [p]) := by
  have e1 : p = 1 := by
    have := h.pos p (List.mem_append_right _ (List.mem_singleton.mpr rfl))
    omega
  subst e1
  refine ⟨⟨h.cop, fun x hx => h.pos x (List.mem_append_left _ hx), fun x hx => (h.gen x hx).trans fun y hy => ?_⟩, ?_⟩
  · rcases List.mem_append.mp hy with z | z
    · exact .mem (List.mem_append_left _ z)
    · rcases List.mem_append.mp z with z | z
      · exact .mem (List.mem_append_right _ z)
      · rw [List.mem_singleton.mp z]
        exact .one
  · unfold mu
    rw [pr_app, List.length_append]
    show 3 * (pr found * pr ps) + ps.length < 3 * (pr found * (pr ps * (1 * 1))) + (ps.length + 1)
    rw [Nat.mul_one]
    omega
theorem Rf.split {ts l1 l2 ps : List Nat} {b p : Nat} (h : Rf ts (l1 ++ b :: l2) (ps ++ [p])) (hs : 1 < Nat.gcd b p) :
    Rf ts (l1 ++ l2) (ps ++ [b / Nat.gcd b p, Nat.gcd b p, p / Nat.gcd b p]) ∧ mu (l1 ++ l2) (ps ++ [b / Nat.gcd b p, Nat.gcd b p, p / Nat.gcd b p]) < mu (l1 ++ b :: l2) (ps ++ [p]) := by
  have hb : 0 < b := h.fpos b (List.mem_append_right _ (List.mem_cons_self ..))
  have hp : 0 < p := h.pos p (List.mem_append_right _ (List.mem_singleton.mpr rfl))
  have d1 : Nat.gcd b p ∣ b := Nat.gcd_dvd_left b p
  have d2 : Nat.gcd b p ∣ p := Nat.gcd_dvd_right b p
  generalize Nat.gcd b p = c at hs d1 d2
  obtain ⟨x, rfl⟩ := d1
  obtain ⟨y, rfl⟩ := d2
  rw [Nat.mul_div_cancel_left x (by omega), Nat.mul_div_cancel_left y (by omega)]
  have hx : 0 < x := Nat.pos_of_mul_pos_left hb
  have hy : 0 < y := Nat.pos_of_mul_pos_left hp
  have hsub : (l1 ++ l2).Sublist (l1 ++ c * x :: l2) := List.Sublist.append_left (List.sublist_cons_self ..) l1
  refine ⟨⟨⟨List.Pairwise.sublist hsub h.cop.1, fun d hd => h.cop.2 d (hsub.subset hd)⟩, fun z hz => ?_, fun z hz => (h.gen z hz).trans fun w hw => ?_⟩, ?_⟩
  · rcases List.mem_append.mp hz with q | q
    · exact h.pos z (List.mem_append_left _ q)
    · simp only [List.mem_cons, List.not_mem_nil, or_false] at q
      rcases q with rfl | rfl | rfl <;> omega
  · have mem1 : ∀ v, v ∈ [x, c, y] → G (l1 ++ l2 ++ (ps ++ [x, c, y])) v := fun v hv => .mem (List.mem_append_right _ (List.mem_append_right _ hv))
    rcases List.mem_append.mp hw with q | q
    · rcases List.mem_append.mp q with q | q
      · exact .mem (List.mem_append_left _ (List.mem_append_left _ q))
      · rcases List.mem_cons.mp q with q | q
        · rw [q]
          exact (mem1 c (by simp)).mulG (mem1 x (by simp))
        · exact .mem (List.mem_append_left _ (List.mem_append_right _ q))
    · rcases List.mem_append.mp q with q | q
      · exact .mem (List.mem_append_right _ (List.mem_append_left _ q))
      · rw [List.mem_singleton.mp q]
        exact (mem1 c (by simp)).mulG (mem1 y (by simp))
  · unfold mu
    rw [pr_app, pr_app, pr_app, pr_app, List.length_append, List.length_append]
    show 3 * (pr l1 * pr l2 * (pr ps * (x * (c * (y * 1))))) + (ps.length + 3) < 3 * (pr l1 * (c * x * pr l2) * (pr ps * (c * y * 1))) + (ps.length + 1)
    have e1 : pr l1 * (c * x * pr l2) * (pr ps * (c * y * 1)) = c * (pr l1 * pr l2 * (pr ps * (x * (c * (y * 1))))) := by
      simp only [Nat.mul_one, Nat.mul_assoc, Nat.mul_left_comm, Nat.mul_comm]
    rw [e1]
    have hl : 0 < pr l1 * pr l2 * (pr ps * (x * (c * (y * 1)))) := by
      refine Nat.mul_pos (Nat.mul_pos (pr_pos fun d hd => h.fpos d (List.mem_append_left _ hd)) (pr_pos fun d hd => h.fpos d (List.mem_append_right _ (List.mem_cons_of_mem _ hd)))) (Nat.mul_pos (pr_pos fun d hd => h.pos d (List.mem_append_left _ hd)) ?_)
      exact Nat.mul_pos hx (Nat.mul_pos (by omega) (by omega))
    generalize pr l1 * pr l2 * (pr ps * (x * (c * (y * 1)))) = P at hl
    have h2 : 2 * P ≤ c * P := Nat.mul_le_mul_right P (by omega)
    omega
end K54
set_option maxHeartbeats 8000000
namespace K54
open PySem

/-! ### a size's value by orders -/
/-- exponents, each with the orders of its number -/
abbrev Ls : Type := List (Int × (Nat → Nat))
def upE : Ls → Nat → Nat
  | [], _ => 0
  | (e, f) :: r, b => (if 0 < e then e.toNat else 0) * f b + upE r b
def dnE : Ls → Nat → Nat
  | [], _ => 0
  | (e, f) :: r, b => (if e < 0 then (-e).toNat else 0) * f b + dnE r b
def sm : Ls → Nat → Int
  | [], _ => 0
  | (e, f) :: r, b => e * (f b : Nat) + sm r b
/-- the values above and below -/
def above (bs : List Nat) : Ls → Nat
  | [] => 1
  | (e, f) :: r => (if 0 < e then pw f bs ^ e.toNat else 1) * above bs r
def below (bs : List Nat) : Ls → Nat
  | [] => 1
  | (e, f) :: r => (if e < 0 then pw f bs ^ (-e).toNat else 1) * below bs r
theorem above_eq (bs : List Nat) : ∀ l : Ls, above bs l = pw (upE l) bs
  | [] => (pw_zero bs).symm
  | (e, f) :: r => by
    show (if 0 < e then pw f bs ^ e.toNat else 1) * above bs r = pw (fun b => (if 0 < e then e.toNat else 0) * f b + upE r b) bs
    rw [above_eq bs r, pw_add, pw_mul]
    split
    · rfl
    · rw [Nat.pow_zero]
theorem below_eq (bs : List Nat) : ∀ l : Ls, below bs l = pw (dnE l) bs
  | [] => (pw_zero bs).symm
  | (e, f) :: r => by
    show (if e < 0 then pw f bs ^ (-e).toNat else 1) * below bs r = pw (fun b => (if e < 0 then (-e).toNat else 0) * f b + dnE r b) bs
    rw [below_eq bs r, pw_add, pw_mul]
    split
    · rfl
    · rw [Nat.pow_zero]
theorem sm_eq (b : Nat) : ∀ l : Ls, sm l b = (upE l b : Int) - (dnE l b : Int)
  | [] => rfl
  | (e, f) :: r => by
    show e * (f b : Nat) + sm r b = (((if 0 < e then e.toNat else 0) * f b + upE r b : Nat) : Int) - (((if e < 0 then (-e).toNat else 0) * f b + dnE r b : Nat) : Int)
    rw [sm_eq b r]
    by_cases h1 : 0 < e
    · have h2 : ¬ e < 0 := by omega
      rw [if_pos h1, if_neg h2, Nat.zero_mul, Nat.zero_add]
      have e1 : ((e.toNat * f b + upE r b : Nat) : Int) = e * (f b : Nat) + (upE r b : Nat) := by
        rw [Int.natCast_add, Int.natCast_mul, Int.toNat_of_nonneg (by omega)]
      rw [e1]
      omega
    · by_cases h2 : e < 0
      · rw [if_neg h1, if_pos h2, Nat.zero_mul, Nat.zero_add]
        have e1 : (((-e).toNat * f b + dnE r b : Nat) : Int) = -e * (f b : Nat) + (dnE r b : Nat) := by
          rw [Int.natCast_add, Int.natCast_mul, Int.toNat_of_nonneg (by omega)]
        rw [e1, Int.neg_mul]
        omega
      · have : e = 0 := by omega
        subst this
        simp
theorem below_pos {bs : List Nat} (hc : Cop bs) (l : Ls) : 0 < below bs l := by
  rw [below_eq]
  exact pw_pos hc.2
/-- whole: all sums are at least 0, and the value is the product of the bases' powers -/
theorem value_whole {bs : List Nat} (l : Ls) (h : ∀ b ∈ bs, 0 ≤ sm l b) : above bs l = below bs l * pw (fun b => (sm l b).toNat) bs := by
  rw [above_eq, below_eq, ← pw_add]
  exact pw_congr fun b hb => by
    have h1 := h b hb
    rw [sm_eq] at h1 ⊢
    omega
theorem value_not {bs : List Nat} (hc : Cop bs) (l : Ls) {b : Nat} (hb : b ∈ bs) (h : sm l b < 0) : ¬ below bs l ∣ above bs l := fun z => by
  rw [above_eq, below_eq] at z
  have h1 := (pw_dvd hc).mp z b hb
  rw [sm_eq] at h
  omega
end K54
set_option maxHeartbeats 8000000
namespace K54
open PySem PySem.Spec PyProof.Rows L2

/-! ### order_in -/
abbrev sOrd : Stmt := top 22
def spOrd : Sp := fun vs H Q _ => ∃ n b : Nat, vs = [.int n, .int b] ∧ 0 < n ∧ 1 < b ∧ b < 1073741824 ∧ ∀ k : Nat, IsOrd n b k → Q (.int k) H
section
variable {P : Program} {w : World} {K : PySem.W.Frag} {mg : Str → Option Value} {base : Heap}
theorem scOrd : FnScope ["number", "base", "order"] ["number", "base"] (defScope sOrd) :=
  ⟨rfl, rfl, rfl, by decide +kernel, rfl, by decide +kernel, by decide +kernel⟩
theorem ok_ord {f : Addr} {fd : FuncData} (F : Fun K "order_in" "order_in" sOrd f fd) : FnOk P w K mg base CX0 1 f fd ["number", "base"] spOrd := by
  refine F.ok scOrd (fun vs H Q E h => ?_) (fun cdv A outer s H vs Q E hr h => ?_)
  · obtain ⟨n, b, rfl, _⟩ := h
    rfl
  · obtain ⟨n, b, rfl, n0, b1, b2, k⟩ := h
    refine ⟨_, pss_cons (ps_set (i := 2) scOrd.nd rfl (.inl rfl) pe_int)
      (pss_cons (ps_while PassesOwn.never (pt_cmpR op_eq (pe_op op_mod (pv 0) (pv 1)) pe_int (nomark _))
        (pss_cons (ps_set (i := 0) scOrd.nd rfl (.inl rfl) (pe_op op_fdiv (pv 0) (pv 1))) (pss_one (ps_set (i := 2) scOrd.nd rfl (.inl rfl) (pe_op op_add (pv 2) pe_int)))))
      (pss_one (ps_ret (pv 2)))), ?_⟩
    refine ⟨fun μ σ H2 => H2 = H ∧ ∃ m j : Nat, σ = [some (.int m), some (.int b), some (.int j)] ∧ 0 < m ∧ μ = m ∧ ∀ i, IsOrd m b i → IsOrd n b (j + i), ⟨n, rfl, n, 0, rfl, n0, rfl, fun i h => by rw [Nat.zero_add]; exact h⟩, ?_⟩
    rintro μ σ H2 ⟨rfl, m, j, rfl, m0, rfl, hj⟩
    refine ⟨_, rfl, _, rfl, _, _, rfl, rfl, (by show (0 : Int) < (b : Int); omega), ?_⟩
    refine ⟨rfl, _, rfl, ?_⟩
    have em : ((μ : Nat) : Int) % (b : Int) = ((μ % b : Nat) : Int) := by omega
    by_cases hd : b ∣ μ
    · have h0 : μ % b = 0 := Nat.mod_eq_zero_of_dvd hd
      refine iteT' (decide_eq_true (show V.int (((μ : Nat) : Int) % (b : Int)) = V.int 0 by rw [em, h0]; rfl)) ?_
      refine ⟨fun σ' H' => H' = H2 ∧ σ' = [some (.int ((μ / b : Nat) : Int)), some (.int b), some (.int ((j + 1 : Nat) : Int))], ?_, ?_⟩
      · rintro σ' H' ⟨rfl, rfl⟩
        refine ⟨μ / b, Nat.div_lt_self m0 b1, rfl, μ / b, j + 1, rfl, Nat.div_pos (Nat.le_of_dvd m0 hd) (by omega), rfl, fun i h => ?_⟩
        rw [Nat.add_assoc, Nat.add_comm 1]
        exact hj _ (.succ hd h)
      · refine ⟨_, rfl, _, rfl, _, _, rfl, rfl, ⟨by show (0 : Int) < (b : Int); omega, by show (b : Int) < 1073741824; omega⟩, ?_⟩
        refine ⟨_, rfl, _, _, rfl, rfl, rfl, ?_⟩
        have e1 : ((μ : Nat) : Int) / (b : Int) = ((μ / b : Nat) : Int) := by omega
        show [some (V.int (((μ : Nat) : Int) / (b : Int))), some (V.int b), some (V.int ((j : Nat) + 1))] = _
        rw [e1]
        rfl
    · have h0 : μ % b ≠ 0 := fun z => hd (Nat.dvd_of_mod_eq_zero z)
      refine iteN' (fun z => h0 (by have z2 : ((μ : Nat) : Int) % (b : Int) = 0 := V.int.inj z; omega)) ?_
      exact ⟨_, rfl, k j (hj 0 (.zero hd))⟩
end
end K54
set_option maxHeartbeats 8000000
namespace K54
open PySem PySem.Spec PyProof.Rows L2

/-! ### _sharing -/
abbrev sSha : Stmt := top 24
/-- the numbers of a list -/
def nv (bs : List Nat) : List V := bs.map fun (b : Nat) => V.int (Int.ofNat b)
def spSha : Sp := fun vs H Q _ => ∃ (l : Addr) (bs : List Nat) (p : Nat), vs = [.ref l, .int p] ∧ H l = some (.lst (nv bs)) ∧
  ((∀ b ∈ bs, Nat.gcd b p ≤ 1) → ∀ H', Same H H' → Q .non H') ∧ (∀ l1 b l2, bs = l1 ++ b :: l2 → (∀ c ∈ l1, Nat.gcd c p ≤ 1) → 1 < Nat.gcd b p → ∀ H', Same H H' → Q (.int (l1.length : Nat)) H')
section
variable {P : Program} {w : World} {K : PySem.W.Frag} {mg : Str → Option Value} {base : Heap}
def NSh : List Str := ["bases", "number", "at", "base"]
theorem scSha : FnScope NSh ["bases", "number"] (defScope sSha) :=
  ⟨rfl, rfl, rfl, by decide +kernel, rfl, by decide +kernel, by decide +kernel⟩
theorem ok_sha {f : Addr} {fd : FuncData} (F : Fun K "_sharing" "_sharing" sSha f fd) (eN : mg "enumerate" = none) (gG : mg "gcd" = some (.builtin "math.gcd")) : FnOk P w K mg base CX0 1 f fd ["bases", "number"] spSha := by
  refine F.ok scSha (fun vs H Q E h => ?_) (fun cdv A outer s H vs Q E hr h => ?_)
  · obtain ⟨l, bs, p, rfl, _⟩ := h
    rfl
  · obtain ⟨l, bs, p, rfl, hl, k0, k1⟩ := h
    refine ⟨_, pss_cons (ps_for PassesOwn.never rfl (pi_enum (by rfl) eN (pa_cons (pv 0) pa_nil)) (pg_tup rfl (pgs_cons (pg_name (i := 2) scSha.nd rfl (Or.inl rfl)) (pgs_cons (pg_name (i := 3) scSha.nd rfl (Or.inl rfl)) pgs_nil)))
        (pss_one (ps_if (pt_cmpR op_gt (pe_callBfun cr_gcd (by rfl) gG (pa_cons (pv 3) (pa_cons (pv 1) pa_nil))) pe_int (nomark _)) (pss_one (ps_ret (pv 2))) pss_nil)))
      (pss_one (ps_ret pe_non)), ?_⟩
    refine ⟨_, rfl, l, _, rfl, SqL.of hl, for_it (walk_enum (K := K) (a := l) (xs := nv bs)) (fun i σ H2 => (∃ o2 o3, σ = [some (.ref l), some (.int p), o2, o3]) ∧ Same H H2 ∧ ∀ c ∈ bs.take i, Nat.gcd c p ≤ 1)
      ⟨⟨none, none, rfl⟩, Same.refl H, fun c hc => by simp at hc⟩ (fun i σ H2 _ h => SqL.of (h.2.1 _ _ hl)) ?_ ?_⟩
    · rintro i v σ H2 H3 hi ⟨⟨o2, o3, rfl⟩, S2, hc⟩ ⟨T, y, z, rfl, nT, rfl, e1, e2⟩
      unfold nv at hi e2
      rw [List.length_map] at hi
      have ez : z = V.int (Int.ofNat bs[i]) := by
        dsimp only at e2
        rw [List.getElem?_map, List.getElem?_eq_getElem hi] at e2
        exact (Option.some.inj e2).symm
      have ey : y = V.int (i : Nat) := (Option.some.inj e1).symm
      subst ez
      subst ey
      have S3 : Same H2 (upd H2 T (.tup [V.int (i : Nat), V.int (Int.ofNat bs[i])])) := fresh_upd nT
      refine ⟨T, _, rfl, SqT.of upd_same, rfl, _, _, rfl, _, _, rfl, rfl, ?_⟩
      refine ⟨_, rfl, _, rfl, _, _, rfl, ?_⟩
      refine ⟨_, _, rfl, rfl, _, rfl, ?_⟩
      have eg : ((Int.ofNat bs[i]).natAbs).gcd ((p : Int).natAbs) = Nat.gcd bs[i] p := rfl
      rw [eg]
      refine ite2 (fun h => ?_) fun h => ?_
      · have h' : 1 < Nat.gcd bs[i] p := by
          have := of_decide_eq_true h
          omega
        refine ⟨_, rfl, ?_⟩
        have e3 : bs = bs.take i ++ bs[i] :: bs.drop (i + 1) := by
          rw [← List.drop_eq_getElem_cons hi, List.take_append_drop]
        have z := k1 (bs.take i) bs[i] (bs.drop (i + 1)) e3 hc h' _ (S2.trans S3)
        rw [List.length_take, Nat.min_eq_left (Nat.le_of_lt hi)] at z
        exact z
      · have h' : Nat.gcd bs[i] p ≤ 1 := by
          have := of_decide_eq_false (Bool.eq_false_iff.mpr h)
          omega
        refine ⟨⟨_, _, rfl⟩, S2.trans S3, fun c hc2 => ?_⟩
        rw [List.take_add_one, List.getElem?_eq_getElem hi] at hc2
        rcases List.mem_append.mp hc2 with q | q
        · exact hc c q
        · rw [List.mem_singleton.mp q]
          exact h'
    · rintro σ H2 ⟨⟨o2, o3, rfl⟩, S2, hc⟩
      unfold nv at hc
      rw [List.length_map, List.take_length] at hc
      exact k0 hc H2 S2
end
end K54
set_option maxHeartbeats 8000000
namespace K54
open PySem PySem.Spec PyProof.Rows L2

/-! ### _refined: the state's bounds -/
structure Lg (m P0 : Nat) (found pending : List Nat) : Prop where
  ex : ∃ e, pr found * pr pending < 2 ^ e ∧ 3 * e + pending.length ≤ m
  le : pr found * pr pending ≤ P0
  small : ∀ x ∈ found ++ pending, x < 1073741824
theorem len_pr : ∀ {a : List Nat}, (∀ x ∈ a, 1 < x) → 2 ^ a.length ≤ pr a
  | [], _ => Nat.le_refl _
  | x :: r, h => by
    show 2 ^ (r.length + 1) ≤ x * pr r
    rw [Nat.pow_succ, Nat.mul_comm]
    exact Nat.mul_le_mul (h x (List.mem_cons_self ..)) (len_pr fun y hy => h y (List.mem_cons_of_mem _ hy))
theorem Lg.flen {ts : List Nat} {m P0 : Nat} {found pending : List Nat} (h : Lg m P0 found pending) (r : Rf ts found pending) : found.length ≤ m := by
  obtain ⟨e, h1, h2⟩ := h.ex
  have h3 := len_pr r.cop.2
  have h4 := pr_pos r.pos
  have h5 : 2 ^ found.length < 2 ^ e := Nat.lt_of_le_of_lt (Nat.le_trans h3 (Nat.le_mul_of_pos_right _ h4)) h1
  have h6 := (Nat.pow_lt_pow_iff_right (show 1 < 2 by decide)).mp h5
  omega
theorem Lg.plen {m P0 : Nat} {found pending : List Nat} (h : Lg m P0 found pending) : pending.length ≤ m := by
  obtain ⟨e, h1, h2⟩ := h.ex
  omega
theorem Lg.add {m P0 : Nat} {found ps : List Nat} {p : Nat} (h : Lg m P0 found (ps ++ [p])) : Lg (m - 1) P0 (found ++ [p]) ps ∧ 0 < m := by
  obtain ⟨⟨e, h1, h2⟩, h3, h4⟩ := h
  have ee : pr (found ++ [p]) * pr ps = pr found * pr (ps ++ [p]) := by
    rw [pr_app, pr_app, Nat.mul_assoc, Nat.mul_comm (pr [p])]
  rw [List.length_append] at h2
  have h2' : 3 * e + (ps.length + 1) ≤ m := h2
  refine ⟨⟨⟨e, by rw [ee]; exact h1, by omega⟩, by rw [ee]; exact h3, fun x hx => h4 x ?_⟩, by omega⟩
  simp only [List.mem_append] at hx ⊢
  rcases hx with (z | z) | z
  · exact .inl z
  · exact .inr (.inr z)
  · exact .inr (.inl z)
theorem Lg.drop {m P0 : Nat} {found ps : List Nat} (h : Lg m P0 found (ps ++ [1])) : Lg (m - 1) P0 found ps ∧ 0 < m := by
  obtain ⟨⟨e, h1, h2⟩, h3, h4⟩ := h
  have ee : pr (ps ++ [1]) = pr ps := by
    rw [pr_app]
    exact Nat.mul_one _
  rw [ee] at h1 h3
  rw [List.length_append] at h2
  have h2' : 3 * e + (ps.length + 1) ≤ m := h2
  exact ⟨⟨⟨e, h1, by omega⟩, h3, fun x hx => h4 x (by
    simp only [List.mem_append] at hx ⊢
    rcases hx with z | z
    · exact .inl z
    · exact .inr (.inl z))⟩, by omega⟩
theorem Lg.split {ts : List Nat} {m P0 : Nat} {l1 l2 ps : List Nat} {b p : Nat} (h : Lg m P0 (l1 ++ b :: l2) (ps ++ [p])) (r : Rf ts (l1 ++ b :: l2) (ps ++ [p])) (hs : 1 < Nat.gcd b p) :
    Lg (m - 1) P0 (l1 ++ l2) (ps ++ [b / Nat.gcd b p, Nat.gcd b p, p / Nat.gcd b p]) ∧ 0 < m := by
  obtain ⟨⟨e, h1, h2⟩, h3, h4⟩ := h
  have hb : 0 < b := r.fpos b (List.mem_append_right _ (List.mem_cons_self ..))
  have hp : 0 < p := r.pos p (List.mem_append_right _ (List.mem_singleton.mpr rfl))
  have sb := h4 b (by simp)
  have sp := h4 p (by simp)
  have d1 : Nat.gcd b p ∣ b := Nat.gcd_dvd_left b p
  have d2 : Nat.gcd b p ∣ p := Nat.gcd_dvd_right b p
  have hl : 0 < pr (l1 ++ b :: l2) * pr (ps ++ [p]) := Nat.mul_pos (pr_pos r.fpos) (pr_pos r.pos)
  generalize Nat.gcd b p = c at hs d1 d2
  obtain ⟨x, rfl⟩ := d1
  obtain ⟨y, rfl⟩ := d2
  rw [Nat.mul_div_cancel_left x (by omega), Nat.mul_div_cancel_left y (by omega)]
  have e1 : pr (l1 ++ c * x :: l2) * pr (ps ++ [c * y]) = c * (pr (l1 ++ l2) * pr (ps ++ [x, c, y])) := by
    rw [pr_app, pr_app, pr_app, pr_app]
    show pr l1 * (c * x * pr l2) * (pr ps * (c * y * 1)) = c * (pr l1 * pr l2 * (pr ps * (x * (c * (y * 1)))))
    simp only [Nat.mul_one, Nat.mul_assoc, Nat.mul_left_comm, Nat.mul_comm]
  rw [e1] at h1 h3 hl
  have q1 : pr (l1 ++ l2) * pr (ps ++ [x, c, y]) ≤ c * (pr (l1 ++ l2) * pr (ps ++ [x, c, y])) := Nat.le_mul_of_pos_left _ (by omega)
  have q2 : 2 * (pr (l1 ++ l2) * pr (ps ++ [x, c, y])) ≤ c * (pr (l1 ++ l2) * pr (ps ++ [x, c, y])) := Nat.mul_le_mul_right _ hs
  have q0 : 0 < pr (l1 ++ l2) * pr (ps ++ [x, c, y]) := Nat.pos_of_mul_pos_left hl
  have he : 0 < e := by
    refine Nat.pos_of_ne_zero fun z => ?_
    subst z
    rw [Nat.pow_zero] at h1
    omega
  obtain ⟨d, rfl⟩ : ∃ d, e = d + 1 := ⟨e - 1, by omega⟩
  rw [Nat.pow_succ] at h1
  rw [List.length_append] at h2
  have h2' : 3 * (d + 1) + (ps.length + 1) ≤ m := h2
  refine ⟨⟨⟨d, by omega, by rw [List.length_append]; show _ + (_ + 3) ≤ _; omega⟩, by omega, fun z hz => ?_⟩, by omega⟩
  have sx : x < 1073741824 := Nat.lt_of_le_of_lt (Nat.le_mul_of_pos_left x (by omega)) sb
  have sy : y < 1073741824 := Nat.lt_of_le_of_lt (Nat.le_mul_of_pos_left y (by omega)) sp
  have sc : c < 1073741824 := Nat.lt_of_le_of_lt (Nat.le_mul_of_pos_right c (Nat.pos_of_mul_pos_left hb)) sb
  simp only [List.mem_append, List.mem_cons, List.not_mem_nil, or_false] at hz
  rcases hz with (z1 | z1) | z1 | z1
  · exact h4 z (by simp [z1])
  · exact h4 z (by simp [z1])
  · exact h4 z (by simp [z1])
  · rcases z1 with rfl | rfl | rfl <;> assumption
end K54
set_option maxHeartbeats 8000000
namespace K54
open PySem PySem.Spec PyProof.Rows L2

/-! ### _refined -/
abbrev sRef : Stmt := top 23
def spRef : Sp := fun vs H Q _ => ∃ (l : Addr) (bs : List Nat) (n : Nat) (ts : List Nat), vs = [.ref l, .int n] ∧ H l = some (.lst (nv bs)) ∧ Rf ts bs [n] ∧ Lg 300000 (pr bs * n) bs [n] ∧
  ∀ H' r bs', Same H H' → H r = none → H' r = some (.lst (nv bs')) → Rf ts bs' [] → (∀ x ∈ bs', x < 1073741824) → pr bs' ≤ pr bs * n → Q (.ref r) H'
def NRe : List Str := ["bases", "number", "found", "pending", "part", "at", "base", "common"]
section
variable {P : Program} {w : World} {K : PySem.W.Frag} {mg : Str → Option Value} {base : Heap}
theorem scRef : FnScope NRe ["bases", "number"] (defScope sRef) :=
  ⟨rfl, rfl, rfl, by decide +kernel, rfl, by decide +kernel, by decide +kernel⟩
theorem nv_app (a b : List Nat) : nv (a ++ b) = nv a ++ nv b := List.map_append
theorem nv_len (a : List Nat) : (nv a).length = a.length := List.length_map ..
theorem ok_ref {f fS : Addr} {fd fdS : FuncData} (F : Fun K "_refined" "_refined" sRef f fd) (lN : mg "list" = none) (gG : mg "gcd" = some (.builtin "math.gcd"))
    (GS : FnOk P w K mg base CX0 1 fS fdS ["bases", "number"] spSha) (kS : PySem.W.keepIn K (.ref fS) = true) (bS : Binds K fdS ["bases", "number"] []) (gS : mg "_sharing" = some (.ref fS)) :
    FnOk P w K mg base CX0 2 f fd ["bases", "number"] spRef := by
  refine F.ok scRef (fun vs H Q E h => ?_) (fun cdv A outer s H vs Q E hr h => ?_)
  · obtain ⟨l, bs, n, ts, rfl, _⟩ := h
    rfl
  · obtain ⟨l, bs, n, ts, rfl, hl, hR, hL, k⟩ := h
    refine ⟨_, pss_cons (ps_set (i := 2) scRef.nd rfl (.inl rfl) (pe_callTy call_list_of (by rfl) lN (by decide +kernel) (pa_cons (pv 0) pa_nil)))
      (pss_cons (ps_set (i := 3) scRef.nd rfl (.inl rfl) (pe_lst (pa_cons (pv 1) pa_nil)))
      (pss_cons (ps_while PassesOwn.never (pt_truth (pv 3) (by intro _; rfl))
        (pss_cons (ps_set (i := 4) scRef.nd rfl (.inl rfl) (pe_bm0 PySem.F.plainAttrs_list PySem.F.slot_list_pop PySem.F.type_list_pop mt_pop (pv 3)))
        (pss_cons (ps_set (i := 5) scRef.nd rfl (.inl rfl) (pe_call GS hr rfl gS kS bS .nil pass0 (pa_cons (pv 2) (pa_cons (pv 4) pa_nil))))
        (pss_one (ps_if (pt_cmpR op_isN (pv 5) pe_non (nomark _))
          (pss_one (ps_if (pt_cmpR op_gt (pv 4) pe_int (nomark _)) (pss_one (ps_expr (pe_bm PySem.F.plainAttrs_list PySem.F.slot_list_append PySem.F.type_list_append mt_append (pv 2) (pa_cons (pv 4) pa_nil)))) pss_nil))
          (pss_cons (ps_set (i := 6) scRef.nd rfl (.inl rfl) (pe_bm PySem.F.plainAttrs_list PySem.F.slot_list_pop PySem.F.type_list_pop mt_popAt (pv 2) (pa_cons (pv 5) pa_nil)))
          (pss_cons (ps_set (i := 7) scRef.nd rfl (.inl rfl) (pe_callBfun cr_gcd (by rfl) gG (pa_cons (pv 6) (pa_cons (pv 4) pa_nil))))
          (pss_one (ps_expr (pe_bm PySem.F.plainAttrs_list PySem.F.slot_list_extend PySem.F.type_list_extend mt_extend (pv 3) (pa_cons (pe_lst (pa_cons (pe_op op_fdiv (pv 6) (pv 7)) (pa_cons (pv 7) (pa_cons (pe_op op_fdiv (pv 4) (pv 7)) pa_nil)))) pa_nil)))))))))))
      (pss_one (ps_ret (pv 2))))), ?_⟩
    refine ⟨_, rfl, l, _, rfl, .inl (SqL.of hl), fun a1 n1 => ?_⟩
    have S1 := fresh_upd (o := .lst (nv bs)) n1
    have e1 : upd H a1 (.lst (nv bs)) a1 = some (.lst (nv bs)) := upd_same
    generalize upd H a1 (.lst (nv bs)) = H1 at S1 e1
    refine ⟨_, rfl, by rw [sizeLine_eq]; show 1 ≤ 16777216; decide, fun a2 n2 => ?_⟩
    have S2 := fresh_upd (o := .lst [V.int (n : Int)]) n2
    have e2 : upd H1 a2 (.lst [V.int (n : Int)]) a2 = some (.lst (nv [n])) := upd_same
    have e12 := S2 _ _ e1
    have a12 : a1 ≠ a2 := ne_of_none e1 n2
    have n20 : H a2 = none := by
      cases e : H a2 with
      | none => rfl
      | some o =>
        have z := S1 _ _ e
        rw [n2] at z
        cases z
    have S02 := S1.trans S2
    generalize upd H1 a2 (.lst [V.int (n : Int)]) = H2 at S2 e2 e12 S02
    refine ⟨fun m σ H3 => m ≤ 300000 ∧ Same H H3 ∧ ∃ found pending : List Nat, (∃ o4 o5 o6 o7, σ = [some (.ref l), some (.int n), some (.ref a1), some (.ref a2), o4, o5, o6, o7]) ∧ H3 a1 = some (.lst (nv found)) ∧ H3 a2 = some (.lst (nv pending)) ∧
      Rf ts found pending ∧ Lg m (pr bs * n) found pending, ⟨300000, Nat.le_refl _, S02, bs, [n], ⟨none, none, none, none, rfl⟩, e12, e2, hR, hL⟩, ?_⟩
    rintro m σ H3 ⟨hm, S3, found, pending, ⟨o4, o5, o6, o7, rfl⟩, h1, h2, R, L⟩
    by_cases hp : pending = []
    · subst hp
      refine ⟨_, rfl, _, .inl ⟨_, SqL.of h2, rfl⟩, iteF ?_⟩
      exact ⟨_, rfl, k H3 a1 found S3 n1 h1 R (fun x hx => L.small x (List.mem_append_left _ hx)) (by
        have z := L.le
        have e : pr ([] : List Nat) = 1 := rfl
        rw [e, Nat.mul_one] at z
        exact z)⟩
    · obtain ⟨ps, p, rfl⟩ : ∃ ps p, pending = ps ++ [p] := by
        rcases List.eq_nil_or_concat pending with z | ⟨a, b, z⟩
        · exact absurd z hp
        · exact ⟨a, b, by rw [z, List.concat_eq_append]⟩
      have hpl := L.plen
      have hfl := L.flen R
      rw [List.length_append] at hpl
      have hpl' : ps.length + 1 ≤ m := hpl
      have en : nv (ps ++ [p]) = nv ps ++ [V.int (Int.ofNat p)] := nv_app ps [p]
      have ee : (!(nv (ps ++ [p])).isEmpty) = true := by
        rw [en]
        simp
      refine ⟨_, rfl, _, .inl ⟨_, SqL.of h2, rfl⟩, ?_⟩
      refine iteT' ee ?_
      refine ⟨fun σ' H' => Same H H' ∧ ∃ found' pending' : List Nat, (∃ o4 o5 o6 o7, σ' = [some (.ref l), some (.int n), some (.ref a1), some (.ref a2), o4, o5, o6, o7]) ∧ H' a1 = some (.lst (nv found')) ∧ H' a2 = some (.lst (nv pending')) ∧
        Rf ts found' pending' ∧ Lg (m - 1) (pr bs * n) found' pending', fun σ' H' hN => ⟨m - 1, by omega, by omega, hN⟩, ?_⟩
      have hlast : (nv (ps ++ [p]))[(nv (ps ++ [p])).length - 1]? = some (V.int (Int.ofNat p)) := by
        rw [en, List.length_append, nv_len]
        show (nv ps ++ [V.int (Int.ofNat p)])[ps.length + 1 - 1]? = _
        rw [Nat.add_sub_cancel, List.getElem?_append_right (by rw [nv_len]; exact Nat.le_refl _), nv_len, Nat.sub_self]
        rfl
      have hdrop : (nv (ps ++ [p])).dropLast = nv ps := by
        rw [en, List.dropLast_concat]
      refine ⟨_, rfl, .inl ⟨rfl, _, SqL.of h2⟩, a2, _, _, rfl, rfl, h2, hlast, ?_⟩
      rw [hdrop]
      have h1' : upd H3 a2 (.lst (nv ps)) a1 = some (.lst (nv found)) := (upd_ne a12).trans h1
      have h2' : upd H3 a2 (.lst (nv ps)) a2 = some (.lst (nv ps)) := upd_same
      have S3' : Same H (upd H3 a2 (.lst (nv ps))) := fun b o e => by
        rw [upd_ne (ne_of_none e n20)]
        exact S3 _ _ e
      generalize upd H3 a2 (.lst (nv ps)) = H4 at h1' h2' S3'
      refine ⟨_, rfl, _, rfl, a1, found, p, rfl, h1', fun hno H5 S5 => ?_, fun l1 b l2 ef hc hg H5 S5 => ?_⟩
      · refine ⟨_, rfl, rfl, _, rfl, iteT' (decide_eq_true rfl) ?_⟩
        refine ⟨_, rfl, _, _, rfl, rfl, _, rfl, ?_⟩
        refine ite2 (fun h => ?_) fun h => ?_
        · have hp1 : 1 < p := by
            have h' : (1 : Int) < (p : Int) := of_decide_eq_true h
            omega
          obtain ⟨R', _⟩ := R.add hno hp1
          obtain ⟨L', _⟩ := L.add
          refine ⟨_, rfl, .inl ⟨rfl, _, SqL.of (S5 _ _ h1')⟩, _, rfl, a1, _, _, rfl, rfl, S5 _ _ h1', by rw [nv_len, sizeLine_eq]; omega, ?_⟩
          refine ⟨fun b o e => ?_, found ++ [p], ps, ⟨_, _, _, _, rfl⟩, ?_, ?_, R', L'⟩
          · rw [upd_ne (ne_of_none e n1)]
            exact S5 _ _ (S3' _ _ e)
          · rw [upd_same, nv_app]
            rfl
          · rw [upd_ne a12.symm]
            exact S5 _ _ h2'
        · have hp1 : ¬ 1 < p := fun z => h (decide_eq_true (show (1 : Int) < (p : Int) by omega))
          have e1 : p = 1 := by
            have := R.pos p (by simp)
            omega
          subst e1
          obtain ⟨R', _⟩ := R.drop hp1
          obtain ⟨L', _⟩ := L.drop
          exact ⟨S3'.trans S5, found, ps, ⟨_, _, _, _, rfl⟩, S5 _ _ h1', S5 _ _ h2', R', L'⟩
      · subst ef
        obtain ⟨R', _⟩ := R.split hg
        obtain ⟨L', _⟩ := L.split R hg
        have hll : (l1 ++ b :: l2).length = l1.length + (l2.length + 1) := by rw [List.length_append]; rfl
        refine ⟨_, rfl, rfl, _, rfl, iteN' (fun z => nomatch z) ?_⟩
        have e3 : nv (l1 ++ b :: l2) = nv l1 ++ V.int (Int.ofNat b) :: nv l2 := nv_app l1 (b :: l2)
        have hat : (nv (l1 ++ b :: l2))[l1.length]? = some (V.int (Int.ofNat b)) := by
          rw [e3, List.getElem?_append_right (by rw [nv_len]; exact Nat.le_refl _), nv_len, Nat.sub_self]
          rfl
        have her : (nv (l1 ++ b :: l2)).eraseIdx l1.length = nv (l1 ++ l2) := by
          rw [e3, nv_app, List.eraseIdx_append_of_length_le (by rw [nv_len]; exact Nat.le_refl _), nv_len, Nat.sub_self]
          rfl
        have hsi : seqIndex? ((l1.length : Nat) : Int) (nv (l1 ++ b :: l2)).length = some l1.length := by
          have z := seqIndex_of (k := ((l1.length : Nat) : Int)) (n := (nv (l1 ++ b :: l2)).length) (by omega) (by rw [nv_len, hll]; omega)
          rw [z]
          rfl
        refine ⟨_, rfl, .inl ⟨rfl, _, SqL.of (S5 _ _ h1')⟩, _, rfl, a1, _, _, l1.length, _, rfl, rfl, S5 _ _ h1', by omega, by omega, hsi, hat, ?_⟩
        rw [her]
        have g1 : upd H5 a1 (.lst (nv (l1 ++ l2))) a1 = some (.lst (nv (l1 ++ l2))) := upd_same
        have g2 : upd H5 a1 (.lst (nv (l1 ++ l2))) a2 = some (.lst (nv ps)) := (upd_ne a12.symm).trans (S5 _ _ h2')
        have S6 : Same H (upd H5 a1 (.lst (nv (l1 ++ l2)))) := fun b o e => by
          rw [upd_ne (ne_of_none e n1)]
          exact S5 _ _ (S3' _ _ e)
        generalize upd H5 a1 (.lst (nv (l1 ++ l2))) = H6 at g1 g2 S6
        refine ⟨_, rfl, _, rfl, _, _, rfl, ?_⟩
        have eg : ((Int.ofNat b).natAbs).gcd ((Int.ofNat p).natAbs) = Nat.gcd b p := rfl
        rw [eg]
        have cs : Nat.gcd b p < 1073741824 := L'.small _ (by simp)
        have d1 : (Int.ofNat b) / ((Nat.gcd b p : Nat) : Int) = Int.ofNat (b / Nat.gcd b p) := (Int.natCast_ediv b (Nat.gcd b p)).symm
        have d2 : (Int.ofNat p) / ((Nat.gcd b p : Nat) : Int) = Int.ofNat (p / Nat.gcd b p) := (Int.natCast_ediv p (Nat.gcd b p)).symm
        refine ⟨_, rfl, .inl ⟨rfl, _, SqL.of g2⟩, ?_⟩
        refine ⟨_, rfl, _, rfl, _, _, rfl, rfl, ⟨by omega, by omega⟩, _, rfl, _, rfl, _, rfl, _, _, rfl, rfl, ⟨by omega, by omega⟩, ?_⟩
        have el : [V.int (Int.ofNat b / ((Nat.gcd b p : Nat) : Int)), V.int ((Nat.gcd b p : Nat) : Int), V.int (Int.ofNat p / ((Nat.gcd b p : Nat) : Int))] = nv [b / Nat.gcd b p, Nat.gcd b p, p / Nat.gcd b p] := by
          rw [d1, d2]
          rfl
        refine ⟨by rw [sizeLine_eq]; show 3 ≤ 16777216; decide, fun q nq => ?_⟩
        have S7 := fresh_upd (o := .lst [V.int (Int.ofNat b / ((Nat.gcd b p : Nat) : Int)), V.int ((Nat.gcd b p : Nat) : Int), V.int (Int.ofNat p / ((Nat.gcd b p : Nat) : Int))]) nq
        have gq : upd H6 q (.lst [V.int (Int.ofNat b / ((Nat.gcd b p : Nat) : Int)), V.int ((Nat.gcd b p : Nat) : Int), V.int (Int.ofNat p / ((Nat.gcd b p : Nat) : Int))]) q = some (.lst (nv [b / Nat.gcd b p, Nat.gcd b p, p / Nat.gcd b p])) := by rw [upd_same, el]
        have qa1 : a1 ≠ q := ne_of_none g1 nq
        have qa2 : a2 ≠ q := ne_of_none g2 nq
        refine ⟨a2, q, nv ps, nv [b / Nat.gcd b p, Nat.gcd b p, p / Nat.gcd b p], rfl, rfl, S7 _ _ g2, gq, by rw [nv_len, nv_len, sizeLine_eq]; show _ + 3 ≤ _; omega, ?_⟩
        refine ⟨fun b' o e => ?_, l1 ++ l2, ps ++ [b / Nat.gcd b p, Nat.gcd b p, p / Nat.gcd b p], ⟨_, _, _, _, rfl⟩, ?_, ?_, R', L'⟩
        · rw [upd_ne (ne_of_none e n20)]
          exact S7 _ _ (S6 _ _ e)
        · rw [upd_ne a12]
          exact S7 _ _ g1
        · rw [upd_same, nv_app]
end
end K54
set_option maxHeartbeats 8000000
namespace K54
open PySem PySem.Spec PyProof.Rows L2

/-! ### coprime_bases -/
abbrev sCob : Stmt := top 21
theorem pr_le : ∀ {a : List Nat}, (∀ x ∈ a, x < 1073741824) → pr a ≤ 2 ^ (30 * a.length)
  | [], _ => Nat.le_refl _
  | x :: r, h => by
    show x * pr r ≤ 2 ^ (30 * (r.length + 1))
    rw [Nat.mul_add, Nat.pow_add, Nat.mul_comm]
    exact Nat.mul_le_mul (pr_le fun y hy => h y (List.mem_cons_of_mem _ hy)) (by have := h x (List.mem_cons_self ..); show x ≤ 1073741824; omega)
def spCob (K : PySem.W.Frag) : Sp := fun vs H Q _ => ∃ (l : Addr) (ns : List Nat), vs = [.ref l] ∧ H l = some (.lst (nv ns)) ∧ ns.length ≤ 64 ∧ (∀ n ∈ ns, 0 < n ∧ n < 1073741824) ∧
  ∀ H' r bs, Same H H' → H r = none → H' r = some (.lst (nv bs)) → Cop bs → (∀ n ∈ ns, G bs n) → (∀ x ∈ bs, x < 1073741824) → bs.length ≤ 2000 → Q (.ref r) H'
def NCo : List Str := ["numbers", "bases", "number"]
section
variable {P : Program} {w : World} {K : PySem.W.Frag} {mg : Str → Option Value} {base : Heap}
theorem scCob : FnScope NCo ["numbers"] (defScope sCob) :=
  ⟨rfl, rfl, rfl, by decide +kernel, rfl, by decide +kernel, by decide +kernel⟩
theorem ok_cob {f fR : Addr} {fd fdR : FuncData} (F : Fun K "coprime_bases" "coprime_bases" sCob f fd)
    (GR : FnOk P w K mg base CX0 2 fR fdR ["bases", "number"] spRef) (kR : PySem.W.keepIn K (.ref fR) = true) (bR : Binds K fdR ["bases", "number"] []) (gR : mg "_refined" = some (.ref fR)) :
    FnOk P w K mg base CX0 3 f fd ["numbers"] (spCob K) := by
  refine F.ok scCob (fun vs H Q E h => ?_) (fun cdv A outer s H vs Q E hr h => ?_)
  · obtain ⟨l, ns, rfl, _⟩ := h
    rfl
  · obtain ⟨l, ns, rfl, hl, hz, hn, k⟩ := h
    refine ⟨_, pss_cons (ps_set (i := 1) scCob.nd rfl (.inl rfl) (pe_lst pa_nil))
      (pss_cons (ps_for PassesOwn.never rfl (pi_list (pv 0)) (pg_name (i := 2) scCob.nd rfl (Or.inl rfl))
        (pss_one (ps_set (i := 1) scCob.nd rfl (.inl rfl) (pe_call GR hr rfl gR kR bR .nil pass0 (pa_cons (pv 1) (pa_cons (pv 2) pa_nil))))))
      (pss_one (ps_ret (pv 1)))), ?_⟩
    refine ⟨Nat.zero_le _, fun a na => ?_⟩
    have S1 := fresh_upd (o := .lst []) na
    refine ⟨_, rfl, l, rfl, ⟨_, SqL.of (S1 _ _ hl)⟩, for_it (walk_list (K := K) (a := l) (xs := nv ns)) (fun i σ H2 => Same H H2 ∧ ∃ (r : Addr) (bs : List Nat), (∃ o2, σ = [some (.ref l), some (.ref r), o2]) ∧ H r = none ∧ H2 r = some (.lst (nv bs)) ∧
      Rf (ns.take i) bs [] ∧ (∀ x ∈ bs, x < 1073741824) ∧ pr bs ≤ pr (ns.take i)) ⟨S1, a, [], ⟨none, rfl⟩, na, upd_same, ⟨⟨List.Pairwise.nil, (fun x hx => nomatch hx)⟩, (fun x hx => nomatch hx), fun x hx => by simp at hx⟩, (fun x hx => nomatch hx), Nat.le_refl _⟩
      (fun i σ H2 _ h => SqL.of (h.1 _ _ hl)) ?_ ?_⟩
    · rintro i x σ H2 H3 hi ⟨S2, r, bs, ⟨o2, rfl⟩, nr, hr2, R, hs, hp⟩ ⟨rfl, hx⟩
      rw [nv_len] at hi
      have ex : x = V.int (Int.ofNat ns[i]) := by
        unfold nv at hx
        rw [List.getElem?_map, List.getElem?_eq_getElem hi] at hx
        exact (Option.some.inj hx).symm
      subst ex
      obtain ⟨n0, n1⟩ := hn ns[i] (List.getElem_mem hi)
      have et : ns.take (i + 1) = ns.take i ++ [ns[i]] := by
        rw [List.take_add_one, List.getElem?_eq_getElem hi]
        rfl
      have R' : Rf (ns.take (i + 1)) bs [ns[i]] := by
        refine ⟨R.cop, fun p hp' => by rw [List.mem_singleton.mp hp']; exact n0, fun y hy => ?_⟩
        rw [et] at hy
        rcases List.mem_append.mp hy with z | z
        · have g := R.gen y z
          rw [List.append_nil] at g
          exact g.trans fun w' hw => .mem (List.mem_append_left _ hw)
        · exact .mem (List.mem_append_right _ z)
      have ep : pr (ns.take (i + 1)) = pr (ns.take i) * ns[i] := by
        rw [et, pr_app]
        show _ * (_ * 1) = _
        rw [Nat.mul_one]
      have hle : pr bs * ns[i] ≤ pr (ns.take (i + 1)) := by
        rw [ep]
        exact Nat.mul_le_mul_right _ hp
      have hbig : pr (ns.take (i + 1)) ≤ 2 ^ (30 * (ns.take (i + 1)).length) := pr_le fun y hy => (hn y (List.mem_of_mem_take hy)).2
      have hlen : (ns.take (i + 1)).length ≤ 64 := by
        rw [List.length_take]
        omega
      have L' : Lg 300000 (pr bs * ns[i]) bs [ns[i]] := by
        have e1 : pr bs * pr [ns[i]] = pr bs * ns[i] := by
          show pr bs * (ns[i] * 1) = _
          rw [Nat.mul_one]
        refine ⟨⟨30 * (ns.take (i + 1)).length + 1, ?_, by show _ + 1 ≤ _; omega⟩, by rw [e1]; exact Nat.le_refl _, fun y hy => ?_⟩
        · rw [e1, Nat.pow_succ]
          have : 0 < 2 ^ (30 * (ns.take (i + 1)).length) := Nat.pow_pos (by decide)
          omega
        · rcases List.mem_append.mp hy with z | z
          · exact hs y z
          · rw [List.mem_singleton.mp z]
            exact n1
      refine ⟨_, rfl, _, rfl, r, bs, ns[i], ns.take (i + 1), rfl, hr2, R', L', fun H4 r4 bs4 S4 nr4 h4 R4 s4 p4 => ?_⟩
      have nr40 : H r4 = none := by
        cases e : H r4 with
        | none => rfl
        | some o =>
          have z := S2 _ _ e
          rw [nr4] at z
          cases z
      exact ⟨S2.trans S4, r4, bs4, ⟨_, rfl⟩, nr40, h4, R4, s4, Nat.le_trans p4 hle⟩
    · rintro σ H2 ⟨S2, r, bs, ⟨o2, rfl⟩, nr, hr2, R, hs, hp⟩
      rw [nv_len, List.take_length] at R hp
      have h3 := len_pr R.cop.2
      have h4 : pr ns ≤ 2 ^ (30 * ns.length) := pr_le fun y hy => (hn y hy).2
      have h5 : 2 ^ bs.length < 2 ^ (30 * ns.length + 1) := by
        rw [Nat.pow_succ]
        have : 0 < 2 ^ (30 * ns.length) := Nat.pow_pos (by decide)
        omega
      have h6 := (Nat.pow_lt_pow_iff_right (show 1 < 2 by decide)).mp h5
      exact ⟨_, rfl, k H2 r bs S2 nr hr2 R.cop (fun n hn' => by
        have g := R.gen n hn'
        rw [List.append_nil] at g
        exact g) hs (by omega)⟩
end
end K54
set_option maxHeartbeats 8000000
namespace K54
open PySem PySem.Spec PyProof.Rows L2

/-! ### orders -/
open Classical in
noncomputable def ordF (n b : Nat) : Nat := if h : ∃ k, IsOrd n b k then Classical.choose h else 0
theorem ordF_eq {n b k : Nat} (hb : 1 < b) (h : IsOrd n b k) : ordF n b = k := by
  have hx : ∃ k, IsOrd n b k := ⟨k, h⟩
  unfold ordF
  rw [dif_pos hx]
  exact IsOrd.one hb (Classical.choose_spec hx) h
noncomputable def lsO (es : Es) (N : Str → Nat) : Ls := es.map fun q => (q.2, ordF (N q.1))
theorem sm_sum (N : Str → Nat) (b : Nat) : ∀ es : Es, sm (lsO es N) b = (es.map fun q => q.2 * (ordF (N q.1) b : Int)).sum
  | [] => rfl
  | q :: r => by
    show q.2 * (ordF (N q.1) b : Nat) + sm (lsO r N) b = _
    rw [sm_sum N b r, List.map_cons, List.sum_cons]
theorem lookG : ∀ {es : Es} {q : Str × Int}, (es.map (·.1)).Nodup → q ∈ es → es.lookup q.1 = some q.2
  | [], _, _, h => by cases h
  | p :: r, q, hn, h => by
    obtain ⟨n1, n2⟩ := List.pairwise_cons.mp hn
    rw [List.lookup_cons]
    rcases List.mem_cons.mp h with rfl | h
    · simp
    · have e : (q.1 == p.1) = false := by
        have z := n1 q.1 (List.mem_map.mpr ⟨q, h, rfl⟩)
        simpa using fun y : q.1 = p.1 => z y.symm
      rw [e]
      exact lookG n2 h
theorem IsOrd.lt {n b k : Nat} (hb : 1 < b) (n0 : 0 < n) (hn : n < 1073741824) (h : IsOrd n b k) : k < 30 := by
  obtain ⟨r, e, hr⟩ := h
  have r0 : 0 < r := by
    refine Nat.pos_of_ne_zero fun z => ?_
    rw [z, Nat.mul_zero] at e
    omega
  have h1 : 2 ^ k ≤ b ^ k := Nat.pow_le_pow_left hb k
  have h2 : b ^ k ≤ n := by
    rw [e]
    exact Nat.le_mul_of_pos_right _ r0
  have h3 : 2 ^ k < 2 ^ 30 := by
    have : (2 : Nat) ^ 30 = 1073741824 := by decide
    omega
  exact (Nat.pow_lt_pow_iff_right (show 1 < 2 by decide)).mp h3
abbrev sOrs : Stmt := top 20
def NumAt (H : Hp) (m : Addr) (es : Es) (N : Str → Nat) : Prop := ∃ ms : Es, H m = some (.dK (kv ms)) ∧ ∀ q ∈ es, ms.lookup q.1 = some (N q.1 : Int) ∧ 0 < N q.1 ∧ N q.1 < 1073741824
theorem NumAt.same {H H' : Hp} {m : Addr} {es : Es} {N : Str → Nat} (h : NumAt H m es N) (S : Same H H') : NumAt H' m es N := by
  obtain ⟨ms, e, k⟩ := h
  exact ⟨ms, S _ _ e, k⟩
theorem NumAt.get {H : Hp} {m : Addr} {es : Es} {N : Str → Nat} (h : NumAt H m es N) {q : Str × Int} (hq : q ∈ es) : DGet H m (.str q.1) (some (.int (N q.1 : Int))) := by
  obtain ⟨ms, e, k⟩ := h
  exact .inl ⟨_, ky q.1, .inl e, rfl, by rw [val_kv, (k q hq).1]; rfl⟩
def PtAt (H : Hp) (L : Ls) (ts : List Addr) (bs : List Nat) : Prop := Paired (fun t b => H t = some (.tup [V.int (Int.ofNat b), V.int (sm L b)])) ts bs
def spOrs : Sp := fun vs H Q _ => ∃ (d m : Addr) (es : Es) (N : Str → Nat), vs = [.ref d, .ref m] ∧ H d = some (.dK (kv es)) ∧ (es.map (·.1)).Nodup ∧ es.length < 64 ∧ NumAt H m es N ∧
  ∀ H' r ts bs, Same H H' → H r = none → H' r = some (.lst (ts.map V.ref)) → PtAt H' (lsO es N) ts bs → Cop bs → (∀ q ∈ es, G bs (N q.1)) → (∀ x ∈ bs, x < 1073741824) → bs.length ≤ 2000 → Q (.ref r) H'
def NOr : List Str := ["exponents", "numbers", "names", "pairs", "base", "parts", "name"]
section
variable {P : Program} {w : World} {K : PySem.W.Frag} {mg : Str → Option Value} {base : Heap}
theorem scOrs : FnScope NOr ["exponents", "numbers"] (defScope sOrs) :=
  ⟨rfl, rfl, rfl, by decide +kernel, rfl, by decide +kernel, by decide +kernel⟩
theorem ok_ors {f fC fO : Addr} {fd fdC fdO : FuncData} (F : Fun K "orders" "orders" sOrs f fd) (lN : mg "list" = none) (sN : mg "sum" = none)
    (GC : FnOk P w K mg base CX0 3 fC fdC ["numbers"] (spCob K)) (kC : PySem.W.keepIn K (.ref fC) = true) (bC : Binds K fdC ["numbers"] []) (gC : mg "coprime_bases" = some (.ref fC))
    (GO : FnOk P w K mg base CX0 1 fO fdO ["number", "base"] spOrd) (kO : PySem.W.keepIn K (.ref fO) = true) (bO : Binds K fdO ["number", "base"] []) (gO : mg "order_in" = some (.ref fO)) :
    FnOk P w K mg base CX0 4 f fd ["exponents", "numbers"] spOrs := by
  have GO3 := GO.mono (k := 3) (by decide)
  refine F.ok scOrs (fun vs H Q E h => ?_) (fun cdv A outer s H vs Q E hr h => ?_)
  · obtain ⟨d, m, es, N, rfl, _⟩ := h
    rfl
  · obtain ⟨d, m, es, N, rfl, hd, hn, hz, hN, k⟩ := h
    have hu : (A.deeper (envOfC "orders" (defScope sOrs) s.heap.objs.size f cdv)).units + 1 < cLine := by have := hr.units; omega
    refine ⟨_, pss_cons (ps_set (i := 2) scOrs.nd rfl (by first | exact .inl rfl | exact .inr rfl) (pe_callTy (call_listD rfl) (by rfl) lN (by decide +kernel) (pa_cons (pv 0) pa_nil)))
      (pss_cons (ps_set (i := 3) scOrs.nd rfl (.inl rfl) (pe_lst pa_nil))
      (pss_cons (ps_for PassesOwn.never rfl (pi_list (pe_call GC hr rfl gC kC bC .nil pass0 (pa_cons
            (pe_lc (own := [("name", 6)]) (g := gName 6) (tt := tYes) (te := tDGet (tVar 1) (tVar 6)) rfl scOrs.nd (pi_list (pv 2))
              (blkOk_by (own := [("name", 6)]) (N := NOr) (sc := defScope sOrs) (by decide +kernel)) (fun _ _ _ _ _ => pg_name (i := 6) scOrs.nd rfl (Or.inl rfl))
              (fun _ _ _ _ _ => pts_nil) (fun _ _ _ _ _ => by exact pe_dget hu (pv 1) (pv 6) (fun _ _ => rfl))) pa_nil)))
          (pg_name (i := 4) scOrs.nd rfl (by first | exact Or.inl rfl | exact Or.inr rfl))
        (pss_cons (ps_setLc (i := 5) (own := [("name", 6)]) (g := gName 6) (tt := tYes) (te := tOp (rI CMul fun i j => V.int (i * j)) (tDGet (tVar 0) (tVar 6)) (tCall spOrd [] E0 (tCons (tDGet (tVar 1) (tVar 6)) (tCons (tVar 4) tNil)))) rfl scOrs.nd rfl rfl (sw_true rfl rfl rfl (by decide +kernel)) (pi_list (pv 2))
              (blkOk_by (own := [("name", 6)]) (N := NOr) (sc := defScope sOrs) (by decide +kernel)) (fun _ _ _ _ _ => pg_name (i := 6) scOrs.nd rfl (Or.inl rfl))
              (fun _ _ _ _ _ => pts_nil) (fun _ _ _ _ _ => by exact pe_op op_mul (pe_dget hu (pv 0) (pv 6) (fun _ _ => rfl)) (pe_call GO3 hr rfl gO kO bO .nil pass0 (pa_cons (pe_dget hu (pv 1) (pv 6) (fun _ _ => rfl)) (pa_cons (pv 4) pa_nil)))))
        (pss_one (ps_expr (pe_bm PySem.F.plainAttrs_list PySem.F.slot_list_append PySem.F.type_list_append mt_append (pv 3) (pa_cons (pe_tup (pa_cons (pv 4) (pa_cons (pe_callB (cr_sum rfl) (by rfl) sN (by decide +kernel) (pa_cons (pv 5) pa_nil)) pa_nil))) pa_nil))))))
      (pss_one (ps_ret (pv 3))))), ?_⟩
    refine ⟨_, rfl, d, _, rfl, .inl hd, fun ln nln => ?_⟩
    have ek : (kv es).map (fun kv => kV kv.1) = es.map fun q => V.str q.1 := by
      unfold kv
      rw [List.map_map]
      rfl
    rw [ek]
    have S1 := fresh_upd (o := .lst (es.map fun q => V.str q.1)) nln
    have e1 : upd H ln (.lst (es.map fun q => V.str q.1)) ln = some (.lst (es.map fun q => V.str q.1)) := upd_same
    generalize upd H ln (.lst (es.map fun q => V.str q.1)) = H1 at S1 e1
    refine ⟨Nat.zero_le _, fun a na => ?_⟩
    have S2 := fresh_upd (o := .lst []) na
    have e2 : upd H1 a (.lst []) a = some (.lst []) := upd_same
    generalize upd H1 a (.lst []) = H2 at S2 e2
    have S02 := S1.trans S2
    have na0 : H a = none := by
      cases e : H a with
      | none => rfl
      | some o =>
        have z := S1 _ _ e
        rw [na] at z
        cases z
    have dg : ∀ {H' : Hp} {q : Str × Int}, Same H H' → q ∈ es → DGet H' d (.str q.1) (some (.int q.2)) := fun {H' q} S hq =>
      .inl ⟨_, ky q.1, .inl (S _ _ hd), rfl, by rw [val_kv, lookG hn hq]; rfl⟩
    refine ⟨_, rfl, ln, rfl, ⟨_, SqL.of (S2 _ _ e1)⟩, fun D hD => ?_⟩
    refine lc_it (walk_list (K := K) (a := ln) (xs := es.map fun q => V.str q.1)) (fun i H3 => Same H2 H3 ∧ H3 D = some (.lst (nv ((es.take i).map fun q => N q.1)))) ⟨fresh_upd hD, upd_same⟩ (fun i H3 _ h => SqL.of (h.1 _ _ (S2 _ _ e1))) ?_ ?_
    · rintro i x H3 H4 hi ⟨S3, h3⟩ ⟨rfl, hx⟩
      rw [List.length_map] at hi
      have ex : x = V.str es[i].1 := by
        rw [List.getElem?_map, List.getElem?_eq_getElem hi] at hx
        exact (Option.some.inj hx).symm
      subst ex
      have hq := List.getElem_mem hi
      refine ⟨rfl, ?_⟩
      unfold tYes
      dsimp only
      rw [if_pos rfl]
      refine ⟨_, rfl, _, rfl, m, _, rfl, (hN.same (S02.trans S3)).get hq, ?_⟩
      refine ⟨_, h3, by rw [nv_len, List.length_map, List.length_take, sizeLine_eq]; omega, fun b o e => ?_, ?_⟩
      · rw [upd_ne (ne_of_none e hD)]
        exact S3 _ _ e
      · rw [upd_same, List.take_add_one, List.getElem?_eq_getElem hi, List.map_append, nv_app]
        rfl
    rintro H3 ⟨S3, h3⟩
    rw [List.length_map, List.take_length] at h3
    have S03 := S02.trans S3
    refine ⟨D, es.map fun q => N q.1, rfl, h3, by rw [List.length_map]; omega, fun n hn' => ?_, fun H4 r bs S4 nr hr4 hC hG hs hb => ?_⟩
    · obtain ⟨q, hq, rfl⟩ := List.mem_map.mp hn'
      obtain ⟨ms, _, kk⟩ := hN
      exact (kk q hq).2
    have S04 := S03.trans S4
    have ha4 := S4 _ _ (S3 _ _ e2)
    have hln4 := S4 _ _ (S3 _ _ (S2 _ _ e1))
    refine ⟨r, rfl, ⟨_, SqL.of hr4⟩, for_it (walk_list (K := K) (a := r) (xs := nv bs)) (fun i σ H5 => (∃ o4 o5 o6, σ = [some (.ref d), some (.ref m), some (.ref ln), some (.ref a), o4, o5, o6]) ∧ (∀ b o, b ≠ a → H4 b = some o → H5 b = some o) ∧
      ∃ ts : List Addr, H5 a = some (.lst (ts.map V.ref)) ∧ PtAt H5 (lsO es N) ts (bs.take i)) ⟨⟨none, none, none, rfl⟩, fun b o _ e => e, [], ha4, .nil⟩ ?_ ?_ ?_⟩
    · intro i σ H5 _ h
      have ra : r ≠ a := fun z => by
        rw [z, ha4] at hr4
        have := HO.lst.inj (Option.some.inj hr4)
        rw [z] at nr
        rw [S3 _ _ e2] at nr
        cases nr
      exact SqL.of (h.2.1 _ _ ra hr4)
    · rintro i x σ H5 H6 hi ⟨⟨o4, o5, o6, rfl⟩, S5, ts, h5, hP⟩ ⟨rfl, hx⟩
      rw [nv_len] at hi
      have ex : x = V.int (Int.ofNat bs[i]) := by
        unfold nv at hx
        rw [List.getElem?_map, List.getElem?_eq_getElem hi] at hx
        exact (Option.some.inj hx).symm
      subst ex
      have hbm := List.getElem_mem hi
      have hb1 := hC.2 _ hbm
      have hb2 := hs _ hbm
      have S05 : Same H H6 := fun b o e => S5 b o (fun z => by rw [z, na0] at e; cases e) (S04 _ _ e)
      have lna : ln ≠ a := fun z => by
        rw [z] at e1
        rw [e1] at na
        cases na
      have hln5 := S5 _ _ lna hln4
      refine ⟨_, rfl, ln, rfl, ⟨_, SqL.of hln5⟩, fun D2 hD2 => ?_⟩
      refine lc_it (walk_list (K := K) (a := ln) (xs := es.map fun q => V.str q.1)) (fun j H7 => Same H6 H7 ∧ H7 D2 = some (.lst ((es.take j).map fun q => V.int (q.2 * (ordF (N q.1) bs[i] : Int))))) ⟨fresh_upd hD2, upd_same⟩ (fun j H7 _ h => SqL.of (h.1 _ _ hln5)) ?_ ?_
      · rintro j x H7 H8 hj ⟨S7, h7⟩ ⟨rfl, hx⟩
        rw [List.length_map] at hj
        have ex : x = V.str es[j].1 := by
          rw [List.getElem?_map, List.getElem?_eq_getElem hj] at hx
          exact (Option.some.inj hx).symm
        subst ex
        have hq := List.getElem_mem hj
        have N7 := hN.same (S05.trans S7)
        have np : 0 < N es[j].1 ∧ N es[j].1 < 1073741824 := by
          obtain ⟨ms, _, kk⟩ := hN
          exact (kk _ hq).2
        refine ⟨rfl, ?_⟩
        unfold tYes
        dsimp only
        rw [if_pos rfl]
        refine ⟨_, rfl, _, rfl, d, _, rfl, dg (S05.trans S7) hq, ?_⟩
        refine ⟨_, rfl, _, rfl, m, _, rfl, N7.get hq, _, rfl, N es[j].1, bs[i], rfl, np.1, hb1, hb2, fun kk hk => ?_⟩
        have ho := ordF_eq hb1 hk
        have hkl := hk.lt hb1 np.1 np.2
        refine ⟨_, _, rfl, rfl, .inr ⟨by omega, by omega⟩, ?_⟩
        refine ⟨_, h7, by rw [List.length_map, List.length_take, sizeLine_eq]; omega, fun b o e => ?_, ?_⟩
        · rw [upd_ne (ne_of_none e hD2)]
          exact S7 _ _ e
        · rw [upd_same, List.take_add_one, List.getElem?_eq_getElem hj, List.map_append, ← ho]
          rfl
      rintro H7 ⟨S7, h7⟩
      rw [List.length_map, List.take_length] at h7
      have e7 : (es.map fun q => V.int (q.2 * (ordF (N q.1) bs[i] : Int))) = (es.map fun q => q.2 * (ordF (N q.1) bs[i] : Int)).map V.int := by
        rw [List.map_map]
        rfl
      rw [e7] at h7
      have h5' := S7 _ _ h5
      have hPl : ts.length = (bs.take i).length := Paired.length hP
      rw [List.length_take] at hPl
      refine ⟨_, rfl, .inl ⟨rfl, _, SqL.of h5'⟩, _, rfl, _, rfl, D2, _, rfl, SqL.of h7, ?_⟩
      rw [← sm_sum]
      refine ⟨by rw [sizeLine_eq]; show 2 ≤ 16777216; decide, fun T nT => ?_⟩
      have S8 := fresh_upd (o := .tup [V.int (Int.ofNat bs[i]), V.int (sm (lsO es N) bs[i])]) nT
      have hT : upd H7 T (.tup [V.int (Int.ofNat bs[i]), V.int (sm (lsO es N) bs[i])]) T = some (.tup [V.int (Int.ofNat bs[i]), V.int (sm (lsO es N) bs[i])]) := upd_same
      generalize upd H7 T (.tup [V.int (Int.ofNat bs[i]), V.int (sm (lsO es N) bs[i])]) = H8 at S8 hT
      have h8 := S8 _ _ h5'
      refine ⟨a, _, _, rfl, rfl, h8, by rw [List.length_map, sizeLine_eq]; omega, ?_⟩
      refine ⟨⟨_, _, _, rfl⟩, fun b o hb e => (upd_ne hb).trans (S8 _ _ (S7 _ _ (S5 b o hb e))), ts ++ [T], ?_, ?_⟩
      · rw [upd_same, List.map_append]
        rfl
      · rw [List.take_add_one, List.getElem?_eq_getElem hi]
        have keep : ∀ {t : Addr} {xs : List V}, H8 t = some (.tup xs) → upd H8 a (.lst (ts.map V.ref ++ [V.ref T])) t = some (.tup xs) := fun {t xs} e =>
          (upd_ne (fun z => by rw [z, h8] at e; cases e)).trans e
        exact Paired.snoc (Paired.mapP hP fun _ _ e => keep (S8 _ _ (S7 _ _ e))) (keep hT)
    · rintro σ H5 ⟨⟨o4, o5, o6, rfl⟩, S5, ts, h5, hP⟩
      rw [nv_len, List.take_length] at hP
      exact ⟨_, rfl, k H5 a ts bs (fun b o e => S5 b o (fun z => by rw [z, na0] at e; cases e) (S04 _ _ e)) na0 h5 hP hC (fun q hq => hG _ (List.mem_map.mpr ⟨q, hq, rfl⟩)) hs hb⟩
end
end K54
set_option maxHeartbeats 8000000
namespace K54
open PySem PySem.Spec PyProof.Rows L2

/-! ### raised -/
theorem next_ {D : Ends} {σ : L2.St} {H : Hp} (h : D.nx σ H) : tNext D σ H := h
abbrev sRai : Stmt := top 19
def spRai : Sp := fun vs H Q _ => ∃ b c : Nat, vs = [.int b, .int c] ∧ 0 < b ∧ b < 1073741824 ∧ c ≤ 10000 ∧ Q (.int ((b ^ c : Nat) : Int)) H
theorem rai_lt {b c : Nat} (h : b < 1073741824) (hc : c ≤ 10000) : b ^ c < 2 ^ 300001 := by
  have h1 : b ^ c ≤ (2 ^ 30) ^ c := Nat.pow_le_pow_left (show b ≤ 1073741824 by omega) c
  rw [← Nat.pow_mul] at h1
  have h2 : 2 ^ (30 * c) ≤ 2 ^ 300000 := Nat.pow_le_pow_right (by decide) (by omega)
  exact Nat.lt_of_le_of_lt (Nat.le_trans h1 h2) (Nat.pow_lt_pow_right (by decide) (by decide))
theorem le_pw {x y z M : Nat} (h : z * x ^ y = M) (hx : 0 < x) (hz : 0 < z) (hy : 0 < y) : x ≤ M ∧ z ≤ M := by
  have h1 : x ≤ x ^ y := Nat.le_self_pow (by omega) x
  have h2 : 0 < x ^ y := Nat.pow_pos hx
  rw [← h]
  exact ⟨Nat.le_trans h1 (Nat.le_mul_of_pos_left _ hz), Nat.le_mul_of_pos_right _ h2⟩
theorem wm {x z M : Nat} (hx : x ≤ M) (hz : z ≤ M) (hM : M < 2 ^ 300001) : CMulW (z : Int) (x : Int) :=
  wide_mul (a := 300001) (b := 300001) (by rw [Int.natAbs_natCast]; omega) (by rw [Int.natAbs_natCast]; omega) (by decide) (by decide) (by decide)
section
variable {P : Program} {w : World} {K : PySem.W.Frag} {mg : Str → Option Value} {base : Heap}
theorem scRai : FnScope ["base", "count", "power"] ["base", "count"] (defScope sRai) :=
  ⟨rfl, rfl, rfl, by decide +kernel, rfl, by decide +kernel, by decide +kernel⟩
theorem ok_rai {f : Addr} {fd : FuncData} (F : Fun K "raised" "raised" sRai f fd) : FnOk P w K mg base CX0 1 f fd ["base", "count"] spRai := by
  refine F.ok scRai (fun vs H Q E h => ?_) (fun cdv A outer s H vs Q E hr h => ?_)
  · obtain ⟨b, c, rfl, _⟩ := h
    rfl
  · obtain ⟨b, c, rfl, b0, b1, hc, k⟩ := h
    have hM := rai_lt b1 hc
    generalize eM : b ^ c = M at hM k
    refine ⟨_, pss_cons (ps_set (i := 2) scRai.nd rfl (.inl rfl) pe_int)
      (pss_cons (ps_while PassesOwn.never (pt_cmpR op_gt (pv 1) pe_int (nomark _))
        (pss_cons (ps_if (pt_cmpR op_eq (pe_op op_mod (pv 1) pe_int) pe_int (nomark _)) (pss_one (ps_set (i := 2) scRai.nd rfl (.inl rfl) (pe_op op_mulW (pv 2) (pv 0)))) pss_nil)
        (pss_cons (ps_set (i := 1) scRai.nd rfl (.inl rfl) (pe_op op_fdiv (pv 1) pe_int))
        (pss_one (ps_if (pt_cmpR op_gt (pv 1) pe_int (nomark _)) (pss_one (ps_set (i := 0) scRai.nd rfl (.inl rfl) (pe_op op_mulW (pv 0) (pv 0)))) pss_nil)))))
      (pss_one (ps_ret (pv 2)))), ?_⟩
    refine ⟨fun μ σ H2 => H2 = H ∧ ∃ x y z : Nat, σ = [some (.int x), some (.int y), some (.int z)] ∧ μ = y ∧ z * x ^ y = M ∧ 0 < x ∧ 0 < z, ⟨c, rfl, b, c, 1, rfl, rfl, by rw [Nat.one_mul]; exact eM, b0, Nat.one_pos⟩, ?_⟩
    rintro μ σ H2 ⟨rfl, x, y, z, rfl, rfl, hz, x0, z0⟩
    refine ⟨_, rfl, _, _, rfl, rfl, _, rfl, ?_⟩
    by_cases h0 : 0 < μ
    · refine iteT' (decide_eq_true (show (0 : Int) < (μ : Int) by omega)) ?_
      obtain ⟨hx, hzM⟩ := le_pw hz x0 z0 h0
      have e2 : ((μ : Nat) : Int) / 2 = ((μ / 2 : Nat) : Int) := by omega
      -- behind the first test
      have key : ∀ (D : Ends) (z' : Nat), z' * (x * x) ^ (μ / 2) = M → 0 < z' → (∀ x' : Nat, z' * x' ^ (μ / 2) = M → 0 < x' → D.nx [some (.int x'), some (.int ((μ / 2 : Nat) : Int)), some (.int z')] H2) →
          tSeq (tAsg (tOp (rI CDiv fun i j => V.int (i / j)) (tVar 1) (tC (.int 2))) (gName 1)) (tIfS (tTest (tOp (rI0 fun i j => V.bl (decide (j < i))) (tVar 1) (tC (.int 0)))) (tAsg (tOp (rI CMulW fun i j => V.int (i * j)) (tVar 0) (tVar 0)) (gName 0)) tNext)
            D [some (.int x), some (.int μ), some (.int z')] H2 := by
        intro D z' q1 q2 kk
        refine ⟨_, rfl, _, _, rfl, rfl, ⟨by decide, by decide⟩, ?_⟩
        show tIfS (tTest (tOp (rI0 fun i j => V.bl (decide (j < i))) (tVar 1) (tC (.int 0)))) (tAsg (tOp (rI CMulW fun i j => V.int (i * j)) (tVar 0) (tVar 0)) (gName 0)) tNext D [some (V.int x), some (V.int (((μ : Nat) : Int) / 2)), some (V.int z')] H2
        rw [e2]
        refine ⟨_, rfl, _, _, rfl, rfl, _, rfl, ?_⟩
        by_cases h1 : 0 < μ / 2
        · refine iteT' (decide_eq_true (show (0 : Int) < ((μ / 2 : Nat) : Int) by omega)) ?_
          have hxx := (le_pw q1 (Nat.mul_pos x0 x0) q2 h1).1
          refine ⟨_, rfl, _, rfl, _, _, rfl, rfl, wm hx hx hM, ?_⟩
          show D.nx [some (V.int ((x : Int) * (x : Int))), some (V.int ((μ / 2 : Nat) : Int)), some (V.int z')] H2
          rw [← Int.natCast_mul]
          exact kk (x * x) q1 (Nat.mul_pos x0 x0)
        · refine iteN' (show ¬ (0 : Int) < ((μ / 2 : Nat) : Int) by omega) (kk x ?_ x0)
          have e0 : μ / 2 = 0 := by omega
          rw [e0] at q1 ⊢
          exact q1
      have ex2 : ∀ n : Nat, (x * x) ^ n = x ^ (2 * n) := fun n => by rw [Nat.mul_comm 2, Nat.pow_mul, ← Nat.pow_two, ← Nat.pow_mul, ← Nat.pow_mul, Nat.mul_comm]
      refine ⟨fun σ' H' => H' = H2 ∧ ∃ x y z : Nat, σ' = [some (.int x), some (.int y), some (.int z)] ∧ y = μ / 2 ∧ z * x ^ y = M ∧ 0 < x ∧ 0 < z, fun σ' H' hN => ?_, ?_⟩
      · obtain ⟨rfl, x', y', z', rfl, ey, q1, q2, q3⟩ := hN
        exact ⟨y', by omega, rfl, x', y', z', rfl, rfl, q1, q2, q3⟩
      · have em : ((μ : Nat) : Int) % 2 = ((μ % 2 : Nat) : Int) := by omega
        refine ⟨_, rfl, _, _, rfl, rfl, (by show (0 : Int) < 2; decide), rfl, _, rfl, ?_⟩
        by_cases ho : μ % 2 = 1
        · refine iteT' (decide_eq_true (show V.int (((μ : Nat) : Int) % 2) = V.int 1 by rw [em, ho]; rfl)) ?_
          refine ⟨_, rfl, _, rfl, _, _, rfl, rfl, wm hx hzM hM, ?_⟩
          have ezx : ((z : Int) * (x : Int)) = ((z * x : Nat) : Int) := (Int.natCast_mul z x).symm
          have hq : z * x * (x * x) ^ (μ / 2) = M := by
            rw [ex2, Nat.mul_assoc, ← Nat.pow_succ', show (2 * (μ / 2)).succ = μ by omega]
            exact hz
          have kz := fun D kk => key D (z * x) hq (Nat.mul_pos z0 x0) kk
          rw [← ezx] at kz
          refine kz _ fun x' r1 r2 => ?_
          rw [ezx]
          exact ⟨rfl, x', μ / 2, z * x, rfl, rfl, r1, r2, Nat.mul_pos z0 x0⟩
        · refine iteN' (fun y => ho (by have y2 : ((μ : Nat) : Int) % 2 = 1 := V.int.inj y; omega)) (next_ ?_)
          have hq : z * (x * x) ^ (μ / 2) = M := by
            rw [ex2, show 2 * (μ / 2) = μ by omega]
            exact hz
          exact key _ z hq z0 fun x' r1 r2 => ⟨rfl, x', μ / 2, z, rfl, rfl, r1, r2, z0⟩
    · have e0 : μ = 0 := by omega
      subst e0
      rw [Nat.pow_zero, Nat.mul_one] at hz
      subst hz
      refine iteN' (by decide) ?_
      exact ⟨_, rfl, k⟩
end
end K54
set_option maxHeartbeats 8000000
namespace K54
open PySem PySem.Spec PyProof.Rows L2

/-! ### is_numbers -/
abbrev sIsNum : Stmt := top 29
def spIsNum : Sp := fun vs H Q _ => ∃ (d : Addr) (es : Es), vs = [.ref d] ∧ H d = some (.dK (kv es)) ∧ es.length ≤ 1000 ∧ (es.map (·.1)).Nodup ∧ (∀ p ∈ es, isNm p.1 = true) ∧ (∀ p ∈ es, 1 ≤ p.2) ∧
  ∀ H', Same H H' → Q (.bl true) H'
def NIm : List Str := ["value", "name"]
section
variable {P : Program} {w : World} {K : PySem.W.Frag} {mg : Str → Option Value} {base : Heap}
theorem scIsNum : FnScope NIm ["value"] (defScope sIsNum) :=
  ⟨rfl, rfl, rfl, by decide +kernel, rfl, by decide +kernel, by decide +kernel⟩
theorem ok_isnum {f fN fI : Addr} {fd fdN fdI : FuncData} (F : Fun K "is_numbers" "is_numbers" sIsNum f fd) (T : Nk mg)
    (GN : FnOk P w K mg base CX0 1 fN fdN ["value"] (spIsName K)) (kN : PySem.W.keepIn K (.ref fN) = true) (bN : Binds K fdN ["value"] []) (gN : mg "is_name" = some (.ref fN))
    (GI : FnOk P w K mg base CX0 1 fI fdI ["value"] spIsInt) (kI : PySem.W.keepIn K (.ref fI) = true) (bI : Binds K fdI ["value"] []) (gI : mg "is_integer" = some (.ref fI)) :
    FnOk P w K mg base CX0 2 f fd ["value"] spIsNum := by
  refine F.ok scIsNum (fun vs H Q E h => ?_) (fun cdv A outer s H vs Q E hr h => ?_)
  · obtain ⟨d, es, rfl, _⟩ := h
    rfl
  · obtain ⟨d, es, rfl, hd, hl, hn, hnm, hpo, q⟩ := h
    have hu : (A.deeper (envOfC "is_numbers" (defScope sIsNum) s.heap.objs.size f cdv)).units + 1 < cLine := by have := hr.units; omega
    refine ⟨_, pss_cons (ps_if (pt_not (pt_val (pe_callB call_isi (by rfl) T.isi (by decide +kernel) (pa_cons (pv 0) (pa_cons (pe_bltn (v := .ty "dict") (u := .type "dict") (by rfl) T.dict (by decide +kernel) rfl) pa_nil)))))
        (pss_one (ps_ret pe_bl)) pss_nil)
      (pss_one (ps_ret (pe_lock (pe_callB (cr_all rfl) (by rfl) T.all (by decide +kernel) (pa_cons
        (pe_lc (own := [("name", 1)]) (g := gName 1) (tt := tYes)
          (te := tAndV (tCall (spIsName K) [] E0 (tCons (tVar 1) tNil)) (tAndV (tCall spIsInt [] E0 (tCons (tDGet (tVar 0) (tVar 1)) tNil)) (tOp (rI0 fun i j => V.bl (decide (j ≤ i))) (tDGet (tVar 0) (tVar 1)) (tC (.int 1))))) rfl scIsNum.nd (pi_keys (pv 0))
          (blkOk_by (own := [("name", 1)]) (N := NIm) (sc := defScope sIsNum) (by decide +kernel)) (fun _ _ _ _ _ => pg_name (i := 1) scIsNum.nd rfl (Or.inl rfl))
          (fun _ _ _ _ _ => pts_nil) (fun _ _ _ _ _ => by
            exact pe_and (pe_call GN hr rfl gN kN bN .nil pass0 (pa_cons (pv 1) pa_nil))
              (pe_and (pe_call GI hr rfl gI kI bI .nil pass0 (pa_cons (pe_dget hu (pv 0) (pv 1) (fun _ _ => rfl)) pa_nil)) (pe_one (pe_cmpR op_ge (pe_dget hu (pv 0) (pv 1) (fun _ _ => rfl)) pe_int (nomark _)))))) pa_nil))))), ?_⟩
    refine ⟨_, rfl, _, _, _, _, true, rfl, .ty _, .base (.dK hd), kit_ty (by decide +kernel), _, rfl, iteF ?_⟩
    refine ⟨d, _, hd, trivial, fun od => ?_⟩
    refine ⟨_, rfl, d, od, rfl, .inl ⟨kv es, upd_same, fun D hD => ?_⟩⟩
    have Dd : D ≠ d := fun z => by
      rw [z, upd_same] at hD
      cases hD
    have hD0 : H D = none := by
      rw [upd_ne Dd] at hD
      exact hD
    refine lc_it walk_keys (fun i H2 => H2 D = some (.lst ((List.replicate i true).map V.bl)) ∧ H2 d = some (.frz od (.dK (kv es))) ∧ ∀ b o, b ≠ d → H b = some o → H2 b = some o)
      ⟨upd_same, (upd_ne Dd.symm).trans upd_same, fun b o e1 e2 => ?_⟩ (fun i H2 _ p => p.2.1) ?_ ?_
    · rw [upd_ne (ne_of_none e2 hD0), upd_ne e1]
      exact e2
    · rintro i v H2 H3 hi ⟨hD2, hd2, S2⟩ ⟨rfl, k', v', e1, rfl⟩
      rw [kv_len] at hi
      have ei : (kv es)[i]? = some (ky es[i].1, V.int es[i].2) := by
        unfold kv
        rw [List.getElem?_map, List.getElem?_eq_getElem hi]
        rfl
      rw [ei] at e1
      cases e1
      have hnmi := hnm es[i] (List.getElem_mem hi)
      refine ⟨rfl, ?_⟩
      unfold tYes
      dsimp only
      rw [if_pos rfl]
      refine ⟨_, rfl, .inl ⟨es[i].1, rfl, by have := nm_len hnmi; omega, fun H4 S4 => ?_⟩⟩
      rw [hnmi]
      refine ⟨_, rfl, iteT' rfl ?_⟩
      have dg : DGet H4 d (.str es[i].1) (some (.int es[i].2)) := .inl ⟨_, ky es[i].1, .inr ⟨od, S4 _ _ hd2⟩, rfl, (val_at hn hi).symm⟩
      refine ⟨_, rfl, _, rfl, d, .int es[i].2, rfl, dg, es[i].2, rfl, _, rfl, iteT' rfl ?_⟩
      refine ⟨_, rfl, _, rfl, d, .int es[i].2, rfl, dg, _, _, rfl, rfl, ?_⟩
      have eb : V.bl (decide ((1 : Int) ≤ es[i].2)) = V.bl true := congrArg V.bl (decide_eq_true (hpo es[i] (List.getElem_mem hi)))
      dsimp only
      rw [eb]
      refine ⟨_, S4 _ _ hD2, by rw [List.length_map, List.length_replicate, sizeLine_eq]; omega, ?_, ?_, fun b o hb e => ?_⟩
      · rw [upd_same, List.replicate_succ', List.map_append]
        rfl
      · rw [upd_ne Dd.symm]
        exact S4 _ _ hd2
      · rw [upd_ne (ne_of_none e hD0)]
        exact S4 b o (S2 b o hb e)
    · rintro H2 ⟨hD2, hd2, S2⟩
      refine ⟨D, _, rfl, SqL.of hD2, hd2, ?_⟩
      have e : (List.replicate (kv es).length true).all id = true := by
        rw [List.all_eq_true]
        intro x hx
        exact List.eq_of_mem_replicate hx
      rw [e]
      refine q _ fun b o eb => ?_
      by_cases hb : b = d
      · subst hb
        rw [upd_same]
        exact hd.symm.trans eb
      · exact (upd_ne hb).trans (S2 b o hb eb)
end
end K54
set_option maxHeartbeats 8000000
namespace K54
open PySem PySem.Spec PyProof.Rows L2

/-! ### check_numbers, of right numbers -/
abbrev sChN : Stmt := top 30
def spChN : Sp := fun vs H Q _ => ∃ (d l : Addr) (es : Es) (ns : List Str), vs = [.ref d, .ref l] ∧ H d = some (.dK (kv es)) ∧ es.length ≤ 1000 ∧ (es.map (·.1)).Nodup ∧ (∀ p ∈ es, isNm p.1 = true) ∧ (∀ p ∈ es, 1 ≤ p.2) ∧
  H l = some (.lst (ns.map V.str)) ∧ ns.length ≤ 1000 ∧ (∀ n ∈ ns, n ∈ es.map (·.1)) ∧ ∀ H', Same H H' → Q .non H'
def NCN : List Str := ["value", "names", "name"]
section
variable {P : Program} {w : World} {K : PySem.W.Frag} {mg : Str → Option Value} {base : Heap}
theorem scChN : FnScope NCN ["value", "names"] (defScope sChN) :=
  ⟨rfl, rfl, rfl, by decide +kernel, rfl, by decide +kernel, by decide +kernel⟩
theorem all_false (n : Nat) : (List.replicate n false).any id = false := by
  rw [List.any_eq_false]
  intro x hx
  rw [List.eq_of_mem_replicate hx]
  decide
theorem ok_chn {f fN : Addr} {fd fdN : FuncData} (F : Fun K "check_numbers" "check_numbers" sChN f fd) (aN : mg "any" = none)
    (GN : FnOk P w K mg base CX0 2 fN fdN ["value"] spIsNum) (kN : PySem.W.keepIn K (.ref fN) = true) (bN : Binds K fdN ["value"] []) (gN : mg "is_numbers" = some (.ref fN)) :
    FnOk P w K mg base CX0 3 f fd ["value", "names"] spChN := by
  refine F.ok scChN (fun vs H Q E h => ?_) (fun cdv A outer s H vs Q E hr h => ?_)
  · obtain ⟨d, l, es, ns, rfl, _⟩ := h
    rfl
  · obtain ⟨d, l, es, ns, rfl, hd, hl, hn, hnm, hpo, hll, hz, hin, q⟩ := h
    have hu : (A.deeper (envOfC "check_numbers" (defScope sChN) s.heap.objs.size f cdv)).units + 1 < cLine := by have := hr.units; omega
    refine ⟨_, pss_one (ps_if (PW.pt (pw_or (pt_not (pt_val (pe_call GN hr rfl gN kN bN .nil pass0 (pa_cons (pv 0) pa_nil))))
        (pw_or1 (pt_val (pe_callB (cr_any rfl) (by rfl) aN (by decide +kernel) (pa_cons
          (pe_lc (own := [("name", 2)]) (g := gName 2) (tt := tYes) (te := tDNotIn (tVar 2) (tVar 0)) rfl scChN.nd (pi_list (pv 1))
            (blkOk_by (own := [("name", 2)]) (N := NCN) (sc := defScope sChN) (by decide +kernel)) (fun _ _ _ _ _ => pg_name (i := 2) scChN.nd rfl (Or.inl rfl))
            (fun _ _ _ _ _ => pts_nil) (fun _ _ _ _ _ => by exact pe_cmp (pc_dnotin hu (pv 2) (pv 0)) rfl)) pa_nil))))))
        (pss_one ps_no) pss_nil), ?_⟩
    refine ⟨_, rfl, d, es, rfl, hd, hl, hn, hnm, hpo, fun H2 S2 => ⟨_, rfl, iteF ?_⟩⟩
    refine ⟨_, rfl, l, rfl, ⟨_, SqL.of (S2 _ _ hll)⟩, fun D hD => ?_⟩
    refine lc_it (walk_list (K := K) (a := l) (xs := ns.map V.str)) (fun i H3 => H3 D = some (.lst ((List.replicate i false).map V.bl)) ∧ Same H2 H3) ⟨upd_same, fresh_upd hD⟩ (fun i H3 _ h => SqL.of (h.2 _ _ (S2 _ _ hll))) ?_ ?_
    · rintro i x H3 H4 hi ⟨h3, S3⟩ ⟨rfl, hx⟩
      rw [List.length_map] at hi
      obtain ⟨n, hnn, rfl⟩ := List.mem_map.mp (List.mem_of_getElem? hx)
      obtain ⟨p, hp, rfl⟩ := List.mem_map.mp (hin n hnn)
      refine ⟨rfl, ?_⟩
      unfold tYes
      dsimp only
      rw [if_pos rfl]
      refine ⟨_, rfl, _, rfl, d, some (.int p.2), rfl, .inl ⟨_, ky p.1, .inl (S3 _ _ (S2 _ _ hd)), rfl, by rw [val_kv, lookG hn hp]; rfl⟩, ?_⟩
      refine ⟨_, h3, by rw [List.length_map, List.length_replicate, sizeLine_eq]; omega, ?_, fun b o e => ?_⟩
      · rw [upd_same, List.replicate_succ', List.map_append]
        rfl
      · rw [upd_ne (ne_of_none e hD)]
        exact S3 b o e
    · rintro H3 ⟨h3, S3⟩
      refine ⟨D, List.replicate (ns.map V.str).length false, rfl, SqL.of h3, ?_⟩
      rw [all_false]
      exact ⟨_, rfl, iteF (next_ (q _ (S2.trans S3)))⟩
end
end K54
set_option maxHeartbeats 8000000
namespace K54
open PySem PySem.Spec PyProof.Rows L2

/-! ### the value at numbers -/
def upV : Es → (Str → Nat) → Nat
  | [], _ => 1
  | q :: r, N => (if 0 < q.2 then N q.1 ^ q.2.toNat else 1) * upV r N
def dnV : Es → (Str → Nat) → Nat
  | [], _ => 1
  | q :: r, N => (if q.2 < 0 then N q.1 ^ (-q.2).toNat else 1) * dnV r N
/-- a bound on what is multiplied -/
def bnd : Es → (Str → Nat) → Nat
  | [], _ => 0
  | q :: r, L => q.2.natAbs * L q.1 + bnd r L
theorem ord_of_G {bs : List Nat} {n : Nat} (hc : Cop bs) (h : G bs n) : ∃ f, n = K54.pw f bs ∧ ∀ b ∈ bs, IsOrd n b (f b) := by
  obtain ⟨f, e⟩ := G.pw h hc.nodup
  refine ⟨f, e, fun b hb => ?_⟩
  obtain ⟨r, er, hr⟩ := pw_split f hc hb
  refine ⟨r, e.trans er, fun z => ?_⟩
  have h1 := hc.2 b hb
  have h2 : Nat.gcd b r = b := Nat.gcd_eq_left z
  have h3 : Nat.gcd b r = 1 := hr
  omega
theorem pw_ord {bs : List Nat} {n : Nat} (hc : Cop bs) (h : G bs n) : n = K54.pw (ordF n) bs := by
  obtain ⟨f, e, k⟩ := ord_of_G hc h
  have z : K54.pw (ordF n) bs = K54.pw f bs := pw_congr fun b hb => ordF_eq (hc.2 b hb) (k b hb)
  rw [z]
  exact e
theorem above_up {bs : List Nat} (hc : Cop bs) (N : Str → Nat) : ∀ {es : Es}, (∀ q ∈ es, G bs (N q.1)) → above bs (lsO es N) = upV es N
  | [], _ => rfl
  | q :: r, h => by
    have ih := above_up hc N (es := r) fun q hq => h q (List.mem_cons_of_mem _ hq)
    show (if 0 < q.2 then K54.pw (ordF (N q.1)) bs ^ q.2.toNat else 1) * above bs (lsO r N) = _
    rw [ih, ← pw_ord hc (h q (List.mem_cons_self ..))]
    rfl
theorem below_dn {bs : List Nat} (hc : Cop bs) (N : Str → Nat) : ∀ {es : Es}, (∀ q ∈ es, G bs (N q.1)) → below bs (lsO es N) = dnV es N
  | [], _ => rfl
  | q :: r, h => by
    have ih := below_dn hc N (es := r) fun q hq => h q (List.mem_cons_of_mem _ hq)
    show (if q.2 < 0 then K54.pw (ordF (N q.1)) bs ^ (-q.2).toNat else 1) * below bs (lsO r N) = _
    rw [ih, ← pw_ord hc (h q (List.mem_cons_self ..))]
    rfl
theorem upV_lt {N L : Str → Nat} : ∀ {es : Es}, (∀ q ∈ es, N q.1 < 2 ^ L q.1) → upV es N ≤ 2 ^ bnd es L
  | [], _ => Nat.le_refl _
  | q :: r, h => by
    have ih := upV_lt (L := L) (es := r) fun q hq => h q (List.mem_cons_of_mem _ hq)
    have hq := h q (List.mem_cons_self ..)
    show (if 0 < q.2 then N q.1 ^ q.2.toNat else 1) * upV r N ≤ 2 ^ (q.2.natAbs * L q.1 + bnd r L)
    rw [Nat.pow_add]
    refine Nat.mul_le_mul ?_ ih
    split
    · rename_i h0
      have e : q.2.toNat = q.2.natAbs := by omega
      rw [e, Nat.mul_comm, Nat.pow_mul]
      exact Nat.pow_le_pow_left (by omega) _
    · exact Nat.one_le_two_pow
theorem dnV_lt {N L : Str → Nat} : ∀ {es : Es}, (∀ q ∈ es, N q.1 < 2 ^ L q.1) → dnV es N ≤ 2 ^ bnd es L
  | [], _ => Nat.le_refl _
  | q :: r, h => by
    have ih := dnV_lt (L := L) (es := r) fun q hq => h q (List.mem_cons_of_mem _ hq)
    have hq := h q (List.mem_cons_self ..)
    show (if q.2 < 0 then N q.1 ^ (-q.2).toNat else 1) * dnV r N ≤ 2 ^ (q.2.natAbs * L q.1 + bnd r L)
    rw [Nat.pow_add]
    refine Nat.mul_le_mul ?_ ih
    split
    · rename_i h0
      have e : (-q.2).toNat = q.2.natAbs := by omega
      rw [e, Nat.mul_comm, Nat.pow_mul]
      exact Nat.pow_le_pow_left (by omega) _
    · exact Nat.one_le_two_pow
theorem dnV_pos {N : Str → Nat} : ∀ {es : Es}, (∀ q ∈ es, 0 < N q.1) → 0 < dnV es N
  | [], _ => Nat.zero_lt_one
  | q :: r, h => by
    have ih := dnV_pos (es := r) fun q hq => h q (List.mem_cons_of_mem _ hq)
    have hq := h q (List.mem_cons_self ..)
    show 0 < (if q.2 < 0 then N q.1 ^ (-q.2).toNat else 1) * dnV r N
    refine Nat.mul_pos ?_ ih
    split
    · exact Nat.pow_pos hq
    · decide
theorem upV_pos {N : Str → Nat} : ∀ {es : Es}, (∀ q ∈ es, 0 < N q.1) → 0 < upV es N
  | [], _ => Nat.zero_lt_one
  | q :: r, h => by
    have ih := upV_pos (es := r) fun q hq => h q (List.mem_cons_of_mem _ hq)
    have hq := h q (List.mem_cons_self ..)
    show 0 < (if 0 < q.2 then N q.1 ^ q.2.toNat else 1) * upV r N
    refine Nat.mul_pos ?_ ih
    split
    · exact Nat.pow_pos hq
    · decide
theorem IsOrd.le_lg {n b k l : Nat} (hb : 1 < b) (n0 : 0 < n) (hn : n < 2 ^ l) (h : IsOrd n b k) : k ≤ l := by
  obtain ⟨r, e, hr⟩ := h
  have r0 : 0 < r := by
    refine Nat.pos_of_ne_zero fun z => ?_
    rw [z, Nat.mul_zero] at e
    omega
  have h1 : 2 ^ k ≤ b ^ k := Nat.pow_le_pow_left hb k
  have h2 : b ^ k ≤ n := by
    rw [e]
    exact Nat.le_mul_of_pos_right _ r0
  have h3 : 2 ^ k < 2 ^ l := by omega
  exact Nat.le_of_lt ((Nat.pow_lt_pow_iff_right (show 1 < 2 by decide)).mp h3)
theorem sm_le {bs : List Nat} (hc : Cop bs) {N L : Str → Nat} {b : Nat} (hb : b ∈ bs) : ∀ {es : Es}, (∀ q ∈ es, G bs (N q.1)) → (∀ q ∈ es, 0 < N q.1 ∧ N q.1 < 2 ^ L q.1) →
    sm (lsO es N) b ≤ (bnd es L : Nat)
  | [], _, _ => Int.le_refl _
  | q :: r, h, k => by
    have ih := sm_le hc hb (es := r) (fun q hq => h q (List.mem_cons_of_mem _ hq)) fun q hq => k q (List.mem_cons_of_mem _ hq)
    have hq := h q (List.mem_cons_self ..)
    obtain ⟨n0, nl⟩ := k q (List.mem_cons_self ..)
    obtain ⟨f, e, kf⟩ := ord_of_G hc hq
    have ho := ordF_eq (hc.2 b hb) (kf b hb)
    have hl := (kf b hb).le_lg (hc.2 b hb) n0 nl
    show q.2 * (ordF (N q.1) b : Nat) + sm (lsO r N) b ≤ ((q.2.natAbs * L q.1 + bnd r L : Nat) : Int)
    rw [ho]
    have h1 : q.2 * (f b : Nat) ≤ ((q.2.natAbs * L q.1 : Nat) : Int) := by
      have h2 : q.2 * (f b : Nat) ≤ (q.2.natAbs : Int) * (f b : Nat) := Int.mul_le_mul_of_nonneg_right (by omega) (by omega)
      have h3 : q.2.natAbs * f b ≤ q.2.natAbs * L q.1 := Nat.mul_le_mul_left _ hl
      have h4 : ((q.2.natAbs * f b : Nat) : Int) = (q.2.natAbs : Int) * (f b : Nat) := Int.natCast_mul ..
      omega
    omega
theorem pw_take {f : Nat → Nat} : ∀ {bs : List Nat}, (∀ b ∈ bs, 1 < b) → ∀ i, pw f (bs.take i) ≤ pw f bs
  | [], _, i => by simp
  | b :: r, h, 0 => by
    have : 0 < pw f (b :: r) := pw_pos h
    show 1 ≤ _
    omega
  | b :: r, h, i + 1 => by
    have ih := pw_take (f := f) (bs := r) (fun x hx => h x (List.mem_cons_of_mem _ hx)) i
    show b ^ f b * pw f (r.take i) ≤ b ^ f b * pw f r
    exact Nat.mul_le_mul_left _ ih
theorem pw_snoc (f : Nat → Nat) (b : Nat) : ∀ bs : List Nat, pw f (bs ++ [b]) = pw f bs * b ^ f b
  | [] => by
    show b ^ f b * 1 = 1 * b ^ f b
    omega
  | c :: r => by
    show c ^ f c * pw f (r ++ [b]) = c ^ f c * pw f r * b ^ f b
    rw [pw_snoc f b r, Nat.mul_assoc]
theorem value_eq {bs : List Nat} (hc : Cop bs) {N : Str → Nat} {es : Es} (hG : ∀ q ∈ es, G bs (N q.1)) (h : ∀ b ∈ bs, 0 ≤ sm (lsO es N) b) :
    dnV es N ∣ upV es N ∧ pw (fun b => (sm (lsO es N) b).toNat) bs = upV es N / dnV es N := by
  have z := value_whole (lsO es N) h
  rw [above_up hc N hG, below_dn hc N hG] at z
  have hp : 0 < dnV es N := by
    rw [← below_dn hc N hG]
    exact below_pos hc _
  refine ⟨⟨_, z⟩, ?_⟩
  rw [z, Nat.mul_div_cancel_left _ hp]
theorem value_no {bs : List Nat} (hc : Cop bs) {N : Str → Nat} {es : Es} (hG : ∀ q ∈ es, G bs (N q.1)) {b : Nat} (hb : b ∈ bs) (h : sm (lsO es N) b < 0) : ¬ dnV es N ∣ upV es N := by
  rw [← above_up hc N hG, ← below_dn hc N hG]
  exact value_not hc _ hb h
end K54
set_option maxHeartbeats 8000000
/-! own exceptions that are raised; methods that raise -/
namespace L2
open PySem PySem.Spec PyProof.Rows

/-- C(e, ..), to be raised: its dict is new -/
def tXm (C : Addr) (ps : List Str) (ta : TA) : St → Hp → XK → Prop := fun σ H Q => ta σ H fun vs H1 => vs.length = ps.length ∧
  ∀ d, H1 d = none → Q (.ref C) (some d) (upd H1 d (.xd (ps.zip vs.reverse)))
section
variable {X : Cx} {C : Addr} {p₀ : Str} {ps : List Str} {k : Nat} {x : Str} {p pos : Pos} {e : Expr} {es : List Expr} {ta : TA}
theorem pmk_x (M : MkAll X.prog X.w X.K X.mg C (p₀ :: ps)) (hr : Room k X.A) (hg : Gl X x) (hm : X.mg x = some (.ref C)) (R : Raises X (.ref C))
    (ha : PA X (e :: es) ta) (hdb : (x == ("__debug__" : Str)) = false := by decide)
    (he : starEach (e :: es) X.env = (false, eval e X.env) :: starEach es X.env := by rfl)
    (hpl : (backTo pos (starEach es X.env)).any (·.1) = false := by rfl) :
    PMk X (.Call (.Name x p) (e :: es) [] pos) (tXm C (p₀ :: ps) ta) := by
  intro pins s σ H Q I h
  refine wpAny_Call_Name_kw (ld_glob I hg hm ?_ hdb)
  refine PySem.W.callWith_K (h₀ := X.base) I.ok.mod.kin M.kp
    (thn (ha.run pos pins s σ H _ I h) fun us s1 ⟨vs, H1, I1, r, hl, q⟩ => ⟨I1.kIn, ?_⟩) he hpl
  have lu : us.length = (p₀ :: ps).length := r.length.symm.trans hl
  have Z := M.pos ((p₀ :: ps).zip us.reverse) (zip_fst (by rw [List.length_reverse]; exact lu))
  rw [zip_rev lu] at Z
  have kv := zip_kv (p₀ :: ps) (vals_rev r)
  have hd := hr.dp
  show wpAny _ _ (call (.ref C) us) _ _ _
  refine wpAny_call (Z X.A _ s1 I1.mh I1.nolimit (by omega) fun h' tk a W => ?_)
  have zo := W.obj
  obtain ⟨u0, ur, eu⟩ : ∃ u0 ur, us.reverse = u0 :: ur := by
    cases e : us.reverse with
    | nil =>
      have z := congrArg List.length e
      rw [List.length_reverse, lu] at z
      cases z
    | cons a b => exact ⟨a, b, rfl⟩
  obtain ⟨y0, yr, ey⟩ : ∃ y0 yr, vs.reverse = y0 :: yr := by
    cases e : vs.reverse with
    | nil =>
      have z := congrArg List.length e
      rw [List.length_reverse, hl] at z
      cases z
    | cons a b => exact ⟨a, b, rfl⟩
  rw [eu] at zo kv
  obtain ⟨t1, dx, e1, e2, e3, e4⟩ := zo
  obtain ⟨G, g1', g2'⟩ := restrict h' fun b => decide (b ≠ a)
  have gk : ∀ b, b ≠ a → G.get? b = h'.get? b := fun b hb => g1' b (decide_eq_true hb)
  have ge : G.get? a = none := g2' a (by simp)
  have na0 : H1 a = none := I1.hok.fresh W.new
  have hdx : H1 dx = none := I1.hok.fresh e2
  have keep : ∀ b o, s1.heap.get? b = some o → G.get? b = some o := fun b o z =>
    (gk b (Nat.ne_of_lt (Nat.lt_of_lt_of_le (Heap.lt_size z) W.new))).trans (W.keep b o z)
  have ok : ObjOk X.prog X.w H1 G dx (.xd ((p₀ :: ps).zip vs.reverse)) := by
    refine ⟨_, e4.at fun o y => (gk dx e3).trans y, ?_⟩
    exact kv_lookup kv
  have J := I1.laid (t' := tk) (a := dx) (o := .xd ((p₀ :: ps).zip vs.reverse)) (h' := G) keep e2 ok
  refine ⟨a, _, _, { s1 with heap := G, toks := tk }, _, .ref C, some dx, rfl, J, fun b o z => ?_, ge, e1, ⟨rfl, rfl⟩, rfl, rfl, ?_, rfl, I1.bare, R, q dx hdx⟩
  · by_cases hb : b = a
    · subst hb
      rw [show ({ s1 with heap := G, toks := tk } : Shared).heap = G from rfl, ge] at z
      cases z
    · exact (gk b hb).symm.trans z
  · rw [upd_ne e3.symm]
    exact na0
end

section
variable {X : Cx} {CX : CXT} {k : Nat} {f C : Addr} {fd : FuncData} {ps : List Str} {sp : Sp} {E : St → XK} {m : Str} {p apos : Pos} {e o : Expr} {es : List Expr} {ta : TE} {t : TA}
end

/-! ### what a suite asks of the exception that it holds -/
section
variable {X : Cx} {a C : Addr} {oe : Obj} {cls : Value} {d : Option Addr} {pn : List (Addr × Obj)} {e : Expr} {te : TE} {pos : Pos} {n : Str}
end

/-! ### defs that raise nothing, called whatever is being handled -/
structure RoomW (k : Nat) (A : Around) : Prop where
  dp : A.depth + 3 * k + 5 < recursionLimit
  un : A.units + 16 * k + 200 < cLine
theorem RoomW.mono {j k : Nat} {A : Around} (r : RoomW k A) (h : j ≤ k) : RoomW j A := ⟨by have := r.dp; omega, by have := r.un; omega⟩
theorem RoomW.deeper {k : Nat} {A : Around} (r : RoomW (k + 1) A) (env : Env) : RoomW k (A.deeper env) :=
  ⟨by have := r.dp; show A.depth + 1 + 3 * k + 5 < _; omega, by have := r.un; show A.units + 3 + 16 * k + 200 < _; omega⟩
theorem RoomW.depth {k : Nat} {A : Around} (r : RoomW k A) : A.depth < recursionLimit := by have := r.dp; omega
end L2
set_option maxHeartbeats 8000000
namespace K54
open PySem PySem.Spec PyProof.Rows L2

/-! ### at -/
abbrev sAt : Stmt := inClass sSize 12
def nOf (ms : Es) (n : Str) : Nat := (g0 ms n).toNat
/-- right numbers stand at d -/
structure NumD (H : Hp) (d : Addr) (ms : Es) : Prop where
  at_ : H d = some (.dK (kv ms))
  len : ms.length ≤ 1000
  nd : (ms.map (·.1)).Nodup
  nm : ∀ p ∈ ms, isNm p.1 = true
  pos : ∀ p ∈ ms, 1 ≤ p.2
  lt : ∀ p ∈ ms, p.2 < 1073741824
theorem NumD.same {H H' : Hp} {d : Addr} {ms : Es} (h : NumD H d ms) (S : Same H H') : NumD H' d ms := ⟨S _ _ h.at_, h.len, h.nd, h.nm, h.pos, h.lt⟩
theorem NumD.look {H : Hp} {d : Addr} {ms : Es} (h : NumD H d ms) {n : Str} (hn : n ∈ ms.map (·.1)) : ms.lookup n = some (nOf ms n : Int) ∧ 0 < nOf ms n ∧ nOf ms n < 1073741824 := by
  obtain ⟨p, hp, rfl⟩ := List.mem_map.mp hn
  have e := lookG h.nd hp
  have h1 := h.pos p hp
  have h2 := h.lt p hp
  have e2 : nOf ms p.1 = p.2.toNat := by
    unfold nOf g0
    rw [e]
    rfl
  rw [e2]
  exact ⟨by rw [e]; congr 1; omega, by omega, by omega⟩
def spAt (C CW : Addr) : Sp := fun vs H Q E => ∃ (p d : Addr) (es ms : Es) (L : Str → Nat), vs = [.ref p, .ref d] ∧ SizeAt C H p es ∧ NumD H d ms ∧ (∀ q ∈ es, q.1 ∈ ms.map (·.1)) ∧
  bnd es L ≤ 10000 ∧ (∀ q ∈ es, nOf ms q.1 < 2 ^ L q.1) ∧
  (dnV es (nOf ms) ∣ upV es (nOf ms) → ∀ H', Same H H' → Q (.int ((upV es (nOf ms) / dnV es (nOf ms) : Nat) : Int)) H') ∧
  (¬ dnV es (nOf ms) ∣ upV es (nOf ms) → ∀ H' dd, Same H H' → H dd = none → H' dd = some (.xd [("size", .ref p)]) → E (.ref CW) (some dd) H')
def NAt : List Str := ["self", "numbers", "pairs", "value", "base", "order", "_"]
theorem pairedR {α β : Type} {R : α → β → Prop} : ∀ {xs : List α} {ys : List β}, Paired R xs ys → ∀ {i : Nat} (hi : i < ys.length), ∃ x, xs[i]? = some x ∧ R x ys[i]
  | _, _, .nil, i, hi => absurd hi (Nat.not_lt_zero _)
  | _, _, .cons r t, 0, hi => ⟨_, rfl, r⟩
  | _, _, .cons r t, i + 1, hi => pairedR t (Nat.lt_of_succ_lt_succ hi)
theorem any_of : ∀ {xs : List Int}, (xs.map fun x => decide (x < 0)).any id = decide (∃ x ∈ xs, x < 0)
  | [] => by simp
  | x :: r => by
    have ih := any_of (xs := r)
    rw [List.map_cons, List.any_cons, ih]
    by_cases h : x < 0 <;> simp [h]
section
variable {P : Program} {w : World} {K : PySem.W.Frag} {mg : Str → Option Value} {base : Heap} {C CW : Addr}
theorem scAt : FnScope NAt ["self", "numbers"] (defScope sAt) :=
  ⟨rfl, rfl, rfl, by decide +kernel, rfl, by decide +kernel, by decide +kernel⟩
theorem ok_at {f fN fC fO fR : Addr} {fd fdN fdC fdO fdR : FuncData} (F : Fun K "at" "Size.at" sAt f fd) (Tc : Ck K mg C) (aN : mg "any" = none)
    (GC : FnOk P w K mg base CX0 3 fC fdC ["value", "names"] spChN) (kC : PySem.W.keepIn K (.ref fC) = true) (bC : Binds K fdC ["value", "names"] []) (gC : mg "check_numbers" = some (.ref fC))
    (GN : FnOk P w K mg base CX0 1 fN fdN ["self"] (spNames C)) (mN : Meth K C "names" fN) (bN : Binds K fdN ["self"] [])
    (GO : FnOk P w K mg base CX0 4 fO fdO ["exponents", "numbers"] spOrs) (kO : PySem.W.keepIn K (.ref fO) = true) (bO : Binds K fdO ["exponents", "numbers"] []) (gO : mg "orders" = some (.ref fO))
    (GR : FnOk P w K mg base CX0 1 fR fdR ["base", "count"] spRai) (kR : PySem.W.keepIn K (.ref fR) = true) (bR : Binds K fdR ["base", "count"] []) (gR : mg "raised" = some (.ref fR))
    (M : MkAll P w K mg CW ["size"]) (gW : mg "NotWhole" = some (.ref CW)) (R1 : PySem.W.subIn K (.ref CW) (.type "BaseException") = some true) (R2 : PySem.W.typeIn K (.ref CW) = some (.type "type")) :
    FnOk P w K mg base (L2.CX P w) 5 f fd ["self", "numbers"] (spAt C CW) := by
  have GC4 := GC.mono (k := 4) (by decide)
  have GN4 := GN.mono (k := 4) (by decide)
  have GR4 := GR.mono (k := 4) (by decide)
  refine F.okX scAt (fun vs H Q E h => ?_) (fun cdv A outer s H vs Q E hr h => ?_)
  · obtain ⟨p, d, es, ms, L, rfl, _⟩ := h
    rfl
  · obtain ⟨p, d, es, ms, L, rfl, hz, hD, hin, hb, hL, k1, k2⟩ := h
    refine ⟨_, pss_cons (ps_expr (pe_call GC4 hr rfl gC kC bC .nil pass0 (pa_cons (pv 1) (pa_cons (pe_meth0 (pv 0) Tc.cl mN GN4 hr bN .nil pass0) pa_nil))))
      (pss_cons (ps_set (i := 2) scAt.nd rfl (by first | exact .inl rfl | exact .inr rfl) (pe_call GO hr rfl gO kO bO .nil pass0 (pa_cons (pe_fld (pv 0) rfl) (pa_cons (pv 1) pa_nil))))
      (pss_cons (ps_if (pt_val (pe_callB (cr_any rfl) (by rfl) aN (by decide +kernel) (pa_cons
          (pe_lc (own := [("_", 6), ("order", 5)]) (g := gTup K 2 (gCons (gName 6) (gCons (gName 5) gNil))) (tt := tYes)
            (te := tOp (rI0 fun i j => V.bl (decide (i < j))) (tVar 5) (tC (.int 0))) rfl scAt.nd (pi_list (pv 2))
            (blkOk_by (own := [("_", 6), ("order", 5)]) (N := NAt) (sc := defScope sAt) (by decide +kernel))
            (fun _ _ _ _ _ => pg_tup rfl (pgs_cons (pg_name (i := 6) scAt.nd rfl (Or.inl rfl)) (pgs_cons (pg_name (i := 5) scAt.nd rfl (Or.inl rfl)) pgs_nil)))
            (fun _ _ _ _ _ => pts_nil) (fun _ _ _ _ _ => by exact pe_cmpR op_lt (pv 5) pe_int (nomark _))) pa_nil)))
          (pss_one (ps_raise rfl (takes_of rfl rfl rfl rfl) (pmk_x M hr rfl gW (raises_own R1 R2) (pa_cons (pv 0) pa_nil)))) pss_nil)
      (pss_cons (ps_set (i := 3) scAt.nd rfl (by first | exact .inl rfl | exact .inr rfl) pe_int)
      (pss_cons (ps_for (passes_of rfl) rfl (pi_list (pv 2)) (pg_tup rfl (pgs_cons (pg_name (i := 4) scAt.nd rfl (Or.inl rfl)) (pgs_cons (pg_name (i := 5) scAt.nd rfl (Or.inl rfl)) pgs_nil)))
          (pss_one (ps_set (i := 3) scAt.nd rfl (by first | exact .inl rfl | exact .inr rfl) (pe_op op_mulW (pv 3) (pe_call GR4 hr rfl gR kR bR .nil pass0 (pa_cons (pv 4) (pa_cons (pv 5) pa_nil)))))))
      (pss_one (ps_ret (pv 3))))))), ?_⟩
    obtain ⟨dx, D0, z1, z2, z3, z4, z5, z6⟩ := id hz
    refine ⟨_, rfl, _, rfl, p, dx, _, rfl, z1, rfl, p, es, rfl, hz, fun ln nln => ?_⟩
    have S1 := fresh_upd (o := .lst (es.map fun q => V.str q.1)) nln
    have e1 : upd H ln (.lst (es.map fun q => V.str q.1)) ln = some (.lst (es.map fun q => V.str q.1)) := upd_same
    generalize upd H ln (.lst (es.map fun q => V.str q.1)) = H1 at S1 e1
    refine ⟨d, ln, ms, es.map (·.1), rfl, S1 _ _ hD.at_, hD.len, hD.nd, hD.nm, hD.pos, by rw [List.map_map]; exact e1, by rw [List.length_map]; omega, fun n hn => ?_, fun H2 S2 => ?_⟩
    · obtain ⟨q, hq, rfl⟩ := List.mem_map.mp hn
      exact hin q hq
    have S02 := S1.trans S2
    have hlook := fun q (hq : q ∈ es) => hD.look (hin q hq)
    refine ⟨_, rfl, p, C, dx, _, _, rfl, S02 _ _ z1, Tc.cl, Tc.nE, rfl, ?_⟩
    refine ⟨_, rfl, D0, d, es, nOf ms, rfl, S02 _ _ z2, z3.nodup, z6, ⟨ms, S02 _ _ hD.at_, hlook⟩, fun H3 r ts bs S3 nr hr3 hP hC hG hs hbl => ?_⟩
    have S03 := S02.trans S3
    have hbb : ∀ b ∈ bs, sm (lsO es (nOf ms)) b ≤ 10000 := fun b hb' => by
      have z := sm_le hC (L := L) hb' hG fun q hq => ⟨(hlook q hq).2.1, hL q hq⟩
      omega
    generalize eS : sm (lsO es (nOf ms)) = sM at hP hbb
    have hP' : Paired (fun t b => H3 t = some (.tup [V.int (Int.ofNat b), V.int (sM b)])) ts bs := by
      unfold PtAt at hP
      rw [eS] at hP
      exact hP
    have hlen := hP'.length
    have get : ∀ {H' : Hp}, Same H3 H' → ∀ i (hi : i < bs.length), ∃ t, ts[i]? = some t ∧ H' t = some (.tup [V.int (Int.ofNat bs[i]), V.int (sM bs[i])]) := fun {H'} S i hi => by
      obtain ⟨t, ht, e⟩ := pairedR hP' hi
      exact ⟨t, ht, S _ _ e⟩
    refine ⟨_, rfl, r, rfl, ⟨_, SqL.of hr3⟩, fun D hD' => ?_⟩
    refine lc_it (walk_list (K := K) (a := r) (xs := ts.map V.ref)) (fun i H4 => Same H3 H4 ∧ H4 D = some (.lst ((((bs.take i).map sM).map fun x => decide (x < 0)).map V.bl))) ⟨fresh_upd hD', upd_same⟩ (fun i H4 _ h => SqL.of (h.1 _ _ hr3)) ?_ ?_
    · rintro i x H4 H5 hi ⟨S4, h4⟩ ⟨rfl, hx⟩
      rw [List.length_map, hlen] at hi
      obtain ⟨t, ht, e⟩ := get S4 i hi
      have ex : x = .ref t := by
        rw [List.getElem?_map, ht] at hx
        exact (Option.some.inj hx).symm
      subst ex
      refine ⟨t, _, rfl, SqT.of e, rfl, _, _, rfl, _, _, rfl, rfl, rfl, ?_⟩
      unfold tYes
      dsimp only
      rw [if_pos rfl]
      refine ⟨_, rfl, _, _, rfl, rfl, _, h4, by rw [List.length_map, List.length_map, List.length_map, List.length_take, sizeLine_eq]; omega, fun b o eb => ?_, ?_⟩
      · rw [upd_ne (ne_of_none eb hD')]
        exact S4 _ _ eb
      · rw [upd_same, List.take_add_one, List.getElem?_eq_getElem hi, List.map_append, List.map_append, List.map_append]
        rfl
    rintro H4 ⟨S4, h4⟩
    rw [List.length_map, hlen, List.take_length] at h4
    have S04 := S03.trans S4
    refine ⟨D, _, rfl, SqL.of h4, ?_⟩
    rw [any_of]
    refine ⟨_, rfl, ?_⟩
    by_cases hneg : ∃ x ∈ bs.map sM, x < 0
    · refine iteT' (decide_eq_true hneg) ?_
      obtain ⟨x, hx, hx0⟩ := hneg
      obtain ⟨b, hb', rfl⟩ := List.mem_map.mp hx
      have hno := value_no hC hG hb' (by rw [eS]; exact hx0)
      refine ⟨_, rfl, rfl, fun dd hdd => ?_⟩
      refine k2 hno _ dd (S04.trans (fresh_upd hdd)) ?_ upd_same
      cases e : H dd with
      | none => rfl
      | some o =>
        have z := S04 _ _ e
        rw [hdd] at z
        cases z
    · refine iteN' hneg (next_ ?_)
      have hnn : ∀ b ∈ bs, 0 ≤ sm (lsO es (nOf ms)) b := fun b hb' => by
        rw [eS]
        exact Int.not_lt.mp fun z => hneg ⟨_, List.mem_map.mpr ⟨b, hb', rfl⟩, z⟩
      obtain ⟨hdv, hval⟩ := value_eq hC hG hnn
      rw [eS] at hval hnn
      have hup := upV_lt hL
      have hpwU : pw (fun b => (sM b).toNat) bs ≤ 2 ^ 10000 := by
        rw [hval]
        exact Nat.le_trans (Nat.div_le_self ..) (Nat.le_trans hup (Nat.pow_le_pow_right (by decide) hb))
      refine ⟨_, rfl, r, rfl, ⟨_, SqL.of (S4 _ _ hr3)⟩, for_it (walk_list (K := K) (a := r) (xs := ts.map V.ref)) (fun i σ H5 => (∃ o4 o5 o6, σ = [some (.ref p), some (.ref d), some (.ref r), some (.int ((pw (fun b => (sM b).toNat) (bs.take i) : Nat) : Int)), o4, o5, o6]) ∧ Same H4 H5)
        ⟨⟨none, none, none, rfl⟩, fun b o e => e⟩ (fun i σ H5 _ h => SqL.of (h.2 _ _ (S4 _ _ hr3))) ?_ ?_⟩
      · rintro i x σ H5 H6 hi ⟨⟨o4, o5, o6, rfl⟩, S5⟩ ⟨rfl, hx⟩
        rw [List.length_map, hlen] at hi
        obtain ⟨t, ht, e⟩ := get (S4.trans S5) i hi
        have ex : x = .ref t := by
          rw [List.getElem?_map, ht] at hx
          exact (Option.some.inj hx).symm
        subst ex
        have hbm := List.getElem_mem hi
        have h0 := hnn _ hbm
        have h1 := hbb _ hbm
        have hb1 := hC.2 _ hbm
        obtain ⟨c, hc⟩ : ∃ c : Nat, sM bs[i] = (c : Int) := ⟨(sM bs[i]).toNat, by omega⟩
        have et : pw (fun b => (sM b).toNat) (bs.take (i + 1)) = pw (fun b => (sM b).toNat) (bs.take i) * bs[i] ^ c := by
          rw [List.take_add_one, List.getElem?_eq_getElem hi]
          show pw _ (bs.take i ++ [bs[i]]) = _
          rw [pw_snoc]
          rw [hc]
          rfl
        refine ⟨t, _, rfl, SqT.of e, rfl, _, _, rfl, _, _, rfl, rfl, ?_⟩
        refine ⟨_, rfl, _, rfl, _, rfl, bs[i], c, by rw [hc]; rfl, by omega, hs _ hbm, by omega, _, _, rfl, rfl, ?_, ?_⟩
        · have hle := pw_take (f := fun b => (sM b).toNat) hC.2 (i + 1)
          rw [et] at hle
          have hp1 : 0 < pw (fun b => (sM b).toNat) (bs.take i) := pw_pos fun b hb' => hC.2 b (List.mem_of_mem_take hb')
          have hp2 : 0 < bs[i] ^ c := Nat.pow_pos (by omega)
          have h2 : pw (fun b => (sM b).toNat) (bs.take i) ≤ pw (fun b => (sM b).toNat) (bs.take i) * bs[i] ^ c := Nat.le_mul_of_pos_right _ hp2
          have h3 : bs[i] ^ c ≤ pw (fun b => (sM b).toNat) (bs.take i) * bs[i] ^ c := Nat.le_mul_of_pos_left _ hp1
          have h4 : (2 : Nat) ^ 10000 < 2 ^ 300001 := Nat.pow_lt_pow_right (by decide) (by decide)
          exact wm (M := 2 ^ 10000) (Nat.le_trans h3 (Nat.le_trans hle hpwU)) (Nat.le_trans h2 (Nat.le_trans hle hpwU)) h4
        · refine ⟨⟨some (.int (Int.ofNat bs[i])), some (.int (sM bs[i])), o6, ?_⟩, S5⟩
          rw [et, Int.natCast_mul]
          rfl
      · rintro σ H5 ⟨⟨o4, o5, o6, rfl⟩, S5⟩
        rw [List.length_map, hlen, List.take_length]
        refine ⟨_, rfl, ?_⟩
        rw [hval]
        exact k1 hdv _ (S04.trans S5)
end
end K54
set_option maxHeartbeats 8000000
namespace K54
open PySem PySem.Spec PyProof.Rows L2

/-! ### == and != of an instance with an own __eq__ -/
/-- what may stand on the right, and its type -/
inductive Oth (C : Addr) (H : Hp) : V → Value → Prop
  | ins {b dy : Addr} {gs : List (Str × V)} : H b = some (.ins C dy gs) → Oth C H (.ref b) (.ref C)
  | int (i : Int) : Oth C H (.int i) (.type "int")
  | str (x : Str) : Oth C H (.str x) (.type "str")
  | dK {b : Addr} {kvs : List (Key × V)} : H b = some (.dK kvs) → Oth C H (.ref b) (.type "dict")
theorem ld_type {M : Model} {h : Heap} {a : Addr} {o : Obj} (e : h.get? a = some o) : PySem.W.Looks M h (typeOf (.ref a)) o.cls := (PySem.W.Looks.ld e).andThen .now
theorem Oth.looks {X : Cx} {pins : List (Addr × Obj)} {σ : L2.St} {H : Hp} {s : Shared} {C : Addr} {y : V} {t v : Value} (o : Oth C H y t) (I : Inv X pins σ H s) (r : RelV y v) :
    PySem.W.Looks (model X.prog X.w) s.heap (typeOf v) t := by
  cases o with
  | ins hb =>
    cases r
    obtain ⟨mB, J', _⟩ := ins_get I.hok hb
    obtain ⟨od', J', _⟩ := J'.look
    exact J'.type
  | int i =>
    obtain ⟨k, rfl⟩ := (show ∃ t, v = Value.int i t from r)
    exact .of_pure rfl
  | str x =>
    obtain ⟨k, rfl⟩ := (show ∃ t, v = Value.str x t from r)
    exact .of_pure rfl
  | @dK b kvs hb =>
    cases (show v = Value.ref b from r)
    obtain ⟨_, _, vs, _, o, es, ep, h1, h2, _⟩ := (show ObjOk X.prog X.w H s.heap b (.dK kvs) from I.hok b _ hb)
    have z := ld_type (M := model X.prog X.w) h1
    rw [h2.1] at z
    exact z
theorem sub_ty {K : PySem.W.Frag} {C : Addr} {n : String} {m : List Value} (e : fastBuiltinMro n = some m) (h : m.contains (.ref C) = false) : PySem.W.subIn K (.type n) (.ref C) = some false := by
  show (fastBuiltinMro n).map (·.contains (.ref C)) = some false
  rw [e]
  exact congrArg some h
theorem Oth.first {K : PySem.W.Frag} {C : Addr} {H : Hp} {y : V} {t : Value} (o : Oth C H y t) : PySem.W.notFirst K C t = true := by
  cases o with
  | ins _ => simp [PySem.W.notFirst]
  | int _ =>
    unfold PySem.W.notFirst
    rw [sub_ty (m := [.type "int", .type "object"]) (by decide +kernel) (by simp)]
    simp
  | str _ =>
    unfold PySem.W.notFirst
    rw [sub_ty (m := [.type "str", .type "object"]) (by decide +kernel) (by simp)]
    simp
  | dK _ =>
    unfold PySem.W.notFirst
    rw [sub_ty (m := [.type "dict", .type "object"]) (by decide +kernel) (by simp)]
    simp

section
variable {M : Model} {prog : Program} {w : World} {A : Around} {E : Value → Shared → Prop} {s : Shared} {K : PySem.W.Frag} {x C f : Addr} {ox : Obj} {od : Option Obj} {b tb : Value}
theorem entry_ne (hu : A.units < cLine) (X : K.In s.heap) (I : PySem.W.InstAt s.heap x ox C od) (hs : PySem.W.findIn K (.ref C) "__eq__" = some (some (.ref f))) (hf : PySem.W.isFn K (.ref f) = true) {Q : Fin → Shared → Prop}
    (hcall : wpAny (model prog w) A (call (.ref f) [.ref x, b]) (fun v s' => ∃ k, v = .bool k ∧ Q (.done (.ret (.bool (!k)))) s') E s) :
    wpAny (model prog w) A (Builtin.«object.__ne__» ⟨[.ref x, b], []⟩) Q E s := by
  unfold Builtin.«object.__ne__»
  repeat (first
    | with_reducible refine wpAny_cRoomFor hu ?_
    | (refine wpAny_bind (m := callSpecialIfBound? (.ref x) (Str.ofString "__eq__") [b])
        (PySem.W.ifBound_K X I hs hf (wpAny_mono hcall (fun v s' hv => by
          obtain ⟨k, rfl, hq⟩ := hv
          repeat (first | exact hq | exact wpAny_pure hq | exact wpAny_truthy_bool hq | (refine wpAny_bind (m := truthy (.bool _)) (wpAny_truthy_bool ?_)) | wp_step)) fun _ _ e => e)))
    | wp_step)
theorem ifBound_objNe {args : List Value} {Q : Option Value → Shared → Prop} (X : K.In s.heap) (I : PySem.W.InstAt s.heap x ox C od) (hs : PySem.W.findIn K (.ref C) "__ne__" = some (some (.builtin "object.__ne__")))
    (h : wpAny M A (call (.builtin "object.__ne__") (.ref x :: args)) (fun v => Q (some v)) E s) : wpAny M A (callSpecialIfBound? (.ref x) "__ne__" args) Q E s := by
  simp only [callSpecialIfBound?, bindSpecialIfBound?]
  refine wpAny_holding (wpAny_bind (wpAny_bind (wpAny_bind (I.type.here ((PySem.W.looks_findIn X hs).here ?_)))))
  refine wpAny_bind (wpAny_askSetting (wpAny_ite ?_))
  have fin : wpAny M A (call (.builtin "object.__ne__") ([.ref x] ++ args) >>= fun v => pure (some v)) Q E s := wpAny_bind (wpAny_mono h (fun v s' h' => wpAny_pure h') fun _ _ h' => h')
  split
  · exact wpAny_bind (wpAny_of_eq (F.cmp_object.ne.bind _) (wpAny_pure (by exact fin)))
  · exact wpAny_tryCatch (wpAny_bind (wpAny_of_eq (F.cmp_object.ne.bind _) (wpAny_pure (by exact fin))))
theorem ne_K {Q : Value → Shared → Prop} (hu : A.units + 1 < cLine) (X : K.In s.heap) (I : PySem.W.InstAt s.heap x ox C od) (hb : PySem.W.Looks (model prog w) s.heap (typeOf b) tb) (hn : PySem.W.notFirst K C tb = true)
    (hm : PySem.W.mroIn K C (.type "object") = some true) (hN : PySem.W.findIn K (.ref C) "__ne__" = some (some (.builtin "object.__ne__")))
    (hs : PySem.W.findIn K (.ref C) "__eq__" = some (some (.ref f))) (hf : PySem.W.isFn K (.ref f) = true)
    (h : wpAny (model prog w) A.in1 (call (.ref f) [.ref x, b]) (fun v s' => ∃ k, v = .bool k ∧ Q (.bool (!k)) s') E s) : wpAny (model prog w) A (richCompare .NotEq (.ref x) b) Q E s := by
  have one : wpAny (model prog w) A (tryCompare (.ref x) (cmpInfo .NotEq).2.1 b) (fun r s' => ∃ v, r = some v ∧ Q v s') E s := by
    unfold tryCompare
    refine wpAny_bind (ifBound_objNe X I hN (wpAny_call (codeAny_call_builtin F.cmp_object.ne.plain F.cmpEntry_ne
      (PySem.W.check_slot F.cmpKind_ne F.cmpSplit_ne (I.type.andThen (PySem.W.looks_mroIn X hm)) (F.cmpArgs_ne _ _) (entry_ne (A := A.in1) hu X I hs hf (wpAny_mono h (fun v s' hv => ?_) fun _ _ e => e))))))
    obtain ⟨k, rfl, hq⟩ := hv
    exact ⟨k, rfl, wpAny_pure ⟨_, rfl, hq⟩⟩
  unfold richCompare
  simp only [oneThing_ref]
  refine wpAny_holding (wpAny_bind (wpAny_cRoomFor (Nat.lt_of_succ_lt hu) ?_))
  refine wpAny_bind (I.type.here (wpAny_bind (hb.here ?_)))
  split
  · rename_i q
    have e : PySem.W.subIn K tb (.ref C) = some false := by
      rcases Bool.or_eq_true_iff.mp hn with e | e
      · rw [beq_iff_eq.mp e] at q; simp at q
      · exact beq_iff_eq.mp e
    refine wpAny_bind ((PySem.W.looks_subIn X e).here ?_)
    simp only [Bool.false_eq_true, if_false]
    refine wpAny_bind (wpAny_mono one (fun r s' z => ?_) fun _ _ e => e)
    obtain ⟨v, rfl, hq⟩ := z
    exact wpAny_pure hq
  · refine wpAny_bind (wpAny_pure ?_)
    simp only [Bool.false_eq_true, if_false]
    refine wpAny_bind (wpAny_mono one (fun r s' z => ?_) fun _ _ e => e)
    obtain ⟨v, rfl, hq⟩ := z
    exact wpAny_pure hq
end

def rOwn (C : Addr) (sp : Sp) (E : XK) (g : Bool → Bool) : R2 := fun x y H Q => ∃ (a dx : Addr) (fs : List (Str × V)) (t : Value), x = .ref a ∧ H a = some (.ins C dx fs) ∧ Oth C H y t ∧
  sp [.ref a, y] H (fun v H' => ∃ b, v = .bl b ∧ Q (.bl (g b)) H') E
section
variable {X : Cx} {CX : CXT} {C f : Addr} {fd : FuncData} {ps : List Str} {sp : Sp} {E : XK} {n : Nat}
theorem run_own {A : Around} (F : FnOk X.prog X.w X.K X.mg X.base CX n f fd ps sp) (hr : Room n A) (fr : A.frames = X.A.frames) (hb : Binds X.K fd ps []) (hx : Passes CX X E)
    {pins : List (Addr × Obj)} {σ : L2.St} {s : Shared} {H : Hp} {a : Addr} {y : V} {v : Value} {Q : Bool → Shared → Prop} (I : Inv X pins σ H s) (ry : RelV y v)
    (hsp : sp [.ref a, y] H (fun v H' => ∃ b, v = .bl b ∧ ∀ s', Inv X pins σ H' s' → Q b s') E) :
    wpAny (model X.prog X.w) A (call (.ref f) [.ref a, v]) (fun r s' => ∃ b, r = .bool b ∧ Q b s') X.xe s := by
  have e0 : Env0 X.prog X.w X.K X.mg X.base A X.stack s H := by
    have e := I.env0
    exact ⟨by rw [fr]; exact e.frames, e.mod, e.bs, e.bsz, e.funs, e.frf, e.hok, e.bare⟩
  have hl := F.len _ _ _ _ hsp
  have r2 : Vals [V.ref a, y] [Value.ref a, v] := .cons rfl (.cons ry .nil)
  refine wpAny_call (codeAny_mono (F.run A X.stack s H ⟨[.ref a, v], []⟩ [.ref a, v] [.ref a, y] _ E hr e0 (by
    have := hb s [.ref a, v] I.kIn (by simpa using hl)
    simpa using this) r2 hsp) fun r s' hq => ?_)
  cases r with
  | error e => exact hx pins σ H s e s' I hq
  | ok fl =>
    cases fl with
    | ret w =>
      obtain ⟨z, H', I', rz, b, ez, ex⟩ := I.after hq
      subst ez
      cases rz
      exact ⟨b, rfl, ex _ I'⟩
    | next => exact False.elim hq
    | brk => exact False.elim hq
    | cont => exact False.elim hq
theorem op_own (F : FnOk X.prog X.w X.K X.mg X.base CX n f fd ps sp) (hr : Room n X.A) (hs : PySem.W.findIn X.K (.ref C) "__eq__" = some (some (.ref f))) (hf : PySem.W.isFn X.K (.ref f) = true)
    (hb : Binds X.K fd ps []) (hx : Passes CX X E) (hsq : ∀ vs H (Q Q' : VK), (∀ v H', Q v H' → Q' v H') → sp vs H Q E → sp vs H Q' E) : OpR X (compareOp .Eq) (rOwn C sp E id) := by
  intro pins s σ H x y v u Q I rx ry h
  obtain ⟨a, dx, fs, t, rfl, ha, ho, hsp⟩ := h
  cases rx
  obtain ⟨mA, J, _⟩ := ins_get I.hok ha
  obtain ⟨od, J, _⟩ := J.look
  obtain ⟨m, hF⟩ := I.fr
  refine PySem.W.cmp_K (op := .Eq) (tb := t) hr.units0 hF I.ok.mod.kin J (ho.looks I ry) ho.first hs hf ?_
  refine wpAny_mono (run_own F hr rfl hb hx I ry (Q := fun b s' => EP X pins σ Q (.bool b) s') (hsq _ _ _ _ (fun v H' q => ?_) hsp)) (fun r s' z => ?_) fun _ _ e => e
  · obtain ⟨b, e, q⟩ := q
    exact ⟨b, e, fun s' I' => ⟨.bl b, H', I', rfl, q⟩⟩
  · obtain ⟨b, rfl, q⟩ := z
    exact q
theorem op_ownNe (F : FnOk X.prog X.w X.K X.mg X.base CX n f fd ps sp) (hr : Room (n + 1) X.A) (hs : PySem.W.findIn X.K (.ref C) "__eq__" = some (some (.ref f))) (hf : PySem.W.isFn X.K (.ref f) = true)
    (hm : PySem.W.mroIn X.K C (.type "object") = some true) (hN : PySem.W.findIn X.K (.ref C) "__ne__" = some (some (.builtin "object.__ne__")))
    (hb : Binds X.K fd ps []) (hx : Passes CX X E) (hsq : ∀ vs H (Q Q' : VK), (∀ v H', Q v H' → Q' v H') → sp vs H Q E → sp vs H Q' E) : OpR X (compareOp .NotEq) (rOwn C sp E not) := by
  intro pins s σ H x y v u Q I rx ry h
  obtain ⟨a, dx, fs, t, rfl, ha, ho, hsp⟩ := h
  cases rx
  obtain ⟨mA, J, _⟩ := ins_get I.hok ha
  obtain ⟨od, J, _⟩ := J.look
  show wpAny (model X.prog X.w) X.A (richCompare .NotEq (.ref a) u) (EP X pins σ Q) X.xe s
  refine ne_K (by have := hr.units; omega) I.kIn J (ho.looks I ry) ho.first hm hN hs hf ?_
  refine run_own F hr.in1 rfl hb hx I ry (Q := fun b s' => EP X pins σ Q (.bool (!b)) s') (hsq _ _ _ _ (fun v H' q => ?_) hsp)
  obtain ⟨b, e, q⟩ := q
  exact ⟨b, e, fun s' I' => ⟨.bl (!b), H', I', rfl, q⟩⟩
end
end K54
set_option maxHeartbeats 8000000
namespace K54
open PySem PySem.Spec PyProof.Rows L2

/-! ### dicts of numbers compared -/
def hitR (fs : Es) : Es → Bool
  | [] => true
  | (n, v) :: r => match fs.lookup n with
    | some u => (v == u) && hitR fs r
    | none => false
theorem hits_int {A : Around} {s : Shared} {fs : Es} {vb : List (Key × Value)} (rb : KV (kv fs) vb) : ∀ {es : Es} {va : List (Key × Value)}, KV (kv es) va → PySem.W.KeqHits A s vb va (hitR fs es)
  | [], va, ra => by
    unfold KV at ra
    cases ra
    exact .nil
  | (n, v) :: r, va, ra => by
    unfold KV at ra
    cases ra with
    | @cons p q ps qs h t =>
      obtain ⟨h1, h2⟩ := h
      obtain ⟨k, x⟩ := q
      have h1' : ky n = k := h1
      subst h1'
      obtain ⟨tk, rfl⟩ := (show ∃ t, x = Value.int v t from h2)
      have ih := hits_int (A := A) (s := s) rb (es := r) (va := qs) t
      have rr := rb.val (ky n)
      rw [val_kv] at rr
      show PySem.W.KeqHits A s vb _ (match fs.lookup n with
        | some u => (v == u) && hitR fs r
        | none => false)
      cases e : fs.lookup n with
      | none =>
        rw [e] at rr
        have z : valueAt vb (ky n) = none := RelO.none_of rr
        exact .miss z
      | some u =>
        rw [e] at rr
        obtain ⟨y, hy, ry⟩ := RelO.some_of rr
        obtain ⟨tu, rfl⟩ := (show ∃ t, y = Value.int u t from ry)
        exact .hit hy (SeqAt.EqAt.int_int v tk u tu) ih
theorem pig {α : Type} [DecidableEq α] : ∀ (l m : List α), l.Nodup → (∀ x, x ∈ l → x ∈ m) → m.length ≤ l.length → ∀ x, x ∈ m → x ∈ l
  | [], m, _, _, hl, x, hx => by
    cases m with
    | nil => exact hx
    | cons a t => simp at hl
  | a :: r, m, hn, hs, hl, x, hx => by
    obtain ⟨n1, n2⟩ := List.pairwise_cons.mp hn
    by_cases e : x = a
    · rw [e]; exact List.mem_cons_self ..
    · have ha := hs a (List.mem_cons_self ..)
      have h1 : ∀ y, y ∈ r → y ∈ m.erase a := fun y hy => (List.mem_erase_of_ne (fun z => n1 y hy z.symm)).mpr (hs y (List.mem_cons_of_mem _ hy))
      have h2 : (m.erase a).length ≤ r.length := by
        rw [List.length_erase_of_mem ha]
        simp at hl
        omega
      exact List.mem_cons_of_mem _ (pig r (m.erase a) n2 h1 h2 x ((List.mem_erase_of_ne e).mpr hx))
theorem look_get {es : Es} (h : (es.map (·.1)).Nodup) {n : Str} {v : Int} (hm : (n, v) ∈ es) : es.lookup n = some v := by
  induction es with
  | nil => cases hm
  | cons p r ih =>
    rw [List.map_cons] at h
    obtain ⟨n1, n2⟩ := List.pairwise_cons.mp h
    rcases List.mem_cons.mp hm with e | hm
    · subst e
      exact List.lookup_cons_self
    · have ne : (n == p.1) = false := by
        have : n ≠ p.1 := fun z => n1 n (List.mem_map.mpr ⟨_, hm, rfl⟩) z.symm
        simpa using this
      rw [List.lookup_cons, ne]
      exact ih n2 hm
theorem hit_all {fs : Es} : ∀ {es : Es}, hitR fs es = true → ∀ n v, (n, v) ∈ es → fs.lookup n = some v
  | [], _, _, _, h => by cases h
  | (m, u) :: r, h, n, v, hm => by
    have h' : (match fs.lookup m with
      | some w => (u == w) && hitR fs r
      | none => false) = true := h
    cases e : fs.lookup m with
    | none =>
      rw [e] at h'
      cases h'
    | some w =>
      rw [e] at h'
      obtain ⟨h1, h2⟩ := Bool.and_eq_true_iff.mp h'
      rcases List.mem_cons.mp hm with z | z
      · cases z
        rw [e, beq_iff_eq.mp h1]
      · exact hit_all h2 n v z
theorem hit_self {es : Es} (h : (es.map (·.1)).Nodup) : ∀ {r : Es}, (∀ p ∈ r, p ∈ es) → hitR es r = true
  | [], _ => rfl
  | (n, v) :: r, hs => by
    show (match es.lookup n with
      | some w => (v == w) && hitR es r
      | none => false) = true
    rw [look_get h (hs _ (List.mem_cons_self ..))]
    show ((v == v) && hitR es r) = true
    rw [hit_self h fun p hp => hs p (List.mem_cons_of_mem _ hp)]
    simp
theorem eq_hit {es fs : Es} (h : SdE es) (g : SdE fs) : (es.length == fs.length && hitR fs es) = decide (es = fs) := by
  by_cases e : es = fs
  · subst e
    rw [decide_eq_true rfl, hit_self h.nodup fun _ q => q]
    simp
  · rw [decide_eq_false e]
    cases c : (es.length == fs.length && hitR fs es) with
    | false => rfl
    | true =>
      obtain ⟨c1, c2⟩ := Bool.and_eq_true_iff.mp c
      have hl := beq_iff_eq.mp c1
      have hA := hit_all c2
      refine absurd (SdE.one h g fun n => ?_) e
      cases q : es.lookup n with
      | some v =>
        have hin : ∃ u, (n, u) ∈ es := by
          have z := look_mem.mp (show (es.lookup n).isSome = true by rw [q]; rfl)
          obtain ⟨p, hp, e⟩ := List.mem_map.mp z
          exact ⟨p.2, by rw [← e]; exact hp⟩
        obtain ⟨u, hu⟩ := hin
        have q2 := look_get h.nodup hu
        rw [q] at q2
        rw [hA n u hu, ← q2]
      | none =>
        cases q2 : fs.lookup n with
        | none => rfl
        | some u =>
          have z := look_mem.mp (show (fs.lookup n).isSome = true by rw [q2]; rfl)
          have z2 := pig (es.map (·.1)) (fs.map (·.1)) h.nodup (fun x hx => by
            obtain ⟨p, hp, e⟩ := List.mem_map.mp hx
            exact look_mem.mp (by rw [← e, hA p.1 p.2 hp]; rfl)) (by rw [List.length_map, List.length_map]; omega) n z
          have z3 := look_mem.mpr z2
          rw [q] at z3
          cases z3
def rEqI (g : Bool → Bool) : R2 := fun x y H Q => ∃ (a b : Addr) (es fs : Es), x = .ref a ∧ y = .ref b ∧ H a = some (.dK (kv es)) ∧ H b = some (.dK (kv fs)) ∧ SdE es ∧ SdE fs ∧ Q (.bl (g (decide (es = fs)))) H
section
variable {X : Cx}
theorem op_eqI (hu : X.A.units < cLine) : OpR X (compareOp .Eq) (rEqI id) := by
  intro pins s σ H x y v u Q I rx ry h
  obtain ⟨a, b, es, fs, rfl, rfl, ea, eb, he, hf, q⟩ := h
  obtain rfl : v = Value.ref a := rx
  obtain rfl : u = Value.ref b := ry
  obtain ⟨_, ya, va, ra, da⟩ := (show ObjOk X.prog X.w H s.heap a (.dK (kv es)) from I.hok a _ ea)
  obtain ⟨_, yb, vb, rb, db⟩ := (show ObjOk X.prog X.w H s.heap b (.dK (kv fs)) from I.hok b _ eb)
  refine PySem.W.keq_eq (knd := mixKind X.prog X.w) (r := hitR fs es) ya yb da db hu (fun _ => hits_int rb ra) (fin_bl I q ?_)
  rw [← ra.length, ← rb.length, kv_len, kv_len, eq_hit he hf]
  rfl
end
abbrev sEq : Stmt := inClass sSize 17
def spEqS (K : PySem.W.Frag) (C : Addr) : Sp := fun vs H Q _ => ∃ (p : Addr) (es : Es) (y : V), vs = [.ref p, y] ∧ SizeAt C H p es ∧
  ((∃ (q : Addr) (fs : Es), y = .ref q ∧ SizeAt C H q fs ∧ Q (.bl (decide (es = fs))) H) ∨ ∃ t, TyX K H y t ∧ PySem.W.kitOne K t (.ref C) = some false ∧ Q (.bl false) H)
section
variable {P : Program} {w : World} {K : PySem.W.Frag} {mg : Str → Option Value} {base : Heap} {C : Addr}
theorem scEq : FnScope ["self", "other"] ["self", "other"] (defScope sEq) :=
  ⟨rfl, rfl, rfl, by decide +kernel, rfl, by decide +kernel, by decide +kernel⟩
theorem ok_eq {f : Addr} {fd : FuncData} (F : Fun K "__eq__" "Size.__eq__" sEq f fd) (T : Nk mg) (Tc : Ck K mg C) :
    FnOk P w K mg base CX0 1 f fd ["self", "other"] (spEqS K C) := by
  refine F.ok scEq (fun vs H Q E h => ?_) (fun cdv A outer s H vs Q E hr h => ?_)
  · obtain ⟨p, es, y, rfl, _⟩ := h
    rfl
  · obtain ⟨p, es, y, rfl, h1, h2⟩ := h
    have hu : (A.deeper (envOfC "Size.__eq__" (defScope sEq) s.heap.objs.size f cdv)).units < cLine := by have := hr.units; omega
    refine ⟨_, pss_one (ps_ret (pe_and (pe_callB call_isi (by rfl) T.isi (by decide +kernel) (pa_cons (pv 1) (pa_cons (pe_glob (v := .ref C) (by rfl) Tc.gC rfl) pa_nil)))
      (pe_one (pe_cmpR (op_eqI hu) (pe_fld (pv 0) rfl) (pe_fld (pv 1) rfl) (nomark _))))), ?_⟩
    obtain ⟨dx, D, p1, p2, p3, p4⟩ := h1
    rcases h2 with ⟨q, fs, rfl, ⟨dy, D', q1, q2, q3, q4⟩, k⟩ | ⟨t, ht, hk, k⟩
    · refine ⟨_, rfl, _, _, _, _, true, rfl, .own _, .base (.ins q1 Tc.cl Tc.cc Tc.cn Tc.ct Tc.co), ?_, _, rfl, ?_⟩
      · unfold PySem.W.kitOne
        rw [if_pos (by simp)]
      refine iteT' rfl ?_
      exact ⟨_, rfl, p, C, dx, _, _, rfl, p1, Tc.cl, Tc.nE, rfl, _, rfl, q, C, dy, _, _, rfl, q1, Tc.cl, Tc.nE, rfl, D, D', es, fs, rfl, rfl, p2, q2, p3, q3, k⟩
    · exact ⟨_, rfl, _, _, _, _, false, rfl, .own _, ht, hk, _, rfl, iteF k⟩
end
theorem spEq_mono {K : PySem.W.Frag} {C : Addr} {E : XK} : ∀ vs H (Q Q' : VK), (∀ v H', Q v H' → Q' v H') → spEqS K C vs H Q E → spEqS K C vs H Q' E := by
  rintro vs H Q Q' h ⟨p, es, y, e, h1, h2⟩
  refine ⟨p, es, y, e, h1, ?_⟩
  rcases h2 with ⟨q, fs, e, h3, k⟩ | ⟨t, h3, h4, k⟩
  · exact .inl ⟨q, fs, e, h3, h _ _ k⟩
  · exact .inr ⟨t, h3, h4, h _ _ k⟩
end K54
set_option maxHeartbeats 8000000
namespace K54
open PySem PySem.Spec PyProof.Rows L2 TL

/-! ### texts of numbers and Sizes -/
def decS (n : Int) : Str := Str.ofString (toString n)
def pwT (n : Str) (v : Int) : Str := if v = 1 then n else n ++ ("^" : Str) ++ decS v
def texE (es : Es) : Str := if es = [] then "1" else Txt.join "*" (es.map fun q => pwT q.1 q.2)
def Big (v : Int) : Prop := -(10 ^ 60) < v ∧ v < 10 ^ 60
theorem dec_len0 {v : Int} (h0 : 0 ≤ v) (h : v < 10 ^ 60) : (decS v).length ≤ 60 := toString_length_le h0 (by decide) h
theorem dec_len {v : Int} (h : Big v) : (decS v).length ≤ 61 := by
  by_cases h0 : 0 ≤ v
  · have := dec_len0 h0 h.2
    omega
  · unfold decS
    rw [len_text_neg (by omega)]
    have := dec_len0 (v := 0 - v) (by omega) (by have := h.1; omega)
    unfold decS at this
    omega
theorem log_of {v : Int} (h : Big v) : v.natAbs.log2 < 1920 := by
  have h1 : v.natAbs < 2 ^ 200 := by
    have h2 : (10 : Int) ^ 60 < 2 ^ 200 := by decide
    have h3 : ((v.natAbs : Nat) : Int) < 2 ^ 200 := by
      have := h.1
      have := h.2
      omega
    exact_mod_cast h3
  by_cases h0 : v.natAbs = 0
  · rw [h0]
    decide
  · have := (Nat.log2_lt h0).mpr h1
    omega
theorem of_append (a b : String) : Str.ofString (a ++ b) = Str.ofString a ++ Str.ofString b := by
  apply str_eq
  show tl _ = tl _
  rw [tl_append]
  show (Str.ofString (a ++ b)).cps.toList = (Str.ofString a).cps.toList ++ (Str.ofString b).cps.toList
  rw [Str.ofString_eq_toList, Str.ofString_eq_toList, Str.ofString_eq_toList]
  simp [String.toList_append]
theorem dec_neg {v : Int} (h : v < 0) : ("-" : Str) ++ decS (-v) = decS v := by
  unfold decS
  rw [toString_neg h, of_append, Int.zero_sub]
theorem join_one (y x : Str) : Txt.join y [x] = x := by
  rw [join_eq]
  rfl
theorem len_joinL (S : List Nat) : ∀ ps : List (List Nat), (joinL S ps).length ≤ (ps.map List.length).sum + ps.length * S.length
  | [] => Nat.zero_le _
  | [p] => by
    show p.length ≤ p.length + 0 + 1 * S.length
    omega
  | p :: q :: r => by
    have ih := len_joinL S (q :: r)
    show (p ++ (S ++ joinL S (q :: r))).length ≤ (p.length + ((q :: r).map List.length).sum) + ((q :: r).length + 1) * S.length
    rw [List.length_append, List.length_append, Nat.add_mul, Nat.one_mul]
    omega
theorem len_join (y : Str) (ps : List Str) {b : Nat} (h : ∀ p ∈ ps, p.length ≤ b) : (Txt.join y ps).length ≤ ps.length * b + ps.length * y.length := by
  rw [join_eq, len_tl, tl_join]
  have h1 := len_joinL (tl y) (ps.map tl)
  rw [List.length_map, ← len_tl] at h1
  have h2 : ∀ l : List Str, (∀ p ∈ l, p.length ≤ b) → ((l.map tl).map List.length).sum ≤ l.length * b := fun l => by
    induction l with
    | nil => intro _; exact Nat.zero_le _
    | cons p r ih =>
      intro hl
      have z := ih fun q hq => hl q (List.mem_cons_of_mem _ hq)
      have z2 := hl p (List.mem_cons_self ..)
      rw [len_tl] at z2
      show (tl p).length + ((r.map tl).map List.length).sum ≤ (r.length + 1) * b
      rw [Nat.add_mul, Nat.one_mul]
      omega
  have := h2 ps h
  omega
theorem pw_len {n : Str} {v : Int} (hn : n.length ≤ 8) (h : Big v) : (pwT n v).length ≤ 70 := by
  unfold pwT
  split
  · omega
  · have := dec_len h
    rw [len_tl, tl_append, tl_append, List.length_append, List.length_append, ← len_tl, ← len_tl, ← len_tl]
    have e : ("^" : Str).length = 1 := by decide
    omega
theorem tex_len {es : Es} (h : ∀ q ∈ es, q.1.length ≤ 8 ∧ Big q.2) (hl : es.length < 64) : (texE es).length ≤ 10000 := by
  unfold texE
  split
  · decide
  · have z := len_join "*" (es.map fun q => pwT q.1 q.2) (b := 70) fun p hp => by
      obtain ⟨q, hq, e⟩ := List.mem_map.mp hp
      rw [← e]
      exact pw_len (h q hq).1 (h q hq).2
    rw [List.length_map] at z
    have e : ("*" : Str).length = 1 := by decide
    rw [e] at z
    omega

abbrev sDec : Stmt := top 37
abbrev sPw : Stmt := top 42
abbrev sTex : Stmt := top 40
def spDec0 : Sp := fun vs H Q _ => ∃ n : Int, vs = [.int n] ∧ 0 ≤ n ∧ n < 10 ^ 60 ∧ ∀ H', Same H H' → Q (.str (decS n)) H'
def spDec : Sp := fun vs H Q _ => ∃ n : Int, vs = [.int n] ∧ Big n ∧ ∀ H', Same H H' → Q (.str (decS n)) H'
def spPw : Sp := fun vs H Q _ => ∃ (x : Str) (n : Int), vs = [.str x, .int n] ∧ x.length ≤ 8 ∧ Big n ∧ ∀ H', Same H H' → Q (.str (pwT x n)) H'
def spTex : Sp := fun vs H Q _ => ∃ (d : Addr) (es : Es), vs = [.ref d] ∧ H d = some (.dK (kv es)) ∧ (es.map (·.1)).Nodup ∧ es.length < 64 ∧ (∀ q ∈ es, q.1.length ≤ 8 ∧ Big q.2) ∧ ∀ ss, SdE ss → (∀ n, ss.lookup n = es.lookup n) → ∀ H', Same H H' → Q (.str (texE ss)) H'
structure Ns (mg : Str → Option Value) : Prop where
  str : mg "str" = none
  chunk : ∃ t, mg "CHUNK" = some (.int (10 ^ 60) t)
section
variable {P : Program} {w : World} {K : PySem.W.Frag} {mg : Str → Option Value} {base : Heap} {C : Addr}
theorem scDec : FnScope ["number", "parts", "low"] ["number"] (defScope sDec) :=
  ⟨rfl, rfl, rfl, by decide +kernel, rfl, by decide +kernel, by decide +kernel⟩

theorem ok_dec0 {f : Addr} {fd : FuncData} (F : Fun K "decimal_text" "decimal_text" sDec f fd) (T : Ns mg) :
    FnOk P w K mg base CX0 1 f fd ["number"] spDec0 := by
  obtain ⟨tc, gc⟩ := T.chunk
  refine F.ok scDec (fun vs H Q E h => ?_) (fun cdv A outer s H vs Q E hr h => ?_)
  · obtain ⟨n, rfl, _⟩ := h
    rfl
  · obtain ⟨n, rfl, h0, h1, k⟩ := h
    refine ⟨_, pss_cons (ps_if (pt_cmpR op_lt (pv 0) pe_int (nomark _)) (pss_one ps_no) pss_nil)
      (pss_cons (ps_set (i := 1) scDec.nd rfl (.inl rfl) (pe_lst pa_nil))
      (pss_cons (ps_while PassesOwn.never (pt_cmpR op_ge (pv 0) (pe_glob (v := .int (10 ^ 60)) (by rfl) gc ⟨tc, rfl⟩) (nomark _)) (pss_cons ps_no (pss_one ps_no)))
      (pss_cons (ps_expr (pe_bm PySem.F.plainAttrs_list PySem.F.slot_list_append PySem.F.type_list_append mt_append (pv 1) (pa_cons (pe_callTy call_str_int (by rfl) T.str (by decide +kernel) (pa_cons (pv 0) pa_nil)) pa_nil)))
      (pss_one (ps_ret (pe_join pe_str (pe_revL (pv 1)))))))), ?_⟩
    refine ⟨_, rfl, _, _, rfl, rfl, _, rfl, ?_⟩
    refine iteN' (by omega) ?_
    refine ⟨Nat.zero_le _, fun a na => ?_⟩
    have S1 := fresh_upd (o := .lst []) na
    refine ⟨fun m σ H2 => σ = [some (.int n), some (.ref a), none] ∧ H2 = upd H a (.lst []), ⟨0, rfl, rfl⟩, ?_⟩
    rintro m σ H2 ⟨rfl, rfl⟩
    refine ⟨_, rfl, _, _, rfl, rfl, _, rfl, ?_⟩
    refine iteN' (by omega) ?_
    refine ⟨_, rfl, .inl ⟨rfl, _, SqL.of upd_same⟩, _, rfl, n, rfl, log_of ⟨by omega, h1⟩, a, [], _, rfl, rfl, upd_same, by rw [sizeLine_eq]; show 0 < 16777216; decide, ?_⟩
    refine ⟨⟨_, rfl⟩, _, rfl, a, _, rfl, SqL.of upd_same, fun p np => ?_⟩
    have hL := dec_len0 h0 h1
    refine ⟨_, p, [decS n], rfl, rfl, .inl (SqL.of upd_same), ?_, ?_⟩
    · show (decS n).length + 0 + 1 * Str.empty.length ≤ 16777216
      have e : Str.empty.length = 0 := rfl
      omega
    · rw [join_one]
      refine k _ fun b o e => ?_
      have ba : b ≠ a := ne_of_none e na
      have e1 := S1 _ _ e
      have bp : b ≠ p := ne_of_none ((upd_ne ba).trans e1) np
      rw [upd_ne bp, upd_ne ba]
      exact e1
theorem ok_dec {f : Addr} {fd : FuncData} (F : Fun K "decimal_text" "decimal_text" sDec f fd) (T : Ns mg) (bD : Binds K fd ["number"] []) (gD : mg "decimal_text" = some (.ref f)) (kD : PySem.W.keepIn K (.ref f) = true) :
    FnOk P w K mg base CX0 2 f fd ["number"] spDec := by
  have G0 : FnOk P w K mg base CX0 1 f fd ["number"] spDec0 := ok_dec0 F T
  obtain ⟨tc, gc⟩ := T.chunk
  refine F.ok scDec (fun vs H Q E h => ?_) (fun cdv A outer s H vs Q E hr h => ?_)
  · obtain ⟨n, rfl, _⟩ := h
    rfl
  · obtain ⟨n, rfl, hB, k⟩ := h
    by_cases h0 : n < 0
    · refine ⟨_, pss_cons (ps_if (pt_cmpR op_lt (pv 0) pe_int (nomark _)) (pss_one (ps_ret (pe_op op_add_str pe_str (pe_call G0 hr rfl gD kD bD .nil pass0 (pa_cons (pe_un un_neg (pv 0)) pa_nil))))) pss_nil)
        (pss_cons ps_no (pss_cons ps_no (pss_cons ps_no (pss_one ps_no)))), ?_⟩
      refine ⟨_, rfl, _, _, rfl, rfl, _, rfl, ?_⟩
      refine iteT' (decide_eq_true h0) ?_
      refine ⟨_, rfl, _, rfl, -n, rfl, by omega, by have := hB.1; omega, fun H' S => ⟨_, _, rfl, rfl, ?_, ?_⟩⟩
      · have := dec_len0 (v := -n) (by omega) (by have := hB.1; omega)
        have e : ("-" : Str).length = 1 := by decide
        rw [e, sizeLine_eq]
        omega
      · rw [dec_neg h0]
        exact k H' S
    · have h0 : 0 ≤ n := by omega
      have h1 := hB.2
      obtain ⟨t, ht, hq⟩ := (show ∃ t, PSs (cxOf CX0 P w K mg base ["number", "parts", "low"] "decimal_text" (defScope sDec) f cdv A outer s H E).nox (defBody sDec) t ∧ t { nx := fun _ H' => Q .non H', rt := Q } (start ["number", "parts", "low"] [.int n]) H from by
        refine ⟨_, pss_cons (ps_if (pt_cmpR op_lt (pv 0) pe_int (nomark _)) (pss_one ps_no) pss_nil)
          (pss_cons (ps_set (i := 1) scDec.nd rfl (.inl rfl) (pe_lst pa_nil))
          (pss_cons (ps_while PassesOwn.never (pt_cmpR op_ge (pv 0) (pe_glob (v := .int (10 ^ 60)) (by rfl) gc ⟨tc, rfl⟩) (nomark _)) (pss_cons ps_no (pss_one ps_no)))
          (pss_cons (ps_expr (pe_bm PySem.F.plainAttrs_list PySem.F.slot_list_append PySem.F.type_list_append mt_append (pv 1) (pa_cons (pe_callTy call_str_int (by rfl) T.str (by decide +kernel) (pa_cons (pv 0) pa_nil)) pa_nil)))
          (pss_one (ps_ret (pe_join pe_str (pe_revL (pv 1)))))))), ?_⟩
        refine ⟨_, rfl, _, _, rfl, rfl, _, rfl, ?_⟩
        refine iteN' (by omega) ?_
        refine ⟨Nat.zero_le _, fun a na => ?_⟩
        have S1 := fresh_upd (o := .lst []) na
        refine ⟨fun m σ H2 => σ = [some (.int n), some (.ref a), none] ∧ H2 = upd H a (.lst []), ⟨0, rfl, rfl⟩, ?_⟩
        rintro m σ H2 ⟨rfl, rfl⟩
        refine ⟨_, rfl, _, _, rfl, rfl, _, rfl, ?_⟩
        refine iteN' (by omega) ?_
        refine ⟨_, rfl, .inl ⟨rfl, _, SqL.of upd_same⟩, _, rfl, n, rfl, log_of ⟨by omega, h1⟩, a, [], _, rfl, rfl, upd_same, by rw [sizeLine_eq]; show 0 < 16777216; decide, ?_⟩
        refine ⟨⟨_, rfl⟩, _, rfl, a, _, rfl, SqL.of upd_same, fun p np => ?_⟩
        have hL := dec_len0 h0 h1
        refine ⟨_, p, [decS n], rfl, rfl, .inl (SqL.of upd_same), ?_, ?_⟩
        · show (decS n).length + 0 + 1 * Str.empty.length ≤ 16777216
          have e : Str.empty.length = 0 := rfl
          omega
        · rw [join_one]
          refine k _ fun b o e => ?_
          have ba : b ≠ a := ne_of_none e na
          have e1 := S1 _ _ e
          have bp : b ≠ p := ne_of_none ((upd_ne ba).trans e1) np
          rw [upd_ne bp, upd_ne ba]
          exact e1)
      exact ⟨t, ht, hq⟩
theorem scPw : FnScope ["name", "exponent"] ["name", "exponent"] (defScope sPw) :=
  ⟨rfl, rfl, rfl, by decide +kernel, rfl, by decide +kernel, by decide +kernel⟩
theorem ok_pw {f fD : Addr} {fd fdD : FuncData} (F : Fun K "_power_text" "_power_text" sPw f fd)
    (GD : FnOk P w K mg base CX0 2 fD fdD ["number"] spDec) (kD : PySem.W.keepIn K (.ref fD) = true) (bD : Binds K fdD ["number"] []) (gD : mg "decimal_text" = some (.ref fD)) :
    FnOk P w K mg base CX0 3 f fd ["name", "exponent"] spPw := by
  refine F.ok scPw (fun vs H Q E h => ?_) (fun cdv A outer s H vs Q E hr h => ?_)
  · obtain ⟨x, n, rfl, _⟩ := h
    rfl
  · obtain ⟨x, n, rfl, hx, hB, k⟩ := h
    refine ⟨_, pss_one (ps_ret (pe_ifExp (pt_cmpR op_eq (pv 1) pe_int (nomark _)) (pv 0) (pe_op op_add_str (pe_op op_add_str (pv 0) pe_str) (pe_call GD hr rfl gD kD bD .nil pass0 (pa_cons (pv 1) pa_nil))))), ?_⟩
    refine ⟨_, rfl, rfl, _, rfl, ?_⟩
    unfold pwT at k
    by_cases h1 : n = 1
    · subst h1
      refine iteT' (decide_eq_true rfl) ?_
      refine ⟨_, rfl, ?_⟩
      have z := k H (Same.refl H)
      rw [if_pos rfl] at z
      exact z
    · refine iteN' (fun z => h1 (V.int.inj z)) ?_
      have e : ("^" : Str).length = 1 := by decide
      have hd := dec_len hB
      refine ⟨_, rfl, _, _, rfl, rfl, by rw [e, sizeLine_eq]; omega, _, rfl, n, rfl, hB, fun H' S => ⟨_, _, rfl, rfl, ?_, ?_⟩⟩
      · rw [len_tl, tl_append, List.length_append, ← len_tl, ← len_tl, e, sizeLine_eq]
        omega
      · have z := k H' S
        rw [if_neg h1] at z
        exact z
theorem scTex : FnScope ["exponents", "name"] ["exponents"] (defScope sTex) :=
  ⟨rfl, rfl, rfl, by decide +kernel, rfl, by decide +kernel, by decide +kernel⟩
theorem ok_tex {f fP : Addr} {fd fdP : FuncData} (F : Fun K "exponents_text" "exponents_text" sTex f fd) (T : Na mg) (T2 : Nt mg)
    (GP : FnOk P w K mg base CX0 3 fP fdP ["name", "exponent"] spPw) (kP : PySem.W.keepIn K (.ref fP) = true) (bP : Binds K fdP ["name", "exponent"] []) (gP : mg "_power_text" = some (.ref fP)) :
    FnOk P w K mg base CX0 4 f fd ["exponents"] spTex := by
  refine F.ok scTex (fun vs H Q E h => ?_) (fun cdv A outer s H vs Q E hr h => ?_)
  · obtain ⟨d, es, rfl, _⟩ := h
    rfl
  · obtain ⟨d, es, rfl, hd, hS, hl, hB, k⟩ := h
    have hu : (A.deeper (envOfC "exponents_text" (defScope sTex) s.heap.objs.size f cdv)).units + 1 < cLine := by have := hr.units; omega
    refine ⟨_, pss_cons (ps_if (pt_cmpR op_eq (pe_callB call_lenD (by rfl) T2.len PySem.boot_len (pa_cons (pv 0) pa_nil)) pe_int (nomark _)) (pss_one (ps_ret pe_str)) pss_nil)
      (pss_one (ps_ret (pe_join pe_str (pe_lc (own := [("name", 1)]) (g := gName 1) (tt := tYes) (te := tCall spPw [] E0 (tCons (tVar 1) (tCons (tDGet (tVar 0) (tVar 1)) tNil))) rfl scTex.nd
        (pi_list (pe_callB (call_sortedD rfl) (by rfl) T.sorted (by decide +kernel) (pa_cons (pv 0) pa_nil)))
        (blkOk_by (own := [("name", 1)]) (N := ["exponents", "name"]) (sc := defScope sTex) (by decide +kernel)) (fun _ _ _ _ _ => pg_name (i := 1) scTex.nd rfl (Or.inl rfl))
        (fun _ _ _ _ _ => pts_nil) (fun _ _ _ _ _ => by
          exact pe_call GP hr rfl gP kP bP .nil pass0 (pa_cons (pv 1) (pa_cons (pe_dget hu (pv 0) (pv 1) (fun _ _ => rfl)) pa_nil))))))), ?_⟩
    refine ⟨_, rfl, d, _, rfl, hd, rfl, _, rfl, ?_⟩
    rw [kv_len]
    by_cases h0 : es = []
    · subst h0
      refine iteT' (decide_eq_true rfl) ?_
      exact k [] List.Pairwise.nil (fun _ => rfl) H (Same.refl H)
    · have h0' : es.length ≠ 0 := fun z => h0 (List.length_eq_zero_iff.mp z)
      refine iteN' (fun z => h0' (by have := V.int.inj z; omega)) ?_
      refine ⟨⟨_, rfl⟩, _, rfl, d, _, es.map (·.1), rfl, .inl hd, ?_, by rw [List.length_map]; exact hl, fun ys r perm srt nr => ?_⟩
      · unfold kv
        rw [List.map_map, List.map_map]
        rfl
      have hys : Sd ys := sd_of srt (perm.nodup_iff.mpr hS)
      obtain ⟨ss, hss, ess⟩ : ∃ ss : Es, ss = ys.map (fun n => (n, g0 es n)) ∧ ss.map (·.1) = ys := ⟨_, rfl, by
        rw [List.map_map]
        exact List.map_id _⟩
      have hSd : SdE ss := by
        unfold SdE
        rw [ess]
        exact hys
      have hlen : ss.length = es.length := by
        have z := perm.length_eq
        rw [← ess, List.length_map, List.length_map] at z
        exact z
      have hin : ∀ q ∈ ss, es.lookup q.1 = some q.2 := fun q hq => by
        rw [hss] at hq
        obtain ⟨n, hn, rfl⟩ := List.mem_map.mp hq
        have z := look_mem.mpr (perm.mem_iff.mp hn)
        show es.lookup n = some (g0 es n)
        unfold g0
        cases e : es.lookup n with
        | none =>
          rw [e] at z
          cases z
        | some v => rfl
      have hlk : ∀ n, ss.lookup n = es.lookup n := fun n => by
        by_cases hn : n ∈ es.map (·.1)
        · have h2 : n ∈ ss.map (·.1) := by
            rw [ess]
            exact perm.mem_iff.mpr hn
          obtain ⟨q, hq, rfl⟩ := List.mem_map.mp h2
          rw [hin q hq]
          exact look_get hSd.nodup (n := q.1) (v := q.2) hq
        · rw [g0_none hn, g0_none]
          intro z
          rw [ess] at z
          exact hn (perm.mem_iff.mp z)
      have hBs : ∀ q ∈ ss, q.1.length ≤ 8 ∧ Big q.2 := fun q hq => by
        have z := hin q hq
        obtain ⟨p, hp, e⟩ := List.mem_map.mp (look_mem.mp (show (es.lookup q.1).isSome = true by rw [z]; rfl))
        have z2 := look_get hS (n := p.1) (v := p.2) hp
        rw [e, z] at z2
        have e2 := Option.some.inj z2
        rw [e2, ← e]
        exact hB p hp
      have hs0 : ss ≠ [] := fun z => h0' (by rw [← hlen, z]; rfl)
      have S3 := fresh_upd (o := .lst (ys.map V.str)) nr
      rw [← ess] at S3
      rw [← ess]
      refine ⟨r, rfl, ⟨_, SqL.of upd_same⟩, fun D hD => ?_⟩
      refine lc_it (walk_list (K := K) (a := r) (xs := (ss.map (·.1)).map V.str)) (fun i H3 => H3 D = some (.lst (((ss.take i).map fun q => pwT q.1 q.2).map V.str)) ∧
        Same (upd H r (.lst ((ss.map (·.1)).map V.str))) H3) ⟨upd_same, fresh_upd hD⟩ (fun i H3 _ h => SqL.of (h.2 _ _ upd_same)) ?_ ?_
      · rintro i x H3 H4 hi ⟨hD3, S4⟩ ⟨rfl, hx⟩
        rw [List.length_map, List.length_map] at hi
        have ex : x = .str ss[i].1 := by
          rw [List.getElem?_map, List.getElem?_map, List.getElem?_eq_getElem hi] at hx
          exact (Option.some.inj hx).symm
        subst ex
        obtain ⟨b1, b2⟩ := hBs ss[i] (List.getElem_mem hi)
        refine ⟨rfl, ?_⟩
        unfold tYes
        dsimp only
        rw [if_pos rfl]
        refine ⟨_, rfl, _, rfl, _, rfl, d, .int ss[i].2, rfl, .inl ⟨_, ky ss[i].1, .inl (S4 _ _ (S3 _ _ hd)), rfl, (by rw [val_kv, hin _ (List.getElem_mem hi)]; rfl)⟩, ss[i].1, ss[i].2, rfl, b1, b2, fun H5 S5 => ?_⟩
        refine ⟨_, S5 _ _ hD3, by rw [List.length_map, List.length_map, List.length_take, sizeLine_eq]; omega, ?_, fun b o e => ?_⟩
        · have et : ss.take (i + 1) = ss.take i ++ [ss[i]] := by
            rw [List.take_add_one, List.getElem?_eq_getElem hi]
            rfl
          rw [upd_same, et, List.map_append, List.map_append]
          rfl
        · rw [upd_ne (ne_of_none e hD)]
          exact S5 _ _ (S4 b o e)
      · rintro H3 ⟨hD3, S4⟩
        rw [List.length_map, List.length_map, List.take_length] at hD3
        refine ⟨_, D, ss.map (fun q => pwT q.1 q.2), rfl, rfl, .inl (SqL.of hD3), ?_, ?_⟩
        · have hs : ∀ l : Es, (∀ q ∈ l, q.1.length ≤ 8 ∧ Big q.2) → ((l.map fun q => pwT q.1 q.2).map (·.length)).sum ≤ l.length * 70 := fun l => by
            induction l with
            | nil => intro _; exact Nat.zero_le _
            | cons p r ih =>
              intro hb
              have z := ih fun q hq => hb q (List.mem_cons_of_mem _ hq)
              have z2 := pw_len (hb p (List.mem_cons_self ..)).1 (hb p (List.mem_cons_self ..)).2
              show (pwT p.1 p.2).length + ((r.map fun q => pwT q.1 q.2).map (·.length)).sum ≤ (r.length + 1) * 70
              omega
          have z := hs ss hBs
          have e : ("*" : Str).length = 1 := by decide
          rw [e, List.length_map]
          omega
        · have z := k ss hSd hlk H3 (S3.trans S4)
          unfold texE at z
          rw [if_neg hs0] at z
          exact z
end
end K54
set_option maxHeartbeats 8000000
namespace K54
open PySem PySem.Spec PyProof.Rows L2 TL

/-! ### str(o), o an instance with an own __str__ -/
def rStrO (C : Addr) (sp : Sp) (E : XK) : List V → Hp → VK → Prop := fun xs H Q => ∃ (a dx : Addr) (fs : List (Str × V)), xs = [.ref a] ∧ H a = some (.ins C dx fs) ∧
  sp [.ref a] H (fun v H' => ∃ x, v = .str x ∧ Q (.str x) H') E
section
variable {X : Cx} {CX : CXT} {C f : Addr} {fd : FuncData} {ps : List Str} {sp : Sp} {E : XK} {n : Nat}
end

/-! ### models: a function from names to numbers, and the one dict that says it -/
theorem sub_len {α : Type} [DecidableEq α] : ∀ (l m : List α), l.Nodup → (∀ x, x ∈ l → x ∈ m) → l.length ≤ m.length
  | [], m, _, _ => Nat.zero_le _
  | a :: r, m, hn, hs => by
    obtain ⟨n1, n2⟩ := List.pairwise_cons.mp hn
    have ha := hs a (List.mem_cons_self ..)
    have h1 : ∀ y, y ∈ r → y ∈ m.erase a := fun y hy => (List.mem_erase_of_ne (fun z => n1 y hy z.symm)).mpr (hs y (List.mem_cons_of_mem _ hy))
    have h2 := sub_len r (m.erase a) n2 h1
    rw [List.length_erase_of_mem ha] at h2
    have h3 : 0 < m.length := List.length_pos_of_mem ha
    show r.length + 1 ≤ m.length
    omega
/-- names that may be drawn -/
structure Pool (N : List Str) : Prop where
  nd : N.Nodup
  nm : ∀ n ∈ N, isNm n = true
  ln : N.length ≤ 10
structure Md (N : List Str) (b : Int) (f : Str → Int) (es : Es) : Prop where
  sd : SdE es
  lk : ∀ n, es.lookup n = cz (f n)
  sup : ∀ n, n ∉ N → f n = 0
  bd : ∀ n, -b ≤ f n ∧ f n ≤ b
theorem Md.g {N : List Str} {b : Int} {f : Str → Int} {es : Es} (h : Md N b f es) (n : Str) : g0 es n = f n := g0_cz (h.lk n)
theorem Md.one {N M : List Str} {b c : Int} {f g : Str → Int} {es fs : Es} (h : Md N b f es) (k : Md M c g fs) (e : ∀ n, f n = g n) : es = fs :=
  h.sd.one k.sd fun n => by rw [h.lk, k.lk, e]
theorem Md.at {N : List Str} {b : Int} {f : Str → Int} {es : Es} (h : Md N b f es) {q : Str × Int} (hq : q ∈ es) : q.2 = f q.1 ∧ f q.1 ≠ 0 := by
  have z := look_get h.sd.nodup (n := q.1) (v := q.2) hq
  rw [h.lk] at z
  unfold cz at z
  by_cases h0 : f q.1 = 0
  · rw [if_pos h0] at z
    cases z
  · rw [if_neg h0] at z
    exact ⟨(Option.some.inj z).symm, h0⟩
theorem Md.key {N : List Str} {b : Int} {f : Str → Int} {es : Es} (h : Md N b f es) {q : Str × Int} (hq : q ∈ es) : q.1 ∈ N := by
  by_cases z : q.1 ∈ N
  · exact z
  · exact absurd (h.sup _ z) (h.at hq).2
theorem Md.len {N : List Str} {b : Int} {f : Str → Int} {es : Es} (h : Md N b f es) (P : Pool N) : es.length ≤ 10 := by
  have z := sub_len (es.map (·.1)) N h.sd.nodup fun x hx => by
    obtain ⟨q, hq, e⟩ := List.mem_map.mp hx
    rw [← e]
    exact h.key hq
  rw [List.length_map] at z
  have := P.ln
  omega
theorem Md.nm {N : List Str} {b : Int} {f : Str → Int} {es : Es} (h : Md N b f es) (P : Pool N) : ∀ q ∈ es, isNm q.1 = true := fun q hq => P.nm _ (h.key hq)
theorem Md.nz {N : List Str} {b : Int} {f : Str → Int} {es : Es} (h : Md N b f es) : ∀ q ∈ es, q.2 ≠ 0 := fun q hq => by
  rw [(h.at hq).1]
  exact (h.at hq).2
theorem Md.bq {N : List Str} {b : Int} {f : Str → Int} {es : Es} (h : Md N b f es) {q : Str × Int} (hq : q ∈ es) : -b ≤ q.2 ∧ q.2 ≤ b := by
  rw [(h.at hq).1]
  exact h.bd _
theorem Md.mem {N : List Str} {b : Int} {f : Str → Int} {es : Es} (h : Md N b f es) {n : Str} (hn : n ∈ es.map (·.1)) : f n ≠ 0 := by
  obtain ⟨q, hq, e⟩ := List.mem_map.mp hn
  rw [← e]
  exact (h.at hq).2
/-- what a Size says of its model -/
theorem Md.of {C p : Addr} {N : List Str} {b : Int} {f : Str → Int} {es : Es} {H : Hp} (h : SizeAt C H p es) (lk : ∀ n, es.lookup n = cz (f n)) (sup : ∀ n, n ∉ N → f n = 0) (bd : ∀ n, -b ≤ f n ∧ f n ≤ b) : Md N b f es := by
  obtain ⟨_, _, _, _, sd, _⟩ := h
  exact ⟨sd, lk, sup, bd⟩
theorem Md.nil (N : List Str) : Md N 0 (fun _ => 0) [] := ⟨List.Pairwise.nil, fun _ => rfl, fun _ _ => rfl, fun _ => ⟨by decide, by decide⟩⟩
theorem Md.congr {N : List Str} {b c : Int} {f g : Str → Int} {es : Es} (h : Md N b f es) (e : ∀ n, f n = g n) (hb : b ≤ c) : Md N c g es :=
  ⟨h.sd, fun n => by rw [h.lk, e], fun n hn => by rw [← e]; exact h.sup n hn, fun n => by have := h.bd n; rw [← e]; omega⟩
end K54
set_option maxHeartbeats 8000000
namespace K54
open PySem PySem.Spec PyProof.Rows L2 TL StrLaws

/-! ### words of texts of Sizes -/
def isDg (c : Nat) : Bool := decide (48 ≤ c) && decide (c ≤ 57)
def lMin (l : List Nat) : Bool := l.head? == some 45
def lBare (l : List Nat) : List Nat := if lMin l = true then l.drop 1 else l
def dgVal (l : List Nat) : Int := ((NumText.digitsVal l : Nat) : Int)
theorem tl_min : tl ("-" : Str) = [45] := by decide
/-- a text of an integer is read -/
def rdD (x : Str) : Option Int :=
  if lBare (tl x) = [] ∨ ((lBare (tl x)).all isDg) = false then none else some (if lMin (tl x) = true then -dgVal (lBare (tl x)) else dgVal (lBare (tl x)))
theorem all_dg {l : List Nat} : l.all isDg = true ↔ NumText.AllDigits l := by
  unfold NumText.AllDigits
  rw [List.all_eq_true]
  unfold isDg
  constructor
  · intro h c hc
    have z := h c hc
    rw [Bool.and_eq_true, decide_eq_true_eq, decide_eq_true_eq] at z
    exact z
  · intro h c hc
    rw [Bool.and_eq_true, decide_eq_true_eq, decide_eq_true_eq]
    exact h c hc
theorem tl_dec0 {v : Int} (h : 0 ≤ v) : tl (decS v) = numL v.toNat := by
  have e : v = ((v.toNat : Nat) : Int) := by omega
  unfold decS
  rw [e, tl_num, Int.toNat_natCast]
theorem tl_decN {v : Int} (h : v < 0) : tl (decS v) = 45 :: numL (-v).toNat := by
  rw [← dec_neg h, tl_append, tl_min, tl_dec0 (by omega)]
  rfl
theorem dec_parts (v : Int) : lMin (tl (decS v)) = decide (v < 0) ∧ lBare (tl (decS v)) = numL v.natAbs := by
  by_cases h : v < 0
  · rw [tl_decN h, decide_eq_true h]
    have e : (-v).toNat = v.natAbs := by omega
    rw [e]
    exact ⟨rfl, rfl⟩
  · rw [tl_dec0 (by omega), decide_eq_false h]
    have e : v.toNat = v.natAbs := by omega
    rw [e]
    have hm : lMin (numL v.natAbs) = false := by
      unfold lMin
      cases e : numL v.natAbs with
      | nil => rfl
      | cons c r =>
        have z := numL_digits v.natAbs c (by rw [e]; exact List.mem_cons_self ..)
        show (some c == some 45) = false
        have : c ≠ 45 := by omega
        simpa using this
    refine ⟨hm, ?_⟩
    unfold lBare
    rw [hm]
    rfl
theorem rdD_dec (v : Int) : rdD (decS v) = some v := by
  obtain ⟨h1, h2⟩ := dec_parts v
  unfold rdD
  rw [h1, h2, if_neg]
  · unfold dgVal
    rw [numL_val]
    by_cases h : v < 0
    · rw [if_pos (decide_eq_true h)]
      congr 1
      omega
    · rw [if_neg (by simpa using h)]
      congr 1
      omega
  · intro z
    rcases z with z | z
    · exact numL_ne _ z
    · rw [all_dg.mpr (numL_digits _)] at z
      cases z
end K54
set_option maxHeartbeats 8000000
namespace K54
open PySem PySem.Spec PyProof.Rows L2 TL

/-! ### texts of Sizes: what is right -/
theorem abc_tl : tl abc = (List.range 26).map (· + 97) := by decide
theorem nm_sign {n : Str} (h : isNm n = true) {c : Nat} (hc : c ∈ tl n) : 97 ≤ c ∧ c ≤ 122 := by
  unfold isNm at h
  rw [Bool.and_eq_true, Bool.and_eq_true] at h
  have z := of_decide_eq_true (List.all_eq_true.mp h.2.2 c hc)
  have z2 : c ∈ tl abc := z
  rw [abc_tl] at z2
  obtain ⟨k, hk, e⟩ := List.mem_map.mp z2
  have := List.mem_range.mp hk
  omega
theorem nm_free {n : Str} (h : isNm n = true) {c : Nat} (hc : c < 97) : c ∉ tl n := fun z => by
  have := (nm_sign h z).1
  omega
theorem nm_ne {n : Str} (h : isNm n = true) : tl n ≠ [] := fun z => by
  unfold isNm at h
  rw [Bool.and_eq_true] at h
  have := of_decide_eq_true h.1
  rw [len_tl, z] at this
  exact absurd this (by decide)
theorem tl_hat : tl ("^" : Str) = [94] := by decide
theorem tl_star : tl ("*" : Str) = [42] := by decide
theorem dec_free {v : Int} {c : Nat} (hc : c = 94 ∨ c = 42) : c ∉ tl (decS v) := fun z => by
  by_cases h : v < 0
  · rw [tl_decN h] at z
    rcases List.mem_cons.mp z with e | z
    · omega
    · exact numL_free (by omega) z
  · rw [tl_dec0 (by omega)] at z
    exact numL_free (by omega) z
theorem pw_tl {n : Str} {v : Int} (h : v ≠ 1) : pwT n v = n ++ ("^" : Str) ++ decS v := if_neg h
theorem pw_free {n : Str} {v : Int} (h : isNm n = true) : 42 ∉ tl (pwT n v) := fun z => by
  by_cases hv : v = 1
  · unfold pwT at z
    rw [if_pos hv] at z
    exact nm_free h (by decide) z
  · rw [pw_tl hv, tl_append, tl_append, tl_hat] at z
    rcases List.mem_append.mp z with z | z
    · rcases List.mem_append.mp z with z | z
      · exact nm_free h (by decide) z
      · exact absurd (List.mem_singleton.mp z) (by decide)
    · exact dec_free (.inr rfl) z

/-- the program's reading of a word -/
def wName (w : Str) : Str := (Txt.partition w "^").1
def wExp (w : Str) : Option Int := if (Txt.partition w "^").2.1 = "" then some 1 else rdD (Txt.partition w "^").2.2
def rdW (w : Str) : Option (Str × Int) := match wExp w with
  | none => none
  | some v => if isNm (wName w) = true ∧ v ≠ 0 then some (wName w, v) else none
theorem rdW_pw {n : Str} {v : Int} (hn : isNm n = true) (hv : v ≠ 0) : rdW (pwT n v) = some (n, v) := by
  by_cases h1 : v = 1
  · subst h1
    have e : pwT n 1 = n := if_pos rfl
    have p := partition_none (y := "^") tl_hat (nm_free hn (c := 94) (by decide))
    unfold rdW wExp wName
    rw [e, p]
    show (match (if Str.empty = ("" : Str) then some (1 : Int) else rdD Str.empty) with | none => none | some v => if isNm n = true ∧ v ≠ 0 then some (n, v) else none) = _
    rw [if_pos (by rfl)]
    exact if_pos ⟨hn, by decide⟩
  · have p := partition_app (y := "^") (b := decS v) tl_hat (nm_free hn (c := 94) (by decide))
    unfold rdW wExp wName
    rw [pw_tl h1, p]
    show (match (if ("^" : Str) = ("" : Str) then some (1 : Int) else rdD (decS v)) with | none => none | some v => if isNm n = true ∧ v ≠ 0 then some (n, v) else none) = _
    rw [if_neg (by decide), rdD_dec]
    exact if_pos ⟨hn, hv⟩
/-- a text of a Size -/
structure Val (x : Str) (es : Es) : Prop where
  tx : texE es = x
  sd : SdE es
  nm : ∀ q ∈ es, isNm q.1 = true
  nz : ∀ q ∈ es, q.2 ≠ 0
theorem kind_star : ("*" : Str).cps.all (· < 256) = true := by decide +kernel
theorem Val.words {x : Str} {es : Es} (h : Val x es) (he : es ≠ []) : Txt.split x "*" = es.map fun q => pwT q.1 q.2 := by
  have z := h.tx
  unfold texE at z
  rw [if_neg he] at z
  rw [← z]
  exact split_join tl_star kind_star (by simpa using he) fun p hp => by
    obtain ⟨q, hq, rfl⟩ := List.mem_map.mp hp
    exact pw_free (h.nm q hq)
theorem Val.one {es : Es} (h : Val "1" es) : es = [] := by
  by_cases he : es = []
  · exact he
  · have z := h.words he
    have z2 : (Txt.split ("1" : Str) "*").map tl = [[49]] := by
      rw [split_spl _ _ (by rw [tl_star]; simp) (kind_ok kind_star), tl_star]
      rfl
    rw [z, List.map_map] at z2
    cases es with
    | nil => rfl
    | cons q r =>
      have hd : tl (pwT q.1 q.2) = [49] := (List.cons.inj z2).1
      have hn := h.nm q (List.mem_cons_self ..)
      obtain ⟨c, t, e⟩ : ∃ c t, tl q.1 = c :: t := by
        cases e : tl q.1 with
        | nil => exact absurd e (nm_ne hn)
        | cons c t => exact ⟨c, t, rfl⟩
      have hc := (nm_sign hn (by rw [e]; exact List.mem_cons_self ..)).1
      by_cases h1 : q.2 = 1
      · unfold pwT at hd
        rw [if_pos h1, e] at hd
        have := (List.cons.inj hd).1
        omega
      · rw [pw_tl h1, tl_append, tl_append, e] at hd
        have := (List.cons.inj hd).1
        omega
theorem Val.ne {x : Str} {es : Es} (h : Val x es) (hx : x ≠ "1") : es ≠ [] := fun z => by
  subst z
  exact hx h.tx.symm

/-- words read one by one into a dict -/
def rdF (f : Str → Option (Str × Int)) (t : Es) : List Str → Option Es
  | [] => some t
  | w :: r => match f w with
    | none => none
    | some p => rdF f (putE t p.1 p.2) r
theorem put_fresh {t : Es} {n : Str} {v : Int} (h : n ∉ t.map (·.1)) : putE t n v = t ++ [(n, v)] := by
  unfold putE
  rw [if_neg]
  intro z
  obtain ⟨p, hp, e⟩ := List.any_eq_true.mp z
  exact h (List.mem_map.mpr ⟨p, hp, of_decide_eq_true e⟩)
theorem rdF_pw {f : Str → Option (Str × Int)} : ∀ (r t : Es), (∀ q ∈ r, f (pwT q.1 q.2) = some q) → ((t ++ r).map (·.1)).Nodup → rdF f t (r.map fun q : Str × Int => pwT q.1 q.2) = some (t ++ r)
  | [], t, _, _ => by
    rw [List.append_nil]
    rfl
  | q :: r, t, hf, hn => by
    show (match f (pwT q.1 q.2) with | none => none | some p => rdF f (putE t p.1 p.2) (r.map fun q : Str × Int => pwT q.1 q.2)) = _
    rw [hf q (List.mem_cons_self ..)]
    have e : t ++ q :: r = (t ++ [q]) ++ r := by rw [List.append_assoc]; rfl
    have hq : q.1 ∉ t.map (·.1) := fun z => by
      rw [List.map_append, List.nodup_append] at hn
      exact hn.2.2 q.1 z q.1 (by rw [List.map_cons]; exact List.mem_cons_self ..) rfl
    show rdF f (putE t q.1 q.2) (r.map fun q => pwT q.1 q.2) = _
    rw [put_fresh hq, e]
    rw [e] at hn
    exact rdF_pw r (t ++ [q]) (fun p hp => hf p (List.mem_cons_of_mem _ hp)) hn
theorem Val.rd {x : Str} {es : Es} (h : Val x es) (hx : x ≠ "1") : rdF rdW [] (Txt.split x "*") = some es ∧ ∀ w ∈ Txt.split x "*", rdW w ≠ none := by
  have hw := h.words (h.ne hx)
  rw [hw]
  refine ⟨rdF_pw es [] (fun q hq => rdW_pw (h.nm q hq) (h.nz q hq)) h.sd.nodup, fun w hw => ?_⟩
  obtain ⟨q, hq, rfl⟩ := List.mem_map.mp hw
  rw [rdW_pw (h.nm q hq) (h.nz q hq)]
  exact fun z => nomatch z
/-- what the words that are read give -/
structure Red (B : Nat) (t : Es) : Prop where
  nd : (t.map (·.1)).Nodup
  nm : ∀ q ∈ t, isNm q.1 = true
  bg : ∀ q ∈ t, Big q.2
  ln : t.length ≤ B
theorem Red.nil (B : Nat) : Red B [] := ⟨List.Pairwise.nil, (fun q h => nomatch h), (fun q h => nomatch h), Nat.zero_le _⟩
end K54
set_option maxHeartbeats 8000000
namespace K54
open PySem PySem.Spec PyProof.Rows L2 TL

/-! ### repr of Sizes -/
def sgn (c : Nat) : Bool := (decide (97 ≤ c) && decide (c ≤ 122)) || (isDg c || (c == 94 || (c == 42 || c == 45)))
theorem sgn_lt {c : Nat} (h : sgn c = true) : c < 123 := by
  unfold sgn isDg at h
  simp only [Bool.or_eq_true, Bool.and_eq_true, decide_eq_true_eq, beq_iff_eq] at h
  omega
theorem sgn_all : ((List.range 123).all fun c => !sgn c || (Unicode.isPrintable c && (c != 39 && (c != 92 && (c != 10 && (c != 13 && c != 9)))))) = true := by decide +kernel
theorem sgn_char {c : Nat} (h : sgn c = true) : Builtin.Str.reprChar 39 c = [c] ∧ c ≠ 39 := by
  have z := List.all_eq_true.mp sgn_all c (List.mem_range.mpr (sgn_lt h))
  rw [h] at z
  simp only [Bool.not_true, Bool.false_or, Bool.and_eq_true, bne_iff_ne, ne_eq] at z
  obtain ⟨z1, z2, z3, z4, z5, z6⟩ := z
  refine ⟨?_, z2⟩
  unfold Builtin.Str.reprChar
  have e1 : (c == 39 || c == 92) = false := by simp [z2, z3]
  have e2 : (c == 10) = false := by simpa using z4
  have e3 : (c == 13) = false := by simpa using z5
  have e4 : (c == 9) = false := by simpa using z6
  simp only [e1, e2, e3, e4, z1]
  rfl
theorem repr_fold : ∀ (l : List Nat) (acc : Array Nat), (∀ c ∈ l, sgn c = true) → (l.foldl (fun out c => out ++ (Builtin.Str.reprChar 39 c).toArray) acc).toList = acc.toList ++ l
  | [], acc, _ => by simp
  | c :: r, acc, h => by
    rw [List.foldl_cons, repr_fold r _ fun a ha => h a (List.mem_cons_of_mem _ ha), (sgn_char (h c (List.mem_cons_self ..))).1]
    simp
theorem repr_plain {x : Str} (h : ∀ c ∈ tl x, sgn c = true) : tl (reprText x) = 39 :: (tl x ++ [39]) := by
  have hq : reprQuote x = 39 := by
    unfold reprQuote
    rw [if_neg]
    intro z
    rw [Bool.and_eq_true] at z
    have z1 : 39 ∈ tl x := by
      have := z.1
      rw [Array.contains_iff_mem] at this
      exact Array.mem_toList_iff.mpr this
    exact (sgn_char (h 39 z1)).2 rfl
  unfold reprText
  show tl ⟨(x.cps.foldl (fun out c => out ++ (Builtin.Str.reprChar (reprQuote x) c).toArray) #[reprQuote x]).push (reprQuote x)⟩ = _
  rw [hq, ← Array.foldl_toList]
  show ((x.cps.toList.foldl (fun out c => out ++ (Builtin.Str.reprChar 39 c).toArray) #[39]).push 39).toList = _
  rw [Array.toList_push, repr_fold _ _ h]
  rfl
theorem mem_joinL {S : List Nat} {c : Nat} : ∀ {ps : List (List Nat)}, c ∈ joinL S ps → c ∈ S ∨ ∃ p ∈ ps, c ∈ p
  | [], h => by cases h
  | [p], h => .inr ⟨p, List.mem_cons_self .., by
      have e : joinL S [p] = p := by first | rfl | simp [joinL]
      rwa [e] at h⟩
  | p :: q :: r, h => by
    have e : joinL S (p :: q :: r) = p ++ (S ++ joinL S (q :: r)) := by first | rfl | simp [joinL]
    rw [e] at h
    rcases List.mem_append.mp h with h | h
    · exact .inr ⟨p, List.mem_cons_self .., h⟩
    · rcases List.mem_append.mp h with h | h
      · exact .inl h
      · rcases mem_joinL h with h | ⟨a, ha, h⟩
        · exact .inl h
        · exact .inr ⟨a, List.mem_cons_of_mem _ ha, h⟩
theorem sgn_nm {n : Str} (h : isNm n = true) {c : Nat} (hc : c ∈ tl n) : sgn c = true := by
  have := nm_sign h hc
  unfold sgn
  rw [decide_eq_true this.1, decide_eq_true this.2]
  rfl
theorem sgn_num {n c : Nat} (hc : c ∈ numL n) : sgn c = true := by
  have z : isDg c = true := by
    have := numL_digits n c hc
    unfold isDg
    rw [decide_eq_true this.1, decide_eq_true this.2]
    rfl
  unfold sgn
  rw [z]
  simp
theorem sgn_dec {v : Int} {c : Nat} (hc : c ∈ tl (decS v)) : sgn c = true := by
  by_cases h : v < 0
  · rw [tl_decN h] at hc
    rcases List.mem_cons.mp hc with e | hc
    · rw [e]; rfl
    · exact sgn_num hc
  · rw [tl_dec0 (by omega)] at hc
    exact sgn_num hc
theorem sgn_pw {n : Str} {v : Int} (h : isNm n = true) {c : Nat} (hc : c ∈ tl (pwT n v)) : sgn c = true := by
  by_cases h1 : v = 1
  · unfold pwT at hc
    rw [if_pos h1] at hc
    exact sgn_nm h hc
  · rw [pw_tl h1, tl_append, tl_append, tl_hat] at hc
    rcases List.mem_append.mp hc with hc | hc
    · rcases List.mem_append.mp hc with hc | hc
      · exact sgn_nm h hc
      · rw [List.mem_singleton.mp hc]; rfl
    · exact sgn_dec hc
theorem sgn_tex {es : Es} (h : ∀ q ∈ es, isNm q.1 = true) {c : Nat} (hc : c ∈ tl (texE es)) : sgn c = true := by
  unfold texE at hc
  split at hc
  · have : c = 49 := List.mem_singleton.mp hc
    rw [this]; rfl
  · rw [join_eq, tl_join, tl_star] at hc
    rcases mem_joinL hc with hc | ⟨p, hp, hc⟩
    · rw [List.mem_singleton.mp hc]; rfl
    · obtain ⟨x, hx, rfl⟩ := List.mem_map.mp hp
      obtain ⟨q, hq, rfl⟩ := List.mem_map.mp hx
      exact sgn_pw (h q hq) hc
def reprS (x : Str) : Str := ("Size('" : Str) ++ x ++ ("')" : Str)
theorem repr_size {es : Es} (h : ∀ q ∈ es, isNm q.1 = true) : Str.empty ++ ("Size(" : Str) ++ reprText (texE es) ++ (")" : Str) = reprS (texE es) := by
  refine ext_tl ?_
  unfold reprS
  rw [tl_append, tl_append, tl_append, tl_append, tl_append, repr_plain fun c hc => sgn_tex h hc]
  have e1 : tl Str.empty = [] := rfl
  have e2 : tl ("Size(" : Str) = [83, 105, 122, 101, 40] := by decide
  have e3 : tl (")" : Str) = [41] := by decide
  have e4 : tl ("Size('" : Str) = [83, 105, 122, 101, 40, 39] := by decide
  have e5 : tl ("')" : Str) = [39, 41] := by decide
  rw [e1, e2, e3, e4, e5]
  simp
theorem reprT_len {es : Es} (h : ∀ q ∈ es, isNm q.1 = true) : (reprText (texE es)).length = (texE es).length + 2 := by
  rw [len_tl, repr_plain fun c hc => sgn_tex h hc, len_tl]
  simp
abbrev sRepr : Stmt := inClass sSize 19
def spRepr (C : Addr) : Sp := fun vs H Q _ => ∃ (p : Addr) (es : Es), vs = [.ref p] ∧ SizeAt C H p es ∧ (∀ q ∈ es, Big q.2) ∧ ∀ H', Same H H' → Q (.str (reprS (texE es))) H'
section
variable {P : Program} {w : World} {K : PySem.W.Frag} {mg : Str → Option Value} {base : Heap} {C : Addr}
theorem scRepr : FnScope ["self"] ["self"] (defScope sRepr) :=
  ⟨rfl, rfl, rfl, by decide +kernel, rfl, by decide +kernel, by decide +kernel⟩
theorem ok_repr {f fT : Addr} {fd fdT : FuncData} (F : Fun K "__repr__" "Size.__repr__" sRepr f fd) (Tc : Ck K mg C)
    (GT : FnOk P w K mg base CX0 4 fT fdT ["exponents"] spTex) (kT : PySem.W.keepIn K (.ref fT) = true) (bT : Binds K fdT ["exponents"] []) (gT : mg "exponents_text" = some (.ref fT)) :
    FnOk P w K mg base CX0 5 f fd ["self"] (spRepr C) := by
  refine F.ok scRepr (fun vs H Q E h => ?_) (fun cdv A outer s H vs Q E hr h => ?_)
  · obtain ⟨p, es, rfl, _⟩ := h
    rfl
  · obtain ⟨p, es, rfl, ⟨dx, D, p1, p2, p3, p4, p5, p6⟩, hB, k⟩ := h
    refine ⟨_, pss_one (ps_ret (pe_joined (.cons pe_str (.cons (pe_fmtR (pe_call GT hr rfl gT kT bT .nil pass0 (pa_cons (pe_fld (pv 0) rfl) pa_nil))) (.cons pe_str .nil))))), ?_⟩
    have hb : ∀ q ∈ es, q.1.length ≤ 8 ∧ Big q.2 := fun q hq => ⟨by have := nm_len (p5 q hq); omega, hB q hq⟩
    have hl := tex_len hb p6
    have hl2 := reprT_len p5
    have e1 : (Str.empty ++ ("Size(" : Str)).length = 5 := by decide
    refine ⟨_, rfl, by rw [e1, sizeLine_eq]; decide, _, rfl, p, C, dx, _, _, rfl, p1, Tc.cl, Tc.nE, rfl, D, es, rfl, p2, p3.nodup, p6, hb, fun ss sd lk H' S => ?_⟩
    rw [sd.one p3 lk]
    refine .inl ⟨_, rfl, by rw [sizeLine_eq]; omega, _, rfl, ?_, _, rfl, ?_, ?_⟩
    · rw [len_tl, tl_append, List.length_append, ← len_tl, ← len_tl, e1, sizeLine_eq]
      omega
    · have e3 : (")" : Str).length = 1 := by decide
      rw [len_tl, tl_append, tl_append, List.length_append, List.length_append, ← len_tl, ← len_tl, ← len_tl, e1, e3, sizeLine_eq]
      omega
    · show Q (.str (Str.empty ++ ("Size(" : Str) ++ reprText (texE es) ++ (")" : Str))) H'
      rw [repr_size p5]
      exact k H' S
end
/-! ### repr(o), o an instance with an own __repr__ -/
section
variable {X : Cx} {CX : CXT} {C f : Addr} {fd : FuncData} {ps : List Str} {sp : Sp} {E : XK} {n : Nat}
end
end K54
set_option maxHeartbeats 8000000
namespace K54
open PySem PySem.Spec PyProof.Rows L2 TL

/-! ### names that are drawn -/
def one (c : Nat) : Str := ⟨#[c]⟩
/-- _law_choice(rng, text) -/
def spChoiceS : Sp := fun vs H Q _ => ∃ (r : Addr) (x : Str), vs = [.ref r, .str x] ∧ Rg H r ∧ 0 < x.length ∧ x.length < 1000000 ∧
  ∀ (H' : Hp) (c : Nat), c ∈ tl x → Rg H' r → But r H H' → Q (.str (one c)) H'
theorem But.refl (r : Addr) (H : Hp) : But r H H := fun _ _ _ e => e
theorem But.of {r : Addr} {H H' : Hp} (S : Same H H') : But r H H' := fun b o _ e => S b o e
theorem Rg.same {H H' : Hp} {r : Addr} (h : Rg H r) (S : Same H H') : Rg H' r := by
  obtain ⟨x, y, h1, h2⟩ := h
  exact ⟨x, y, S _ _ h1, h2⟩
theorem Rg.ne {H : Hp} {r p : Addr} (h : Rg H r) (n : H p = none) : r ≠ p := by
  obtain ⟨x, y, h1, h2⟩ := h
  exact ne_of_none h1 n
theorem Rg.upd {H : Hp} {r p : Addr} {o : HO} (h : Rg H r) (n : p ≠ r) : Rg (upd H p o) r := by
  obtain ⟨x, y, h1, h2⟩ := h
  exact ⟨x, y, (upd_ne n.symm).trans h1, h2⟩
theorem But.upd {H H' : Hp} {r p : Addr} {o : HO} (h : But r H H') (n : H p = none) : But r H (upd H' p o) := fun b u hb e => by
  rw [upd_ne (ne_of_none e n)]
  exact h b u hb e
theorem sum_ones : ∀ {ys : List Str}, (∀ y ∈ ys, y.length ≤ 1) → (ys.map (·.length)).sum ≤ ys.length
  | [], _ => Nat.le_refl _
  | y :: r, h => by
    have ih := sum_ones (ys := r) fun z hz => h z (List.mem_cons_of_mem _ hz)
    have h1 := h y (List.mem_cons_self ..)
    show y.length + (r.map (·.length)).sum ≤ r.length + 1
    omega
theorem eq_str (a b : Str) : eqV (.str a) (.str b) = (a == b) := rfl
theorem inV_str {x : Str} : ∀ {ns : List Str}, inV (.str x) (ns.map V.str) = decide (x ∈ ns)
  | [] => by simp [inV]
  | n :: r => by
    have ih := inV_str (x := x) (ns := r)
    show (eqV (.str n) (.str x) || inV (.str x) (r.map V.str)) = _
    rw [ih, eq_str]
    by_cases h : n = x
    · subst h
      simp
    · have h1 : (n == x) = false := by simpa using h
      have h2 : ¬ x = n := fun z => h z.symm
      rw [h1]
      simp [h2]
theorem flat_strs : ∀ ns : List Str, (ns.map V.str).all flatV = true
  | [] => rfl
  | n :: r => by
    rw [List.map_cons, List.all_cons, flat_strs r]
    rfl
/-- a drawn text -/
def Ltr (x : Str) : Prop := 1 ≤ x.length ∧ x.length ≤ 3 ∧ ∀ c ∈ tl x, c ∈ tl abc
def spare (x : Str) : List Str := x :: (tl abc).map fun c => x ++ one c
theorem nm_of {x : Str} (h1 : 1 ≤ x.length) (h2 : x.length ≤ 8) (h3 : ∀ c ∈ tl x, c ∈ tl abc) : isNm x = true := by
  unfold isNm
  rw [decide_eq_true h1, decide_eq_true h2, Bool.true_and, Bool.true_and, List.all_eq_true]
  intro c hc
  exact decide_eq_true (h3 c hc)
theorem tl_one (c : Nat) : tl (one c) = [c] := rfl
theorem spare_nm {x : Str} (h : Ltr x) : ∀ y ∈ spare x, isNm y = true := fun y hy => by
  obtain ⟨h1, h2, h3⟩ := h
  rcases List.mem_cons.mp hy with rfl | hy
  · exact nm_of h1 (by omega) h3
  · obtain ⟨c, hc, rfl⟩ := List.mem_map.mp hy
    have e : (x ++ one c).length = x.length + 1 := by
      rw [len_tl, tl_append, List.length_append, ← len_tl, tl_one]
      rfl
    refine nm_of (by omega) (by omega) fun d hd => ?_
    rw [tl_append] at hd
    rcases List.mem_append.mp hd with hd | hd
    · exact h3 d hd
    · rw [tl_one] at hd
      rw [List.mem_singleton.mp hd]
      exact hc
theorem spare_four {x : Str} (h : Ltr x) : ∀ y ∈ spare x, y.length ≤ 4 := fun y hy => by
  obtain ⟨h1, h2, h3⟩ := h
  rcases List.mem_cons.mp hy with rfl | hy
  · omega
  · obtain ⟨c, hc, rfl⟩ := List.mem_map.mp hy
    have e : (x ++ one c).length = x.length + 1 := by
      rw [len_tl, tl_append, List.length_append, ← len_tl, tl_one]
      rfl
    omega
theorem spare_nd (x : Str) : (spare x).Nodup := by
  refine List.nodup_cons.mpr ⟨fun z => ?_, ?_⟩
  · obtain ⟨c, _, e⟩ := List.mem_map.mp z
    have e2 := congrArg tl e
    rw [tl_append, tl_one] at e2
    have e3 := congrArg List.length e2
    rw [List.length_append] at e3
    simp at e3
  · have hn : (tl abc).Nodup := by decide +kernel
    refine List.Pairwise.map _ (fun a b h e => h ?_) hn
    have e2 := congrArg tl e
    rw [tl_append, tl_append, tl_one, tl_one] at e2
    have e3 := List.append_cancel_left e2
    injection e3
theorem spare_len (x : Str) : (spare x).length = 27 := by
  unfold spare
  rw [List.length_cons, List.length_map]
  have : (tl abc).length = 26 := by decide +kernel
  omega
theorem spare_free {x : Str} {ns : List Str} (h : ns.length < 27) : (spare x).filter (fun y => decide (y ∉ ns)) ≠ [] := fun e => by
  have z := sub_len (spare x) ns (spare_nd x) fun y hy => by
    by_cases q : y ∈ ns
    · exact q
    · have : y ∈ (spare x).filter (fun y => decide (y ∉ ns)) := List.mem_filter.mpr ⟨hy, decide_eq_true q⟩
      rw [e] at this
      cases this
  rw [spare_len] at z
  omega
theorem joinL_nil : ∀ ps : List (List Nat), joinL [] ps = ps.flatten
  | [] => rfl
  | [p] => by
    show p = (p :: []).flatten
    simp
  | p :: q :: r => by
    have ih := joinL_nil (q :: r)
    show p ++ ([] ++ joinL [] (q :: r)) = p ++ (q :: r).flatten
    rw [ih]
    rfl
theorem ltr_of {ys : List Str} (h1 : 1 ≤ ys.length) (h2 : ys.length ≤ 3) (h : ∀ y ∈ ys, ∃ c ∈ tl abc, y = one c) : Ltr (Txt.join "" ys) := by
  have e : tl (Txt.join "" ys) = (ys.map tl).flatten := by
    rw [join_eq, tl_join]
    exact joinL_nil _
  have hl : ∀ zs : List Str, (∀ y ∈ zs, ∃ c ∈ tl abc, y = one c) → (zs.map tl).flatten.length = zs.length ∧ ∀ c ∈ (zs.map tl).flatten, c ∈ tl abc := fun zs => by
    induction zs with
    | nil => intro _; exact ⟨rfl, fun c hc => by cases hc⟩
    | cons z r ih =>
      intro hz
      obtain ⟨i1, i2⟩ := ih fun y hy => hz y (List.mem_cons_of_mem _ hy)
      obtain ⟨c, hc, rfl⟩ := hz z (List.mem_cons_self ..)
      rw [List.map_cons, List.flatten_cons, tl_one]
      refine ⟨by rw [List.length_append, i1, List.length_cons, List.length_cons, List.length_nil]; omega, fun d hd => ?_⟩
      rcases List.mem_append.mp hd with hd | hd
      · rw [List.mem_singleton.mp hd]
        exact hc
      · exact i2 d hd
  obtain ⟨i1, i2⟩ := hl ys h
  have e2 : (Txt.join "" ys).length = ys.length := by rw [len_tl, e, i1]
  exact ⟨by omega, by omega, fun c hc => i2 c (by rw [← e]; exact hc)⟩

abbrev sNm : Stmt := top 64
def spNm : Sp := fun vs H Q _ => ∃ (r : Addr) (m : Int) (t : Addr) (tk : List Str), vs = [.ref r, .int m, .ref t] ∧ Rg H r ∧ 0 ≤ m ∧ m ≤ 10 ∧ t ≠ r ∧ H t = some (.lst (tk.map V.str)) ∧ (∀ y ∈ tk, 4 < y.length) ∧
  ∀ (H' : Hp) (l : Addr) (ns : List Str), But r H H' → Rg H' r → H l = none → H' l = some (.lst (ns.map V.str)) → Pool ns → (ns.length : Int) = m → (∀ n ∈ ns, n.length ≤ 4) → Q (.ref l) H'
def NNm : List Str := ["_law_rng_here", "_law_many", "_law_taken", "_law_found", "_law_k", "_law_name", "_law_spare", "_law_turn", "_law_one"]
section
variable {P : Program} {w : World} {K : PySem.W.Frag} {mg : Str → Option Value} {base : Heap}
theorem ok_choiceS {f fD : Addr} {fd fdD : FuncData} (F : Fun K "_law_choice" "_law_choice" sChoice f fd) (T : Nb mg)
    (FD : Fun K "_law_draw" "_law_draw" sDraw fD fdD) (bD : Binds K fdD ["_law_rng_here", "_law_many"] [])
    (gD : mg "_law_draw" = some (.ref fD)) :
    FnOk P w K mg base CX0 2 f fd ["_law_rng_here", "_law_some"] spChoiceS := by
  have GD : FnOk P w K mg base CX0 1 fD fdD ["_law_rng_here", "_law_many"] spDraw := ok_draw FD T
  refine F.ok scChoice (fun vs H Q E h => ?_) (fun cdv A outer s H vs Q E hr h => ?_)
  · obtain ⟨r, x, rfl, _⟩ := h
    rfl
  · obtain ⟨r, x, rfl, hR, h0, h1, q⟩ := h
    refine ⟨_, pss_one (ps_ret (pe_ix ix_str (pv 1) (pe_call GD hr rfl gD FD.kp bD .nil pass0
      (pa_cons (pv 0) (pa_cons (pe_callB call_len_str (by rfl) T.len PySem.boot_len (pa_cons (pv 1) pa_nil)) pa_nil)))
      (fun _ _ => rfl))), ?_⟩
    refine ⟨_, rfl, _, rfl, _, rfl, x, rfl, by rw [sizeLine_eq]; omega, ?_⟩
    refine ⟨r, _, rfl, hR, by omega, by omega, fun H' d d0 d1 hR' hB => ?_⟩
    obtain ⟨j, rfl⟩ : ∃ j : Nat, d = (j : Int) := ⟨d.toNat, by omega⟩
    have hj : j < x.cps.toList.length := by
      have e : x.length = x.cps.toList.length := len_tl x
      omega
    exact ⟨x, _, x.cps.toList[j], rfl, rfl, by rw [sizeLine_eq]; omega, atI_nat (List.getElem?_eq_getElem hj), q H' _ (List.getElem_mem hj) hR' hB⟩
theorem scNm : FnScope NNm ["_law_rng_here", "_law_many", "_law_taken"] (defScope sNm) :=
  ⟨rfl, rfl, rfl, by decide +kernel, rfl, by decide +kernel, by decide +kernel⟩
theorem ok_nm {f fD fC : Addr} {fd fdD fdC : FuncData} (F : Fun K "_law_names" "_law_names" sNm f fd) (T : Nb mg)
    (FD : Fun K "_law_draw" "_law_draw" sDraw fD fdD) (bD : Binds K fdD ["_law_rng_here", "_law_many"] []) (gD : mg "_law_draw" = some (.ref fD))
    (FC : Fun K "_law_choice" "_law_choice" sChoice fC fdC) (bC : Binds K fdC ["_law_rng_here", "_law_some"] []) (gC : mg "_law_choice" = some (.ref fC)) :
    FnOk P w K mg base CX0 3 f fd ["_law_rng_here", "_law_many", "_law_taken"] spNm := by
  have GD : FnOk P w K mg base CX0 2 fD fdD ["_law_rng_here", "_law_many"] spDraw := (ok_draw FD T).mono (by decide)
  have GC : FnOk P w K mg base CX0 2 fC fdC ["_law_rng_here", "_law_some"] spChoiceS := ok_choiceS FC T FD bD gD
  refine F.ok scNm (fun vs H Q E h => ?_) (fun cdv A outer s H vs Q E hr h => ?_)
  · obtain ⟨r, m, t, tk, rfl, _⟩ := h
    rfl
  · obtain ⟨r, m, t, tk, rfl, hR, hm, hm2, tr, ht, htk, q⟩ := h
    refine ⟨_, pss_cons (ps_set (i := 3) scNm.nd rfl (.inr rfl) (pe_lst pa_nil))
      (pss_cons (ps_for PassesOwn.never rfl (pi_range1 (by rfl) T.range (pa_cons (pv 1) pa_nil)) (pg_name (i := 4) scNm.nd rfl (Or.inl rfl))
        (pss_cons (ps_set (i := 5) scNm.nd rfl (.inr rfl) (pe_join pe_str (pe_lc (own := [("_law_turn", 7)]) (g := gName 7) (tt := tYes) (te := tCall spChoiceS [] E0 (tCons (tVar 0) (tCons (tC (.str abc)) tNil))) rfl scNm.nd
          (pi_range1 (by rfl) T.range (pa_cons (pe_op op_add pe_int (pe_call GD hr rfl gD FD.kp bD .nil pass0 (pa_cons (pv 0) (pa_cons pe_int pa_nil)))) pa_nil))
          (blkOk_by (own := [("_law_turn", 7)]) (N := NNm) (sc := defScope sNm) (by decide +kernel)) (fun _ _ _ _ _ => pg_name (i := 7) scNm.nd rfl (Or.inl rfl))
          (fun _ _ _ _ _ => pts_nil) (fun _ _ _ _ _ => by exact pe_call GC hr rfl gC FC.kp bC .nil pass0 (pa_cons (pv 0) (pa_cons pe_str pa_nil))))))
        (pss_cons (ps_set (i := 6) scNm.nd rfl (.inl rfl) (pe_op op_cat (pe_lst (pa_cons (pv 5) pa_nil)) (pe_lc (own := [("_law_one", 8)]) (g := gName 8) (tt := tYes)
          (te := tOp (fun x y H Q => ∃ i j, x = .str i ∧ y = .str j ∧ i.length + j.length ≤ sizeLine ∧ Q (.str (i ++ j)) H) (tVar 5) (tVar 8)) rfl scNm.nd (pi_str pe_str)
          (blkOk_by (own := [("_law_one", 8)]) (N := NNm) (sc := defScope sNm) (by decide +kernel)) (fun _ _ _ _ _ => pg_name (i := 8) scNm.nd rfl (Or.inl rfl))
          (fun _ _ _ _ _ => pts_nil) (fun _ _ _ _ _ => by exact pe_op op_add_str (pv 5) (pv 8)))))
        (pss_one (ps_expr (pe_bm PySem.F.plainAttrs_list PySem.F.slot_list_append PySem.F.type_list_append mt_append (pv 3) (pa_cons
          (pe_ix ix_list (pe_lc (own := [("_law_one", 8)]) (g := gName 8) (tt := tAnd (tTest (tOp (rIn K true) (tVar 8) (tVar 3))) (tTest (tOp (rIn K true) (tVar 8) (tVar 2)))) (te := tVar 8) rfl scNm.nd (pi_list (pv 6))
            (blkOk_by (own := [("_law_one", 8)]) (N := NNm) (sc := defScope sNm) (by decide +kernel)) (fun _ _ _ _ _ => pg_name (i := 8) scNm.nd rfl (Or.inl rfl))
            (fun _ _ _ _ _ => pts_one (by exact PW.pt (pw_and (pt_cmpR op_notIn_seq (pv 8) (pv 3) rfl) (pw_and1 (pt_cmpR op_notIn_seq (pv 8) (pv 2) rfl))))) (fun _ _ _ _ _ => by exact pv 8))
            pe_int (fun _ _ => rfl)) pa_nil)))))))
      (pss_one (ps_ret (pv 3)))), ?_⟩
    refine ⟨Nat.zero_le _, fun l nl => ?_⟩
    have S0 := fresh_upd (o := .lst []) nl
    have rl := hR.ne nl
    have tl' : t ≠ l := ne_of_none ht nl
    refine ⟨_, rfl, m, rfl, by omega, by omega, ?_⟩
    refine for_it (walk_range (lo := 0) (n := m.toNat)) (fun i σ H2 => (∃ o4 o5 o6, σ = [some (.ref r), some (.int m), some (.ref t), some (.ref l), o4, o5, o6, none, none]) ∧ Rg H2 r ∧ But r H H2 ∧
      ∃ ns : List Str, H2 l = some (.lst (ns.map V.str)) ∧ ns.Nodup ∧ ns.length = i ∧ ∀ n ∈ ns, isNm n = true ∧ n.length ≤ 4)
      ⟨⟨none, none, none, rfl⟩, hR.same S0, But.of S0, [], upd_same, List.Pairwise.nil, rfl, fun n hn => by cases hn⟩ (fun _ _ _ _ _ => trivial) ?_ ?_
    · rintro i x σ H2 H2' hi ⟨⟨o4, o5, o6, rfl⟩, hR2, B2, ns, hl2, nd, hln, hnm⟩ ⟨rfl, rfl⟩
      have ht2 := B2 _ _ tr ht
      refine ⟨⟨_, rfl⟩, _, rfl, r, 3, rfl, hR2, by decide, by decide, fun H3 d d0 d1 hR3 B3 => ⟨_, _, rfl, rfl, _, rfl, by omega, by omega, fun D hD => ?_⟩⟩
      have Dr : D ≠ r := (hR3.ne hD).symm
      refine lc_range (lo := 0) (n := (1 + d).toNat) (fun j H4 => Rg H4 r ∧ But r H3 H4 ∧ ∃ ys : List Str, H4 D = some (.lst (ys.map V.str)) ∧ ys.length = j ∧ ∀ y ∈ ys, ∃ c ∈ TL.tl abc, y = one c)
        ⟨hR3.upd Dr, But.of (fresh_upd hD), [], upd_same, rfl, fun y hy => by cases hy⟩ ?_ ?_
      · rintro j H4 hj ⟨hR4, B4, ys, hD4, hy, hys⟩
        refine ⟨rfl, ?_⟩
        unfold tYes
        dsimp only
        rw [if_pos rfl]
        refine ⟨_, rfl, r, abc, rfl, hR4, by decide +kernel, by decide +kernel, fun H5 c hc hR5 B5 => ?_⟩
        refine ⟨_, B5 _ _ Dr hD4, by rw [List.length_map, sizeLine_eq]; omega, hR5.upd Dr, (B4.trans B5).upd hD, ys ++ [one c], ?_, by rw [List.length_append, hy]; rfl, fun y hy' => ?_⟩
        · rw [upd_same, List.map_append]
          rfl
        · rcases List.mem_append.mp hy' with z | z
          · exact hys y z
          · exact ⟨c, hc, List.mem_singleton.mp z⟩
      · rintro H4 ⟨hR4, B4, ys, hD4, hy, hys⟩
        have hx : Ltr (Txt.join "" ys) := ltr_of (by omega) (by omega) hys
        refine ⟨_, D, ys, rfl, rfl, .inl (SqL.of hD4), ?_, ?_⟩
        · have z := sum_ones (ys := ys) fun y hy => by
            obtain ⟨c, _, rfl⟩ := hys y hy
            exact Nat.le_refl _
          have e : ("" : Str).length = 0 := rfl
          rw [e]
          omega
        generalize Txt.join (Str.ofString "") ys = x at hx
        refine ⟨_, rfl, by rw [sizeLine_eq]; show 1 ≤ 16777216; decide, fun p1 np1 => ?_⟩
        have S1 := fresh_upd (o := .lst [.str x]) np1
        refine ⟨_, rfl, fun D2 hD2 => ?_⟩
        refine lc_it walk_str (fun j H5 => H5 D2 = some (.lst ((((TL.tl abc).take j).map fun c => x ++ one c).map V.str)) ∧ Same (L2.upd H4 p1 (.lst [.str x])) H5)
          ⟨upd_same, fresh_upd hD2⟩ (fun _ _ _ _ => trivial) ?_ ?_
        · rintro j v H5 H6 hj ⟨hD5, S5⟩ ⟨rfl, c, hc, rfl⟩
          refine ⟨rfl, ?_⟩
          unfold tYes
          dsimp only
          rw [if_pos rfl]
          have l26 : (TL.tl abc).length = 26 := by decide +kernel
          refine ⟨_, rfl, _, rfl, _, _, rfl, rfl, ?_, _, hD5, ?_, ?_, fun b o e => ?_⟩
          · have e : (⟨#[c]⟩ : Str).length = 1 := rfl
            have := hx.2.1
            rw [e, sizeLine_eq]
            omega
          · rw [List.length_map, List.length_map, List.length_take, sizeLine_eq]
            omega
          · have hc2 : (TL.tl abc)[j]? = some c := by
              show abc.cps.toList[j]? = some c
              rw [Array.getElem?_toList]
              exact hc
            rw [upd_same, List.take_add_one, hc2]
            simp
            rfl
          · rw [upd_ne (ne_of_none e hD2)]
            exact S5 b o e
        · rintro H5 ⟨hD5, S5⟩
          have S45 : Same H4 H5 := S1.trans S5
          have e1 : (TL.tl abc).take abc.cps.size = TL.tl abc := by
            rw [show abc.cps.size = (TL.tl abc).length from (Array.length_toList ..).symm, List.take_length]
          have hD5' : H5 D2 = some (.lst (((TL.tl abc).map fun c => x ++ one c).map V.str)) := by
            rw [← e1]
            exact hD5
          refine ⟨p1, D2, [.str x], ((TL.tl abc).map fun c => x ++ one c).map V.str, rfl, rfl, S5 _ _ upd_same, hD5', ?_, fun p3 np3 => ?_⟩
          · rw [List.length_map, List.length_map, sizeLine_eq]
            have l26 : (TL.tl abc).length = 26 := by decide +kernel
            show 1 + _ ≤ _
            omega
          have S6 := fresh_upd (o := .lst ((spare x).map V.str)) np3
          have S46 := S45.trans S6
          have nDl : D ≠ l := fun z => by
            rw [z, B3 _ _ rl.symm hl2] at hD
            cases hD
          have hl6 : L2.upd H5 p3 (.lst ((spare x).map V.str)) l = some (.lst (ns.map V.str)) := S46 _ _ (B4 _ _ rl.symm (B3 _ _ rl.symm hl2))
          have ht6 : L2.upd H5 p3 (.lst ((spare x).map V.str)) t = some (.lst (tk.map V.str)) := S46 _ _ (B4 _ _ tr (B3 _ _ tr ht2))
          refine ⟨_, rfl, .inl ⟨rfl, _, SqL.of hl6⟩, _, rfl, p3, rfl, ⟨_, SqL.of upd_same⟩, fun D3 hD3 => ?_⟩
          have S7' := fresh_upd (o := .lst []) hD3
          refine lc_it (walk_list (K := K) (a := p3) (xs := (spare x).map V.str)) (fun j H7 => H7 D3 = some (.lst ((((spare x).take j).filter fun y => decide (y ∉ ns)).map V.str)) ∧ Same (L2.upd H5 p3 (.lst ((spare x).map V.str))) H7)
            ⟨upd_same, S7'⟩ (fun i H7 _ h => SqL.of (h.2 _ _ upd_same)) ?_ ?_
          · rintro j v H7 H8 hj ⟨hD7, S7⟩ ⟨rfl, hv⟩
            rw [List.length_map, spare_len] at hj
            have hj' : j < (spare x).length := by rw [spare_len]; exact hj
            have ex : v = .str (spare x)[j] := by
              rw [List.getElem?_map, List.getElem?_eq_getElem hj'] at hv
              exact (Option.some.inj hv).symm
            subst ex
            have et : (spare x).take (j + 1) = (spare x).take j ++ [(spare x)[j]] := by
              rw [List.take_add_one, List.getElem?_eq_getElem hj']
              rfl
            refine ⟨rfl, ?_⟩
            refine ⟨_, rfl, _, rfl, l, _, rfl, .inl (SqL.of (S7 _ _ hl6)), rfl, flat_strs ns, _, rfl, ?_⟩
            rw [if_pos rfl, inV_str]
            by_cases hin : (spare x)[j] ∈ ns
            · rw [decide_eq_true hin]
              refine iteF (iteF ⟨?_, S7⟩)
              rw [et, List.filter_append]
              simpa [hin] using hD7
            · rw [decide_eq_false hin]
              refine iteT' rfl ?_
              refine ⟨_, rfl, _, rfl, t, _, rfl, .inl (SqL.of (S7 _ _ ht6)), rfl, flat_strs tk, _, rfl, ?_⟩
              have hn2 : (spare x)[j] ∉ tk := fun z => by
                have h1 := htk _ z
                have h2 := spare_four hx _ (List.getElem_mem hj')
                omega
              rw [if_pos rfl, inV_str, decide_eq_false hn2]
              refine iteT' rfl ?_
              refine ⟨_, rfl, _, hD7, ?_, ?_, fun b o e => ?_⟩
              · rw [List.length_map, sizeLine_eq]
                have h1 := List.length_filter_le (fun y => decide (y ∉ ns)) ((spare x).take j)
                have h2 : ((spare x).take j).length ≤ j := by rw [List.length_take]; exact Nat.min_le_left ..
                omega
              · rw [upd_same, et, List.filter_append, List.map_append]
                simp [hin]
              · rw [upd_ne (ne_of_none e hD3)]
                exact S7 b o e
          · rintro H7 ⟨hD7, S7⟩
            rw [List.length_map, List.take_length] at hD7
            have hne := spare_free (x := x) (ns := ns) (by omega)
            obtain ⟨y, rest, ey⟩ : ∃ y rest, (spare x).filter (fun y => decide (y ∉ ns)) = y :: rest := by
              cases q : (spare x).filter (fun y => decide (y ∉ ns)) with
              | nil => exact absurd q hne
              | cons y rest => exact ⟨y, rest, rfl⟩
            have hyin : y ∈ (spare x).filter (fun y => decide (y ∉ ns)) := by
              rw [ey]
              exact List.mem_cons_self ..
            obtain ⟨hy1, hy2⟩ := List.mem_filter.mp hyin
            have hy3 : y ∉ ns := of_decide_eq_true hy2
            rw [ey] at hD7
            refine ⟨D3, _, 0, .str y, rfl, rfl, SqL.of hD7, (show atI (List.map V.str (y :: rest)) ((0 : Nat) : Int) = some (V.str y) from atI_nat rfl), l, _, _, rfl, rfl, S7 _ _ hl6, by rw [List.length_map, sizeLine_eq]; omega, ⟨_, _, _, rfl⟩, ?_, ?_, ns ++ [y], ?_, ?_, ?_, ?_⟩
            · exact ((hR4.same S46).same S7).upd rl.symm
            · refine But.upd (fun b o hb e => ?_) nl
              exact S7 _ _ (S46 _ _ (B4 _ _ hb (B3 _ _ hb (B2 _ _ hb e))))
            · rw [upd_same, List.map_append]
              rfl
            · rw [List.nodup_append]
              refine ⟨nd, List.pairwise_singleton .., fun a ha b hb e => ?_⟩
              rw [List.mem_singleton.mp hb] at e
              exact hy3 (by rw [← e]; exact ha)
            · rw [List.length_append, hln]
              rfl
            · intro n hn
              rcases List.mem_append.mp hn with z | z
              · exact hnm n z
              · rw [List.mem_singleton.mp z]
                exact ⟨spare_nm hx y hy1, spare_four hx y hy1⟩
    · rintro σ H2 ⟨⟨o4, o5, o6, rfl⟩, hR2, B2, ns, hl2, nd, hln, hnm⟩
      exact ⟨_, rfl, q _ l ns B2 hR2 nl hl2 ⟨nd, fun n hn => (hnm n hn).1, by omega⟩ (by omega) fun n hn => (hnm n hn).2⟩
end
end K54
set_option maxHeartbeats 8000000
namespace K54
open PySem PySem.Spec PyProof.Rows L2 TL

/-! ### repr of own instances of several classes, and of a list of them; {o!r} -/
theorem len_app (x y : Str) : (x ++ y).length = x.length + y.length := by
  rw [len_tl, len_tl, len_tl, tl_append, List.length_append]
section
open PySem.W
theorem under_by {M : Model} {A : Around} {E : Value → Shared → Prop} {s : Shared} {K : Frag} {x C f : Addr} {ox : Obj} {od : Option Obj} {name : Str} {last : Value → List Value → Sem Value} {Q : Option Value → Shared → Prop} (X : K.In s.heap) (I : InstAt s.heap x ox C od)
    (hs : findIn K (.ref C) name = some (some (.ref f))) (hf : isFn K (.ref f) = true) (h : wpAny M A (last (.ref f) [.ref x]) (fun v => Q (some v)) E s) : wpAny M A (callSpecialIfBoundBy? last (.ref x) name) Q E s := by
  have fin : wpAny M A (last (.ref f) [.ref x] >>= fun v => pure (some v)) Q E s := wpAny_bind (wpAny_mono h (fun v s' h' => wpAny_pure h') fun _ _ h' => h')
  simp only [callSpecialIfBoundBy?, bindSpecialIfBound?]
  refine wpAny_holding (wpAny_bind (wpAny_bind (wpAny_bind (I.type.here ((looks_findIn X hs).here (wpAny_bind (wpAny_askSetting (wpAny_ite ?_))))))))
  split
  · exact wpAny_bind ((bind_fn X _ (beq_iff_eq.mp hf)).here (wpAny_pure fin))
  · exact wpAny_tryCatch (wpAny_bind ((bind_fn X _ (beq_iff_eq.mp hf)).here (wpAny_pure fin)))
theorem under_obj {prog : Program} {w : World} {A : Around} {E : Value → Shared → Prop} {s : Shared} {K : Frag} {x C f : Addr} {ox : Obj} {od : Option Obj} {b : Nat} {Q : Str → Shared → Prop} (hb : b ≤ sizeLine) (hu : A.units < cLine) (X : K.In s.heap) (I : InstAt s.heap x ox C od)
    (hs : findIn K (.ref C) "__repr__" = some (some (.ref f))) (hf : isFn K (.ref f) = true) (h : wpAny (model prog w) A (call (.ref f) [.ref x]) (fun v s' => ∃ y u, v = .str y u ∧ Q y s') E s) : wpAny (model prog w) A (pyReprUnder b (.ref x)) Q E s := by
  refine wpAny_pyReprUnder_ref hb ?_
  unfold pyReprObjUnder pyReprObjBy
  refine wpAny_bind (wpAny_cRoomFor hu (wpAny_bind (wpAny_bind (I.type.here ((looks_findIn X hs).here ?_)))))
  show wpAny _ _ (if (some (Value.ref f)).isNone = true then _ else _) _ _ _
  rw [if_neg (by simp)]
  refine wpAny_bind (under_by X I hs hf (wpAny_mono h (fun v s' hv => ?_) fun _ _ y => y))
  obtain ⟨y, u, rfl, q⟩ := hv
  exact wpAny_bind (wpAny_isInstance (typeIs_str _ _ _) isSubtype_str_str (by
    first
      | exact wpAny_pure ⟨_, _, rfl, q⟩
      | (rw [if_pos rfl]; exact wpAny_pure ⟨_, _, rfl, q⟩)))
end
theorem strs_done : ∀ {us : List Value} {xs : List Str}, StrsAre us xs → ∃ done : List (Str × Tok), us = strValues done ∧ done.map (·.1) = xs
  | _, _, .nil => ⟨[], rfl, rfl⟩
  | _, _, .cons n t h => by
    obtain ⟨done, e1, e2⟩ := strs_done h
    refine ⟨(n, t) :: done, ?_, ?_⟩
    · rw [e1]
      rfl
    · rw [List.map_cons, e2]
theorem sub_loop {X : Cx} {n : Nat} {A : Around} (s : Sub X (n + 1) A) (args : Args) : Sub X n (A.under (.builtin "list.__repr__.loop" args)) := by
  have hu := units_under_list_loop A args
  refine ⟨⟨?_, ?_, ?_⟩, ?_⟩
  · have := s.room.hd
    exact this
  · have := s.room.dp
    have e : (A.under (.builtin "list.__repr__.loop" args)).depth = A.depth + 1 := by
      first | rfl | simp [Around.under, Code.weight, Code.isCreation, Code.isGuard, Code.isCaller, Code.frames, Code.isFrame, guardIds]
    rw [e]
    omega
  · have := s.room.un
    rw [hu]
    omega
  · exact s.fr

section
open PySem.W
theorem reprObj_own {prog : Program} {w : World} {A : Around} {E : Value → Shared → Prop} {s : Shared} {K : Frag} {x C f : Addr} {ox : Obj} {od : Option Obj} {Q : Value → Shared → Prop} (hu : A.units < cLine) (X : K.In s.heap) (I : InstAt s.heap x ox C od)
    (hs : findIn K (.ref C) "__repr__" = some (some (.ref f))) (hf : isFn K (.ref f) = true) (h : wpAny (model prog w) A (call (.ref f) [.ref x]) (fun v s' => ∃ y u, v = .str y u ∧ Q v s') E s) : wpAny (model prog w) A (pyReprObj (.ref x)) Q E s := by
  unfold pyReprObj
  refine wpAny_bind (wpAny_cRoomFor hu (wpAny_bind (wpAny_bind (I.type.here ((looks_findIn X hs).here ?_)))))
  show wpAny _ _ (if (some (Value.ref f)).isNone = true then _ else _) _ _ _
  rw [if_neg (by simp)]
  refine wpAny_bind (m := callSpecialIfBound? (.ref x) (Str.ofString "__repr__") _) (ifBound_K X I hs hf (wpAny_mono h (fun r s' hr => ?_) fun _ _ y => y))
  obtain ⟨y, u, rfl, q⟩ := hr
  refine wpAny_bind (wpAny_isInstance (typeIs_str _ _ _) isSubtype_str_str ?_)
  first
    | exact wpAny_pure q
    | (rw [if_pos rfl]; exact wpAny_pure q)
    | (simp only [if_true]; exact wpAny_pure q)
theorem reprObj_slot {prog : Program} {w : World} {A : Around} {E : Value → Shared → Prop} {s : Shared} {T idr : String} {v : Value} {Q : Value → Shared → Prop} (hu : A.units < cLine) (hT : s.TypeIs v T) (slotRepr : SlotG T "__repr__" idr)
    (hc : wpAny (model prog w) A (call (.builtin idr) [v]) (fun r s₁ => ∃ x t, r = .str x t ∧ Q r s₁) E s) : wpAny (model prog w) A (pyReprObj v) Q E s := by
  unfold pyReprObj
  refine wpAny_bind (m := cRoomFor _ _) (wpAny_cRoomFor hu ?_)
  refine wpAny_bind (wpAny_specialOf (name := Str.ofString "__repr__") hT slotRepr.lookup ?_)
  refine wpAny_bind (m := callSpecialIfBound? v (Str.ofString "__repr__")) (wpAny_callSpecialIfBound?_slotG (name := Str.ofString "__repr__") hT slotRepr (wpAny_mono hc (fun r s₁ h₁ => ?_) fun _ _ e => e))
  obtain ⟨x, t, rfl, hq⟩ := h₁
  refine wpAny_bind (wpAny_isInstance (T := "str") (b := true) rfl isSubtype_str_str ?_)
  exact wpAny_pure hq
end
/-- R H p t: an own instance stands at p, its own __repr__ tells t -/
structure RO (X : Cx) (n : Nat) (R : Hp → Addr → Str → Prop) : Prop where
  same : ∀ {H H' : Hp} {p : Addr} {t : Str}, R H p t → Same H H' → R H' p t
  own : ∀ {H : Hp} {p : Addr} {t : Str}, R H p t → ∃ (C dx : Addr) (fs : List (Str × V)) (f : Addr) (fd : FuncData) (sp : Sp), H p = some (.ins C dx fs) ∧ PySem.W.findIn X.K (.ref C) "__repr__" = some (some (.ref f)) ∧ PySem.W.isFn X.K (.ref f) = true ∧
    Binds X.K fd ["self"] [] ∧ FnOk X.prog X.w X.K X.mg X.base CX0 n f fd ["self"] sp ∧ sp [.ref p] H (fun v H' => v = .str t ∧ Same H H') E0
section
variable {X : Cx} {n : Nat} {R : Hp → Addr → Str → Prop}
theorem RO.run (o : RO X n R) {A : Around} (hr : Room n A) (fr : A.frames = X.A.frames) {pins : List (Addr × Obj)} {σ : L2.St} {s : Shared} {H : Hp} {p : Addr} {t : Str} (I : Inv X pins σ H s) (h : R H p t) :
    ∃ (C f : Addr) (ox od : Obj), PySem.W.InstAt s.heap p ox C (some od) ∧ PySem.W.findIn X.K (.ref C) "__repr__" = some (some (.ref f)) ∧ PySem.W.isFn X.K (.ref f) = true ∧
      ∀ (E' : Value → Shared → Prop), wpAny (model X.prog X.w) A (call (.ref f) [.ref p]) (fun v s' => ∃ u H', v = .str t u ∧ Inv X pins σ H' s' ∧ Same H H') E' s := by
  obtain ⟨C, dx, fs, f, fd, sp, y1, hs, hf, hb, F, hsp⟩ := o.own h
  obtain ⟨mA, J, _⟩ := ins_get I.hok y1
  obtain ⟨od, J, _⟩ := J.look
  refine ⟨C, f, _, od, J, hs, hf, fun E' => ?_⟩
  have e0 : Env0 X.prog X.w X.K X.mg X.base A X.stack s H := by
    have e := I.env0
    exact ⟨by rw [fr]; exact e.frames, e.mod, e.bs, e.bsz, e.funs, e.frf, e.hok, e.bare⟩
  have r2 : Vals [V.ref p] [Value.ref p] := .cons rfl .nil
  refine wpAny_call (codeAny_mono (F.run _ X.stack s H ⟨[.ref p], []⟩ [.ref p] [.ref p] _ E0 hr e0 (by
    have := hb s [.ref p] I.kIn rfl
    simpa using this) r2 hsp) fun r s1 hq => ?_)
  cases r with
  | error e => exact hq.elim
  | ok fl =>
    match fl, hq with
    | .ret v, hq =>
      obtain ⟨z, H1, I1, rz, ez, S1⟩ := I.after hq
      subst ez
      obtain ⟨u, rfl⟩ := (show ∃ u, v = Value.str t u from rz)
      exact ⟨u, H1, rfl, I1, S1⟩
/-- repr(o) -/
def rRepX (R : Hp → Addr → Str → Prop) : List V → Hp → VK → Prop := fun xs H Q => ∃ (p : Addr) (t : Str), xs = [.ref p] ∧ R H p t ∧ ∀ H', Same H H' → Q (.str t) H'
theorem call_reprX (o : RO X n R) (hr : Room (n + 1) X.A) : CallR X (.builtin "repr") (rRepX R) := by
  intro pins s σ H xs us Q I r h
  obtain ⟨p, t, rfl, hR, q⟩ := h
  obtain ⟨u, rfl, ru⟩ := vals1 r
  cases (show u = Value.ref p from ru)
  obtain ⟨m, hF⟩ := I.fr
  obtain ⟨C, f, ox, od, J, hs, hf, k⟩ := o.run (A := X.A.in1) hr.in1 rfl I hR
  refine PySem.W.repr_K (by have := hr.units; show X.A.units + 1 < cLine; omega) hF I.ok.mod.kin J hs hf (wpAny_mono (k _) (fun v s' hv => ?_) fun _ _ y => y)
  obtain ⟨u, H', rfl, I', S'⟩ := hv
  exact ⟨.str t, H', I', ⟨u, rfl⟩, q H' S'⟩
/-- {o!r} -/
def tFmtX (R : Hp → Addr → Str → Prop) (te : TE) : TE := fun σ H Q => te σ H fun x H1 => ∃ (p : Addr) (t : Str), x = .ref p ∧ R H1 p t ∧ t.length ≤ sizeLine ∧ ∀ H', Same H1 H' → Q (.str t) H'
theorem pe_fmtX {e : Expr} {te : TE} {pos : Pos} (o : RO X n R) (hr : Room n X.A) (he : PE X e te) : PE X (.FormattedValue e 114 none pos) (tFmtX R te) := by
  refine ⟨fun pins s σ H Q I h => ?_⟩
  refine wpAny_FormattedValue_repr (thn (he.run pins s σ H _ I h) fun v s1 hv => ?_)
  obtain ⟨x, H1, I1, r1, p, t, rfl, hR, hz, q⟩ := hv
  cases (show v = Value.ref p from r1)
  obtain ⟨C, f, ox, od, J, hs, hf, k⟩ := o.run (A := X.A) hr rfl I1 hR
  refine reprObj_own hr.units0 I1.kIn J hs hf (wpAny_mono (k _) (fun v s' hv => ?_) fun _ _ y => y)
  obtain ⟨u, H', rfl, I', S'⟩ := hv
  exact ⟨_, _, rfl, wpAny_formatField_str ⟨.str t, H', I', ⟨_, rfl⟩, q H' S'⟩ ⟨.str t, H', I'.tok _, ⟨_, rfl⟩, q H' S'⟩ hz⟩
theorem pairedLX {α β : Type} {r : α → β → Prop} : ∀ {xs : List α} {ys : List β}, Paired r xs ys → ∀ {i : Nat} (hi : i < xs.length), ∃ y, ys[i]? = some y ∧ r xs[i] y
  | _, _, .nil, i, hi => absurd hi (Nat.not_lt_zero _)
  | _, _, .cons r t, 0, hi => ⟨_, rfl, r⟩
  | _, _, .cons r t, i + 1, hi => pairedLX t (Nat.lt_of_succ_lt_succ hi)
theorem repX_loop (o : RO X n R)
    {A : Around} (sb : Sub X (n + 1) A) {pins : List (Addr × Obj)} {σ : L2.St} {a P : Addr} {H0 : Hp} {ps : List Addr} {ts : List Str} {RR : Result → Shared → Prop} (ha : H0 a = some (.lst (ps.map V.ref))) (hP : H0 P = none)
    (hz : Paired (fun p t => R H0 p t) ps ts) (hsz : (listText ts).length ≤ 1000000)
    (hR : ∀ (s' : Shared) (H' : Hp) (u : Tok), Inv X pins σ H' s' → Same H0 H' → RR (.ok (.ret (.str (listText ts) u))) s') :
    ∀ (m i : Nat) (s : Shared) (H : Hp), ps.length - i = m → i ≤ ps.length → Inv X pins σ H s → Same H0 H → H P = some (.lst ((ts.take i).map V.str)) →
      codeAny (model X.prog X.w) A (.builtin "list.__repr__.loop" ⟨[.ref a, rawInt i, .ref P, rawInt ((piled (ts.take i) : Nat) : Int)], []⟩) RR s := by
  have hlen := Paired.length hz
  have hX : (listText ts).length = (textFrom 0 "[" ts).length + 1 := by
    show (textFrom 0 "[" ts ++ "]").length = _
    rw [strLen_append]
    rfl
  have hL := textFrom_len ts 0 "["
  have hp3 := piled_le_listText ts
  have h1L := hL.1
  rw [if_neg (Nat.lt_irrefl 0)] at h1L
  have hbig : (1000000 : Nat) ≤ sizeLine := by rw [sizeLine_eq]; decide
  intro m
  induction m with
  | zero =>
    intro i s H hm hi I S hPl
    have hin : i = ps.length := by omega
    obtain ⟨za, its, na, rv, hoa⟩ := (show ObjOk X.prog X.w H s.heap a (.lst (ps.map V.ref)) from I.hok a _ (S _ _ ha))
    obtain ⟨zP, jts, nP, rP, hoP⟩ := (show ObjOk X.prog X.w H s.heap P (.lst ((ts.take i).map V.str)) from I.hok P _ hPl)
    have hil : its.length = ps.length := by rw [← rv.length, List.length_map]
    refine codeAny_builtin PySem.F.entry_list_repr_loop ?_
    show wpAny _ _ (Builtin.«list.__repr__.loop» ⟨[.ref a, .int i 0, .ref P, .int ((piled (ts.take i) : Nat) : Int) 0], []⟩) _ _ s
    rw [repr_loop_tree]
    refine wpAny_bind (wpAny_listItems hoa rfl ?_)
    have hnone : its.toArray[(i : Int).toNat]? = none := by
      rw [Int.toNat_natCast, List.getElem?_toArray]
      exact List.getElem?_eq_none (by omega)
    simp only [hnone]
    unfold reprEnd
    refine wpAny_bind (wpAny_listItems hoP rfl ?_)
    obtain ⟨done, e1, e2⟩ := strs_done rP.strs
    show wpAny _ _ (forIn (jts.toArray.toList.zipIdx 0) ("[" : Str) reprBody >>= _) _ _ _
    rw [List.toList_toArray, e1, PySem.repr_fold]
    refine wpAny_bind (wpAny_pure ?_)
    rw [e2, List.take_of_length_le (by omega)]
    refine wpAny_bind (wpAny_mkStr (wpAny_pure ?_) (by show (listText ts).length ≤ sizeLine; omega))
    exact hR _ H _ (I.tok _) S
  | succ m ih =>
    intro i s H hm hi I S hPl
    have hlt : i < ps.length := by omega
    obtain ⟨za, its, na, rv, hoa⟩ := (show ObjOk X.prog X.w H s.heap a (.lst (ps.map V.ref)) from I.hok a _ (S _ _ ha))
    have hil : its.length = ps.length := by rw [← rv.length, List.length_map]
    obtain ⟨u, hu, ru⟩ := rv.get (i := i) (x := V.ref ps[i]) (by rw [List.getElem?_map, List.getElem?_eq_getElem hlt]; rfl)
    obtain rfl : u = Value.ref ps[i] := ru
    obtain ⟨t, hti, hzi⟩ := pairedLX hz hlt
    have hp1 := piled_take_succ hti
    have hp2 := piled_take_le ts (i + 1)
    have hmem : t ∈ ts := List.mem_of_getElem? hti
    have htl := hL.2.1 _ hmem
    refine codeAny_builtin PySem.F.entry_list_repr_loop ?_
    show wpAny _ _ (Builtin.«list.__repr__.loop» ⟨[.ref a, .int i 0, .ref P, .int ((piled (ts.take i) : Nat) : Int) 0], []⟩) _ _ s
    rw [repr_loop_tree]
    refine wpAny_bind (wpAny_listItems hoa rfl ?_)
    have hsome : its.toArray[(i : Int).toNat]? = some (.ref ps[i]) := by
      rw [Int.toNat_natCast, List.getElem?_toArray]
      exact hu
    simp only [hsome]
    rw [Int.toNat_natCast]
    have sbl := sub_loop sb ⟨[.ref a, rawInt i, .ref P, rawInt ((piled (ts.take i) : Nat) : Int)], []⟩
    obtain ⟨C, f, ox, od, J, hs, hf, k⟩ := o.run (A := A.under (.builtin "list.__repr__.loop" ⟨[.ref a, rawInt i, .ref P, rawInt ((piled (ts.take i) : Nat) : Int)], []⟩)) sbl.room sbl.fr I (o.same hzi S)
    refine wpAny_bind (wpAny_holding (under_obj (K := X.K) (by omega) sbl.room.units0 I.kIn J hs hf (wpAny_mono (k _) (fun v s1 hv => ?_) fun _ _ y => y)))
    obtain ⟨u1, H1, rfl, I1, S1⟩ := hv
    refine ⟨_, _, rfl, ?_⟩
    refine wpAny_bind (wpAny_mkStr ?_ (by omega))
    have hP1 := S1 _ _ hPl
    have I2 : Inv X pins σ H1 { s1 with toks := s1.toks + 1 } := I1.tok _
    obtain ⟨zP, jts, nP, rP, hoP⟩ := (show ObjOk X.prog X.w H1 s1.heap P (.lst ((ts.take i).map V.str)) from I1.hok P _ hP1)
    have hjl : jts.length ≤ 1000000 := by
      rw [← rP.length, List.length_map]
      have : (ts.take i).length ≤ ts.length := List.length_take_le' ..
      omega
    refine wpAny_bind ?_
    show wpAny _ _ (updateSeq P _) _ _ _
    refine wpAny_updateSeq (s := { s1 with toks := s1.toks + 1 }) hoP rfl (wpAny_pure ⟨PySem.F.quiet_list_repr_loop _, ?_⟩) (by rw [List.size_toArray]; omega)
    have e1 : ((i : Int) + 1) = ((i + 1 : Nat) : Int) := by omega
    have e2 : piled (ts.take i) + (t.length + 2) = piled (ts.take (i + 1)) := by omega
    rw [e1, e2]
    have I3 := I2.lset (t' := s1.toks + 1) (f := fun xs => xs.push (.str (t) s1.toks)) (its' := jts ++ [.str (t) s1.toks]) (ys := (ts.take (i + 1)).map V.str) hP1 hoP (by simp) (by
      rw [List.take_add_one, hti]
      show Vals (List.map V.str (ts.take i ++ [t])) _
      rw [List.map_append]
      exact rP.append (.cons ⟨_, rfl⟩ .nil)) (by
      rw [List.length_map]
      have : (ts.take (i + 1)).length ≤ ts.length := List.length_take_le' ..
      omega)
    refine ih (i + 1) _ _ (by omega) hlt I3 (fun c o ec => ?_) upd_same
    rw [upd_ne fun z => by rw [z, hP] at ec; cases ec]
    exact S1 _ _ (S c o ec)

/-- [o, ..]!r -/
def tFmtL (R : Hp → Addr → Str → Prop) (te : TE) : TE := fun σ H Q => te σ H fun x H1 => ∃ (a : Addr) (ps : List Addr) (ts : List Str), x = .ref a ∧ H1 a = some (.lst (ps.map V.ref)) ∧ Paired (fun p t => R H1 p t) ps ts ∧
  (listText ts).length ≤ 1000000 ∧ ∀ H', Same H1 H' → Q (.str (listText ts)) H'
theorem pe_fmtL {e : Expr} {te : TE} {pos : Pos} (o : RO X n R) (hr : Room (n + 4) X.A) (hgu : X.A.guards = some []) (he : PE X e te) : PE X (.FormattedValue e 114 none pos) (tFmtL R te) := by
  refine ⟨fun pins s σ H Q I h => ?_⟩
  refine wpAny_FormattedValue_repr (thn (he.run pins s σ H _ I h) fun v s1 hv => ?_)
  obtain ⟨x, H1, I1, r1, a, ps, ts, rfl, ha, hz, hsz, q⟩ := hv
  cases (show v = Value.ref a from r1)
  have hbig : (1000000 : Nat) ≤ sizeLine := by rw [sizeLine_eq]; decide
  have hlen := Paired.length hz
  obtain ⟨za, its, na, rv, hoa⟩ := (show ObjOk X.prog X.w H1 s1.heap a (.lst (ps.map V.ref)) from I1.hok a _ ha)
  have hil : its.length = ps.length := by rw [← rv.length, List.length_map]
  have hT : s1.TypeIs (.ref a) "list" := ⟨_, hoa, rfl⟩
  have sb1 : L2.Sub X (n + 4) X.A := ⟨hr, rfl⟩
  have sb2 : L2.Sub X (n + 3) X.A.in1 := Sub.in1 sb1
  have fin : ∀ (u : Tok) (s' : Shared) (H' : Hp), Inv X pins σ H' s' → Same H1 H' → wpAny (model X.prog X.w) X.A (formatField (.str (listText ts) u) Str.empty) (EP X pins σ Q) X.xe s' := fun u s' H' I' S' =>
    wpAny_formatField_str ⟨.str (listText ts), H', I', ⟨_, rfl⟩, q H' S'⟩ ⟨.str (listText ts), H', I'.tok _, ⟨_, rfl⟩, q H' S'⟩ (by omega)
  cases its with
  | nil =>
    have e0 : ps = [] := List.length_eq_zero_iff.mp (by simpa using hil.symm)
    subst e0
    have e1 : ts = [] := List.length_eq_zero_iff.mp (by simpa using hlen.symm)
    subst e1
    exact wpAny_pyReprObj_list_empty hT hr.units0 hoa rfl (fin _ _ H1 (I1.tok _) (Same.refl H1))
  | cons x l =>
    refine reprObj_slot hr.units0 hT PySem.F.slot_list_repr.toG ?_
    refine wpAny_call (codeAny_call_builtin PySem.F.slot_list_repr.plain PySem.F.entry_list_repr (PySem.F.slot_list_repr.check _ _ _ _ _ _ _ _ hT (PySem.F.args_list_repr_1 _) ?_))
    refine wpAny_list_repr_head (A := X.A.in1) (b := 0) (g := []) hgu (fun v rest kw hm => nomatch hm) hoa rfl ?_
    refine wpAny_bind (m := newList []) (wpAny_newObj_type ?_)
    refine wpAny_pure ⟨PySem.F.quiet_list_repr_loop _, ?_⟩
    have hn : H1 s1.heap.objs.size = none := I1.hok.fresh (Nat.le_refl _)
    have new : ObjOk X.prog X.w (upd H1 s1.heap.objs.size (.lst [])) (s1.heap.push { cls := .type "list", data := .seq ([] : List Value).toArray }) s1.heap.objs.size (.lst []) := ⟨Nat.zero_le _, [], 0, .nil, Heap.get?_push_size _ rfl⟩
    have I2 : Inv X pins σ (upd H1 s1.heap.objs.size (.lst [])) { s1 with heap := s1.heap.push { cls := .type "list", data := .seq ([] : List Value).toArray } } := I1.laid (t' := s1.toks) (fun b u e => Heap.get?_push_of_some _ e) (Nat.le_refl _) new
    refine repX_loop o (A := X.A) (Sub.mono sb1 (by omega)) ha hn hz hsz (fun s' H' t I' S' => ⟨_, _, rfl, fin _ _ H' I' S'⟩) _ 0 _ _ rfl (Nat.zero_le _) I2 (fresh_upd hn) ?_
    rw [upd_same]
    rfl
end
end K54
set_option maxHeartbeats 8000000
namespace K54
open PySem PySem.Spec PyProof.Rows L2

/-! ### == and != by an own __eq__ against instances of other classes and against lists -/
inductive OthX (K : PySem.W.Frag) (C : Addr) (H : Hp) : V → Value → Prop
  | base {y : V} {t : Value} : Oth C H y t → OthX K C H y t
  | cls {b dy D : Addr} {gs : List (Str × V)} : H b = some (.ins D dy gs) → PySem.W.notFirst K C (.ref D) = true → OthX K C H (.ref b) (.ref D)
  | lst {b : Addr} {xs : List V} : H b = some (.lst xs) → OthX K C H (.ref b) (.type "list")
theorem OthX.looks {X : Cx} {K : PySem.W.Frag} {pins : List (Addr × Obj)} {σ : L2.St} {H : Hp} {s : Shared} {C : Addr} {y : V} {t v : Value} (o : OthX K C H y t) (I : Inv X pins σ H s) (r : RelV y v) :
    PySem.W.Looks (model X.prog X.w) s.heap (typeOf v) t := by
  cases o with
  | base o => exact o.looks I r
  | cls hb _ =>
    cases r
    obtain ⟨mB, J', _⟩ := ins_get I.hok hb
    obtain ⟨od', J', _⟩ := J'.look
    exact J'.type
  | @lst b xs hb =>
    cases (show v = Value.ref b from r)
    obtain ⟨_, its, k, _, e⟩ := (show ObjOk X.prog X.w H s.heap b (.lst xs) from I.hok b _ hb)
    exact ld_type (M := model X.prog X.w) e
theorem OthX.first {K : PySem.W.Frag} {C : Addr} {H : Hp} {y : V} {t : Value} (o : OthX K C H y t) : PySem.W.notFirst K C t = true := by
  cases o with
  | base o => exact o.first
  | cls _ h => exact h
  | lst _ =>
    unfold PySem.W.notFirst
    rw [sub_ty (m := [.type "list", .type "object"]) (by decide +kernel) (by simp)]
    simp
def rOwnX (K : PySem.W.Frag) (C : Addr) (sp : Sp) (E : XK) (g : Bool → Bool) : R2 := fun x y H Q => ∃ (a dx : Addr) (fs : List (Str × V)) (t : Value), x = .ref a ∧ H a = some (.ins C dx fs) ∧ OthX K C H y t ∧
  sp [.ref a, y] H (fun v H' => ∃ b, v = .bl b ∧ Q (.bl (g b)) H') E
section
variable {X : Cx} {CX : CXT} {C f : Addr} {fd : FuncData} {ps : List Str} {sp : Sp} {E : XK} {n : Nat}
theorem op_ownX (F : FnOk X.prog X.w X.K X.mg X.base CX n f fd ps sp) (hr : Room n X.A) (hs : PySem.W.findIn X.K (.ref C) "__eq__" = some (some (.ref f))) (hf : PySem.W.isFn X.K (.ref f) = true)
    (hb : Binds X.K fd ps []) (hx : Passes CX X E) (hsq : ∀ vs H (Q Q' : VK), (∀ v H', Q v H' → Q' v H') → sp vs H Q E → sp vs H Q' E) : OpR X (compareOp .Eq) (rOwnX X.K C sp E id) := by
  intro pins s σ H x y v u Q I rx ry h
  obtain ⟨a, dx, fs, t, rfl, ha, ho, hsp⟩ := h
  cases rx
  obtain ⟨mA, J, _⟩ := ins_get I.hok ha
  obtain ⟨od, J, _⟩ := J.look
  obtain ⟨m, hF⟩ := I.fr
  refine PySem.W.cmp_K (op := .Eq) (tb := t) hr.units0 hF I.ok.mod.kin J (ho.looks I ry) ho.first hs hf ?_
  refine wpAny_mono (run_own F hr rfl hb hx I ry (Q := fun b s' => EP X pins σ Q (.bool b) s') (hsq _ _ _ _ (fun v H' q => ?_) hsp)) (fun r s' z => ?_) fun _ _ e => e
  · obtain ⟨b, e, q⟩ := q
    exact ⟨b, e, fun s' I' => ⟨.bl b, H', I', rfl, q⟩⟩
  · obtain ⟨b, rfl, q⟩ := z
    exact q
theorem op_ownNeX (F : FnOk X.prog X.w X.K X.mg X.base CX n f fd ps sp) (hr : Room (n + 1) X.A) (hs : PySem.W.findIn X.K (.ref C) "__eq__" = some (some (.ref f))) (hf : PySem.W.isFn X.K (.ref f) = true)
    (hm : PySem.W.mroIn X.K C (.type "object") = some true) (hN : PySem.W.findIn X.K (.ref C) "__ne__" = some (some (.builtin "object.__ne__")))
    (hb : Binds X.K fd ps []) (hx : Passes CX X E) (hsq : ∀ vs H (Q Q' : VK), (∀ v H', Q v H' → Q' v H') → sp vs H Q E → sp vs H Q' E) : OpR X (compareOp .NotEq) (rOwnX X.K C sp E not) := by
  intro pins s σ H x y v u Q I rx ry h
  obtain ⟨a, dx, fs, t, rfl, ha, ho, hsp⟩ := h
  cases rx
  obtain ⟨mA, J, _⟩ := ins_get I.hok ha
  obtain ⟨od, J, _⟩ := J.look
  show wpAny (model X.prog X.w) X.A (richCompare .NotEq (.ref a) u) (EP X pins σ Q) X.xe s
  refine ne_K (by have := hr.units; omega) I.kIn J (ho.looks I ry) ho.first hm hN hs hf ?_
  refine run_own F hr.in1 rfl hb hx I ry (Q := fun b s' => EP X pins σ Q (.bool (!b)) s') (hsq _ _ _ _ (fun v H' q => ?_) hsp)
  obtain ⟨b, e, q⟩ := q
  exact ⟨b, e, fun s' I' => ⟨.bl (!b), H', I', rfl, q⟩⟩
end

/-! ### xs == ys, both answers, the items' == their own -/
section
open PySem.MeetsSeq PySem.MeetsSeq2 PySem.MeetsSeq3
open PySem.AutoSeq1 (wpAny_loadPart')
variable {prog : Program} {w : World} {A : Around}
/-- the turns: item by item equal, up to one that differs -/
def ListB (prog : Program) (w : World) (A : Around) (E : Value → Shared → Prop) (l b : Addr) (N : Nat) (I : Nat → Shared → Prop) (D : Shared → Prop) : Prop :=
  ∀ i s, I i s → ∃ (xs1 xs2 : Array Value) (n n2 : Nat), s.heap.get? l = some { cls := .type "list", data := .seq xs1 n } ∧ s.heap.get? b = some { cls := .type "list", data := .seq xs2 n2 } ∧ xs1.size = N ∧ xs2.size = N ∧
    ∀ (h1 : i < xs1.size) (h2 : i < xs2.size), wpAny (model prog w) A.in1 (eqBool xs1[i] xs2[i]) (fun r s' => (r = true ∧ I (i + 1) s') ∨ (r = false ∧ D s')) E s
theorem eq_loopB {R : Result → Shared → Prop} (l b : Addr) (N : Nat) (I : Nat → Shared → Prop) (D : Shared → Prop) (hl : ListB prog w A (fun e s' => R (.error e) s') l b N I D)
    (hD : ∀ s, D s → ∃ (xs1 xs2 : Array Value) (n n2 : Nat), s.heap.get? l = some { cls := .type "list", data := .seq xs1 n } ∧ s.heap.get? b = some { cls := .type "list", data := .seq xs2 n2 } ∧ xs1.size = N ∧ xs2.size = N)
    (fin : ∀ s, I N s → R (.ok (.ret (.bool true))) s) (dif : ∀ s, D s → R (.ok (.ret (.bool false))) s) (m : Nat) : ∀ i : Nat, N - i = m → i ≤ N → ∀ s, I i s →
      wpAny (model prog w) A.in1 (Builtin.«list.__eq__.loop» ⟨[.ref l, .ref b, rawInt i, rawInt 2], []⟩) (GQ.FinOf prog w A R) (fun e s' => R (.error e) s') s := by
  induction m with
  | zero =>
    intro i hm hi s h
    obtain ⟨xs1, xs2, n, n2, hl1, hb1, hs1, hs2, _⟩ := hl _ _ h
    have hi' : i = N := by omega
    have hR : R (.ok (.ret (.bool true))) s := fin s (hi' ▸ h)
    obtain ⟨hp, g, d, tk, os⟩ := s
    wp_walk using wpAny_loadPart' hl1, wpAny_loadPart' hb1
    have z1 : xs1[((i : Nat) : Int).toNat]? = none := by simp; omega
    have z2 : xs2[((i : Nat) : Int).toNat]? = none := by simp; omega
    rw [z1, z2]
    wp_walk using wpAny_loadPart' hl1, wpAny_loadPart' hb1
    show R (.ok (.ret (.bool (xs1.size == xs2.size)))) _
    rw [hs1, hs2]
    simpa using hR
  | succ m ih =>
    intro i hm hi s h
    obtain ⟨xs1, xs2, n, n2, hl1, hb1, hs1, hs2, turn⟩ := hl _ _ h
    have l1 : i < xs1.size := by omega
    have l2 : i < xs2.size := by omega
    have ht := turn l1 l2
    obtain ⟨hp, g, d, tk, os⟩ := s
    wp_walk using wpAny_loadPart' hl1, wpAny_loadPart' hb1
    have z1 : xs1[((i : Nat) : Int).toNat]? = some xs1[i] := by simp [l1]
    have z2 : xs2[((i : Nat) : Int).toNat]? = some xs2[i] := by simp [l2]
    have hc : ((i : Int) + 1) = ((i + 1 : Nat) : Int) := by omega
    rw [z1, z2]
    refine wpAny_bind (wpAny_mono ht (fun r s2 h2 => ?_) fun _ _ x => x)
    rcases h2 with ⟨rfl, h2⟩ | ⟨rfl, h2⟩
    · have hrec := ih (i + 1) (by omega) (by omega) s2 h2
      obtain ⟨hp2, g2, d2, tk2, os2⟩ := s2
      wp_walk
      rw [hc]
      exact ⟨plainId_quiet plain_eq_loop _, codeAny_builtin entry_eq_loop (by rw [Around.under_plainId plain_eq_loop _]; exact hrec)⟩
    · obtain ⟨ys1, ys2, k, k2, e1, e2, q1, q2⟩ := hD _ h2
      have hR := dif _ h2
      obtain ⟨hp2, g2, d2, tk2, os2⟩ := s2
      wp_walk using wpAny_loadPart' e1, wpAny_loadPart' e2
      have l3 : i < ys1.size := by omega
      have l4 : i < ys2.size := by omega
      have z3 : ys1[((i : Nat) : Int).toNat]? = some ys1[i] := by simp [l3]
      have z4 : ys2[((i : Nat) : Int).toNat]? = some ys2[i] := by simp [l4]
      rw [z3, z4]
      dsimp only
      exact wpAny_pure hR
theorem list_eqB {R : Result → Shared → Prop} (l b : Addr) (N : Nat) (I : Nat → Shared → Prop) (D : Shared → Prop) (hl : ListB prog w A (fun e s' => R (.error e) s') l b N I D)
    (hD : ∀ s, D s → ∃ (xs1 xs2 : Array Value) (n n2 : Nat), s.heap.get? l = some { cls := .type "list", data := .seq xs1 n } ∧ s.heap.get? b = some { cls := .type "list", data := .seq xs2 n2 } ∧ xs1.size = N ∧ xs2.size = N)
    (fin : ∀ s, I N s → R (.ok (.ret (.bool true))) s) (dif : ∀ s, D s → R (.ok (.ret (.bool false))) s) {s : Shared} (h : I 0 s) :
    wpAny (model prog w) A.in1 (Builtin.«list.__eq__» ⟨[.ref l, .ref b], []⟩) (GQ.FinOf prog w A R) (fun e s' => R (.error e) s') s := by
  obtain ⟨xs1, xs2, n, n2, hl1, hb1, hs1, hs2, _⟩ := hl _ _ h
  have hrec := eq_loopB (A := A) (R := R) l b N I D hl hD fin dif _ 0 rfl (Nat.zero_le _) s h
  obtain ⟨hp, g, d, tk, os⟩ := s
  have f3 := AutoSeq1.sub_list_list
  have hne : ¬ (xs1.size != xs2.size) = true := by simp [hs1, hs2]
  wp_walk using wpAny_loadPart' hl1, wpAny_loadPart' hb1
  exact ⟨plainId_quiet plain_eq_loop _, codeAny_builtin entry_eq_loop (by rw [Around.under_plainId plain_eq_loop _]; exact hrec)⟩
/-- two lists of different lengths -/
theorem list_eqN {R : Result → Shared → Prop} {l b : Addr} {xs1 xs2 : Array Value} {n n2 : Nat} {s : Shared} (hl1 : s.heap.get? l = some { cls := .type "list", data := .seq xs1 n }) (hb1 : s.heap.get? b = some { cls := .type "list", data := .seq xs2 n2 })
    (hne : xs1.size ≠ xs2.size) (h : R (.ok (.ret (.bool false))) s) : wpAny (model prog w) A.in1 (Builtin.«list.__eq__» ⟨[.ref l, .ref b], []⟩) (GQ.FinOf prog w A R) (fun e s' => R (.error e) s') s := by
  obtain ⟨hp, g, d, tk, os⟩ := s
  have f3 := AutoSeq1.sub_list_list
  have hne2 : (xs1.size != xs2.size) = true := by simpa using hne
  wp_walk using wpAny_loadPart' hl1, wpAny_loadPart' hb1
  all_goals exact h
theorem rc_listB {E : Value → Shared → Prop} {s : Shared} {l b : Addr} {N : Nat} {Q : Value → Shared → Prop} (hu : A.units < cLine) (I : Nat → Shared → Prop) (D : Shared → Prop) (hl : ListB prog w A E l b N I D)
    (hD : ∀ s, D s → ∃ (xs1 xs2 : Array Value) (n n2 : Nat), s.heap.get? l = some { cls := .type "list", data := .seq xs1 n } ∧ s.heap.get? b = some { cls := .type "list", data := .seq xs2 n2 } ∧ xs1.size = N ∧ xs2.size = N)
    (fin : ∀ s, I N s → Q (.bool true) s) (dif : ∀ s, D s → Q (.bool false) s) (h : I 0 s) : wpAny (model prog w) A (richCompare .Eq (.ref l) (.ref b)) Q E s := by
  obtain ⟨xs1, xs2, n, n2, hl1, hb1, _, _, _⟩ := hl _ _ h
  refine wpAny_richCompare_same_room (op := .Eq) ⟨_, hl1, rfl⟩ ⟨_, hb1, rfl⟩ F.slot_list_eq (GQ.call_here F.slot_list_eq ⟨_, hl1, rfl⟩ F.entry_list_eq (F.args_list_eq_2 _ _) ?_) hu
  exact list_eqB (R := wants (fun v s' => v ≠ .notImplemented ∧ Q v s') E) l b N I D hl hD (fun s' q => ⟨(fun x => nomatch x), fin s' q⟩) (fun s' q => ⟨(fun x => nomatch x), dif s' q⟩) h
theorem rc_listN {E : Value → Shared → Prop} {s : Shared} {l b : Addr} {xs1 xs2 : Array Value} {n n2 : Nat} {Q : Value → Shared → Prop} (hu : A.units < cLine) (hl1 : s.heap.get? l = some { cls := .type "list", data := .seq xs1 n }) (hb1 : s.heap.get? b = some { cls := .type "list", data := .seq xs2 n2 })
    (hne : xs1.size ≠ xs2.size) (h : Q (.bool false) s) : wpAny (model prog w) A (richCompare .Eq (.ref l) (.ref b)) Q E s := by
  refine wpAny_richCompare_same_room (op := .Eq) ⟨_, hl1, rfl⟩ ⟨_, hb1, rfl⟩ F.slot_list_eq (GQ.call_here F.slot_list_eq ⟨_, hl1, rfl⟩ F.entry_list_eq (F.args_list_eq_2 _ _) ?_) hu
  exact list_eqN (R := wants (fun v s' => v ≠ .notImplemented ∧ Q v s') E) hl1 hb1 hne ⟨(fun x => nomatch x), h⟩
end
end K54
set_option maxHeartbeats 8000000
namespace K54
open PySem PySem.Spec PyProof.Rows L2

/-! ### lists of own instances compared, the rule -/
abbrev EqvB := V → V → Hp → Bool → Prop
def MonB (D : EqvB) : Prop := ∀ x y H H' b, Same H H' → D x y H b → D x y H' b
def EqB (X : Cx) (n : Nat) (D : EqvB) : Prop := ∀ (A : Around) (pins : List (Addr × Obj)) (s : Shared) (σ : L2.St) (H : Hp) (x y : V) (u v : Value) (b : Bool), L2.Sub X n A → Inv X pins σ H s → RelV x u → RelV y v → D x y H b →
  wpAny (model X.prog X.w) A (eqBool u v) (fun r s' => r = b ∧ ∃ H', Inv X pins σ H' s' ∧ Same H H') X.xe s
/-- own instances, their own == -/
def DOwn (X : Cx) (n : Nat) : EqvB := fun x y H b => ∃ (a dx c C f : Addr) (fs : List (Str × V)) (t : Value) (fd : FuncData) (ps : List Str) (sp : Sp), x = .ref a ∧ y = .ref c ∧ H a = some (.ins C dx fs) ∧ OthX X.K C H y t ∧ PySem.W.findIn X.K (.ref C) "__eq__" = some (some (.ref f)) ∧
  PySem.W.isFn X.K (.ref f) = true ∧ Binds X.K fd ps [] ∧ FnOk X.prog X.w X.K X.mg X.base CX0 n f fd ps sp ∧ sp [.ref a, y] H (fun v H' => v = .bl b ∧ Same H H') E0 ∧ (c = a → b = true)
theorem eqB_own {X : Cx} {n : Nat} : EqB X n (DOwn X n) := by
  intro A pins s σ H x y u v b sb I rx ry d
  obtain ⟨a, dx, c, C, f, fs, t, fd, ps, sp, rfl, rfl, ha, ho, hs, hf, hb, F, hsp, hid⟩ := d
  cases rx
  cases ry
  by_cases hab : a = c
  · subst hab
    rw [hid rfl]
    exact SeqAt.EqAt.same (A := A) (s := s) (.ref a) X.prog X.w X.xe _ ⟨rfl, H, I, Same.refl H⟩
  · refine GQ.eqBool_refG hab ?_
    obtain ⟨mA, J, _⟩ := ins_get I.hok ha
    obtain ⟨od, J, _⟩ := J.look
    obtain ⟨m, hF⟩ := I.fr
    refine PySem.W.cmp_K (op := .Eq) (tb := t) sb.room.units0 hF I.ok.mod.kin J (ho.looks I rfl) ho.first hs hf ?_
    have e0 : Env0 X.prog X.w X.K X.mg X.base A X.stack s H := by
      have e := I.env0
      exact ⟨by rw [sb.fr]; exact e.frames, e.mod, e.bs, e.bsz, e.funs, e.frf, e.hok, e.bare⟩
    have hl := F.len _ _ _ _ hsp
    have r2 : Vals [V.ref a, V.ref c] [Value.ref a, Value.ref c] := .cons rfl (.cons rfl .nil)
    refine wpAny_call (codeAny_mono (F.run A X.stack s H ⟨[.ref a, .ref c], []⟩ [.ref a, .ref c] [.ref a, .ref c] _ E0 sb.room e0 (by
      have := hb s [.ref a, .ref c] I.kIn (by simpa using hl)
      simpa using this) r2 hsp) fun r s' hq => ?_)
    cases r with
    | error e => exact hq.elim
    | ok fl =>
      match fl, hq with
      | .ret w, hq =>
        obtain ⟨z, H', I', rz, ez, ex⟩ := I.after hq
        subst ez
        cases rz
        exact ⟨b, rfl, rfl, H', I', ex⟩
/-- xs == ys -/
def rEqL (D : EqvB) : R2 := fun x y H Q => ∃ (a c : Addr) (xs ys : List V), x = .ref a ∧ y = .ref c ∧ H a = some (.lst xs) ∧ H c = some (.lst ys) ∧
  ((xs.length ≠ ys.length ∧ Q (.bl false) H) ∨ (xs.length = ys.length ∧ ∃ bs : List Bool, bs.length = xs.length ∧ (∀ (i : Nat) x y b, xs[i]? = some x → ys[i]? = some y → bs[i]? = some b → D x y H b) ∧ ∀ H', Same H H' → Q (.bl (bs.all id)) H'))
theorem all_take {bs : List Bool} {i : Nat} (hi : i < bs.length) (h : bs[i] = false) : bs.all id = false := by
  cases e : bs.all id with
  | false => rfl
  | true =>
    have := List.all_eq_true.mp e _ (List.getElem_mem hi)
    rw [h] at this
    exact Bool.noConfusion this
theorem op_eqL {X : Cx} {n : Nat} {D : EqvB} (hD : MonB D) (h : EqB X n D) (hr : Room (n + 1) X.A) : OpR X (compareOp .Eq) (rEqL D) := by
  intro pins s σ H x y u v Q I rx ry hq
  obtain ⟨a, c, xs, ys, rfl, rfl, ha, hc, q⟩ := hq
  cases rx
  cases ry
  have sb : L2.Sub X (n + 1) X.A := ⟨hr, rfl⟩
  have objs : ∀ {H1 : Hp} {s1 : Shared}, Inv X pins σ H1 s1 → Same H H1 → ∃ (its its2 : List Value) (k k2 : Nat), Vals xs its ∧ Vals ys its2 ∧ s1.heap.get? a = some { cls := .type "list", data := .seq its.toArray k } ∧ s1.heap.get? c = some { cls := .type "list", data := .seq its2.toArray k2 } := fun {H1 s1} I1 S1 => by
    obtain ⟨z, its, k, r, e⟩ := I1.hok a _ (S1 _ _ ha)
    obtain ⟨z2, its2, k2, r2, e2⟩ := I1.hok c _ (S1 _ _ hc)
    exact ⟨its, its2, k, k2, r, r2, e, e2⟩
  show wpAny (model X.prog X.w) X.A (richCompare .Eq (.ref a) (.ref c)) (EP X pins σ Q) X.xe s
  rcases q with ⟨hne, q⟩ | ⟨hlen, bs, hbs, hDb, q⟩
  · obtain ⟨its, its2, k, k2, r, r2, e, e2⟩ := objs I (Same.refl H)
    refine rc_listN hr.units0 e e2 (by rw [List.size_toArray, List.size_toArray, ← r.length, ← r2.length]; exact hne) ⟨.bl false, H, I, rfl, q⟩
  · refine rc_listB (N := xs.length) sb.room.units0 (fun i s' => (∃ H', Inv X pins σ H' s' ∧ Same H H') ∧ ∀ j (hj : j < bs.length), j < i → bs[j] = true) (fun s' => (∃ H', Inv X pins σ H' s' ∧ Same H H') ∧ bs.all id = false)
      (fun i s' z => ?_) (fun s' z => ?_) (fun s' z => ?_) (fun s' z => ?_) ⟨⟨H, I, Same.refl H⟩, fun j hj h => absurd h (Nat.not_lt_zero _)⟩
    · obtain ⟨⟨H1, I1, S1⟩, hj⟩ := z
      obtain ⟨its, its2, k, k2, r, r2, e, e2⟩ := objs I1 S1
      refine ⟨its.toArray, its2.toArray, k, k2, e, e2, by rw [List.size_toArray, ← r.length], by rw [List.size_toArray, ← r2.length, ← hlen], fun h1 h2 => ?_⟩
      have g1 : its[i]? = some its.toArray[i] := by
        have h1' : i < its.length := by simpa using h1
        rw [List.getElem?_eq_getElem h1'] <;> simp
      have g2 : its2[i]? = some its2.toArray[i] := by
        have h2' : i < its2.length := by simpa using h2
        rw [List.getElem?_eq_getElem h2'] <;> simp
      have k1 : i < xs.length := by rw [r.length]; simpa using h1
      have k3 : i < ys.length := by rw [r2.length]; simpa using h2
      have k4 : i < bs.length := by omega
      obtain ⟨u, hu, ru⟩ := r.get (List.getElem?_eq_getElem k1)
      obtain ⟨v, hv, rv⟩ := r2.get (List.getElem?_eq_getElem k3)
      rw [g1] at hu
      rw [g2] at hv
      rw [Option.some.inj hu, Option.some.inj hv]
      refine wpAny_mono (h X.A.in1 pins s' σ H1 _ _ u v bs[i] sb.in1 I1 ru rv (hD _ _ _ _ _ S1 (hDb i _ _ _ (List.getElem?_eq_getElem k1) (List.getElem?_eq_getElem k3) (List.getElem?_eq_getElem k4)))) (fun rr s2 q => ?_) fun _ _ x => x
      obtain ⟨rfl, H2, I2, S2⟩ := q
      cases hbi : bs[i] with
      | true =>
        refine .inl ⟨rfl, ⟨H2, I2, S1.trans S2⟩, fun j hj' hlt => ?_⟩
        by_cases e : j = i
        · subst e; exact hbi
        · exact hj j hj' (by omega)
      | false => exact .inr ⟨rfl, ⟨H2, I2, S1.trans S2⟩, all_take k4 hbi⟩
    · obtain ⟨⟨H1, I1, S1⟩, _⟩ := z
      obtain ⟨its, its2, k, k2, r, r2, e, e2⟩ := objs I1 S1
      exact ⟨its.toArray, its2.toArray, k, k2, e, e2, by rw [List.size_toArray, ← r.length], by rw [List.size_toArray, ← r2.length, ← hlen]⟩
    · obtain ⟨⟨H1, I1, S1⟩, hj⟩ := z
      have e : bs.all id = true := List.all_eq_true.mpr fun x hx => by
        obtain ⟨j, hj2, rfl⟩ := List.mem_iff_getElem.mp hx
        exact hj j hj2 (by omega)
      refine ⟨.bl true, H1, I1, rfl, ?_⟩
      rw [← e]
      exact q H1 S1
    · obtain ⟨⟨H1, I1, S1⟩, e⟩ := z
      refine ⟨.bl false, H1, I1, rfl, ?_⟩
      rw [← e]
      exact q H1 S1
end K54
set_option maxHeartbeats 8000000
namespace K54
open PySem PySem.Spec PyProof.Rows L2 NdefX

/-! ### super().__init__(..) of an own class below an own class -/
/-- what stands of such a def: f in the class D, its cell, its code, the def g that super() finds -/
structure SupF (P : Program) (K : PySem.W.Frag) (mg : Str → Option Value) (D f g cc cda : Addr) (qual : Str) (st : Stmt) (fd : FuncData) : Prop where
  fn : ∃ (oc : Value) (od : Option Addr) (kV doc pm ct : Value) (an : Option Addr) (osl : Array (Option Value)), fd = PySem.W.ksFn "__init__" qual (defArgs st) (defBody st) (defScope st) .none kV doc pm an (.ref cda) ct cc ∧ K.lookup f = some ⟨oc, od, .func fd, osl⟩
  cod : PySem.W.codeIn K (.ref cda) qual = true
  code : ∃ ccl cdd vs ccs fl tf, K.lookup cda = some ⟨ccl, cdd, .fields vs, ccs⟩ ∧ vs[2]? = some (.str fl tf) ∧ (P.main.file == fl) = true
  cell : ∃ cl cld csl, K.lookup cc = some ⟨cl, cld, .cell (some (.ref D)), csl⟩
  cls : (PySem.W.clsIn K D).isSome = true
  mro : PySem.W.mroIn K D (.ref D) = some true
  sup : mg "super" = none
  tp : PySem.W.nsIn K cStatics "thirdparty.any" = some none
  fnd : PySem.W.ks_superIn K D D "__init__" = some (some (.ref g))
  fng : PySem.W.typeIn K (.ref g) = some (.type "function")
  ing : PySem.W.fnIn K g = true
  top : (P.main.scope.names.lookup ("super" : Str)).isSome = false
def NF.ofS (qual : Str) (st : Stmt) (cc cda : Addr) : NF := ⟨"__init__", qual, defArgs st, defBody st, defScope st, [("__class__", cc)], cda⟩
section
variable {X : Cx} {pins : List (Addr × Obj)} {σ : L2.St} {H : Hp} {s : Shared} {c : Code}
theorem at_cons {rest : List Stmt} {st : Stmt} {t : TS} {Q : Flow → Shared → Prop} {nx : L2.St → Hp → Prop} (h : PS X st t) (I : Inv X pins σ H s) (q : t ⟨nx, fun _ _ => False, fun _ _ => False, fun _ _ => False⟩ σ H)
    (k : ∀ σ' H' s', Inv X pins σ' H' s' → nx σ' H' → _root_.PySem.wpAt (model X.prog X.w) X.A c (execs rest X.env) Q X.xe s') : _root_.PySem.wpAt (model X.prog X.w) X.A c (execs (st :: rest) X.env) Q X.xe s := by
  refine ks_wpAt_execs_cons (wpAt_of_wpAny (thn (h.run pins s σ H _ I q) fun f s' hf => ?_))
  cases f with
  | next =>
    obtain ⟨σ', H', J, z⟩ := hf
    exact k σ' H' s' J z
  | brk => obtain ⟨_, _, _, z⟩ := hf; exact z.elim
  | cont => obtain ⟨_, _, _, z⟩ := hf; exact z.elim
  | ret u => obtain ⟨_, _, _, _, _, z⟩ := hf; exact z.elim
theorem at_super {body : List Stmt} {D f g cc cda x dx : Addr} {qual : Str} {st : Stmt} {fd : FuncData} {fs : List (Str × V)} {e : Expr} {es : List Expr} {ta : TA} {k : Nat} {spI : Sp} {p0 p1 apos pos epos : Pos} {pl : Sem Bool} {Q : Flow → Shared → Prop} {QH : Hp → Prop}
    (F : SupF X.prog X.K X.mg D f g cc cda qual st fd) (I : Inv X pins σ H s)
    (hfu : X.env.func = some f) (hcd : X.env.code = .ref cda) (hcl : X.env.cells.lookup ("__class__" : Str) = some cc)
    (hks : X.env.kindOf "super" = some .globalImplicit) (hkc : X.env.kindOf "__class__" = some .free) (hka : X.env.kindOf "self" = some .local)
    (har : ∃ ar, ((defArgs st).posonlyargs ++ (defArgs st).args).head? = some ar ∧ ar.arg = ("self" : Str))
    (h0 : X.N[0]? = some ("self" : Str)) (hs0 : σ[0]? = some (some (.ref x))) (hx : H x = some (.ins D dx fs))
    (G : FnR X.prog X.w X.K X.mg X.base CX0 k g spI) (hr : Room k X.A) (ha : PA X (e :: es) ta)
    (q : ta σ H fun vs H2 => spI (.ref x :: vs) H2 (fun v H3 => QH H3) E0)
    (hQ : ∀ s' H', Inv X pins σ H' s' → QH H' → Q .next s')
    (hst : starEach (e :: es) X.env = (false, eval e X.env) :: starEach es X.env) (hpl : (backTo pos (starEach es X.env)).any (·.1) = false)
    (hi : interactive X.env = false) (hsw : swapsWith (.Call (.Attribute (.Call (.Name "super" p0) [] [] p1) "__init__" apos) (e :: es) [] pos) none epos.line X.env = pure false)
    (he : eval (.Call (.Attribute (.Call (.Name "super" p0) [] [] p1) "__init__" apos) (e :: es) [] pos) X.env = (do
        let ov ← attributeBase (.Call (.Name "super" p0) [] [] p1) "__init__" X.env (eval (.Call (.Name "super" p0) [] [] p1) X.env)
        standAt apos.atName
        let (f, first) ← holding [ov] (getMethod ov "__init__" pl)
        callWith pos f first (backTo pos (starEach (e :: es) X.env)) [])) :
    _root_.PySem.wpAt (model X.prog X.w) X.A (.func body X.env) (execs [.Expr (.Call (.Attribute (.Call (.Name "super" p0) [] [] p1) "__init__" apos) (e :: es) [] pos) epos] X.env) Q X.xe s := by
  obtain ⟨⟨oc, od, kV, doc, pm, ct, an, osl, rfl, lk⟩, _, ⟨ccl, cdd, vs, ccs, fl, tf, lc, hv2, hfl⟩, ⟨cl, cld, csl, lcell⟩, hcls, hmro, hsup, htp, hfnd, hfng, hing, htop⟩ := F
  obtain ⟨ar, har1, har2⟩ := har
  obtain ⟨hh, gg, dr, tk, os⟩ := s
  obtain ⟨cdD, hD⟩ := Option.isSome_iff_exists.mp hcls
  have KX := I.kIn
  obtain ⟨oD, hD1, hD2⟩ : ∃ oD, hh.get? D = some oD ∧ oD.data = .cls cdD := by
    unfold PySem.W.clsIn at hD
    split at hD
    · rename_i c d cd' sl ho
      cases hD
      exact ⟨_, KX _ _ ho, rfl⟩
    · cases hD
  obtain ⟨mA, O, _, _, _, _⟩ := ins_get I.hok hx
  obtain ⟨od2, J, _⟩ := O.look
  obtain ⟨m, hns, hloc⟩ := I.loc
  obtain ⟨u, ru, lu⟩ := hloc 0 "self" (.ref x) h0 hs0 (.inl hka)
  obtain rfl : u = Value.ref x := ru
  have hmx : m "self" = some (.ref x) := by
    rcases lu with ⟨_, z⟩ | ⟨z, _⟩
    · exact z
    · rw [hka] at z
      rcases z with z | z <;> cases z
  obtain ⟨mb, hb1, hb2⟩ := I.mod.blt
  refine ks_wpAt_execs_cons (PySem.ks_wpAt_Expr_any ?_ hi hsw)
  refine ks_wpAt_MethodCall (pl := pl) ?_ he
  refine ks_wpAt_super_base hks hkc (by decide) hfu (KX _ _ lk) rfl har1 hcd (KX _ _ lc) rfl hv2 hfl htop ?_
  refine PySem.W.ks_loadName_global I.ok.kind hks (Calls.loadGlobal_builtin (by rw [I.ok.glob]; exact I.mod.glob.keeps I.bk) hsup (by rw [I.ok.blt]; exact hb1.keeps I.bk) ((hb2 _ (by decide)).trans (by rfl)) ⟨rfl, ?_⟩)
  refine wpAny_loadName_free I.ok.kind hkc hcl ⟨_, KX _ _ lcell, rfl⟩ ?_
  rw [har2]
  refine wpAny_loadName_local I.ok.kind hka hns hmx ?_
  refine ks_wpAny_isType_cls hD1 hD2 ⟨rfl, ?_⟩
  refine ks_wpAny_call_super hD1 hD2 J.at_ J.cls (fun c e => ?_) (PySem.W.looks_mroIn KX hmro) (fun h' eh kh => ?_)
  · have := J.no
    unfold PySem.W.notCls at this
    rw [e] at this
    exact Bool.noConfusion this
  have I1 : Inv X pins σ H ⟨h', gg, dr, tk, os⟩ := I.call' (ch := []) rfl (Un.kept kh) (I.hok.kept kh) I.bare fun b z => by simp at z
  have KX1 := I1.kIn
  obtain ⟨of, hof, hofc⟩ : ∃ of, h'.get? g = some of ∧ of.cls = .type "function" := by
    have ht' : (X.K.lookup g).map (·.cls) = some (.type "function") := hfng
    cases z : X.K.lookup g with
    | none => rw [z] at ht'; cases ht'
    | some of => rw [z] at ht'; exact ⟨of, KX1 _ _ z, Option.some.inj ht'⟩
  unfold PySem.W.ks_superIn at hfnd
  rw [hD] at hfnd
  refine ks_wpAny_getMethod_super eh (PySem.W.looks_opaque KX1 htp) (l₀ := cdD.mro) (fun A Q E s k q => wpAny_bind ((PySem.W.looks_clsIn KX1 hD) A _ E s k (wpAny_pure q))) rfl KX1 hfnd hof hofc (PySem.W.ks_ne KX J hD) (by decide) ?_
  have I2 := ClX.met_new (g := g) (C := x) I1
  refine ClX.callwith_cm I2 (ClX.base_none I1 (Nat.le_refl _)) hing (thn (ha.run pos _ _ σ H _ I2 q) fun us s3 ⟨vs, H2, I3, rv, q2⟩ => ⟨⟨ClX.pin_at I3, I3.kIn⟩, ?_⟩) hst hpl
  refine thn (ClX.run_cm G hr pass0 I3 rv q2) fun v s4 ⟨z, H4, I4, _, q4⟩ => ?_
  exact wpAt_of_wpAny (wpAny_execs_nil (hQ _ _ I4 q4))
end
/-- where the body of such a def runs -/
abbrev sCx (P : Program) (w : World) (K : PySem.W.Frag) (mg : Str → Option Value) (base : Heap) (N : List Str) (qual : Str) (st : Stmt) (cc cda f : Addr) (A : Around) (outer : List Env) (s : Shared) (H : Hp) (E : XK) : Cx := ncx CX0 P w K mg base N (NF.ofS qual st cc cda) f A outer s H E
def SEnd (X : Cx) (Q : VK) : Flow → Shared → Prop := fun fl s' => match fl with
  | .next => ∃ σ' H', Inv X [] σ' H' s' ∧ Q .non H'
  | _ => False
section
variable {P : Program} {w : World} {K : PySem.W.Frag} {mg : Str → Option Value} {base : Heap}
theorem okS {D f g cc cda : Addr} {qual : Str} {st : Stmt} {fd : FuncData} {N ps : List Str} {k : Nat} {sp : Sp} (F : SupF P K mg D f g cc cda qual st fd) (S : NScope N ps ["__class__"] (defScope st)) (len : ∀ vs H Q E, sp vs H Q E → vs.length = ps.length)
    (hbody : ∀ (A : Around) (outer : List Env) (s : Shared) (H : Hp) (vs : List V) (Q : VK) (E : XK), Room k (sCx P w K mg base N qual st cc cda f A outer s H E).A → sp vs H Q E →
      ∀ s1, Inv (sCx P w K mg base N qual st cc cda f A outer s H E) [] (startF N vs [some (.ref D)]) H s1 →
        _root_.PySem.wpAt (model P w) (sCx P w K mg base N qual st cc cda f A outer s H E).A (.func (defBody st) (sCx P w K mg base N qual st cc cda f A outer s H E).env) (execs (defBody st) (sCx P w K mg base N qual st cc cda f A outer s H E).env)
          (SEnd (sCx P w K mg base N qual st cc cda f A outer s H E) Q) (sCx P w K mg base N qual st cc cda f A outer s H E).xe s1) :
    FnOk P w K mg base CX0 (k + 1) f fd ps sp := by
  refine ⟨len, fun A outer s H args us vs Q E hr e0 hb r hsp => ?_⟩
  obtain ⟨⟨oc, od, kV, doc, pm, ct, an, osl, rfl, lk⟩, hcd, _, ⟨cl, cld, csl, lcell⟩, _⟩ := F
  have hl := len _ _ _ _ hsp
  have KX : K.In s.heap := e0.mod.kin.keeps fun b o e => (e0.bs b o e).1
  have lim : s.heap.NoLimit := e0.mod.nolimit.keeps fun b o e => (e0.bs b o e).1
  have C : CellsAt [(("__class__" : Str), cc)] ["__class__"] [some (V.ref D)] s.heap H := by
    have hH : H cc = none := (e0.bs cc _ (e0.mod.kin _ _ lcell)).2
    have one : ∀ {y : Str} {c : Addr}, ([(("__class__" : Str), cc)] : List (Str × Addr)).lookup y = some c → y = "__class__" ∧ c = cc := fun {y c} e => by
      rw [List.lookup_cons] at e
      split at e
      · rename_i z
        exact ⟨eq_of_beq z, (Option.some.inj e).symm⟩
      · cases e
    refine ⟨rfl, fun y c e => ?_, fun x y c h1 h2 => (one h1).1.trans (one h2).1.symm, fun i y e => ?_⟩
    · obtain ⟨rfl, rfl⟩ := one e
      exact ⟨hH, _, _, KX _ _ lcell, rfl⟩
    · match i, e with
      | 0, e =>
        cases e
        refine ⟨cc, by rfl, fun v hv => ?_⟩
        cases hv
        exact ⟨_, rfl, _, KX _ _ lcell, rfl⟩
  refine ks_codeAny_call_defAt (body := defBody st) (binds := ps.zip us) hr.depth (KX _ _ lk) rfl lim (PySem.W.codeRec_of KX hcd) rfl hb S.nocell (fun ⟨n, _⟩ hy => S.par n (List.of_mem_zip hy).1) (fun h₁ hns kp => ?_) S.co S.gen S.kind
  have I : Inv (sCx P w K mg base N qual st cc cda f A outer s H E) [] (startF N vs [some (.ref D)]) H { s with heap := h₁, toks := s.toks + (ps.zip us).length } := inv_startN S hr.hd e0 hl r C hns kp
  refine PySem.wpAt_mono (hbody A outer s H vs Q E (hr.deeper _) hsp _ I) (fun fl s' hs => ?_) fun e s' hs => hs
  cases fl with
  | next =>
    obtain ⟨σ', H', J, q⟩ := hs
    exact ⟨.non, H', J.os, J.bare, J.base, J.hok, rfl, q⟩
  | brk => exact hs.elim
  | cont => exact hs.elim
  | ret u => exact hs.elim
end
end K54
set_option maxHeartbeats 8000000
namespace K54
open PySem PySem.Spec PyProof.Rows L2 NdefX

/-! ### Digit.__init__, and those of its three classes -/
theorem upd2 {H : Hp} {p : Addr} {a b : HO} : upd (upd H p a) p b = upd H p b := by
  funext c
  by_cases e : c = p
  · subst e; rw [upd_same, upd_same]
  · rw [upd_ne e, upd_ne e, upd_ne e]
def fld2 (r o : V) : List (Str × V) := putF "_factor" o (putF "_radix" r [])
/-- what stands of a class of digits -/
structure Df (K : PySem.W.Frag) (D : Addr) : Prop where
  cl : Cls K D
  nr : NoAttr K D "_radix"
  nf : NoAttr K D "_factor"
abbrev sDgI : Stmt := inClass (top 52) 0
def spDgI (K : PySem.W.Frag) : Sp := fun vs H Q _ => ∃ (x D dx : Addr) (r o : V), vs = [.ref x, r, o] ∧ H x = some (.ins D dx []) ∧ Df K D ∧ Q .non (upd H x (.ins D dx (fld2 r o)))
section
variable {P : Program} {w : World} {K : PySem.W.Frag} {mg : Str → Option Value} {base : Heap} {C : Addr}
theorem scDgI : FnScope ["self", "radix", "factor"] ["self", "radix", "factor"] (defScope sDgI) :=
  ⟨rfl, rfl, rfl, by decide +kernel, rfl, by decide +kernel, by decide +kernel⟩
theorem ok_dgI {f : Addr} {fd : FuncData} (F : Fun K "__init__" "Digit.__init__" sDgI f fd) : FnOk P w K mg base CX0 1 f fd ["self", "radix", "factor"] (spDgI K) := by
  refine F.ok scDgI (fun vs H Q E h => ?_) (fun cdv A outer s H vs Q E hr h => ?_)
  · obtain ⟨x, D, dx, r, o, rfl, _⟩ := h
    rfl
  · obtain ⟨x, D, dx, r, o, rfl, hx, c, q⟩ := h
    refine ⟨_, pss_cons (ps_fld (pv 0) (pv 1) rfl) (pss_one (ps_fld (pv 0) (pv 2) rfl)), ?_⟩
    refine ⟨_, rfl, _, rfl, x, D, dx, [], rfl, hx, c.cl, c.nr, by decide, ?_⟩
    refine ⟨_, rfl, _, rfl, x, D, dx, _, rfl, upd_same, c.cl, c.nf, by show 1 < 1000; decide, ?_⟩
    rw [upd2]
    exact q
/-- Unused.__init__ -/
abbrev sUI : Stmt := inClass (top 53) 1
def spUI (C D : Addr) : Sp := fun vs H Q _ => ∃ (x q dx dq : Addr) (gs : List (Str × V)), vs = [.ref x, .ref q] ∧ H x = some (.ins D dx []) ∧ H q = some (.ins C dq gs) ∧ Q .non (upd H x (.ins D dx (fld2 (.ref q) .non)))
theorem scUI : NScope ["self", "radix", "__class__"] ["self", "radix"] ["__class__"] (defScope sUI) := nscope_by (by decide +kernel)
theorem ok_uI {D f g cc cda fC : Addr} {fd fdg fdC : FuncData} (F : SupF P K mg D f g cc cda "Unused.__init__" sUI fd) (c : Df K D)
    (G : FnOk P w K mg base CX0 1 g fdg ["self", "radix", "factor"] (spDgI K)) (bG : Binds K fdg ["self", "radix", "factor"] [])
    (GC : FnOk P w K mg base CX0 1 fC fdC ["value"] (spCheck C)) (kC : PySem.W.keepIn K (.ref fC) = true) (bC : Binds K fdC ["value"] []) (gC : mg "check_size" = some (.ref fC)) :
    FnOk P w K mg base CX0 2 f fd ["self", "radix"] (spUI C D) := by
  refine okS F scUI (fun vs H Q E h => ?_) (fun A outer s H vs Q E hr h s1 I => ?_)
  · obtain ⟨x, q, dx, dq, gs, rfl, _⟩ := h
    rfl
  · obtain ⟨x, q, dx, dq, gs, rfl, hx, hq, k⟩ := h
    refine at_cons (nx := fun σ H' => σ = startF ["self", "radix", "__class__"] [.ref x, .ref q] [some (.ref D)] ∧ H' = H) (ps_expr (pe_call (E := E0) GC hr (by rfl) gC kC bC .nil pass0 (pa_cons (pv 1) pa_nil))) I ⟨_, rfl, q, dq, gs, rfl, hq, rfl, rfl⟩ fun σ' H' s' J z => ?_
    obtain ⟨rfl, rfl⟩ := z
    exact at_super (fs := []) (QH := fun H3 => Q .non H3) F J rfl rfl (by rfl) (by rfl) (by rfl) (by rfl) ⟨_, rfl, rfl⟩ rfl rfl hx (G.raw bG .nil) hr (pa_cons (pv 1) (pa_cons pe_non pa_nil))
      ⟨_, rfl, x, D, dx, .ref q, .non, rfl, hx, c, k⟩ (fun s2 H2 J2 q2 => ⟨_, _, J2, q2⟩) (by rfl) (by rfl) (by rfl) (by rfl) (by rfl)
end
end K54
set_option maxHeartbeats 8000000
namespace K54
open PySem PySem.Spec PyProof.Rows L2 NdefX

/-! ### Straight and Turned; the properties, the other way, == and repr of digits */ -/
def spSI (C D : Addr) : Sp := fun vs H Q _ => ∃ (x q1 q2 dx d1 d2 : Addr) (g1 g2 : List (Str × V)), vs = [.ref x, .ref q1, .ref q2] ∧ H x = some (.ins D dx []) ∧ H q1 = some (.ins C d1 g1) ∧ H q2 = some (.ins C d2 g2) ∧ Q .non (upd H x (.ins D dx (fld2 (.ref q1) (.ref q2))))
def spRad (K : PySem.W.Frag) : Sp := fun vs H Q _ => ∃ (p D dx : Addr) (r o : V), vs = [.ref p] ∧ H p = some (.ins D dx (fld2 r o)) ∧ Df K D ∧ Q r H
def spFac (K : PySem.W.Frag) : Sp := fun vs H Q _ => ∃ (p D dx : Addr) (r o : V), vs = [.ref p] ∧ H p = some (.ins D dx (fld2 r o)) ∧ Df K D ∧ Q o H
def spFac0 : Sp := fun vs H Q _ => ∃ v : V, vs = [v] ∧ Q .non H
def spSelf : Sp := fun vs H Q _ => ∃ v : V, vs = [v] ∧ Q v H
def spTurn (K : PySem.W.Frag) (C D D2 : Addr) : Sp := fun vs H Q _ => ∃ (p q1 q2 dx d1 d2 : Addr) (g1 g2 : List (Str × V)), vs = [.ref p] ∧ H p = some (.ins D dx (fld2 (.ref q1) (.ref q2))) ∧ H q1 = some (.ins C d1 g1) ∧ H q2 = some (.ins C d2 g2) ∧
  ∀ r dr, H r = none → H dr = none → dr ≠ r → Q (.ref r) (upd (upd H dr (.own r)) r (.ins D2 dr (fld2 (.ref q1) (.ref q2))))
theorem lk_r (r o : V) : (fld2 r o).lookup ("_radix" : Str) = some r := rfl
theorem lk_f (r o : V) : (fld2 r o).lookup ("_factor" : Str) = some o := rfl
section
variable {P : Program} {w : World} {K : PySem.W.Frag} {mg : Str → Option Value} {base : Heap} {C : Addr}
/-- Straight.__init__ -/
abbrev sSI : Stmt := inClass (top 54) 1
theorem scSI : NScope ["self", "radix", "factor", "__class__"] ["self", "radix", "factor"] ["__class__"] (defScope sSI) := nscope_by (by decide +kernel)
theorem ok_sI {D f g cc cda fC : Addr} {fd fdg fdC : FuncData} (F : SupF P K mg D f g cc cda "Straight.__init__" sSI fd) (c : Df K D)
    (G : FnOk P w K mg base CX0 1 g fdg ["self", "radix", "factor"] (spDgI K)) (bG : Binds K fdg ["self", "radix", "factor"] [])
    (GC : FnOk P w K mg base CX0 1 fC fdC ["value"] (spCheck C)) (kC : PySem.W.keepIn K (.ref fC) = true) (bC : Binds K fdC ["value"] []) (gC : mg "check_size" = some (.ref fC)) :
    FnOk P w K mg base CX0 2 f fd ["self", "radix", "factor"] (spSI C D) := by
  refine okS F scSI (fun vs H Q E h => ?_) (fun A outer s H vs Q E hr h s1 I => ?_)
  · obtain ⟨x, q1, q2, dx, d1, d2, g1, g2, rfl, _⟩ := h
    rfl
  · obtain ⟨x, q1, q2, dx, d1, d2, g1, g2, rfl, hx, h1, h2, k⟩ := h
    refine at_cons (nx := fun σ H' => σ = startF ["self", "radix", "factor", "__class__"] [.ref x, .ref q1, .ref q2] [some (.ref D)] ∧ H' = H) (ps_expr (pe_call (E := E0) GC hr (by rfl) gC kC bC .nil pass0 (pa_cons (pv 1) pa_nil))) I ⟨_, rfl, q1, d1, g1, rfl, h1, rfl, rfl⟩ fun σ' H' s' J z => ?_
    obtain ⟨rfl, rfl⟩ := z
    refine at_cons (nx := fun σ H2 => σ = startF ["self", "radix", "factor", "__class__"] [.ref x, .ref q1, .ref q2] [some (.ref D)] ∧ H2 = H') (ps_expr (pe_call (E := E0) GC hr (by rfl) gC kC bC .nil pass0 (pa_cons (pv 2) pa_nil))) J ⟨_, rfl, q2, d2, g2, rfl, h2, rfl, rfl⟩ fun σ' H2 s' J2 z => ?_
    obtain ⟨rfl, rfl⟩ := z
    exact at_super (fs := []) (QH := fun H3 => Q .non H3) F J2 rfl rfl (by rfl) (by rfl) (by rfl) (by rfl) ⟨_, rfl, rfl⟩ rfl rfl hx (G.raw bG .nil) hr (pa_cons (pv 1) (pa_cons (pv 2) pa_nil))
      ⟨_, rfl, _, rfl, x, D, dx, .ref q1, .ref q2, rfl, hx, c, k⟩ (fun s2 H2 J2 q2 => ⟨_, _, J2, q2⟩) (by rfl) (by rfl) (by rfl) (by rfl) (by rfl)
/-- Turned.__init__ -/
abbrev sTI : Stmt := inClass (top 55) 1
theorem scTI : NScope ["self", "radix", "factor", "__class__"] ["self", "radix", "factor"] ["__class__"] (defScope sTI) := nscope_by (by decide +kernel)
theorem ok_tI {D f g cc cda fC : Addr} {fd fdg fdC : FuncData} (F : SupF P K mg D f g cc cda "Turned.__init__" sTI fd) (c : Df K D)
    (G : FnOk P w K mg base CX0 1 g fdg ["self", "radix", "factor"] (spDgI K)) (bG : Binds K fdg ["self", "radix", "factor"] [])
    (GC : FnOk P w K mg base CX0 1 fC fdC ["value"] (spCheck C)) (kC : PySem.W.keepIn K (.ref fC) = true) (bC : Binds K fdC ["value"] []) (gC : mg "check_size" = some (.ref fC)) :
    FnOk P w K mg base CX0 2 f fd ["self", "radix", "factor"] (spSI C D) := by
  refine okS F scTI (fun vs H Q E h => ?_) (fun A outer s H vs Q E hr h s1 I => ?_)
  · obtain ⟨x, q1, q2, dx, d1, d2, g1, g2, rfl, _⟩ := h
    rfl
  · obtain ⟨x, q1, q2, dx, d1, d2, g1, g2, rfl, hx, h1, h2, k⟩ := h
    refine at_cons (nx := fun σ H' => σ = startF ["self", "radix", "factor", "__class__"] [.ref x, .ref q1, .ref q2] [some (.ref D)] ∧ H' = H) (ps_expr (pe_call (E := E0) GC hr (by rfl) gC kC bC .nil pass0 (pa_cons (pv 1) pa_nil))) I ⟨_, rfl, q1, d1, g1, rfl, h1, rfl, rfl⟩ fun σ' H' s' J z => ?_
    obtain ⟨rfl, rfl⟩ := z
    refine at_cons (nx := fun σ H2 => σ = startF ["self", "radix", "factor", "__class__"] [.ref x, .ref q1, .ref q2] [some (.ref D)] ∧ H2 = H') (ps_expr (pe_call (E := E0) GC hr (by rfl) gC kC bC .nil pass0 (pa_cons (pv 2) pa_nil))) J ⟨_, rfl, q2, d2, g2, rfl, h2, rfl, rfl⟩ fun σ' H2 s' J2 z => ?_
    obtain ⟨rfl, rfl⟩ := z
    exact at_super (fs := []) (QH := fun H3 => Q .non H3) F J2 rfl rfl (by rfl) (by rfl) (by rfl) (by rfl) ⟨_, rfl, rfl⟩ rfl rfl hx (G.raw bG .nil) hr (pa_cons (pv 1) (pa_cons (pv 2) pa_nil))
      ⟨_, rfl, _, rfl, x, D, dx, .ref q1, .ref q2, rfl, hx, c, k⟩ (fun s2 H2 J2 q2 => ⟨_, _, J2, q2⟩) (by rfl) (by rfl) (by rfl) (by rfl) (by rfl)
abbrev sUR : Stmt := inClass (top 53) 2
theorem scUR : FnScope ["self"] ["self"] (defScope sUR) := ⟨rfl, rfl, rfl, by decide +kernel, rfl, by decide +kernel, by decide +kernel⟩
theorem ok_uR {f : Addr} {fd : FuncData} (F : Fun K "radix" "Unused.radix" sUR f fd) : FnOk P w K mg base CX0 1 f fd ["self"] (spRad K) := by
  refine F.ok scUR (fun vs H Q E h => ?_) (fun cdv A outer s H vs Q E hr h => ?_)
  · obtain ⟨p, D, dx, r, o, rfl, _⟩ := h
    rfl
  · obtain ⟨p, D, dx, r, o, rfl, hp, c, q⟩ := h
    exact ⟨_, pss_one (ps_ret (pe_fld (pv 0) rfl)), _, rfl, p, D, dx, _, r, rfl, hp, c.cl, c.nr, rfl, q⟩
abbrev sUF : Stmt := inClass (top 53) 3
theorem scUF : FnScope ["self"] ["self"] (defScope sUF) := ⟨rfl, rfl, rfl, by decide +kernel, rfl, by decide +kernel, by decide +kernel⟩
theorem ok_uF {f : Addr} {fd : FuncData} (F : Fun K "factor" "Unused.factor" sUF f fd) : FnOk P w K mg base CX0 1 f fd ["self"] spFac0 := by
  refine F.ok scUF (fun vs H Q E h => ?_) (fun cdv A outer s H vs Q E hr h => ?_)
  · obtain ⟨v, rfl, _⟩ := h
    rfl
  · obtain ⟨v, rfl, q⟩ := h
    exact ⟨_, pss_one (ps_ret pe_non), q⟩
abbrev sUT : Stmt := inClass (top 53) 4
theorem scUT : FnScope ["self"] ["self"] (defScope sUT) := ⟨rfl, rfl, rfl, by decide +kernel, rfl, by decide +kernel, by decide +kernel⟩
theorem ok_uT {f : Addr} {fd : FuncData} (F : Fun K "turned" "Unused.turned" sUT f fd) : FnOk P w K mg base CX0 1 f fd ["self"] spSelf := by
  refine F.ok scUT (fun vs H Q E h => ?_) (fun cdv A outer s H vs Q E hr h => ?_)
  · obtain ⟨v, rfl, _⟩ := h
    rfl
  · obtain ⟨v, rfl, q⟩ := h
    exact ⟨_, pss_one (ps_ret (pv 0)), _, rfl, q⟩
abbrev sSR : Stmt := inClass (top 54) 2
theorem scSR : FnScope ["self"] ["self"] (defScope sSR) := ⟨rfl, rfl, rfl, by decide +kernel, rfl, by decide +kernel, by decide +kernel⟩
theorem ok_sR {f : Addr} {fd : FuncData} (F : Fun K "radix" "Straight.radix" sSR f fd) : FnOk P w K mg base CX0 1 f fd ["self"] (spRad K) := by
  refine F.ok scSR (fun vs H Q E h => ?_) (fun cdv A outer s H vs Q E hr h => ?_)
  · obtain ⟨p, D, dx, r, o, rfl, _⟩ := h
    rfl
  · obtain ⟨p, D, dx, r, o, rfl, hp, c, q⟩ := h
    exact ⟨_, pss_one (ps_ret (pe_fld (pv 0) rfl)), _, rfl, p, D, dx, _, r, rfl, hp, c.cl, c.nr, rfl, q⟩
abbrev sSF : Stmt := inClass (top 54) 3
theorem scSF : FnScope ["self"] ["self"] (defScope sSF) := ⟨rfl, rfl, rfl, by decide +kernel, rfl, by decide +kernel, by decide +kernel⟩
theorem ok_sF {f : Addr} {fd : FuncData} (F : Fun K "factor" "Straight.factor" sSF f fd) : FnOk P w K mg base CX0 1 f fd ["self"] (spFac K) := by
  refine F.ok scSF (fun vs H Q E h => ?_) (fun cdv A outer s H vs Q E hr h => ?_)
  · obtain ⟨p, D, dx, r, o, rfl, _⟩ := h
    rfl
  · obtain ⟨p, D, dx, r, o, rfl, hp, c, q⟩ := h
    exact ⟨_, pss_one (ps_ret (pe_fld (pv 0) rfl)), _, rfl, p, D, dx, _, o, rfl, hp, c.cl, c.nf, rfl, q⟩
abbrev sST : Stmt := inClass (top 54) 4
theorem scST : FnScope ["self"] ["self"] (defScope sST) := ⟨rfl, rfl, rfl, by decide +kernel, rfl, by decide +kernel, by decide +kernel⟩
theorem ok_sT {f D D2 f2 : Addr} {fd fd2 : FuncData} (F : Fun K "turned" "Straight.turned" sST f fd) (c : Df K D) (M : Mk K D2 f2) (G : FnOk P w K mg base CX0 2 f2 fd2 ["self", "radix", "factor"] (spSI C D2)) (b2 : Binds K fd2 ["self", "radix", "factor"] []) (g2 : mg "Turned" = some (.ref D2)) :
    FnOk P w K mg base CX0 4 f fd ["self"] (spTurn K C D D2) := by
  refine F.ok scST (fun vs H Q E h => ?_) (fun cdv A outer s H vs Q E hr h => ?_)
  · obtain ⟨p, q1, q2, dx, d1, d2, g1, g2, rfl, _⟩ := h
    rfl
  · obtain ⟨p, q1, q2, dx, d1, d2, e1, e2, rfl, hp, h1, h2, k⟩ := h
    refine ⟨_, pss_one (ps_ret (pe_make M G hr rfl g2 b2 .nil pass0 (pa_cons (pe_fld (pv 0) rfl) (pa_cons (pe_fld (pv 0) rfl) pa_nil)))), ?_⟩
    refine ⟨_, rfl, p, D, dx, _, .ref q1, rfl, hp, c.cl, c.nr, rfl, ?_⟩
    refine ⟨_, rfl, p, D, dx, _, .ref q2, rfl, hp, c.cl, c.nf, rfl, ?_⟩
    intro r dr nr nd ne
    have n1 : q1 ≠ r := ne_of_none h1 nr
    have n2 : q2 ≠ r := ne_of_none h2 nr
    have m1 : q1 ≠ dr := ne_of_none h1 nd
    have m2 : q2 ≠ dr := ne_of_none h2 nd
    refine ⟨r, q1, q2, dr, d1, d2, e1, e2, rfl, upd_same, (upd_ne n1).trans ((upd_ne m1).trans h1), (upd_ne n2).trans ((upd_ne m2).trans h2), rfl, ?_⟩
    rw [upd2]
    exact k r dr nr nd ne
abbrev sTR : Stmt := inClass (top 55) 2
theorem scTR : FnScope ["self"] ["self"] (defScope sTR) := ⟨rfl, rfl, rfl, by decide +kernel, rfl, by decide +kernel, by decide +kernel⟩
theorem ok_tR {f : Addr} {fd : FuncData} (F : Fun K "radix" "Turned.radix" sTR f fd) : FnOk P w K mg base CX0 1 f fd ["self"] (spRad K) := by
  refine F.ok scTR (fun vs H Q E h => ?_) (fun cdv A outer s H vs Q E hr h => ?_)
  · obtain ⟨p, D, dx, r, o, rfl, _⟩ := h
    rfl
  · obtain ⟨p, D, dx, r, o, rfl, hp, c, q⟩ := h
    exact ⟨_, pss_one (ps_ret (pe_fld (pv 0) rfl)), _, rfl, p, D, dx, _, r, rfl, hp, c.cl, c.nr, rfl, q⟩
abbrev sTF : Stmt := inClass (top 55) 3
theorem scTF : FnScope ["self"] ["self"] (defScope sTF) := ⟨rfl, rfl, rfl, by decide +kernel, rfl, by decide +kernel, by decide +kernel⟩
theorem ok_tF {f : Addr} {fd : FuncData} (F : Fun K "factor" "Turned.factor" sTF f fd) : FnOk P w K mg base CX0 1 f fd ["self"] (spFac K) := by
  refine F.ok scTF (fun vs H Q E h => ?_) (fun cdv A outer s H vs Q E hr h => ?_)
  · obtain ⟨p, D, dx, r, o, rfl, _⟩ := h
    rfl
  · obtain ⟨p, D, dx, r, o, rfl, hp, c, q⟩ := h
    exact ⟨_, pss_one (ps_ret (pe_fld (pv 0) rfl)), _, rfl, p, D, dx, _, o, rfl, hp, c.cl, c.nf, rfl, q⟩
abbrev sTT : Stmt := inClass (top 55) 4
theorem scTT : FnScope ["self"] ["self"] (defScope sTT) := ⟨rfl, rfl, rfl, by decide +kernel, rfl, by decide +kernel, by decide +kernel⟩
theorem ok_tT {f D D2 f2 : Addr} {fd fd2 : FuncData} (F : Fun K "turned" "Turned.turned" sTT f fd) (c : Df K D) (M : Mk K D2 f2) (G : FnOk P w K mg base CX0 2 f2 fd2 ["self", "radix", "factor"] (spSI C D2)) (b2 : Binds K fd2 ["self", "radix", "factor"] []) (g2 : mg "Straight" = some (.ref D2)) :
    FnOk P w K mg base CX0 4 f fd ["self"] (spTurn K C D D2) := by
  refine F.ok scTT (fun vs H Q E h => ?_) (fun cdv A outer s H vs Q E hr h => ?_)
  · obtain ⟨p, q1, q2, dx, d1, d2, g1, g2, rfl, _⟩ := h
    rfl
  · obtain ⟨p, q1, q2, dx, d1, d2, e1, e2, rfl, hp, h1, h2, k⟩ := h
    refine ⟨_, pss_one (ps_ret (pe_make M G hr rfl g2 b2 .nil pass0 (pa_cons (pe_fld (pv 0) rfl) (pa_cons (pe_fld (pv 0) rfl) pa_nil)))), ?_⟩
    refine ⟨_, rfl, p, D, dx, _, .ref q1, rfl, hp, c.cl, c.nr, rfl, ?_⟩
    refine ⟨_, rfl, p, D, dx, _, .ref q2, rfl, hp, c.cl, c.nf, rfl, ?_⟩
    intro r dr nr nd ne
    have n1 : q1 ≠ r := ne_of_none h1 nr
    have n2 : q2 ≠ r := ne_of_none h2 nr
    have m1 : q1 ≠ dr := ne_of_none h1 nd
    have m2 : q2 ≠ dr := ne_of_none h2 nd
    refine ⟨r, q1, q2, dr, d1, d2, e1, e2, rfl, upd_same, (upd_ne n1).trans ((upd_ne m1).trans h1), (upd_ne n2).trans ((upd_ne m2).trans h2), rfl, ?_⟩
    rw [upd2]
    exact k r dr nr nd ne
end
end K54
set_option maxHeartbeats 8000000
namespace K54
open PySem PySem.Spec PyProof.Rows L2 TL

/-! ### == and repr of digits -/
structure Dq (K : PySem.W.Frag) (mg : Str → Option Value) (nm : Str) (D : Addr) : Prop extends Df K D where
  gD : mg nm = some (.ref D)
  cc : PySem.W.findIn K (.ref D) "__class__" = some (some (.builtin "object.__class__"))
  cn : PySem.W.specialIn K (.builtin "object.__class__") "__get__" = some (some (.builtin "getset_descriptor.__get__"))
  ct : PySem.W.takesIn K (.builtin "object.__class__") = some true
  co : PySem.W.mroIn K D (.type "object") = some true
/-- Size's own == -/
structure Se (P : Program) (w : World) (K : PySem.W.Frag) (mg : Str → Option Value) (base : Heap) (C : Addr) : Prop where
  eq : ∃ f fd, FnOk P w K mg base CX0 1 f fd ["self", "other"] (spEqS K C) ∧ PySem.W.findIn K (.ref C) "__eq__" = some (some (.ref f)) ∧ PySem.W.isFn K (.ref f) = true ∧ Binds K fd ["self", "other"] []
  rp : ∃ f fd, FnOk P w K mg base CX0 5 f fd ["self"] (spRepr C) ∧ PySem.W.findIn K (.ref C) "__repr__" = some (some (.ref f)) ∧ PySem.W.isFn K (.ref f) = true ∧ Binds K fd ["self"] []
def DgU (C D : Addr) (H : Hp) (p : Addr) (r : Es) : Prop := ∃ dx q, H p = some (.ins D dx (fld2 (.ref q) .non)) ∧ SizeAt C H q r
def DgS (C D : Addr) (H : Hp) (p : Addr) (r f : Es) : Prop := ∃ dx q1 q2, H p = some (.ins D dx (fld2 (.ref q1) (.ref q2))) ∧ SizeAt C H q1 r ∧ SizeAt C H q2 f
theorem DgU.same {C D p : Addr} {r : Es} {H H' : Hp} (h : DgU C D H p r) (S : Same H H') : DgU C D H' p r := by
  obtain ⟨dx, q, h1, h2⟩ := h
  exact ⟨dx, q, S _ _ h1, h2.same S⟩
theorem DgS.same {C D p : Addr} {r f : Es} {H H' : Hp} (h : DgS C D H p r f) (S : Same H H') : DgS C D H' p r f := by
  obtain ⟨dx, q1, q2, h1, h2, h3⟩ := h
  exact ⟨dx, q1, q2, S _ _ h1, h2.same S, h3.same S⟩
def spEqU (K : PySem.W.Frag) (C D : Addr) : Sp := fun vs H Q _ => ∃ (p : Addr) (r : Es) (y : V), vs = [.ref p, y] ∧ DgU C D H p r ∧
  ((∃ (p2 : Addr) (r2 : Es), y = .ref p2 ∧ DgU C D H p2 r2 ∧ Q (.bl (decide (r = r2))) H) ∨ ∃ t, TyX K H y t ∧ PySem.W.kitOne K t (.ref D) = some false ∧ Q (.bl false) H)
def spEqD (K : PySem.W.Frag) (C D : Addr) : Sp := fun vs H Q _ => ∃ (p : Addr) (r f : Es) (y : V), vs = [.ref p, y] ∧ DgS C D H p r f ∧
  ((∃ (p2 : Addr) (r2 f2 : Es), y = .ref p2 ∧ DgS C D H p2 r2 f2 ∧ Q (.bl (decide (r = r2 ∧ f = f2))) H) ∨ ∃ t, TyX K H y t ∧ PySem.W.kitOne K t (.ref D) = some false ∧ Q (.bl false) H)
def repT (es : Es) : Str := reprS (texE es)
def uT (r : Es) : Str := Str.empty ++ ("Unused(" : Str) ++ repT r ++ (")" : Str)
def sT (nm : Str) (r f : Es) : Str := Str.empty ++ nm ++ repT r ++ (", " : Str) ++ repT f ++ (")" : Str)
def spRepU (C D : Addr) : Sp := fun vs H Q _ => ∃ (p : Addr) (r : Es), vs = [.ref p] ∧ DgU C D H p r ∧ (∀ q ∈ r, Big q.2) ∧ ∀ H', Same H H' → Q (.str (uT r)) H'
def spRepD (nm : Str) (C D : Addr) : Sp := fun vs H Q _ => ∃ (p : Addr) (r f : Es), vs = [.ref p] ∧ DgS C D H p r f ∧ (∀ q ∈ r, Big q.2) ∧ (∀ q ∈ f, Big q.2) ∧ ∀ H', Same H H' → Q (.str (sT nm r f)) H'
def RSz (C : Addr) (H : Hp) (p : Addr) (t : Str) : Prop := ∃ es, SizeAt C H p es ∧ (∀ q ∈ es, Big q.2) ∧ t = repT es
theorem ro_sz {X : Cx} {C : Addr} (S : Se X.prog X.w X.K X.mg X.base C) : RO X 5 (RSz C) := by
  refine ⟨fun ⟨es, h1, h2, h3⟩ S => ⟨es, h1.same S, h2, h3⟩, fun {H p t} ⟨es, h1, h2, h3⟩ => ?_⟩
  obtain ⟨f, fd, F, h4, h5, h6⟩ := S.rp
  obtain ⟨dx, D, y1, y2⟩ := id h1
  exact ⟨C, dx, _, f, fd, _, y1, h4, h5, h6, F, p, es, rfl, h1, h2, fun H' S' => ⟨by rw [h3]; rfl, S'⟩⟩
theorem rep_len {C : Addr} {H : Hp} {p : Addr} {es : Es} (h : SizeAt C H p es) (hB : ∀ q ∈ es, Big q.2) : (repT es).length ≤ 20000 := by
  obtain ⟨dx, D, p1, p2, p3, p4, p5, p6⟩ := h
  have hx := tex_len (fun q hq => ⟨by have := nm_len (p5 q hq); omega, hB q hq⟩) p6
  unfold repT reprS
  rw [len_app, len_app]
  have e1 : ("Size('" : Str).length = 6 := by decide
  have e2 : ("')" : Str).length = 2 := by decide
  omega
section
variable {P : Program} {w : World} {K : PySem.W.Frag} {mg : Str → Option Value} {base : Heap} {C : Addr}
abbrev sUE : Stmt := inClass (top 53) 5
theorem scUE : FnScope ["self", "other"] ["self", "other"] (defScope sUE) := ⟨rfl, rfl, rfl, by decide +kernel, rfl, by decide +kernel, by decide +kernel⟩
theorem ok_uE {f D : Addr} {fd : FuncData} (F : Fun K "__eq__" "Unused.__eq__" sUE f fd) (T : Nk mg) (c : Dq K mg "Unused" D) (S : Se P w K mg base C) : FnOk P w K mg base CX0 2 f fd ["self", "other"] (spEqU K C D) := by
  obtain ⟨fE, fdE, G, hs, hf, hb⟩ := S.eq
  refine F.ok scUE (fun vs H Q E h => ?_) (fun cdv A outer s H vs Q E hr h => ?_)
  · obtain ⟨p, r, y, rfl, _⟩ := h
    rfl
  · obtain ⟨p, r, y, rfl, ⟨dx, q, h1, h2⟩, h3⟩ := h
    refine ⟨_, pss_one (ps_ret (pe_and (pe_callB call_isi (by rfl) T.isi (by decide +kernel) (pa_cons (pv 1) (pa_cons (pe_glob (v := .ref D) (by rfl) c.gD rfl) pa_nil)))
      (pe_one (pe_cmpR (op_own G hr hs hf hb pass0 spEq_mono) (pe_fld (pv 0) rfl) (pe_fld (pv 1) rfl) (nomark _))))), ?_⟩
    rcases h3 with ⟨p2, r2, rfl, ⟨dy, q2, e1, e2⟩, k⟩ | ⟨t, ht, hk, k⟩
    · refine ⟨_, rfl, _, _, _, _, true, rfl, .own _, .base (.ins e1 c.cl c.cc c.cn c.ct c.co), ?_, _, rfl, ?_⟩
      · unfold PySem.W.kitOne
        rw [if_pos (by simp)]
      refine iteT' rfl ?_
      refine ⟨_, rfl, p, D, dx, _, .ref q, rfl, h1, c.cl, c.nr, rfl, ?_⟩
      refine ⟨_, rfl, p2, D, dy, _, .ref q2, rfl, e1, c.cl, c.nr, rfl, ?_⟩
      obtain ⟨dz, Dz, z1, _⟩ := id h2
      obtain ⟨dw, Dw, w1, _⟩ := id e2
      exact ⟨q, dz, _, _, rfl, z1, .ins w1, q, r, _, rfl, h2, .inl ⟨q2, r2, rfl, e2, _, rfl, k⟩⟩
    · exact ⟨_, rfl, _, _, _, _, false, rfl, .own _, ht, hk, _, rfl, iteF k⟩
abbrev sSE : Stmt := inClass (top 54) 5
theorem scSE : FnScope ["self", "other"] ["self", "other"] (defScope sSE) := ⟨rfl, rfl, rfl, by decide +kernel, rfl, by decide +kernel, by decide +kernel⟩
theorem ok_sE {f D : Addr} {fd : FuncData} (F : Fun K "__eq__" "Straight.__eq__" sSE f fd) (T : Nk mg) (c : Dq K mg "Straight" D) (S : Se P w K mg base C) : FnOk P w K mg base CX0 2 f fd ["self", "other"] (spEqD K C D) := by
  obtain ⟨fE, fdE, G, hs, hf, hb⟩ := S.eq
  refine F.ok scSE (fun vs H Q E h => ?_) (fun cdv A outer s H vs Q E hr h => ?_)
  · obtain ⟨p, r, f', y, rfl, _⟩ := h
    rfl
  · obtain ⟨p, r, f', y, rfl, ⟨dx, q, u, h1, h2, hu⟩, h3⟩ := h
    refine ⟨_, pss_one (ps_ret (pe_and (pe_callB call_isi (by rfl) T.isi (by decide +kernel) (pa_cons (pv 1) (pa_cons (pe_glob (v := .ref D) (by rfl) c.gD rfl) pa_nil)))
      (pe_and (pe_cmpR (op_own G hr hs hf hb pass0 spEq_mono) (pe_fld (pv 0) rfl) (pe_fld (pv 1) rfl) (nomark _)) (pe_one (pe_cmpR (op_own G hr hs hf hb pass0 spEq_mono) (pe_fld (pv 0) rfl) (pe_fld (pv 1) rfl) (nomark _)))))), ?_⟩
    rcases h3 with ⟨p2, r2, f2, rfl, ⟨dy, q2, u2, e1, e2, eu⟩, k⟩ | ⟨t, ht, hk, k⟩
    · refine ⟨_, rfl, _, _, _, _, true, rfl, .own _, .base (.ins e1 c.cl c.cc c.cn c.ct c.co), ?_, _, rfl, ?_⟩
      · unfold PySem.W.kitOne
        rw [if_pos (by simp)]
      refine iteT' rfl ?_
      refine ⟨_, rfl, p, D, dx, _, .ref q, rfl, h1, c.cl, c.nr, rfl, ?_⟩
      refine ⟨_, rfl, p2, D, dy, _, .ref q2, rfl, e1, c.cl, c.nr, rfl, ?_⟩
      obtain ⟨dz, Dz, z1, _⟩ := id h2
      obtain ⟨dw, Dw, w1, _⟩ := id e2
      obtain ⟨dz3, Dz3, z3, _⟩ := id hu
      obtain ⟨dw3, Dw3, w3, _⟩ := id eu
      refine ⟨q, dz, _, _, rfl, z1, .ins w1, q, r, _, rfl, h2, .inl ⟨q2, r2, rfl, e2, _, rfl, ?_⟩⟩
      by_cases er : r = r2
      · refine ⟨_, rfl, ?_⟩
        refine iteT' (decide_eq_true er) ?_
        refine ⟨_, rfl, p, D, dx, _, .ref u, rfl, h1, c.cl, c.nf, rfl, ?_⟩
        refine ⟨_, rfl, p2, D, dy, _, .ref u2, rfl, e1, c.cl, c.nf, rfl, ?_⟩
        refine ⟨u, dz3, _, _, rfl, z3, .ins w3, u, f', _, rfl, hu, .inl ⟨u2, f2, rfl, eu, _, rfl, ?_⟩⟩
        have ed : decide (r = r2 ∧ f' = f2) = decide (f' = f2) := by
          by_cases ef : f' = f2 <;> simp [er, ef]
        rw [ed] at k
        exact k
      · refine ⟨_, rfl, ?_⟩
        refine iteN' er ?_
        have ed : decide (r = r2 ∧ f' = f2) = false := by simp [er]
        rw [ed] at k
        exact k
    · exact ⟨_, rfl, _, _, _, _, false, rfl, .own _, ht, hk, _, rfl, iteF k⟩
abbrev sTE : Stmt := inClass (top 55) 5
theorem scTE : FnScope ["self", "other"] ["self", "other"] (defScope sTE) := ⟨rfl, rfl, rfl, by decide +kernel, rfl, by decide +kernel, by decide +kernel⟩
theorem ok_tE {f D : Addr} {fd : FuncData} (F : Fun K "__eq__" "Turned.__eq__" sTE f fd) (T : Nk mg) (c : Dq K mg "Turned" D) (S : Se P w K mg base C) : FnOk P w K mg base CX0 2 f fd ["self", "other"] (spEqD K C D) := by
  obtain ⟨fE, fdE, G, hs, hf, hb⟩ := S.eq
  refine F.ok scTE (fun vs H Q E h => ?_) (fun cdv A outer s H vs Q E hr h => ?_)
  · obtain ⟨p, r, f', y, rfl, _⟩ := h
    rfl
  · obtain ⟨p, r, f', y, rfl, ⟨dx, q, u, h1, h2, hu⟩, h3⟩ := h
    refine ⟨_, pss_one (ps_ret (pe_and (pe_callB call_isi (by rfl) T.isi (by decide +kernel) (pa_cons (pv 1) (pa_cons (pe_glob (v := .ref D) (by rfl) c.gD rfl) pa_nil)))
      (pe_and (pe_cmpR (op_own G hr hs hf hb pass0 spEq_mono) (pe_fld (pv 0) rfl) (pe_fld (pv 1) rfl) (nomark _)) (pe_one (pe_cmpR (op_own G hr hs hf hb pass0 spEq_mono) (pe_fld (pv 0) rfl) (pe_fld (pv 1) rfl) (nomark _)))))), ?_⟩
    rcases h3 with ⟨p2, r2, f2, rfl, ⟨dy, q2, u2, e1, e2, eu⟩, k⟩ | ⟨t, ht, hk, k⟩
    · refine ⟨_, rfl, _, _, _, _, true, rfl, .own _, .base (.ins e1 c.cl c.cc c.cn c.ct c.co), ?_, _, rfl, ?_⟩
      · unfold PySem.W.kitOne
        rw [if_pos (by simp)]
      refine iteT' rfl ?_
      refine ⟨_, rfl, p, D, dx, _, .ref q, rfl, h1, c.cl, c.nr, rfl, ?_⟩
      refine ⟨_, rfl, p2, D, dy, _, .ref q2, rfl, e1, c.cl, c.nr, rfl, ?_⟩
      obtain ⟨dz, Dz, z1, _⟩ := id h2
      obtain ⟨dw, Dw, w1, _⟩ := id e2
      obtain ⟨dz3, Dz3, z3, _⟩ := id hu
      obtain ⟨dw3, Dw3, w3, _⟩ := id eu
      refine ⟨q, dz, _, _, rfl, z1, .ins w1, q, r, _, rfl, h2, .inl ⟨q2, r2, rfl, e2, _, rfl, ?_⟩⟩
      by_cases er : r = r2
      · refine ⟨_, rfl, ?_⟩
        refine iteT' (decide_eq_true er) ?_
        refine ⟨_, rfl, p, D, dx, _, .ref u, rfl, h1, c.cl, c.nf, rfl, ?_⟩
        refine ⟨_, rfl, p2, D, dy, _, .ref u2, rfl, e1, c.cl, c.nf, rfl, ?_⟩
        refine ⟨u, dz3, _, _, rfl, z3, .ins w3, u, f', _, rfl, hu, .inl ⟨u2, f2, rfl, eu, _, rfl, ?_⟩⟩
        have ed : decide (r = r2 ∧ f' = f2) = decide (f' = f2) := by
          by_cases ef : f' = f2 <;> simp [er, ef]
        rw [ed] at k
        exact k
      · refine ⟨_, rfl, ?_⟩
        refine iteN' er ?_
        have ed : decide (r = r2 ∧ f' = f2) = false := by simp [er]
        rw [ed] at k
        exact k
    · exact ⟨_, rfl, _, _, _, _, false, rfl, .own _, ht, hk, _, rfl, iteF k⟩
abbrev sUP : Stmt := inClass (top 53) 6
theorem scUP : FnScope ["self"] ["self"] (defScope sUP) := ⟨rfl, rfl, rfl, by decide +kernel, rfl, by decide +kernel, by decide +kernel⟩
theorem ok_uP {f D : Addr} {fd : FuncData} (F : Fun K "__repr__" "Unused.__repr__" sUP f fd) (c : Df K D) (S : Se P w K mg base C) : FnOk P w K mg base CX0 6 f fd ["self"] (spRepU C D) := by
  refine F.ok scUP (fun vs H Q E h => ?_) (fun cdv A outer s H vs Q E hr h => ?_)
  · obtain ⟨p, r, rfl, _⟩ := h
    rfl
  · obtain ⟨p, r, rfl, ⟨dx, q, h1, h2⟩, hB, k⟩ := h
    refine ⟨_, pss_one (ps_ret (pe_joined (.cons pe_str (.cons (pe_fmtX (ro_sz S) hr (pe_fld (pv 0) rfl)) (.cons pe_str .nil))))), ?_⟩
    have hl := rep_len h2 hB
    have e1 : (Str.empty ++ ("Unused(" : Str)).length = 7 := by decide
    have e3 : (")" : Str).length = 1 := by decide
    refine ⟨_, rfl, by rw [e1, sizeLine_eq]; decide, _, rfl, p, D, dx, _, .ref q, rfl, h1, c.cl, c.nr, rfl, q, repT r, rfl, ⟨r, h2, hB, rfl⟩, by rw [sizeLine_eq]; omega, fun H' S' => ⟨_, rfl, ?_, ?_⟩⟩
    · rw [len_app, e1, sizeLine_eq]
      omega
    · refine ⟨_, rfl, ?_, k H' S'⟩
      rw [len_app, len_app, e1, e3, sizeLine_eq]
      omega
abbrev sSP : Stmt := inClass (top 54) 6
theorem scSP : FnScope ["self"] ["self"] (defScope sSP) := ⟨rfl, rfl, rfl, by decide +kernel, rfl, by decide +kernel, by decide +kernel⟩
theorem ok_sP {f D : Addr} {fd : FuncData} (F : Fun K "__repr__" "Straight.__repr__" sSP f fd) (c : Df K D) (S : Se P w K mg base C) : FnOk P w K mg base CX0 6 f fd ["self"] (spRepD "Straight(" C D) := by
  refine F.ok scSP (fun vs H Q E h => ?_) (fun cdv A outer s H vs Q E hr h => ?_)
  · obtain ⟨p, r, f', rfl, _⟩ := h
    rfl
  · obtain ⟨p, r, f', rfl, ⟨dx, q, u, h1, h2, hu⟩, hB, hB2, k⟩ := h
    refine ⟨_, pss_one (ps_ret (pe_joined (.cons pe_str (.cons (pe_fmtX (ro_sz S) hr (pe_fld (pv 0) rfl)) (.cons pe_str (.cons (pe_fmtX (ro_sz S) hr (pe_fld (pv 0) rfl)) (.cons pe_str .nil))))))), ?_⟩
    have hl := rep_len h2 hB
    have hl2 := rep_len hu hB2
    have e1 : (Str.empty ++ ("Straight(" : Str)).length = 9 := by decide
    have e2 : (", " : Str).length = 2 := by decide
    have e3 : (")" : Str).length = 1 := by decide
    refine ⟨_, rfl, by rw [e1, sizeLine_eq]; decide, _, rfl, p, D, dx, _, .ref q, rfl, h1, c.cl, c.nr, rfl, q, repT r, rfl, ⟨r, h2, hB, rfl⟩, by rw [sizeLine_eq]; omega, fun H' S' => ⟨_, rfl, ?_, ?_⟩⟩
    · rw [len_app, e1, sizeLine_eq]
      omega
    refine ⟨_, rfl, ?_, ?_⟩
    · rw [len_app, len_app, e1, e2, sizeLine_eq]
      omega
    refine ⟨_, rfl, p, D, dx, _, .ref u, rfl, S' _ _ h1, c.cl, c.nf, rfl, u, repT f', rfl, ⟨f', hu.same S', hB2, rfl⟩, by rw [sizeLine_eq]; omega, fun H2 S2 => ⟨_, rfl, ?_, ?_⟩⟩
    · rw [len_app, len_app, len_app, e1, e2, sizeLine_eq]
      omega
    · refine ⟨_, rfl, ?_, k H2 (S'.trans S2)⟩
      rw [len_app, len_app, len_app, len_app, e1, e2, e3, sizeLine_eq]
      omega
abbrev sTP : Stmt := inClass (top 55) 6
theorem scTP : FnScope ["self"] ["self"] (defScope sTP) := ⟨rfl, rfl, rfl, by decide +kernel, rfl, by decide +kernel, by decide +kernel⟩
theorem ok_tP {f D : Addr} {fd : FuncData} (F : Fun K "__repr__" "Turned.__repr__" sTP f fd) (c : Df K D) (S : Se P w K mg base C) : FnOk P w K mg base CX0 6 f fd ["self"] (spRepD "Turned(" C D) := by
  refine F.ok scTP (fun vs H Q E h => ?_) (fun cdv A outer s H vs Q E hr h => ?_)
  · obtain ⟨p, r, f', rfl, _⟩ := h
    rfl
  · obtain ⟨p, r, f', rfl, ⟨dx, q, u, h1, h2, hu⟩, hB, hB2, k⟩ := h
    refine ⟨_, pss_one (ps_ret (pe_joined (.cons pe_str (.cons (pe_fmtX (ro_sz S) hr (pe_fld (pv 0) rfl)) (.cons pe_str (.cons (pe_fmtX (ro_sz S) hr (pe_fld (pv 0) rfl)) (.cons pe_str .nil))))))), ?_⟩
    have hl := rep_len h2 hB
    have hl2 := rep_len hu hB2
    have e1 : (Str.empty ++ ("Turned(" : Str)).length = 7 := by decide
    have e2 : (", " : Str).length = 2 := by decide
    have e3 : (")" : Str).length = 1 := by decide
    refine ⟨_, rfl, by rw [e1, sizeLine_eq]; decide, _, rfl, p, D, dx, _, .ref q, rfl, h1, c.cl, c.nr, rfl, q, repT r, rfl, ⟨r, h2, hB, rfl⟩, by rw [sizeLine_eq]; omega, fun H' S' => ⟨_, rfl, ?_, ?_⟩⟩
    · rw [len_app, e1, sizeLine_eq]
      omega
    refine ⟨_, rfl, ?_, ?_⟩
    · rw [len_app, len_app, e1, e2, sizeLine_eq]
      omega
    refine ⟨_, rfl, p, D, dx, _, .ref u, rfl, S' _ _ h1, c.cl, c.nf, rfl, u, repT f', rfl, ⟨f', hu.same S', hB2, rfl⟩, by rw [sizeLine_eq]; omega, fun H2 S2 => ⟨_, rfl, ?_, ?_⟩⟩
    · rw [len_app, len_app, len_app, e1, e2, sizeLine_eq]
      omega
    · refine ⟨_, rfl, ?_, k H2 (S'.trans S2)⟩
      rw [len_app, len_app, len_app, len_app, e1, e2, e3, sizeLine_eq]
      omega
end
end K54
set_option maxHeartbeats 8000000
namespace K54
open PySem PySem.Spec PyProof.Rows L2

/-! ### properties and methods of instances of several classes -/
def tPropA (P : Program) (w : World) (K : PySem.W.Frag) (mg : Str → Option Value) (base : Heap) (k : Nat) (nm : Str) (ta : TE) : TE := fun σ H Q => ta σ H fun x H1 => ∃ (a D dx : Addr) (fs : List (Str × V)) (p g : Addr) (fd : FuncData) (sp : Sp),
  x = .ref a ∧ H1 a = some (.ins D dx fs) ∧ Cls K D ∧ PropOf K D nm p g ∧ FnOk P w K mg base CX0 k g fd ["self"] sp ∧ Binds K fd ["self"] [] ∧ sp [.ref a] H1 Q E0
def tMethA (P : Program) (w : World) (K : PySem.W.Frag) (mg : Str → Option Value) (base : Heap) (k : Nat) (m : Str) (ta : TE) : TE := fun σ H Q => ta σ H fun x H1 => ∃ (a D dx : Addr) (fs : List (Str × V)) (g : Addr) (fd : FuncData) (sp : Sp),
  x = .ref a ∧ H1 a = some (.ins D dx fs) ∧ fs.lookup m = none ∧ Cls K D ∧ Meth K D m g ∧ FnOk P w K mg base CX0 k g fd ["self"] sp ∧ Binds K fd ["self"] [] ∧ sp [.ref a] H1 Q E0
section
variable {X : Cx} {k : Nat} {f m : Str} {e o : Expr} {pos apos : Pos} {ta : TE}
theorem pe_propA (he : PE X e ta) (hr : Room (k + 1) X.A) (hab : attributeBase e f X.env (eval e X.env) = eval e X.env) : PE X (.Attribute e f pos) (tPropA X.prog X.w X.K X.mg X.base k f ta) := by
  refine ⟨fun pins s σ H Q I h => ?_⟩
  refine attr_of hab (thn (he.run pins s σ H _ I h) fun u s1 ⟨x, H1, I1, rx, a, D, dx, fs, p, g, fd, sp, ex, ea, c, hp, F, hb, q⟩ => ?_)
  subst ex
  obtain rfl : u = Value.ref a := rx
  exact getprop_ok (ds := []) (dvs := []) I1 ea c hp F hr hb .nil pass0 q
theorem pe_methA {pl : Sem Bool} (he : PE X o ta) (hr : Room k X.A)
    (ht : eval (.Call (.Attribute o m apos) [] [] pos) X.env = (do
      let ov ← eval o X.env
      standAt apos.atName
      let (f, first) ← holding [ov] (getMethod ov m pl)
      callWith pos f first (backTo pos (starEach [] X.env)) (backToKw pos (keywordEach [] X.env))) := by rfl) :
    PE X (.Call (.Attribute o m apos) [] [] pos) (tMethA X.prog X.w X.K X.mg X.base k m ta) := by
  refine ⟨fun pins s σ H Q I h => ?_⟩
  refine PySem.W.methodCall_KW (pl := pl) (thn (he.run pins s σ H _ I h) fun u s1 ⟨x, H1, I1, rx, a, D, dx, fs, g, fd, sp, ex, ea, l, c, hm, F, hb, q⟩ => ?_) ht
  subst ex
  obtain rfl : u = Value.ref a := rx
  refine getmeth_ok I1 ea c hm l ?_
  exact PySem.W.callWith_K0 (first := [.ref a]) I1.kIn hm.kp (run_fn (E := E0) (ds := []) (dvs := []) (us := [.ref a]) (vs := [.ref a]) F hr hb .nil pass0 I1 (.cons rfl .nil) q)
end

/-! ### digits -/
/-- a digit's kind (0: unused, 1: straight, 2: turned), radix and factor -/
structure M3 where
  k : Nat
  r : Es
  f : Es
deriving DecidableEq
def nmD : Nat → Str
  | 0 => "Unused"
  | 1 => "Straight"
  | _ => "Turned"
def wayD : Nat → Str
  | 0 => "unused"
  | 1 => "straight"
  | _ => "turned"
def dT (m : M3) : Str := match m.k with
  | 0 => uT m.r
  | 1 => sT "Straight(" m.r m.f
  | _ => sT "Turned(" m.r m.f
def DgAt (C : Addr) (cl : Nat → Addr) (H : Hp) (p : Addr) (m : M3) : Prop := (m.k = 0 ∧ m.f = [] ∧ DgU C (cl 0) H p m.r) ∨ ((m.k = 1 ∨ m.k = 2) ∧ DgS C (cl m.k) H p m.r m.f)
theorem DgAt.same {C p : Addr} {cl : Nat → Addr} {m : M3} {H H' : Hp} (h : DgAt C cl H p m) (S : Same H H') : DgAt C cl H' p m :=
  h.imp (fun ⟨a, b, c⟩ => ⟨a, b, c.same S⟩) fun ⟨a, c⟩ => ⟨a, c.same S⟩
theorem DgAt.lt {C p : Addr} {cl : Nat → Addr} {m : M3} {H : Hp} (h : DgAt C cl H p m) : m.k < 3 := by
  rcases h with ⟨a, _⟩ | ⟨a | a, _⟩ <;> omega
/-- its object, its radix and what stands for its factor -/
theorem DgAt.obj {C p : Addr} {cl : Nat → Addr} {m : M3} {H : Hp} (h : DgAt C cl H p m) : ∃ dx q o, H p = some (.ins (cl m.k) dx (fld2 (.ref q) o)) ∧ SizeAt C H q m.r ∧ ((m.k = 0 ∧ o = .non) ∨ (m.k ≠ 0 ∧ ∃ q2, o = .ref q2 ∧ SizeAt C H q2 m.f)) := by
  rcases h with ⟨a, b, dx, q, h1, h2⟩ | ⟨a, dx, q, u, h1, h2, h3⟩
  · exact ⟨dx, q, .non, by rw [a]; exact h1, h2, .inl ⟨a, rfl⟩⟩
  · exact ⟨dx, q, .ref u, h1, h2, .inr ⟨by omega, u, rfl, h3⟩⟩
/-- what stands of the classes of digits -/
structure Dall (P : Program) (w : World) (K : PySem.W.Frag) (mg : Str → Option Value) (base : Heap) (C DD : Addr) (cl : Nat → Addr) : Prop where
  sz : Se P w K mg base C
  dq : ∀ i, i < 3 → Dq K mg (nmD i) (cl i)
  rad : ∀ i, i < 3 → ∃ p g fd, PropOf K (cl i) "radix" p g ∧ FnOk P w K mg base CX0 1 g fd ["self"] (spRad K) ∧ Binds K fd ["self"] []
  fac0 : ∃ p g fd, PropOf K (cl 0) "factor" p g ∧ FnOk P w K mg base CX0 1 g fd ["self"] spFac0 ∧ Binds K fd ["self"] []
  fac : ∀ i, i = 1 ∨ i = 2 → ∃ p g fd, PropOf K (cl i) "factor" p g ∧ FnOk P w K mg base CX0 1 g fd ["self"] (spFac K) ∧ Binds K fd ["self"] []
  trn0 : ∃ f fd, Meth K (cl 0) "turned" f ∧ FnOk P w K mg base CX0 1 f fd ["self"] spSelf ∧ Binds K fd ["self"] []
  trn : ∀ i, i = 1 ∨ i = 2 → ∃ f fd, Meth K (cl i) "turned" f ∧ FnOk P w K mg base CX0 4 f fd ["self"] (spTurn K C (cl i) (cl (3 - i))) ∧ Binds K fd ["self"] []
  eq0 : ∃ f fd, FnOk P w K mg base CX0 2 f fd ["self", "other"] (spEqU K C (cl 0)) ∧ PySem.W.findIn K (.ref (cl 0)) "__eq__" = some (some (.ref f)) ∧ PySem.W.isFn K (.ref f) = true ∧ Binds K fd ["self", "other"] []
  eq : ∀ i, i = 1 ∨ i = 2 → ∃ f fd, FnOk P w K mg base CX0 2 f fd ["self", "other"] (spEqD K C (cl i)) ∧ PySem.W.findIn K (.ref (cl i)) "__eq__" = some (some (.ref f)) ∧ PySem.W.isFn K (.ref f) = true ∧ Binds K fd ["self", "other"] []
  rp0 : ∃ f fd, FnOk P w K mg base CX0 6 f fd ["self"] (spRepU C (cl 0)) ∧ PySem.W.findIn K (.ref (cl 0)) "__repr__" = some (some (.ref f)) ∧ PySem.W.isFn K (.ref f) = true ∧ Binds K fd ["self"] []
  rp1 : ∃ f fd, FnOk P w K mg base CX0 6 f fd ["self"] (spRepD "Straight(" C (cl 1)) ∧ PySem.W.findIn K (.ref (cl 1)) "__repr__" = some (some (.ref f)) ∧ PySem.W.isFn K (.ref f) = true ∧ Binds K fd ["self"] []
  rp2 : ∃ f fd, FnOk P w K mg base CX0 6 f fd ["self"] (spRepD "Turned(" C (cl 2)) ∧ PySem.W.findIn K (.ref (cl 2)) "__repr__" = some (some (.ref f)) ∧ PySem.W.isFn K (.ref f) = true ∧ Binds K fd ["self"] []
  way : ∀ i, i < 3 → ∃ u, Con K (cl i) "WAY" (.str (wayD i)) u
  ne : ∀ i, i < 3 → PySem.W.findIn K (.ref (cl i)) "__ne__" = some (some (.builtin "object.__ne__"))
  nf : ∀ i j, i < 3 → j < 3 → PySem.W.notFirst K (cl i) (.ref (cl j)) = true
  kt : ∀ i j, i < 3 → j < 3 → i ≠ j → PySem.W.kitOne K (.ref (cl i)) (.ref (cl j)) = some false
  kd : ∀ i, i < 3 → PySem.W.kitOne K (.ref (cl i)) (.ref DD) = some true
  gD : mg "Digit" = some (.ref DD)
  new0 : ∃ f fd, Mk K (cl 0) f ∧ FnOk P w K mg base CX0 2 f fd ["self", "radix"] (spUI C (cl 0)) ∧ Binds K fd ["self", "radix"] []
  new : ∀ i, i = 1 ∨ i = 2 → ∃ f fd, Mk K (cl i) f ∧ FnOk P w K mg base CX0 2 f fd ["self", "radix", "factor"] (spSI C (cl i)) ∧ Binds K fd ["self", "radix", "factor"] []
section
variable {P : Program} {w : World} {K : PySem.W.Frag} {mg : Str → Option Value} {base : Heap} {C DD : Addr} {cl : Nat → Addr} {σ : L2.St} {H : Hp} {ta : TE} {p : Addr} {m : M3}
theorem Dall.ne_cl (a : Dall P w K mg base C DD cl) {i j : Nat} (hi : i < 3) (hj : j < 3) (h : cl i = cl j) : i = j := by
  by_cases e : i = j
  · exact e
  · have z := a.kt i j hi hj e
    rw [h] at z
    unfold PySem.W.kitOne at z
    rw [if_pos (by simp)] at z
    cases z
/-- the radix of the digit in a slot -/
theorem rd_radV {i : Nat} (a : Dall P w K mg base C DD cl) {Q : VK} (hi : σ[i]? = some (some (.ref p))) (h : DgAt C cl H p m) (k : ∀ q, SizeAt C H q m.r → Q (.ref q) H) : tPropA P w K mg base 1 "radix" (tVar i) σ H Q := by
  obtain ⟨dx, q, o, h1, h2, _⟩ := h.obj
  obtain ⟨pp, g, fd, hp, F, hb⟩ := a.rad m.k h.lt
  exact ⟨_, hi, p, _, dx, _, pp, g, fd, _, rfl, h1, (a.dq m.k h.lt).cl, hp, F, hb, p, _, dx, _, o, rfl, h1, (a.dq m.k h.lt).toDf, k q h2⟩
/-- the other way -/
def M3.turn (m : M3) : M3 := ⟨if m.k = 0 then 0 else 3 - m.k, m.r, m.f⟩
theorem rd_trnV {i : Nat} (a : Dall P w K mg base C DD cl) {Q : VK} (hi : σ[i]? = some (some (.ref p))) (h : DgAt C cl H p m) (k : ∀ H' r, Same H H' → DgAt C cl H' r m.turn → Q (.ref r) H') : tMethA P w K mg base 4 "turned" (tVar i) σ H Q := by
  obtain ⟨dx, q, o, h1, h2, h3⟩ := h.obj
  have hl := h.lt
  rcases h3 with ⟨e, rfl⟩ | ⟨e, q2, rfl, h3⟩
  · obtain ⟨g, fd, hm, F, hb⟩ := a.trn0
    rw [e] at h1
    refine ⟨_, hi, p, _, dx, _, g, fd, _, rfl, h1, rfl, (a.dq 0 (by decide)).cl, hm, F.mono (by decide), hb, .ref p, rfl, k H p (Same.refl H) ?_⟩
    have em : m.turn = m := by
      unfold M3.turn
      rw [if_pos e]
      rcases m with ⟨mk, mr, mf⟩
      dsimp only at e
      rw [e]
    rw [em]
    exact h
  · have e12 : m.k = 1 ∨ m.k = 2 := by omega
    obtain ⟨g, fd, hm, F, hb⟩ := a.trn m.k e12
    obtain ⟨d1, D1, y1, _⟩ := id h2
    obtain ⟨d2, D2, y2, _⟩ := id h3
    refine ⟨_, hi, p, _, dx, _, g, fd, _, rfl, h1, rfl, (a.dq m.k hl).cl, hm, F, hb, p, q, q2, dx, _, _, _, _, rfl, h1, y1, y2, fun r dr nr nd ne => ?_⟩
    have S : Same H (upd (upd H dr (.own r)) r (.ins (cl (3 - m.k)) dr (fld2 (.ref q) (.ref q2)))) := fun b u e => by
      rw [upd_ne (ne_of_none e nr), upd_ne (ne_of_none e nd)]
      exact e
    refine k _ r S (.inr ?_)
    unfold M3.turn
    rw [if_neg e]
    dsimp only
    exact ⟨by omega, dr, q, q2, upd_same, h2.same S, h3.same S⟩
end
end K54
set_option maxHeartbeats 8000000
/-! ### enumerate(t), t a tuple -/
namespace PySem
open Sem (wp)
set_option maxHeartbeats 1000000 in
theorem k54_meets_enum {v : Value} {o : Obj} {U : Heap → Prop} (B : Begins v o U) :
    Meets (Builtin.«enumerate.__new__» ⟨[.type "enumerate", v], []⟩) (fun _ R s => U s.heap ∧
      R (.ok (.ret (.ref (s.heap.push o).objs.size))) { s with heap := (s.heap.push o).push { cls := .type "enumerate", data := .fields #[.none, .bool false, .ref s.heap.objs.size, rawInt 0, .none, .none] } }) :=
  .of_wp fun prog w A R s h => by
    obtain ⟨hp, g, dr, tk, os⟩ := s
    obtain ⟨h1, h⟩ := h
    have hsub := sub_enumerate
    have q1 : ∀ {A' : Around} {E : Value → Shared → Prop} {Q : Value → Shared → Prop}, Q (.ref hp.objs.size) ⟨hp.push o, g, dr, tk, os⟩ → wpAny (model prog w) A' (pyIter v) Q E ⟨hp, g, dr, tk, os⟩ := fun q => B.iter prog w _ _ ⟨hp, g, dr, tk, os⟩ _ h1 q
    wp_walk using q1
    refine wpAny_stack_any fun st => wpAny_pure ?_
    split
    · rename_i c _ _ _ _ _
      cases (c == Value.type "enumerate") <;> (wp_walk using q1; exact ⟨_, rfl, h⟩)
    · wp_walk using q1
      exact ⟨_, rfl, h⟩
theorem k54_call_enum {prog : Program} {w : World} {A : Around} {E : Value → Shared → Prop} {s : Shared} {v : Value} {o : Obj} {U : Heap → Prop} {Q : Value → Shared → Prop} (B : Begins v o U) (h1 : U s.heap)
    (h : ∀ h', IsEnum h' (s.heap.objs.size + 1) s.heap.objs.size 0 .none → h'.get? s.heap.objs.size = some o → (∀ b o, s.heap.get? b = some o → h'.get? b = some o) → Q (.ref (s.heap.objs.size + 1)) { s with heap := h' }) :
    wpAny (model prog w) A (call (.type "enumerate") [v]) Q E s := by
  refine callType_new F.called_enumerate (by decide) (F.typeCall_enumerate_1 _) (F.newCall_enumerate_1 _) (fun obj => F.args_object_init_2 obj _) F.entry_enumerate_new (k54_meets_enum B) ⟨h1, ?_⟩
  have hz : (s.heap.push o).objs.size = s.heap.objs.size + 1 := Heap.size_push ..
  show _ ∧ _
  rw [hz]
  have he : IsEnum ((s.heap.push o).push { cls := .type "enumerate", data := .fields #[.none, .bool false, .ref s.heap.objs.size, rawInt 0, .none, .none] }) (s.heap.objs.size + 1) s.heap.objs.size 0 .none := by
    have q := Heap.get?_push_size (s.heap.push o) (o := { cls := .type "enumerate", data := .fields #[.none, .bool false, .ref s.heap.objs.size, rawInt 0, .none, .none] }) rfl
    rw [hz] at q
    exact q
  exact ⟨⟨_, he, rfl⟩, h _ he (Heap.get?_push_of_some _ (Heap.get?_push_size _ B.free)) fun b o x => Heap.get?_push_of_some _ (Heap.get?_push_of_some _ x)⟩
theorem k54_enum_end {prog : Program} {w : World} {A : Around} {E : Value → Shared → Prop} {s : Shared} {e it a : Addr} {items : Array Value} {j : Nat} {i : Int} {old : Value} {Q : Option Value → Shared → Prop} (hh : A.handled = none)
    (he : IsEnum s.heap e it i old) (hit : s.heap.IsTupleIter it a j) (ht : s.heap.IsTuple a items) (hx : items[j]? = none) (hQ : ∀ h', Heap.ExtBut it s.heap h' → Q none { s with heap := h' }) : wpAny (model prog w) A (pyNext (.ref e)) Q E s := by
  have hT : s.TypeIs (.ref e) "enumerate" := ⟨_, he, rfl⟩
  unfold pyNext
  refine wpAny_bind (wpAny_attempt (wpAny_callSpecial?_slot (name := Str.ofString "__next__") hT F.slot_enumerate_next
    (wpAny_call_entry F.slot_enumerate_next hT F.entry_enumerate_next ?_ (F.args_enumerate_next_1 _))))
  show wpAny _ _ (field (.ref e) 2 >>= _) _ _ _
  refine wpAny_bind (wpAny_field he rfl (x := .ref it) rfl ?_)
  refine wpAny_bind (wpAny_nextOf_tuple_end (A := A.in1) hh hit ht hx fun h' x he' hx' => ?_)
  obtain ⟨o, ho, hc⟩ := hx'
  refine wpAny_bind (wpAny_isInstance (T := "StopIteration") (b := true) ⟨o, ho, hc⟩ isSubtype_stop ?_)
  exact wpAny_pure (hQ _ he')
end PySem
namespace K54
open PySem PySem.Spec PyProof.Rows L2
/-- the tuple at a, each item in a new pair -/
def IteT (K : PySem.W.Frag) (a : Addr) : It :=
  ⟨fun i H => ∃ (xs : List V) (x : V), SqT K H a xs ∧ xs[i]? = some x, fun i H v H' => ∃ T x, v = .ref T ∧ H T = none ∧ H' = upd H T (.tup [.int (i : Nat), x]) ∧ ∀ xs, SqT K H a xs → xs[i]? = some x, fun i H => ∃ xs : List V, SqT K H a xs ∧ xs.length ≤ i⟩
theorem turn_enumT {P : Program} {w : World} {K : PySem.W.Frag} {elts : List Expr} {kk : Nat} {tpos : Pos} (a e it : Addr) :
    Turn P w K (.Tuple elts kk tpos) (IteT K a) [e, it] e (fun i h => (∃ old, IsEnum h e it ((i : Nat) : Int) old) ∧ h.IsTupleIter it a i ∧ e ≠ it ∧ a ≠ e ∧ a ≠ it) where
  mem := by simp
  obj := fun i h st b hb => by
    obtain ⟨⟨old, he⟩, ⟨o, ho, hc, hd⟩, _⟩ := st
    have e' : b = e ∨ b = it := by simpa using hb
    rcases e' with z | z
    · rw [z]; exact ⟨_, he, fun v q => nomatch q⟩
    · rw [z]; exact ⟨o, ho, fun v q => by rw [hd] at q; cases q⟩
  keep := fun i h h' st k => let ⟨⟨old, he⟩, hi, hne⟩ := st; ⟨⟨old, k e (by simp) _ he⟩, hi.at fun o q => k it (by simp) o q, hne⟩
  item := by
    intro X hP hw hK hc i pins s σ H E I hf st hg
    subst hP hw hK
    obtain ⟨⟨old, he⟩, hit, hne, n1, n2⟩ := st
    obtain ⟨xs, x, hq, hx⟩ := hg
    obtain ⟨its, rv, p, hz⟩ := I.tuple hq
    obtain ⟨u, hu, ru⟩ := rv.get hx
    have hel : e < s.heap.objs.size := Heap.lt_size he
    have hil : it < s.heap.objs.size := by obtain ⟨_, q, _⟩ := hit; exact Heap.lt_size q
    have hil2 : i < its.toArray.size := by
      have := (List.getElem?_eq_some_iff.mp hu).1
      simpa using this
    refine wpAny_pyNext_enum_itemD (Draws.tuple (A := X.A.in1) (show X.A.in1.handled = none from I.ok.hd hc) it a n2 its.toArray) he ⟨hit, (show s.heap.IsTuple a its.toArray from p)⟩ hil2 hne (by simp [hne, Ne.symm n1]) fun y h' tk hy ho hit' hT hsz hk => ?_
    obtain rfl : u = y := by
      have z : its.toArray[i]? = some u := by simpa using hu
      rw [z] at hy
      exact Option.some.inj hy
    refine ⟨_, rfl, wpAny_letOwnedTupleGo_enum (s := { s with heap := h', toks := tk + 1 }) ho fun h'' he' sb => ?_⟩
    have hT2 : h''.get? s.heap.objs.size = some { cls := .type "tuple", data := .seq #[.int i tk, u] } := (sb.2 _ (Nat.ne_of_gt hel)).trans hT
    have new : ObjOk X.prog X.w (upd H s.heap.objs.size (.tup [.int (i : Nat), x])) h'' s.heap.objs.size (.tup [.int (i : Nat), x]) :=
      ⟨by show 2 ≤ sizeLine; decide, [.int i tk, u], .cons ⟨_, rfl⟩ (.cons ru .nil), ⟨_, hT2, rfl, _, rfl⟩⟩
    have I1 : Inv X pins σ (upd H s.heap.objs.size (.tup [.int (i : Nat), x])) { s with heap := h'', toks := tk + 1 } :=
      I.turnedNew (ch := [e, it]) (fun b ob hb q => (sb.2 b (fun z => hb (by simp [z]))).trans (hk b ob (fun z => hb (by simp [z])) (fun z => hb (by simp [z])) q)) hf (Nat.le_refl _) new
    refine ⟨.ref s.heap.objs.size, _, I1, rfl, ⟨_, x, rfl, I.hok.fresh (Nat.le_refl _), rfl, fun ys hy => by rw [I.tuple_inj hy hq]; exact hx⟩, ⟨⟨u, ?_⟩, hit'.1.at fun o q => (sb.2 it (Ne.symm hne)).trans q, hne, n1, n2⟩, fun b hb => ?_⟩
    · have e1 : ((i + 1 : Nat) : Int) = (i : Int) + 1 := by omega
      rw [e1]; exact he'
    · have hb' : b < s.heap.objs.size := by
        have e' : b = e ∨ b = it := by simpa using hb
        rcases e' with z | z
        · rw [z]; exact hel
        · rw [z]; exact hil
      rw [upd_ne (Nat.ne_of_lt hb')]
      exact (hf b hb).1
  done := by
    intro X hP hw hK hc i pins s σ H E I hf st hg
    subst hP hw hK
    obtain ⟨⟨old, he⟩, hit, hne, n1, n2⟩ := st
    obtain ⟨xs, hq, hx⟩ := hg
    obtain ⟨its, rv, p, hz⟩ := I.tuple hq
    have hl := rv.length
    obtain ⟨f0, f1, f2, f3, f4, f5⟩ := hf it (by simp)
    exact k54_enum_end (I.ok.hd hc) he hit (show s.heap.IsTuple a its.toArray from p) (by simp; omega) fun h' eb => ⟨rfl, I.turned (t' := s.toks) (fun b o hb q => eb b o hb q) f0 f1 f3 f4 f5⟩
  self := fun A i s Q E st h => let ⟨⟨_, he⟩, _⟩ := st; wpAny_pyIter_enum he h
def iEnumT (K : PySem.W.Frag) (ta : TA) : TI := fun σ H R => ta σ H fun vs H1 => ∃ a xs, vs = [.ref a] ∧ SqT K H1 a xs ∧ R (IteT K a) H1
theorem pi_enumT {X : Cx} {e : Expr} {ta : TA} {p pos tpos : Pos} {elts : List Expr} {kk : Nat} (hg : Gl X "enumerate") (hm : X.mg "enumerate" = none) (ha : PA X [e] ta) (hs : starEach [e] X.env = [(false, eval e X.env)] := by rfl) :
    PI X (.Tuple elts kk tpos) (.Call (.Name "enumerate" p) [e] [] pos) (iEnumT X.K ta) := by
  refine ⟨fun pins s σ H R I h => ?_⟩
  refine Call_ (ld_blt I hg hm boot_enumerate (PyProof.Rows.callWith_type1 (thn (ha.run pos pins s σ H _ I h) fun us s1 ⟨vs, H1, I1, r1, q1⟩ => ?_) hs rfl))
  obtain ⟨a, xs, ex, hq, q⟩ := q1
  subst ex
  cases r1 with
  | cons r rr =>
    cases rr
    cases r
    obtain ⟨its, rv, p', hz⟩ := I1.tuple hq
    have hal : a < s1.heap.objs.size := by
      obtain ⟨o, ho, _⟩ := (show s1.heap.IsTuple a its.toArray from p')
      exact Heap.lt_size ho
    refine k54_call_enum (begins_tuple a its.toArray) (show s1.heap.IsTuple a its.toArray from p') fun h' he hit hk => wpAny_pyIter_enum he ?_
    have I2 : Inv X pins σ H1 { s1 with heap := h' } := I1.kept (t' := s1.toks) hk
    refine ⟨s1.heap.objs.size + 1, [s1.heap.objs.size + 1, s1.heap.objs.size], _, _, H1, rfl, I2, turn_enumT a (s1.heap.objs.size + 1) s1.heap.objs.size, ⟨⟨.none, he⟩, ⟨_, hit, rfl, rfl⟩, Nat.succ_ne_self _, Nat.ne_of_lt (Nat.lt_succ_of_lt hal), Nat.ne_of_lt hal⟩, fun b hb => ?_, q⟩
    have e' : b = s1.heap.objs.size + 1 ∨ b = s1.heap.objs.size := by simpa using hb
    have hle : s1.heap.objs.size ≤ b := by
      rcases e' with z | z
      · rw [z]; exact Nat.le_add_right _ _
      · rw [z]; exact Nat.le_refl _
    exact I1.fpOk hle (I1.hok.fresh hle)
theorem walk_enumT {K : PySem.W.Frag} {a : Addr} {xs : List V} : Walk (IteT K a) xs.length (fun H => SqT K H a xs) (YPair (fun i => some (.int (i : Nat))) (fun i => xs[i]?)) := by
  refine ⟨fun i _ hi q => ⟨xs, xs[i], q, by simp [hi]⟩, fun _ q => ⟨xs, q, Nat.le_refl _⟩, fun i H v H' _ q y => ?_⟩
  obtain ⟨T, x, h1, h2, h3, h4⟩ := y
  exact ⟨T, .int (i : Nat), x, h1, h2, h3, rfl, h4 xs q⟩
end K54
set_option maxHeartbeats 8000000
namespace K54
open PySem PySem.Spec PyProof.Rows L2

/-! ### is_list, Row.__init__ */ -/
abbrev sIsL : Stmt := top 17
abbrev sRwI : Stmt := inClass (top 56) 0
/-- a list or a tuple -/
def SqX (K : PySem.W.Frag) (H : Hp) (l : Addr) (xs : List V) : Prop := H l = some (.lst xs) ∨ SqT K H l xs
theorem SqX.same {K : PySem.W.Frag} {H H' : Hp} {l : Addr} {xs : List V} (h : SqX K H l xs) (S : Same H H') : SqX K H' l xs :=
  h.imp (fun e => S _ _ e) fun e => e.imp (fun e => e.imp (fun e => S _ _ e) fun ⟨o, e⟩ => ⟨o, S _ _ e⟩) fun e => e
theorem sqT_same {K : PySem.W.Frag} {H H' : Hp} {l : Addr} {xs : List V} (S : Same H H') (h : SqT K H l xs) : SqT K H' l xs := h.imp (fun e => e.imp (fun e => S _ _ e) fun ⟨o, e⟩ => ⟨o, S _ _ e⟩) fun e => e
theorem tyx_sqT {K : PySem.W.Frag} {H : Hp} {l : Addr} {xs : List V} (h : SqT K H l xs) : TyX K H (.ref l) (.type "tuple") := by
  rcases h with (h | ⟨o, h⟩) | ⟨o, its, n, hk, hc, _⟩
  · exact .base (.tup h)
  · exact .fTuple h
  · exact .kTuple hk hc
def spIsL (K : PySem.W.Frag) : Sp := fun vs H Q _ => ∃ (l : Addr) (xs : List V), vs = [.ref l] ∧ SqX K H l xs ∧ ∀ H', Same H H' → Q (.bl true) H'
structure Rwf (K : PySem.W.Frag) (CR : Addr) : Prop where
  cl : Cls K CR
  nd : NoAttr K CR "_digits"
def spRwI (K : PySem.W.Frag) (C CR : Addr) (cl : Nat → Addr) : Sp := fun vs H Q _ => ∃ (x dx l : Addr) (ps : List Addr) (ms : List M3), vs = [.ref x, .ref l] ∧ H x = some (.ins CR dx []) ∧ SqX K H l (ps.map V.ref) ∧ Paired (DgAt C cl H) ps ms ∧
  ∀ H' L, (∀ b o, b ≠ x → H b = some o → H' b = some o) → H L = none → H' L = some (.lst (ps.map V.ref)) → H' x = some (.ins CR dx [("_digits", .ref L)]) → Q .non H'
def NRwI : List Str := ["self", "digits", "position", "digit"]
theorem kit_any1 {K : PySem.W.Frag} : PySem.W.kitAny K (.type "list") [.type "list", .type "tuple"] = some true := by
  unfold PySem.W.kitAny
  rw [kit_ty (a := "list") (b := "list") (r := true) (by decide +kernel)]
theorem kit_any2 {K : PySem.W.Frag} : PySem.W.kitAny K (.type "tuple") [.type "list", .type "tuple"] = some true := by
  unfold PySem.W.kitAny
  rw [kit_ty (a := "tuple") (b := "list") (r := false) (by decide +kernel)]
  unfold PySem.W.kitAny
  rw [kit_ty (a := "tuple") (b := "tuple") (r := true) (by decide +kernel)]
section
variable {P : Program} {w : World} {K : PySem.W.Frag} {mg : Str → Option Value} {base : Heap} {C DD CR : Addr} {cl : Nat → Addr}
theorem scIsL : FnScope ["value"] ["value"] (defScope sIsL) :=
  ⟨rfl, rfl, rfl, by decide +kernel, rfl, by decide +kernel, by decide +kernel⟩
theorem ok_isl {f : Addr} {fd : FuncData} (F : Fun K "is_list" "is_list" sIsL f fd) (T : Nk mg) (lN : mg "list" = none) (tN : mg "tuple" = none) : FnOk P w K mg base CX0 1 f fd ["value"] (spIsL K) := by
  refine F.ok scIsL (fun vs H Q E h => ?_) (fun cdv A outer s H vs Q E hr h => ?_)
  · obtain ⟨l, xs, rfl, _⟩ := h
    rfl
  · obtain ⟨l, xs, rfl, hl, q⟩ := h
    refine ⟨_, pss_one (ps_ret (pe_callB call_isiT (by rfl) T.isi (by decide +kernel) (pa_cons (pv 0) (pa_cons (pe_tup (pa_cons (pe_bltn (v := .ty "list") (u := .type "list") (by rfl) lN (by decide +kernel) rfl)
      (pa_cons (pe_bltn (v := .ty "tuple") (u := .type "tuple") (by rfl) tN (by decide +kernel) rfl) pa_nil))) pa_nil)))), ?_⟩
    refine ⟨_, rfl, by rw [sizeLine_eq]; show 2 ≤ 16777216; decide, fun T nT => ?_⟩
    have S1 := fresh_upd (o := .tup [V.ty "list", V.ty "tuple"]) nT
    rcases hl.same S1 with h | h
    · exact ⟨.ref l, T, _, .type "list", [.type "list", .type "tuple"], true, rfl, upd_same, .cons (.ty _) (.cons (.ty _) .nil), .base (.lst h), kit_any1, q _ S1⟩
    · exact ⟨.ref l, T, _, .type "tuple", [.type "list", .type "tuple"], true, rfl, upd_same, .cons (.ty _) (.cons (.ty _) .nil), tyx_sqT h, kit_any2, q _ S1⟩
theorem scRwI : FnScope NRwI ["self", "digits"] (defScope sRwI) :=
  ⟨rfl, rfl, rfl, by decide +kernel, rfl, by decide +kernel, by decide +kernel⟩
theorem ok_rwI {f fL : Addr} {fd fdL : FuncData} {dv : V} (F : FnD K "__init__" "Row.__init__" sRwI [dv] f fd) (T : Nk mg) (eN : mg "enumerate" = none) (lN : mg "list" = none) (a : Dall P w K mg base C DD cl) (c : Rwf K CR)
    (GL : FnOk P w K mg base CX0 1 fL fdL ["value"] (spIsL K)) (kL : PySem.W.keepIn K (.ref fL) = true) (bL : Binds K fdL ["value"] []) (gL : mg "is_list" = some (.ref fL)) :
    FnOk P w K mg base CX0 2 f fd ["self", "digits"] (spRwI K C CR cl) := by
  refine F.ok scRwI (fun vs H Q E h => ?_) (fun cdv A outer s H vs Q E hr h => ?_)
  · obtain ⟨x, dx, l, ps, ms, rfl, _⟩ := h
    rfl
  · obtain ⟨x, dx, l, ps, ms, rfl, hx, hl, hz, k⟩ := h
    rcases hl with hl | hl
    · refine ⟨_, PSs.nox (pss_cons (ps_if (pt_not (pt_val (pe_call GL hr rfl gL kL bL .nil pass0 (pa_cons (pv 1) pa_nil)))) (pss_one ps_no) pss_nil)
        (pss_cons (ps_for PassesOwn.never rfl (pi_enum (by rfl) eN (pa_cons (pv 1) pa_nil)) (pg_tup rfl (pgs_cons (pg_name (i := 2) scRwI.nd rfl (Or.inl rfl)) (pgs_cons (pg_name (i := 3) scRwI.nd rfl (Or.inl rfl)) pgs_nil)))
          (pss_one (ps_if (pt_not (pt_val (pe_callB call_isi (by rfl) T.isi (by decide +kernel) (pa_cons (pv 3) (pa_cons (pe_glob (v := .ref DD) (by rfl) a.gD rfl) pa_nil))))) (pss_one ps_no) pss_nil)))
        (pss_one (ps_fld (pv 0) (pe_callTy call_list_of (by rfl) lN (by decide +kernel) (pa_cons (pv 1) pa_nil)) rfl)))), ?_⟩
      refine ⟨_, rfl, l, _, rfl, .inl hl, fun H1 S1 => ⟨_, rfl, iteF ?_⟩⟩
      refine ⟨_, rfl, l, _, rfl, SqL.of (S1 _ _ hl), for_it (walk_enum (K := K) (a := l) (xs := ps.map V.ref)) (fun i σ H2 => (∃ o2 o3, σ = [some (.ref x), some (.ref l), o2, o3]) ∧ Same H H2)
        ⟨⟨none, none, rfl⟩, S1⟩ (fun i σ H2 _ h => SqL.of (h.2 _ _ hl)) ?_ ?_⟩
      · rintro i v σ H9 H2 hi ⟨⟨o2, o3, rfl⟩, S2⟩ ⟨U, y, z, rfl, nU, rfl, e1, e2⟩
        rw [List.length_map] at hi
        have ez : z = V.ref ps[i] := by
          dsimp only at e2
          rw [List.getElem?_map, List.getElem?_eq_getElem hi] at e2
          exact (Option.some.inj e2).symm
        subst ez
        have S3 := fresh_upd (o := .tup [y, V.ref ps[i]]) nU
        obtain ⟨m, _, hm⟩ := pairedLX hz hi
        have hm3 := hm.same (S2.trans S3)
        obtain ⟨dy, q, o, h1, _, _⟩ := hm3.obj
        have c3 := a.dq m.k hm.lt
        refine ⟨U, _, rfl, SqT.of upd_same, rfl, _, _, rfl, _, _, rfl, rfl, ?_⟩
        exact ⟨_, rfl, _, _, _, _, true, rfl, .own _, .base (.ins h1 c3.cl c3.cc c3.cn c3.ct c3.co), a.kd m.k hm.lt, _, rfl, iteF ⟨⟨_, _, rfl⟩, S2.trans S3⟩⟩
      · rintro σ H2 ⟨⟨o2, o3, rfl⟩, S2⟩
        refine ⟨_, rfl, l, _, rfl, .inl (SqL.of (S2 _ _ hl)), fun L nL => ?_⟩
        have S3 := fresh_upd (o := .lst (ps.map V.ref)) nL
        have hx3 := S3 _ _ (S2 _ _ hx)
        refine ⟨_, rfl, x, CR, dx, [], rfl, hx3, c.cl, c.nd, by decide, ?_⟩
        have Lx : L ≠ x := fun z => by
          rw [z] at nL
          have := S2 _ _ hx
          rw [nL] at this
          cases this
        exact k _ L (fun b o hb e => (upd_ne hb).trans (S3 _ _ (S2 _ _ e))) (none_pre S2 nL) ((upd_ne Lx).trans upd_same) upd_same
    · refine ⟨_, PSs.nox (pss_cons (ps_if (pt_not (pt_val (pe_call GL hr rfl gL kL bL .nil pass0 (pa_cons (pv 1) pa_nil)))) (pss_one ps_no) pss_nil)
        (pss_cons (ps_for PassesOwn.never rfl (pi_enumT (by rfl) eN (pa_cons (pv 1) pa_nil)) (pg_tup rfl (pgs_cons (pg_name (i := 2) scRwI.nd rfl (Or.inl rfl)) (pgs_cons (pg_name (i := 3) scRwI.nd rfl (Or.inl rfl)) pgs_nil)))
          (pss_one (ps_if (pt_not (pt_val (pe_callB call_isi (by rfl) T.isi (by decide +kernel) (pa_cons (pv 3) (pa_cons (pe_glob (v := .ref DD) (by rfl) a.gD rfl) pa_nil))))) (pss_one ps_no) pss_nil)))
        (pss_one (ps_fld (pv 0) (pe_callTy call_list_of (by rfl) lN (by decide +kernel) (pa_cons (pv 1) pa_nil)) rfl)))), ?_⟩
      refine ⟨_, rfl, l, _, rfl, .inr hl, fun H1 S1 => ⟨_, rfl, iteF ?_⟩⟩
      refine ⟨_, rfl, l, _, rfl, sqT_same S1 hl, for_it (walk_enumT (K := K) (a := l) (xs := ps.map V.ref)) (fun i σ H2 => (∃ o2 o3, σ = [some (.ref x), some (.ref l), o2, o3]) ∧ Same H H2)
        ⟨⟨none, none, rfl⟩, S1⟩ (fun i σ H2 _ h => sqT_same h.2 hl) ?_ ?_⟩
      · rintro i v σ H9 H2 hi ⟨⟨o2, o3, rfl⟩, S2⟩ ⟨U, y, z, rfl, nU, rfl, e1, e2⟩
        rw [List.length_map] at hi
        have ez : z = V.ref ps[i] := by
          dsimp only at e2
          rw [List.getElem?_map, List.getElem?_eq_getElem hi] at e2
          exact (Option.some.inj e2).symm
        subst ez
        have S3 := fresh_upd (o := .tup [y, V.ref ps[i]]) nU
        obtain ⟨m, _, hm⟩ := pairedLX hz hi
        have hm3 := hm.same (S2.trans S3)
        obtain ⟨dy, q, o, h1, _, _⟩ := hm3.obj
        have c3 := a.dq m.k hm.lt
        refine ⟨U, _, rfl, SqT.of upd_same, rfl, _, _, rfl, _, _, rfl, rfl, ?_⟩
        exact ⟨_, rfl, _, _, _, _, true, rfl, .own _, .base (.ins h1 c3.cl c3.cc c3.cn c3.ct c3.co), a.kd m.k hm.lt, _, rfl, iteF ⟨⟨_, _, rfl⟩, S2.trans S3⟩⟩
      · rintro σ H2 ⟨⟨o2, o3, rfl⟩, S2⟩
        refine ⟨_, rfl, l, _, rfl, .inr (sqT_same S2 hl), fun L nL => ?_⟩
        have S3 := fresh_upd (o := .lst (ps.map V.ref)) nL
        have hx3 := S3 _ _ (S2 _ _ hx)
        refine ⟨_, rfl, x, CR, dx, [], rfl, hx3, c.cl, c.nd, by decide, ?_⟩
        have Lx : L ≠ x := fun z => by
          rw [z] at nL
          have := S2 _ _ hx
          rw [nL] at this
          cases this
        exact k _ L (fun b o hb e => (upd_ne hb).trans (S3 _ _ (S2 _ _ e))) (none_pre S2 nL) ((upd_ne Lx).trans upd_same) upd_same
end
end K54
set_option maxHeartbeats 8000000
namespace K54
open PySem PySem.Spec PyProof.Rows L2 TL

/-! ### rows: digits, len, ==, repr -/
def RowAt (CR C : Addr) (cl : Nat → Addr) (H : Hp) (p : Addr) (ms : List M3) : Prop := ∃ (dx L : Addr) (ps : List Addr), H p = some (.ins CR dx [("_digits", .ref L)]) ∧ H L = some (.lst (ps.map V.ref)) ∧ Paired (DgAt C cl H) ps ms
theorem dgs_same {C : Addr} {cl : Nat → Addr} {H H' : Hp} {ps : List Addr} {ms : List M3} (h : Paired (DgAt C cl H) ps ms) (S : Same H H') : Paired (DgAt C cl H') ps ms := Paired.mapP h fun _ _ e => e.same S
theorem RowAt.same {CR C p : Addr} {cl : Nat → Addr} {ms : List M3} {H H' : Hp} (h : RowAt CR C cl H p ms) (S : Same H H') : RowAt CR C cl H' p ms := by
  obtain ⟨dx, L, ps, h1, h2, h3⟩ := h
  exact ⟨dx, L, ps, S _ _ h1, S _ _ h2, dgs_same h3 S⟩
theorem kv_one : ∀ {es fs : Es}, kv es = kv fs → es = fs
  | [], [], _ => rfl
  | [], _ :: _, h => by cases h
  | _ :: _, [], h => by cases h
  | (a, i) :: r, (b, j) :: q, h => by
    unfold kv at h
    rw [List.map_cons, List.map_cons] at h
    injection h with h1 h2
    injection h1 with h3 h4
    have h5 : a = b := by
      have z := h3
      unfold ky at z
      first
        | injection z
        | simpa using z
    have h6 : i = j := by injection h4
    rw [h5, h6, kv_one (es := r) (fs := q) h2]
theorem size_one {C p : Addr} {H : Hp} {es fs : Es} (h : SizeAt C H p es) (g : SizeAt C H p fs) : es = fs := by
  obtain ⟨d1, D1, a1, a2, _⟩ := h
  obtain ⟨d2, D2, b1, b2, _⟩ := g
  rw [a1] at b1
  injection b1 with b1
  injection b1 with _ _ e
  injection e with e _
  injection e with _ e
  injection e with e
  subst e
  rw [a2] at b2
  injection b2 with b2
  injection b2 with b2
  exact kv_one b2
section
variable {P : Program} {w : World} {K : PySem.W.Frag} {mg : Str → Option Value} {base : Heap} {C DD CR : Addr} {cl : Nat → Addr}
theorem dg_one (a : Dall P w K mg base C DD cl) {H : Hp} {p : Addr} {m m' : M3} (h : DgAt C cl H p m) (h' : DgAt C cl H p m') : m = m' := by
  obtain ⟨dx, q, o, h1, h2, h3⟩ := h.obj
  obtain ⟨dx', q', o', h1', h2', h3'⟩ := h'.obj
  rw [h1] at h1'
  injection h1' with e
  injection e with e1 e2 e3
  have ek := a.ne_cl h.lt h'.lt e1
  unfold fld2 at e3
  have er : q = q' ∧ o = o' := by
    have z1 : (fld2 (.ref q) o).lookup ("_radix" : Str) = (fld2 (.ref q') o').lookup ("_radix" : Str) := congrArg _ e3
    have z2 : (fld2 (.ref q) o).lookup ("_factor" : Str) = (fld2 (.ref q') o').lookup ("_factor" : Str) := congrArg _ e3
    rw [lk_r, lk_r] at z1
    rw [lk_f, lk_f] at z2
    injection z1 with z1
    injection z1 with z1
    injection z2 with z2
    exact ⟨z1, z2⟩
  obtain ⟨rfl, rfl⟩ := er
  have hr := size_one h2 h2'
  obtain ⟨k, r, f⟩ := m
  obtain ⟨k', r', f'⟩ := m'
  dsimp only at *
  subst ek hr
  rcases h3 with ⟨k0, rfl⟩ | ⟨k0, q2, rfl, h3⟩
  · have f0 : f = [] := by
      rcases h with ⟨_, z, _⟩ | ⟨z, _⟩
      · exact z
      · dsimp only at z; omega
    have f1 : f' = [] := by
      rcases h' with ⟨_, z, _⟩ | ⟨z, _⟩
      · exact z
      · dsimp only at z; omega
    rw [f0, f1]
  · rcases h3' with ⟨k1, _⟩ | ⟨_, q3, e, h3'⟩
    · exact absurd k1 k0
    · injection e with e
      subst e
      rw [size_one h3 h3']
end
/-- two digits, compared -/
def DDg (C : Addr) (cl : Nat → Addr) : EqvB := fun x y H b => ∃ (p p' : Addr) (m m' : M3), x = .ref p ∧ y = .ref p' ∧ DgAt C cl H p m ∧ DgAt C cl H p' m' ∧ b = decide (m = m')
theorem mon_dg {C : Addr} {cl : Nat → Addr} : MonB (DDg C cl) := fun x y H H' b S ⟨p, p', m, m', e1, e2, h, h', e⟩ => ⟨p, p', m, m', e1, e2, h.same S, h'.same S, e⟩
theorem m3_ne {m m' : M3} (h : m.k ≠ m'.k) : decide (m = m') = false := decide_eq_false fun z => h (by rw [z])
theorem down {X : Cx} {C DD : Addr} {cl : Nat → Addr} (a : Dall X.prog X.w X.K X.mg X.base C DD cl) {H : Hp} {p p' : Addr} {m m' : M3} (h : DgAt C cl H p m) (h' : DgAt C cl H p' m') : DOwn X 2 (.ref p) (.ref p') H (decide (m = m')) := by
  have hid : p' = p → decide (m = m') = true := fun e => by
    subst e
    exact decide_eq_true (dg_one a h h')
  obtain ⟨dy, qy, oy, y1, _, _⟩ := id h'.obj
  have c' := a.dq m'.k h'.lt
  have ty : TyX X.K H (.ref p') (.ref (cl m'.k)) := .base (.ins y1 c'.cl c'.cc c'.cn c'.ct c'.co)
  rcases h with ⟨k0, f0, hu⟩ | ⟨k12, hs⟩
  · obtain ⟨f, fd, F, e1, e2, e3⟩ := a.eq0
    obtain ⟨dx, q, x1, x2⟩ := id hu
    refine ⟨p, dx, p', cl 0, f, _, _, fd, _, _, rfl, rfl, x1, .cls y1 (a.nf 0 m'.k (by decide) h'.lt), e1, e2, e3, F, ⟨p, m.r, _, rfl, hu, ?_⟩, hid⟩
    by_cases k0' : m'.k = 0
    · rcases h' with ⟨_, f0', hu'⟩ | ⟨z, _⟩
      · refine .inl ⟨p', m'.r, rfl, hu', ?_, Same.refl H⟩
        have e : decide (m.r = m'.r) = decide (m = m') := by
          obtain ⟨k, r, f⟩ := m
          obtain ⟨k', r', f'⟩ := m'
          dsimp only at *
          subst k0 f0 k0' f0'
          by_cases er : r = r' <;> simp [er]
        rw [e]
      · omega
    · refine .inr ⟨_, ty, a.kt m'.k 0 h'.lt (by decide) k0', ?_, Same.refl H⟩
      rw [m3_ne (by omega)]
  · obtain ⟨f, fd, F, e1, e2, e3⟩ := a.eq m.k k12
    obtain ⟨dx, q, u, x1, x2, x3⟩ := id hs
    refine ⟨p, dx, p', cl m.k, f, _, _, fd, _, _, rfl, rfl, x1, .cls y1 (a.nf m.k m'.k (by omega) h'.lt), e1, e2, e3, F, ⟨p, m.r, m.f, _, rfl, hs, ?_⟩, hid⟩
    by_cases ek : m'.k = m.k
    · rcases h' with ⟨z, _⟩ | ⟨_, hs'⟩
      · omega
      · rw [ek] at hs'
        refine .inl ⟨p', m'.r, m'.f, rfl, hs', ?_, Same.refl H⟩
        have e : decide (m.r = m'.r ∧ m.f = m'.f) = decide (m = m') := by
          obtain ⟨k, r, f⟩ := m
          obtain ⟨k', r', f'⟩ := m'
          dsimp only at *
          subst ek
          by_cases er : r = r' <;> by_cases ef : f = f' <;> simp [er, ef]
        rw [e]
    · refine .inr ⟨_, ty, a.kt m'.k m.k h'.lt (by omega) ek, ?_, Same.refl H⟩
      rw [m3_ne (fun z => ek z.symm)]
theorem eqB_dg {X : Cx} {C DD : Addr} {cl : Nat → Addr} (a : Dall X.prog X.w X.K X.mg X.base C DD cl) : EqB X 2 (DDg C cl) := by
  intro A pins s σ H x y u v b sb I rx ry ⟨p, p', m, m', e1, e2, h, h', e⟩
  subst e1 e2 e
  exact eqB_own A pins s σ H _ _ u v _ sb I rx ry (down a h h')
end K54
set_option maxHeartbeats 8000000
namespace K54
open PySem PySem.Spec PyProof.Rows L2 TL

/-! ### Row's methods -/
abbrev sRwD : Stmt := inClass (top 56) 1
abbrev sRwL : Stmt := inClass (top 56) 7
abbrev sRwE : Stmt := inClass (top 56) 9
abbrev sRwP : Stmt := inClass (top 56) 10
structure Rq (K : PySem.W.Frag) (mg : Str → Option Value) (CR : Addr) : Prop extends Rwf K CR where
  gR : mg "Row" = some (.ref CR)
  cc : PySem.W.findIn K (.ref CR) "__class__" = some (some (.builtin "object.__class__"))
  cn : PySem.W.specialIn K (.builtin "object.__class__") "__get__" = some (some (.builtin "getset_descriptor.__get__"))
  ct : PySem.W.takesIn K (.builtin "object.__class__") = some true
  co : PySem.W.mroIn K CR (.type "object") = some true
def spRwD (CR C : Addr) (cl : Nat → Addr) : Sp := fun vs H Q _ => ∃ (p : Addr) (ms : List M3), vs = [.ref p] ∧ RowAt CR C cl H p ms ∧ ∀ l ps, Paired (DgAt C cl H) ps ms → H l = none → Q (.ref l) (upd H l (.lst (ps.map V.ref)))
def spRwL (CR C : Addr) (cl : Nat → Addr) : Sp := fun vs H Q _ => ∃ (p : Addr) (ms : List M3), vs = [.ref p] ∧ RowAt CR C cl H p ms ∧ Q (.int (ms.length : Nat)) H
def spRwE (K : PySem.W.Frag) (CR C : Addr) (cl : Nat → Addr) : Sp := fun vs H Q _ => ∃ (p : Addr) (ms : List M3) (y : V), vs = [.ref p, y] ∧ RowAt CR C cl H p ms ∧
  ((∃ (p2 : Addr) (ms2 : List M3), y = .ref p2 ∧ RowAt CR C cl H p2 ms2 ∧ ∀ H', Same H H' → Q (.bl (decide (ms = ms2))) H') ∨ ∃ t, TyX K H y t ∧ PySem.W.kitOne K t (.ref CR) = some false ∧ Q (.bl false) H)
def BigM (m : M3) : Prop := (∀ q ∈ m.r, Big q.2) ∧ ∀ q ∈ m.f, Big q.2
def rwT (ms : List M3) : Str := Str.empty ++ ("Row(" : Str) ++ listText (ms.map dT) ++ (")" : Str)
def spRwP (CR C : Addr) (cl : Nat → Addr) : Sp := fun vs H Q _ => ∃ (p : Addr) (ms : List M3), vs = [.ref p] ∧ RowAt CR C cl H p ms ∧ (∀ m ∈ ms, BigM m) ∧ (listText (ms.map dT)).length ≤ 1000000 ∧ ∀ H', Same H H' → Q (.str (rwT ms)) H'
def RDg (C : Addr) (cl : Nat → Addr) (H : Hp) (p : Addr) (t : Str) : Prop := ∃ m, DgAt C cl H p m ∧ BigM m ∧ t = dT m
theorem ro_dg {X : Cx} {C DD : Addr} {cl : Nat → Addr} (a : Dall X.prog X.w X.K X.mg X.base C DD cl) : RO X 6 (RDg C cl) := by
  refine ⟨fun ⟨m, h1, h2, h3⟩ S => ⟨m, h1.same S, h2, h3⟩, fun {H p t} ⟨m, h1, h2, h3⟩ => ?_⟩
  obtain ⟨k, r, f⟩ := m
  rcases h1 with ⟨k0, f0, hu⟩ | ⟨k12, hs⟩
  · dsimp only at *
    subst k0
    obtain ⟨g, fd, F, e1, e2, e3⟩ := a.rp0
    obtain ⟨dx, q, x1, x2⟩ := id hu
    exact ⟨_, dx, _, g, fd, _, x1, e1, e2, e3, F, p, r, rfl, hu, h2.1, fun H' S' => ⟨by rw [h3]; rfl, S'⟩⟩
  · dsimp only at *
    obtain ⟨dx, q, u, x1, x2, x3⟩ := id hs
    rcases k12 with rfl | rfl
    · obtain ⟨g, fd, F, e1, e2, e3⟩ := a.rp1
      exact ⟨_, dx, _, g, fd, _, x1, e1, e2, e3, F, p, r, f, rfl, hs, h2.1, h2.2, fun H' S' => ⟨by rw [h3]; rfl, S'⟩⟩
    · obtain ⟨g, fd, F, e1, e2, e3⟩ := a.rp2
      exact ⟨_, dx, _, g, fd, _, x1, e1, e2, e3, F, p, r, f, rfl, hs, h2.1, h2.2, fun H' S' => ⟨by rw [h3]; rfl, S'⟩⟩
theorem paired_map {α β γ : Type} {R : α → β → Prop} {R' : α → γ → Prop} {g : β → γ} : ∀ {xs : List α} {ys : List β}, Paired R xs ys → (∀ x y, y ∈ ys → R x y → R' x (g y)) → Paired R' xs (ys.map g)
  | _, _, .nil, _ => .nil
  | _, _, .cons h t, k => .cons (k _ _ (List.mem_cons_self ..) h) (paired_map t fun x y hy => k x y (List.mem_cons_of_mem _ hy))
theorem all_zip : ∀ {ms ns : List M3}, ms.length = ns.length → ((ms.zip ns).map fun q => decide (q.1 = q.2)).all id = decide (ms = ns)
  | [], [], _ => rfl
  | [], _ :: _, h => by cases h
  | _ :: _, [], h => by cases h
  | m :: r, n :: q, h => by
    have ih := all_zip (ms := r) (ns := q) (Nat.succ.inj h)
    rw [List.zip_cons_cons, List.map_cons, List.all_cons, ih]
    dsimp only [id]
    by_cases e1 : m = n <;> by_cases e2 : r = q <;> simp [e1, e2]
section
variable {P : Program} {w : World} {K : PySem.W.Frag} {mg : Str → Option Value} {base : Heap} {C DD CR : Addr} {cl : Nat → Addr}
theorem scRwD : FnScope ["self"] ["self"] (defScope sRwD) := ⟨rfl, rfl, rfl, by decide +kernel, rfl, by decide +kernel, by decide +kernel⟩
theorem ok_rwD {f : Addr} {fd : FuncData} (F : Fun K "digits" "Row.digits" sRwD f fd) (lN : mg "list" = none) (c : Rwf K CR) : FnOk P w K mg base CX0 1 f fd ["self"] (spRwD CR C cl) := by
  refine F.ok scRwD (fun vs H Q E h => ?_) (fun cdv A outer s H vs Q E hr h => ?_)
  · obtain ⟨p, ms, rfl, _⟩ := h
    rfl
  · obtain ⟨p, ms, rfl, ⟨dx, L, ps, h1, h2, h3⟩, q⟩ := h
    refine ⟨_, pss_one (ps_ret (pe_callTy call_list_of (by rfl) lN (by decide +kernel) (pa_cons (pe_fld (pv 0) rfl) pa_nil))), ?_⟩
    exact ⟨_, rfl, p, CR, dx, _, _, rfl, h1, c.cl, c.nd, rfl, L, _, rfl, .inl (SqL.of h2), fun l nl => q l ps h3 nl⟩
theorem scRwL : FnScope ["self"] ["self"] (defScope sRwL) := ⟨rfl, rfl, rfl, by decide +kernel, rfl, by decide +kernel, by decide +kernel⟩
theorem ok_rwL {f : Addr} {fd : FuncData} (F : Fun K "__len__" "Row.__len__" sRwL f fd) (lN : mg "len" = none) (c : Rwf K CR) : FnOk P w K mg base CX0 1 f fd ["self"] (spRwL CR C cl) := by
  refine F.ok scRwL (fun vs H Q E h => ?_) (fun cdv A outer s H vs Q E hr h => ?_)
  · obtain ⟨p, ms, rfl, _⟩ := h
    rfl
  · obtain ⟨p, ms, rfl, ⟨dx, L, ps, h1, h2, h3⟩, q⟩ := h
    refine ⟨_, pss_one (ps_ret (pe_callB call_len_seq (by rfl) lN PySem.boot_len (pa_cons (pe_fld (pv 0) rfl) pa_nil))), ?_⟩
    refine ⟨_, rfl, p, CR, dx, _, _, rfl, h1, c.cl, c.nd, rfl, L, _, rfl, .inl (SqL.of h2), ?_⟩
    rw [List.length_map, Paired.length h3]
    exact q
theorem scRwE : FnScope ["self", "other"] ["self", "other"] (defScope sRwE) := ⟨rfl, rfl, rfl, by decide +kernel, rfl, by decide +kernel, by decide +kernel⟩
theorem ok_rwE {f : Addr} {fd : FuncData} (F : Fun K "__eq__" "Row.__eq__" sRwE f fd) (T : Nk mg) (a : Dall P w K mg base C DD cl) (c : Rq K mg CR) : FnOk P w K mg base CX0 4 f fd ["self", "other"] (spRwE K CR C cl) := by
  refine F.ok scRwE (fun vs H Q E h => ?_) (fun cdv A outer s H vs Q E hr h => ?_)
  · obtain ⟨p, ms, y, rfl, _⟩ := h
    rfl
  · obtain ⟨p, ms, y, rfl, ⟨dx, L, ps, h1, h2, h3⟩, h4⟩ := h
    refine ⟨_, pss_one (ps_ret (pe_and (pe_callB call_isi (by rfl) T.isi (by decide +kernel) (pa_cons (pv 1) (pa_cons (pe_glob (v := .ref CR) (by rfl) c.gR rfl) pa_nil)))
      (pe_one (pe_cmpR (op_eqL mon_dg (eqB_dg (DD := DD) (cl := cl) a) hr) (pe_fld (pv 0) rfl) (pe_fld (pv 1) rfl) (nomark _))))), ?_⟩
    rcases h4 with ⟨p2, ms2, rfl, ⟨dy, L2, ps2, e1, e2, e3⟩, k⟩ | ⟨t, ht, hk, k⟩
    · refine ⟨_, rfl, _, _, _, _, true, rfl, .own _, .base (.ins e1 c.cl c.cc c.cn c.ct c.co), ?_, _, rfl, ?_⟩
      · unfold PySem.W.kitOne
        rw [if_pos (by simp)]
      refine iteT' rfl ?_
      refine ⟨_, rfl, p, CR, dx, _, .ref L, rfl, h1, c.cl, c.nd, rfl, ?_⟩
      refine ⟨_, rfl, p2, CR, dy, _, .ref L2, rfl, e1, c.cl, c.nd, rfl, ?_⟩
      have n1 := Paired.length h3
      have n2 := Paired.length e3
      refine ⟨L, L2, _, _, rfl, rfl, h2, e2, ?_⟩
      by_cases hl : ms.length = ms2.length
      · refine .inr ⟨by rw [List.length_map, List.length_map]; omega, (ms.zip ms2).map fun q => decide (q.1 = q.2), by rw [List.length_map, List.length_map, List.length_zip]; omega, ?_, ?_⟩
        · intro i x y b q1 q2 q3
          rw [List.getElem?_map] at q1 q2
          have i1 : i < ps.length := by
            cases z : ps[i]? with
            | none => rw [z] at q1; cases q1
            | some _ => exact (List.getElem?_eq_some_iff.mp z).1
          have i2 : i < ps2.length := by omega
          rw [List.getElem?_eq_getElem i1] at q1
          rw [List.getElem?_eq_getElem i2] at q2
          obtain ⟨m, hm, d1⟩ := pairedLX h3 i1
          obtain ⟨m2, hm2, d2⟩ := pairedLX e3 i2
          rw [List.getElem?_map, (List.getElem?_zip_eq_some (z := (m, m2))).mpr ⟨hm, hm2⟩] at q3
          exact ⟨ps[i], ps2[i], m, m2, (Option.some.inj q1).symm, (Option.some.inj q2).symm, d1, d2, (Option.some.inj q3).symm⟩
        · intro H' S'
          rw [all_zip hl]
          exact k H' S'
      · refine .inl ⟨by rw [List.length_map, List.length_map]; omega, ?_⟩
        have e : decide (ms = ms2) = false := decide_eq_false fun z => hl (by rw [z])
        have z := k H (Same.refl H)
        rw [e] at z
        exact z
    · exact ⟨_, rfl, _, _, _, _, false, rfl, .own _, ht, hk, _, rfl, iteF k⟩
theorem scRwP : FnScope ["self"] ["self"] (defScope sRwP) := ⟨rfl, rfl, rfl, by decide +kernel, rfl, by decide +kernel, by decide +kernel⟩
theorem ok_rwP {f : Addr} {fd : FuncData} (F : Fun K "__repr__" "Row.__repr__" sRwP f fd) (a : Dall P w K mg base C DD cl) (c : Rwf K CR) : FnG P w K mg base 11 f fd ["self"] (spRwP CR C cl) := by
  refine F.okG scRwP (fun vs H Q h => ?_) (fun cdv A outer s H vs Q hgu hr h => ?_)
  · obtain ⟨p, ms, rfl, _⟩ := h
    rfl
  · obtain ⟨p, ms, rfl, ⟨dx, L, ps, h1, h2, h3⟩, hB, hl, k⟩ := h
    have hgu' : (A.deeper (envOfC "Row.__repr__" (defScope sRwP) s.heap.objs.size f cdv)).guards = some [] := hgu
    refine ⟨_, pss_one (ps_ret (pe_joined (.cons pe_str (.cons (pe_fmtL (ro_dg (DD := DD) (cl := cl) a) hr hgu' (pe_fld (pv 0) rfl)) (.cons pe_str .nil))))), ?_⟩
    have e1 : (Str.empty ++ ("Row(" : Str)).length = 4 := by decide
    have e3 : (")" : Str).length = 1 := by decide
    refine ⟨_, rfl, by rw [e1, sizeLine_eq]; decide, _, rfl, p, CR, dx, _, .ref L, rfl, h1, c.cl, c.nd, rfl, L, ps, ms.map dT, rfl, h2, paired_map h3 (fun x m hm d => ⟨m, d, hB m hm, rfl⟩), hl, fun H' S' => ⟨_, rfl, ?_, ?_⟩⟩
    · rw [len_app, e1, sizeLine_eq]
      omega
    · refine ⟨_, rfl, ?_, k H' S'⟩
      rw [len_app, len_app, e1, e3, sizeLine_eq]
      omega
end
end K54
set_option maxHeartbeats 8000000
namespace K54
open PySem PySem.Spec PyProof.Rows L2

/-! ### a * b, both instances of a class with an own def for it -/
def rOwnB (C : Addr) (sp : Sp) (E : XK) : R2 := fun x y H Q => ∃ (a dx : Addr) (fs : List (Str × V)) (b dy : Addr) (gs : List (Str × V)), x = .ref a ∧ H a = some (.ins C dx fs) ∧ y = .ref b ∧ H b = some (.ins C dy gs) ∧
  sp [.ref a, .ref b] H (fun v H' => ∃ r, v = .ref r ∧ Q (.ref r) H') E
section
variable {X : Cx} {CX : CXT} {C f : Addr} {fd : FuncData} {ps : List Str} {sp : Sp} {E : XK} {n : Nat}
theorem op_ownBin {op : Operator} (F : FnOk X.prog X.w X.K X.mg X.base CX n f fd ps sp) (hr : Room n X.A) (hc : PySem.W.selfFirst X.K C = true) (hs : PySem.W.findIn X.K (.ref C) (PySem.dunder op.info.2) = some (some (.ref f))) (hf : PySem.W.isFn X.K (.ref f) = true)
    (hb : Binds X.K fd ps []) (hx : Passes CX X E) : OpR X (binaryOp op) (rOwnB C sp E) := by
  intro pins s σ H x y v u Q I rx ry h
  obtain ⟨a, dx, fs, b, dy, gs, rfl, ha, rfl, hb', hsp⟩ := h
  cases rx
  cases ry
  obtain ⟨mA, J, _⟩ := ins_get I.hok ha
  obtain ⟨od, J, _⟩ := J.look
  obtain ⟨m, hF⟩ := I.fr
  refine PySem.W.binop_K (h₀ := X.base) hF I.ok.mod.kin J ((Oth.ins hb').looks I (show RelV (.ref b) (.ref b) from rfl)) hc hs hf ?_
  have hl := F.len _ _ _ _ hsp
  have r2 : Vals [V.ref a, V.ref b] [Value.ref a, .ref b] := .cons rfl (.cons rfl .nil)
  refine wpAny_call (codeAny_mono (F.run X.A X.stack s H ⟨[.ref a, .ref b], []⟩ [.ref a, .ref b] [.ref a, .ref b] _ E hr I.env0 (by
    have := hb s [.ref a, .ref b] I.kIn (by simpa using hl)
    simpa using this) r2 hsp) fun r s' hq => ?_)
  cases r with
  | error e => exact hx pins σ H s e s' I hq
  | ok fl =>
    cases fl with
    | ret w =>
      obtain ⟨z, H', I', rz, r, ez, ex⟩ := I.after hq
      subst ez
      cases rz
      exact ⟨.ref r, H', I', rfl, ex⟩
    | next => exact False.elim hq
    | brk => exact False.elim hq
    | cont => exact False.elim hq
end
theorem rd_mk {C G : Addr} {R : Es} {H : Hp} {Qx : Addr → VK} (hG : H G = some (.dK (kv R))) (hn : (R.map (·.1)).Nodup) (hl : R.length < 64) (nmR : ∀ q ∈ R, isNm q.1 = true)
    (k : ∀ H' r rs dx D, Same H H' → SizeAt C H' r rs → (∀ n, rs.lookup n = cz (g0 R n)) → H r = none → H D = none → H' r = some (.ins C dx [("_exponents", .ref D)]) → Qx r .non H') :
    ∀ x dx, H x = none → H dx = none → dx ≠ x → spInit C (.ref x :: ([.ref G] ++ [])) (upd (upd H dx (.own x)) x (.ins C dx [])) (Qx x) E0 := by
  intro x ex nx ndx nex
  have Gx : G ≠ x := ne_of_none hG nx
  have Sx : Same H (upd (upd H ex (.own x)) x (.ins C ex [])) := fun b o e => by
    rw [upd_ne (ne_of_none e nx), upd_ne (ne_of_none e ndx)]
    exact e
  refine ⟨x, ex, .ref G, R, rfl, upd_same, .inr ⟨G, rfl, Gx, Sx _ _ hG⟩, hn, hl, nmR, fun H4 D4 R4 S4 hx4 nD4 hD4 sR4 lR4 zR4 => ?_⟩
  have nD : H D4 = none := by
    cases e : H D4 with
    | none => rfl
    | some o =>
      have z := Sx _ _ e
      rw [nD4] at z
      cases z
  exact k H4 x R4 ex D4 (fun b o e => S4 b o (ne_of_none e nx) (Sx _ _ e)) (size_of hx4 hD4 sR4 lR4 zR4 hl nmR) (fun n => by rw [lR4, nz_cz]) nx nD hx4
theorem rd_mk0 {C : Addr} {H : Hp} {Qx : Addr → VK} (k : ∀ H' r, Same H H' → SizeAt C H' r [] → Nw C H H' r → Qx r .non H') :
    ∀ x dx, H x = none → H dx = none → dx ≠ x → spInit C (.ref x :: [.non]) (upd (upd H dx (.own x)) x (.ins C dx [])) (Qx x) E0 := by
  intro x ex nx ndx nex
  have Sx : Same H (upd (upd H ex (.own x)) x (.ins C ex [])) := fun b o e => by
    rw [upd_ne (ne_of_none e nx), upd_ne (ne_of_none e ndx)]
    exact e
  refine ⟨x, ex, .non, [], rfl, upd_same, .inl ⟨rfl, rfl⟩, List.Pairwise.nil, by decide, (fun q h => nomatch h), fun H4 D4 R4 S4 hx4 nD4 hD4 sR4 lR4 zR4 => ?_⟩
  have e : R4 = [] := List.length_eq_zero_iff.mp (by simpa using zR4)
  subst e
  exact k H4 x (fun b o e => S4 b o (ne_of_none e nx) (Sx _ _ e)) (size_of hx4 hD4 sR4 lR4 zR4 (by decide) (fun q h => nomatch h)) ⟨ex, D4, hx4, nx, none_pre Sx nD4⟩

/-! ### cuts_of, Row.cuts, Row.total */ -/
abbrev sCut : Stmt := top 57
abbrev sRwC : Stmt := inClass (top 56) 3
abbrev sRwT : Stmt := inClass (top 56) 2
/-- what is asked of a digit's sizes */ -/
structure MdD (ns : List Str) (m : M3) : Prop where
  r : Md ns 2 (g0 m.r) m.r
  f : Md ns 2 (g0 m.f) m.f
/-- the exponents of the i-th cut -/
def cutF (ms : List M3) (i : Nat) (n : Str) : Int := ((ms.take i).map fun m => g0 m.r n).sum
theorem cutF_zero (ms : List M3) (n : Str) : cutF ms 0 n = 0 := by
  unfold cutF
  rw [List.take_zero]
  rfl
theorem cutF_succ {ms : List M3} {i : Nat} {m : M3} (h : ms[i]? = some m) (n : Str) : cutF ms (i + 1) n = cutF ms i n + g0 m.r n := by
  unfold cutF
  rw [List.take_add_one, h]
  simp
/-- the Sizes at qs are the cuts up to the i-th -/
def CutsAt (C : Addr) (ns : List Str) (ms : List M3) (H : Hp) (qs : List Addr) : Prop := ∀ (j : Nat) (q : Addr), qs[j]? = some q → ∃ es, SizeAt C H q es ∧ Md ns (2 * (j : Int)) (cutF ms j) es
theorem CutsAt.same {C : Addr} {ns : List Str} {ms : List M3} {H H' : Hp} {qs : List Addr} (h : CutsAt C ns ms H qs) (S : Same H H') : CutsAt C ns ms H' qs := fun j q e => by
  obtain ⟨es, h1, h2⟩ := h j q e
  exact ⟨es, h1.same S, h2⟩
structure Sz2 (P : Program) (w : World) (K : PySem.W.Frag) (mg : Str → Option Value) (base : Heap) (C : Addr) : Prop where
  tc : Ck K mg C
  mul : ∃ g fd, FnOk P w K mg base CX0 5 g fd ["self", "other"] (spMul C) ∧ PySem.W.selfFirst K C = true ∧ PySem.W.findIn K (.ref C) "__mul__" = some (some (.ref g)) ∧ PySem.W.isFn K (.ref g) = true ∧ Binds K fd ["self", "other"] []
  make : ∃ f fd, Mk K C f ∧ FnOk P w K mg base CX0 3 f fd ["self", "exponents"] (spInit C) ∧ Binds K fd ["self", "exponents"] [] ∧ Binds K fd ["self", "exponents"] [.none]
def spCut (C : Addr) (cl : Nat → Addr) : Sp := fun vs H Q _ => ∃ (L : Addr) (ps : List Addr) (ms : List M3) (ns : List Str), vs = [.ref L] ∧ H L = some (.lst (ps.map V.ref)) ∧ Paired (DgAt C cl H) ps ms ∧ Pool ns ∧ (∀ m ∈ ms, MdD ns m) ∧ ms.length ≤ 8 ∧
  ∀ H' l qs, Same H H' → H l = none → H' l = some (.lst (qs.map V.ref)) → qs.length = ms.length + 1 → CutsAt C ns ms H' qs → Q (.ref l) H'
section
variable {P : Program} {w : World} {K : PySem.W.Frag} {mg : Str → Option Value} {base : Heap} {C DD CR : Addr} {cl : Nat → Addr}
theorem scCut : FnScope ["digits", "cuts", "digit"] ["digits"] (defScope sCut) := ⟨rfl, rfl, rfl, by decide +kernel, rfl, by decide +kernel, by decide +kernel⟩
theorem ok_cut {f : Addr} {fd : FuncData} (F : Fun K "cuts_of" "cuts_of" sCut f fd) (a : Dall P w K mg base C DD cl) (z : Sz2 P w K mg base C) : FnOk P w K mg base CX0 6 f fd ["digits"] (spCut C cl) := by
  obtain ⟨Tc, ⟨g, fdg, G, sf, e1, e2, e3⟩, ⟨fi, fdi, M, gi, bi, bi0⟩⟩ := z
  have gi4 := gi.mono (k := 4) (by decide)
  refine F.ok scCut (fun vs H Q E h => ?_) (fun cdv A outer s H vs Q E hr h => ?_)
  · obtain ⟨L, ps, ms, ns, rfl, _⟩ := h
    rfl
  · obtain ⟨L, ps, ms, ns, rfl, hL, hz, hP, hM, hl, k⟩ := h
    have hr2 : Room 2 (A.deeper (envOfC "cuts_of" (defScope sCut) s.heap.objs.size f cdv)) := hr.mono (by decide)
    refine ⟨_, pss_cons (ps_set (i := 1) scCut.nd rfl (.inl rfl) (pe_lst (pa_cons (pe_make0 M gi4 hr rfl Tc.gC bi0 (.cons (show RelV .non .none from rfl) .nil) pass0) pa_nil)))
      (pss_cons (ps_for PassesOwn.never rfl (pi_list (pv 0)) (pg_name (i := 2) scCut.nd rfl (Or.inl rfl))
        (pss_one (ps_expr (pe_bm PySem.F.plainAttrs_list PySem.F.slot_list_append PySem.F.type_list_append mt_append (pv 1) (pa_cons
          (pe_op (op_ownBin (E := E0) G hr sf e1 e2 e3 pass0) (pe_ix ix_list (pv 1) (pe_un un_neg pe_int) (fun _ _ => rfl)) (pe_propA (k := 1) (pv 2) hr2 rfl)) pa_nil)))))
      (pss_one (ps_ret (pv 1)))), ?_⟩
    refine rd_mk0 fun H1 q0 S1 z0 _ => ⟨rfl, ?_⟩
    refine ⟨by rw [sizeLine_eq]; show 1 ≤ 16777216; decide, fun l nl => ?_⟩
    have S2 := fresh_upd (o := .lst [V.ref q0]) nl
    have S02 := S1.trans S2
    have n0 := none_pre S1 nl
    have hlen := Paired.length hz
    refine ⟨_, rfl, L, rfl, ⟨_, SqL.of (S02 _ _ hL)⟩, for_it (walk_list (K := K) (a := L) (xs := ps.map V.ref)) (fun i σ H2 => (∃ o2, σ = [some (.ref L), some (.ref l), o2]) ∧ Same H H2 ∧ ∃ qs : List Addr, H2 l = some (.lst (qs.map V.ref)) ∧ qs.length = i + 1 ∧ CutsAt C ns ms H2 qs)
      ⟨⟨none, rfl⟩, S02, [q0], upd_same, rfl, fun j q e => ?_⟩ (fun i σ H2 _ h => SqL.of (h.2.1 _ _ hL)) ?_ ?_⟩
    · match j, e with
      | 0, e =>
        cases e
        exact ⟨[], z0.same S2, (Md.nil ns).congr (fun n => (cutF_zero ms n).symm) (by decide)⟩
    · rintro i x σ H9 H2 hi ⟨⟨o2, rfl⟩, S3, qs, hq, hql, hc⟩ ⟨rfl, hx⟩
      rw [List.length_map] at hi
      have ex : x = V.ref ps[i] := by
        rw [List.getElem?_map, List.getElem?_eq_getElem hi] at hx
        exact (Option.some.inj hx).symm
      subst ex
      obtain ⟨m, hm, hd⟩ := pairedLX hz hi
      obtain ⟨r0, qz, eqs⟩ : ∃ r0 qz, qs = r0 ++ [qz] := ⟨qs.dropLast, qs.getLast (by intro e; rw [e] at hql; cases hql), (List.dropLast_concat_getLast _).symm⟩
      have hqz : qs[i]? = some qz := by
        have e : r0.length = i := by
          have := congrArg List.length eqs
          rw [List.length_append] at this
          simp at this
          omega
        rw [eqs, ← e]
        simp
      obtain ⟨es, hs, hmd⟩ := hc i qz hqz
      refine ⟨_, rfl, .inl ⟨rfl, _, SqL.of hq⟩, ?_⟩
      have hat : atI (qs.map V.ref) (-1) = some (V.ref qz) := by
        rw [eqs, List.map_append]
        exact atI_last _ _
      refine ⟨_, rfl, 1, rfl, l, _, _, _, rfl, rfl, SqL.of hq, hat, ?_⟩
      refine rd_radV a rfl (hd.same S3) fun q1 h1 => ?_
      have hmm := hM m (List.mem_of_getElem? hm)
      obtain ⟨dx1, D1, y1, _⟩ := id hs
      obtain ⟨dx2, D2, y2, _⟩ := id h1
      have l1 := hmd.len hP
      have l2 := hmm.r.len hP
      refine ⟨qz, dx1, _, q1, dx2, _, rfl, y1, rfl, y2, qz, q1, es, m.r, rfl, hs, h1, by omega, fun H4 r3 rs S4 z3 _ lk => ⟨r3, rfl, ?_⟩⟩
      have hq4 := S4 _ _ hq
      refine ⟨l, _, _, rfl, rfl, hq4, by rw [List.length_map, sizeLine_eq]; omega, ?_⟩
      have S5 : Same H (upd H4 l (.lst (qs.map V.ref ++ [V.ref r3]))) := fun b o e => by
        rw [upd_ne (ne_of_none e n0)]
        exact S4 _ _ (S3 _ _ e)
      have up : ∀ {q : Addr} {es : Es}, SizeAt C H4 q es → SizeAt C (upd H4 l (.lst (qs.map V.ref ++ [V.ref r3]))) q es := fun {q es} ⟨dx, D, w1, w2, w3⟩ =>
        ⟨dx, D, (upd_ne (fun e => by rw [e, hq4] at w1; cases w1)).trans w1, (upd_ne (fun e => by rw [e, hq4] at w2; cases w2)).trans w2, w3⟩
      refine ⟨⟨_, rfl⟩, S5, qs ++ [r3], by rw [upd_same, List.map_append]; rfl, by rw [List.length_append, hql]; rfl, fun j q e => ?_⟩
      by_cases hj : j < qs.length
      · rw [List.getElem?_append_left hj] at e
        obtain ⟨es', w1, w2⟩ := hc j q e
        exact ⟨es', up (w1.same S4), w2⟩
      · rw [List.getElem?_append_right (by omega)] at e
        have ej : j = i + 1 := by
          have := (List.getElem?_eq_some_iff.mp e).1
          simp at this
          omega
        subst ej
        have er : q = r3 := by
          rw [show i + 1 - qs.length = 0 by omega] at e
          exact (Option.some.inj e).symm
        subst er
        refine ⟨rs, up z3, Md.of (up z3) (fun n => by rw [lk, hmd.g, cutF_succ hm]) (fun n hn => ?_) fun n => ?_⟩
        · rw [cutF_succ hm, hmd.sup n hn, hmm.r.sup n hn]
          rfl
        · have := hmd.bd n
          have := hmm.r.bd n
          rw [cutF_succ hm]
          omega
    · rintro σ H2 ⟨⟨o2, rfl⟩, S3, qs, hq, hql, hc⟩
      rw [List.length_map] at hql
      exact ⟨_, rfl, k H2 l qs S3 n0 hq (by omega) hc⟩
end
end K54
set_option maxHeartbeats 8000000
namespace K54
open PySem PySem.Spec PyProof.Rows L2

/-! ### Row.cuts, Row.total -/
def spRwC (CR C : Addr) (cl : Nat → Addr) : Sp := fun vs H Q _ => ∃ (p : Addr) (ms : List M3) (ns : List Str), vs = [.ref p] ∧ RowAt CR C cl H p ms ∧ Pool ns ∧ (∀ m ∈ ms, MdD ns m) ∧ ms.length ≤ 8 ∧
  ∀ H' l qs, Same H H' → H l = none → H' l = some (.lst (qs.map V.ref)) → qs.length = ms.length + 1 → CutsAt C ns ms H' qs → Q (.ref l) H'
def spRwT (CR C : Addr) (cl : Nat → Addr) : Sp := fun vs H Q _ => ∃ (p : Addr) (ms : List M3) (ns : List Str), vs = [.ref p] ∧ RowAt CR C cl H p ms ∧ Pool ns ∧ (∀ m ∈ ms, MdD ns m) ∧ ms.length ≤ 8 ∧
  ∀ H' q es, Same H H' → SizeAt C H' q es → Md ns (2 * (ms.length : Int)) (cutF ms ms.length) es → Q (.ref q) H'
section
variable {P : Program} {w : World} {K : PySem.W.Frag} {mg : Str → Option Value} {base : Heap} {C DD CR : Addr} {cl : Nat → Addr}
theorem scRwC : FnScope ["self"] ["self"] (defScope sRwC) := ⟨rfl, rfl, rfl, by decide +kernel, rfl, by decide +kernel, by decide +kernel⟩
theorem ok_rwC {f fc : Addr} {fd fdc : FuncData} (F : Fun K "cuts" "Row.cuts" sRwC f fd) (c : Rwf K CR)
    (G : FnOk P w K mg base CX0 6 fc fdc ["digits"] (spCut C cl)) (kC : PySem.W.keepIn K (.ref fc) = true) (bC : Binds K fdc ["digits"] []) (gC : mg "cuts_of" = some (.ref fc)) :
    FnOk P w K mg base CX0 7 f fd ["self"] (spRwC CR C cl) := by
  refine F.ok scRwC (fun vs H Q E h => ?_) (fun cdv A outer s H vs Q E hr h => ?_)
  · obtain ⟨p, ms, ns, rfl, _⟩ := h
    rfl
  · obtain ⟨p, ms, ns, rfl, ⟨dx, L, ps, h1, h2, h3⟩, hP, hM, hl, q⟩ := h
    refine ⟨_, pss_one (ps_ret (pe_call (E := E0) G hr (by rfl) gC kC bC .nil pass0 (pa_cons (pe_fld (pv 0) rfl) pa_nil))), ?_⟩
    exact ⟨_, rfl, p, CR, dx, _, .ref L, rfl, h1, c.cl, c.nd, rfl, L, ps, ms, ns, rfl, h2, h3, hP, hM, hl, fun H' l qs S nl hq hn hc => q H' l qs S nl hq hn hc⟩
theorem scRwT : FnScope ["self"] ["self"] (defScope sRwT) := ⟨rfl, rfl, rfl, by decide +kernel, rfl, by decide +kernel, by decide +kernel⟩
theorem ok_rwT {f fc : Addr} {fd fdc : FuncData} (F : Fun K "total" "Row.total" sRwT f fd) (c : Rwf K CR)
    (G : FnOk P w K mg base CX0 6 fc fdc ["digits"] (spCut C cl)) (kC : PySem.W.keepIn K (.ref fc) = true) (bC : Binds K fdc ["digits"] []) (gC : mg "cuts_of" = some (.ref fc)) :
    FnOk P w K mg base CX0 7 f fd ["self"] (spRwT CR C cl) := by
  refine F.ok scRwT (fun vs H Q E h => ?_) (fun cdv A outer s H vs Q E hr h => ?_)
  · obtain ⟨p, ms, ns, rfl, _⟩ := h
    rfl
  · obtain ⟨p, ms, ns, rfl, ⟨dx, L, ps, h1, h2, h3⟩, hP, hM, hl, q⟩ := h
    refine ⟨_, pss_one (ps_ret (pe_ix ix_list (pe_call (E := E0) G hr (by rfl) gC kC bC .nil pass0 (pa_cons (pe_fld (pv 0) rfl) pa_nil)) (pe_un un_neg pe_int) (fun _ _ => rfl))), ?_⟩
    refine ⟨_, rfl, p, CR, dx, _, .ref L, rfl, h1, c.cl, c.nd, rfl, L, ps, ms, ns, rfl, h2, h3, hP, hM, hl, fun H' l qs S nl hq hn hc => ?_⟩
    obtain ⟨r0, qz, eqs⟩ : ∃ r0 qz, qs = r0 ++ [qz] := ⟨qs.dropLast, qs.getLast (by intro e; rw [e] at hn; cases hn), (List.dropLast_concat_getLast _).symm⟩
    have hqz : qs[ms.length]? = some qz := by
      have e : r0.length = ms.length := by
        have := congrArg List.length eqs
        rw [List.length_append] at this
        simp at this
        omega
      rw [eqs, ← e]
      simp
    obtain ⟨es, hs, hmd⟩ := hc ms.length qz hqz
    have hat : atI (qs.map V.ref) (-1) = some (V.ref qz) := by
      rw [eqs, List.map_append]
      exact atI_last _ _
    exact ⟨1, rfl, l, _, _, _, rfl, rfl, SqL.of hq, hat, q H' qz es S hs hmd⟩
end
end K54
set_option maxHeartbeats 8000000
/-! ### zip of three whose last tuple is still in use -/
namespace PySem
open Sem (wp)
section
variable {prog : Program} {w : World} {A : Around} {E : Value → Shared → Prop} {s : Shared} {z TI TO T i1 i2 i3 : Addr} {fp1 fp2 fp3 : List Addr} {n1 n2 n3 i : Nat} {P1 P2 P3 : Nat → Value → Prop} {St1 St2 St3 : Nat → Heap → Prop} {f : Bool} {oT : Obj}
theorem z3h_item {Q : Value → Shared → Prop} (S : ZipSep3 z TI TO i1 i2 i3 fp1 fp2 fp3) (D1 : Draws prog w A i1 fp1 n1 P1 St1) (D2 : Draws prog w A i2 fp2 n2 P2 St2) (D3 : Draws prog w A i3 fp3 n3 P3 St3)
    (hz : IsZipHeld s.heap z TI TO T f) (hT : s.heap.get? T = some oT) (hTI : IsTupOf3 s.heap TI (.ref i1) (.ref i2) (.ref i3)) (t1 : St1 i s.heap) (t2 : St2 i s.heap) (t3 : St3 i s.heap) (e1 : i < n1) (e2 : i < n2) (e3 : i < n3)
    (hQ : ∀ x1 x2 x3 h' tk, P1 i x1 → P2 i x2 → P3 i x3 → IsZipHeld h' z TI TO T true → St1 (i + 1) h' → St2 (i + 1) h' → St3 (i + 1) h' → IsTupOf3 h' s.heap.objs.size x1 x2 x3 →
      (∀ c o, c ≠ z → c ≠ i1 → c ≠ i2 → c ≠ i3 → s.heap.get? c = some o → h'.get? c = some o) → Q (.ref s.heap.objs.size) { s with heap := h', toks := tk }) :
    wpAny (model prog w) A (Builtin.«zip.__next__» ⟨[.ref z], []⟩) (fun fin s' => ∃ v, fin = .done (.ret v) ∧ Q v s') E s := by
  obtain ⟨hp, g, d, tk0, os⟩ := s
  show wpAny (model prog w) A (field (.ref z) 2 >>= _) _ _ _
  refine wpAny_bind (wpAny_field hz rfl (x := .bool false) rfl (?_ : wpAny (model prog w) A (field (.ref z) 3 >>= _) _ _ _))
  refine wpAny_bind (wpAny_field hz rfl (x := .ref TI) rfl (wpAny_bind (wpAny_seqItems hTI rfl (?_ : wpAny (model prog w) A (Builtin.SmallTypes.ownedTupleIsFree (.ref z) >>= _) _ _ _))))
  refine wpAny_bind (wpAny_tupleHeld_zip hz hT fun g0 hz0 hs0 => ?_)
  replace hs0 : Heap.SameBut z hp g0 := hs0
  replace hz0 : IsZipHeld g0 z TI TO T true := hz0
  simp only [Bool.false_eq_true, if_false]
  refine wpAny_bind ?_
  rw [← Array.forIn_toList]
  simp only [List.forIn_cons, List.forIn_nil]
  refine wpAny_bind (wpAny_bind (wpAny_holding (?_ : wpAny (model prog w) A (Builtin.SmallTypes.nextOf (.ref i1) >>= _) _ _ ⟨g0, g, d, tk0, os⟩)))
  refine wpAny_bind (D1.item i _ _ _ e1 (D1.over t1 hs0 S.zf1) fun x1 p1 tk1 hx1 sn1 hp1 => wpAny_pure (wpAny_pure ?_))
  replace hp1 : Heap.SameBut i1 g0 p1 := hp1
  refine wpAny_bind (wpAny_bind (wpAny_holding (?_ : wpAny (model prog w) A (Builtin.SmallTypes.nextOf (.ref i2) >>= _) _ _ ⟨p1, g, d, tk1, os⟩)))
  refine wpAny_bind (D2.item i _ _ _ e2 (D2.over (D2.over t2 hs0 S.zf2) hp1 S.sep1_2) fun x2 p2 tk2 hx2 sn2 hp2 => wpAny_pure (wpAny_pure ?_))
  replace hp2 : Heap.SameBut i2 p1 p2 := hp2
  refine wpAny_bind (wpAny_bind (wpAny_holding (?_ : wpAny (model prog w) A (Builtin.SmallTypes.nextOf (.ref i3) >>= _) _ _ ⟨p2, g, d, tk2, os⟩)))
  refine wpAny_bind (D3.item i _ _ _ e3 (D3.over (D3.over (D3.over t3 hs0 S.zf3) hp1 S.sep1_3) hp2 S.sep2_3) fun x3 p3 tk3 hx3 sn3 hp3 => wpAny_pure (wpAny_pure (wpAny_pure ?_)))
  replace hp3 : Heap.SameBut i3 p2 p3 := hp3
  show wpAny (model prog w) A (newTuple [x1, x2, x3] >>= _) _ _ _
  refine wpAny_bind (wpAny_newTuple ?_)
  have hsz : p3.objs.size = hp.objs.size := by rw [hp3.1, hp2.1, hp1.1, hs0.1]
  have kp : ∀ c o, c ≠ z → c ≠ i1 → c ≠ i2 → c ≠ i3 → hp.get? c = some o → p3.get? c = some o := fun c o q0 q1 q2 q3 e => hp3.extBut _ _ q3 (hp2.extBut _ _ q2 (hp1.extBut _ _ q1 (hs0.extBut _ _ q0 e)))
  have hz3 : IsZipHeld p3 z TI TO T true := hp3.extBut _ _ S.zi3 (hp2.extBut _ _ S.zi2 (hp1.extBut _ _ S.zi1 hz0))
  have hp : IsTupOf3 (p3.push { cls := .type "tuple", data := .seq #[x1, x2, x3] }) p3.objs.size x1 x2 x3 := Heap.get?_push_size _ rfl
  refine wpAny_pure ⟨_, rfl, ?_⟩
  show Q (.ref p3.objs.size) _
  have up : ∀ c o, p3.get? c = some o → (p3.push { cls := .type "tuple", data := .seq #[x1, x2, x3] }).get? c = some o := fun c o e => Heap.get?_push_of_some _ e
  have w1 := D1.frame _ _ _ (D1.over (D1.over sn1 hp2 S.sep2_1) hp3 S.sep3_1) fun b _ o e => up b o e
  have w2 := D2.frame _ _ _ (D2.over sn2 hp3 S.sep3_2) fun b _ o e => up b o e
  have w3 := D3.frame _ _ _ sn3 fun b _ o e => up b o e
  rw [hsz] at hp ⊢
  exact hQ x1 x2 x3 _ tk3 hx1 hx2 hx3 (up _ _ hz3) w1 w2 w3 hp fun c o q0 q1 q2 q3 e => up c o (kp c o q0 q1 q2 q3 e)
theorem z3h_next {Q : Option Value → Shared → Prop} (S : ZipSep3 z TI TO i1 i2 i3 fp1 fp2 fp3) (D1 : Draws prog w A.in1 i1 fp1 n1 P1 St1) (D2 : Draws prog w A.in1 i2 fp2 n2 P2 St2) (D3 : Draws prog w A.in1 i3 fp3 n3 P3 St3)
    (hz : IsZipHeld s.heap z TI TO T f) (hT : s.heap.get? T = some oT) (hTI : IsTupOf3 s.heap TI (.ref i1) (.ref i2) (.ref i3)) (t1 : St1 i s.heap) (t2 : St2 i s.heap) (t3 : St3 i s.heap) (e1 : i < n1) (e2 : i < n2) (e3 : i < n3)
    (hQ : ∀ x1 x2 x3 h' tk, P1 i x1 → P2 i x2 → P3 i x3 → IsZipHeld h' z TI TO T true → St1 (i + 1) h' → St2 (i + 1) h' → St3 (i + 1) h' → IsTupOf3 h' s.heap.objs.size x1 x2 x3 →
      (∀ c o, c ≠ z → c ≠ i1 → c ≠ i2 → c ≠ i3 → s.heap.get? c = some o → h'.get? c = some o) → Q (some (.ref s.heap.objs.size)) { s with heap := h', toks := tk }) :
    wpAny (model prog w) A (pyNext (.ref z)) Q E s := by
  have ty : s.TypeIs (.ref z) "zip" := ⟨_, hz, rfl⟩
  unfold pyNext
  exact wpAny_bind (wpAny_attempt (wpAny_callSpecial?_slot (name := Str.ofString "__next__") ty F.slot_zip_next
    (wpAny_call_entry F.slot_zip_next ty F.entry_zip_next (z3h_item S D1 D2 D3 hz hT hTI t1 t2 t3 e1 e2 e3 fun x1 x2 x3 h' tk q1 q2 q3 q4 q5 q6 q7 q8 q9 => wpAny_pure (hQ x1 x2 x3 h' tk q1 q2 q3 q4 q5 q6 q7 q8 q9)) (F.args_zip_next_1 _))))
/-- the first of the three has ended -/
theorem z3h_end {Q : Option Value → Shared → Prop} (S : ZipSep3 z TI TO i1 i2 i3 fp1 fp2 fp3) (D1 : Draws prog w A.in1 i1 fp1 n1 P1 St1)
    (hz : IsZipHeld s.heap z TI TO T f) (hT : s.heap.get? T = some oT) (hTI : IsTupOf3 s.heap TI (.ref i1) (.ref i2) (.ref i3)) (t1 : St1 n1 s.heap)
    (hQ : ∀ h', (∀ c o, c ≠ z → c ≠ i1 → s.heap.get? c = some o → h'.get? c = some o) → Q none { s with heap := h' }) : wpAny (model prog w) A (pyNext (.ref z)) Q E s := by
  have ty : s.TypeIs (.ref z) "zip" := ⟨_, hz, rfl⟩
  obtain ⟨hp, g, d, tk0, os⟩ := s
  unfold pyNext
  refine wpAny_bind (wpAny_attempt (wpAny_callSpecial?_slot (name := Str.ofString "__next__") ty F.slot_zip_next (wpAny_call_entry F.slot_zip_next ty F.entry_zip_next ?_ (F.args_zip_next_1 _))))
  show wpAny (model prog w) A.in1 (field (.ref z) 2 >>= _) _ _ _
  refine wpAny_bind (wpAny_field hz rfl (x := .bool false) rfl (?_ : wpAny (model prog w) A.in1 (field (.ref z) 3 >>= _) _ _ _))
  refine wpAny_bind (wpAny_field hz rfl (x := .ref TI) rfl (wpAny_bind (wpAny_seqItems hTI rfl (?_ : wpAny (model prog w) A.in1 (Builtin.SmallTypes.ownedTupleIsFree (.ref z) >>= _) _ _ _))))
  refine wpAny_bind (wpAny_tupleHeld_zip hz hT fun g0 hz0 hs0 => ?_)
  replace hs0 : Heap.SameBut z hp g0 := hs0
  simp only [Bool.false_eq_true, if_false]
  refine wpAny_bind ?_
  rw [← Array.forIn_toList]
  simp only [List.forIn_cons, List.forIn_nil]
  refine wpAny_bind (wpAny_bind (wpAny_holding (?_ : wpAny (model prog w) A.in1 (Builtin.SmallTypes.nextOf (.ref i1) >>= _) _ _ ⟨g0, g, d, tk0, os⟩)))
  refine wpAny_bind (D1.done ⟨g0, g, d, tk0, os⟩ _ _ (D1.over t1 hs0 S.zf1) fun h' e hs2 he => ?_)
  obtain ⟨o, ho, hc⟩ := he
  refine wpAny_bind (wpAny_isInstance (T := "StopIteration") (b := true) ⟨o, ho, hc⟩ isSubtype_stop ?_)
  exact wpAny_pure (hQ h' fun c o q0 q1 x => hs2 _ _ q1 (hs0.extBut _ _ q0 x))
end
theorem z3_len : typeLookup (.type "zip") "__len__" = pure none := by rw [typeLookup_type, builtinLookup_eq_fast]; kernel_rfl
theorem z3_hint : typeLookup (.type "zip") "__length_hint__" = pure none := by rw [typeLookup_type, builtinLookup_eq_fast]; kernel_rfl
end PySem
set_option maxHeartbeats 8000000
/-! ### list(zip(a, b, c)), three lists of one length -/
namespace K54
open PySem PySem.Spec PyProof.Rows L2
structure Z3 (h : Heap) (z TI TO i1 i2 i3 l1 l2 l3 S : Addr) (xs ys ws : Array Value) (i : Nat) : Prop where
  ti : IsTupOf3 h TI (.ref i1) (.ref i2) (.ref i3)
  s1 : h.IsListIter i1 l1 i ∧ h.IsList l1 xs
  s2 : h.IsListIter i2 l2 i ∧ h.IsList l2 ys
  s3 : h.IsListIter i3 l3 i ∧ h.IsList l3 ws
  st : (IsZip h z TI TO .none ∧ ∃ a b c, IsTupOf3 h TO a b c) ∨ ∃ T f oT, IsZipHeld h z TI TO T f ∧ h.get? T = some oT ∧ T ≠ z ∧ T ≠ i1 ∧ T ≠ i2 ∧ T ≠ i3 ∧ T ≠ S
theorem Z3.at {h h' : Heap} {z TI TO i1 i2 i3 l1 l2 l3 S : Addr} {xs ys ws : Array Value} {i : Nat} (q : Z3 h z TI TO i1 i2 i3 l1 l2 l3 S xs ys ws i) (hS : ∀ b ∈ [z, TI, TO, i1, i2, i3, l1, l2, l3], b ≠ S)
    (k : ∀ b o, b ≠ S → h.get? b = some o → h'.get? b = some o) : Z3 h' z TI TO i1 i2 i3 l1 l2 l3 S xs ys ws i := by
  refine ⟨k _ _ (hS _ (by simp)) q.ti, ⟨q.s1.1.at fun o e => k _ o (hS _ (by simp)) e, q.s1.2.at fun o e => k _ o (hS _ (by simp)) e⟩, ⟨q.s2.1.at fun o e => k _ o (hS _ (by simp)) e, q.s2.2.at fun o e => k _ o (hS _ (by simp)) e⟩,
    ⟨q.s3.1.at fun o e => k _ o (hS _ (by simp)) e, q.s3.2.at fun o e => k _ o (hS _ (by simp)) e⟩, ?_⟩
  rcases q.st with ⟨a, x, y, w, b⟩ | ⟨T, f, oT, a, b, c1, c2, c3, c4, c5⟩
  · exact .inl ⟨k _ _ (hS _ (by simp)) a, x, y, w, k _ _ (hS _ (by simp)) b⟩
  · exact .inr ⟨T, f, oT, k _ _ (hS _ (by simp)) a, k _ _ c5 b, c1, c2, c3, c4, c5⟩
/-- the items are tuples of the three lists' items -/
def Tups (H : Hp) (vx vy vw acc : List V) : Prop := ∀ (j : Nat) (v : V), acc[j]? = some v → ∃ (T : Addr) (x y w : V), v = V.ref T ∧ vx[j]? = some x ∧ vy[j]? = some y ∧ vw[j]? = some w ∧ H T = some (.tup [x, y, w])
section
variable {X : Cx} {pins : List (Addr × Obj)} {σ : L2.St} {z TI TO i1 i2 i3 l1 l2 l3 S : Addr} {vx vy vw : List V} {xs ys ws : List Value} {A1 : Around}
theorem zloop {Rs : Result → Shared → Prop} {H0 : Hp} (hh : A1.handled = none) (D : ZipSep3 z TI TO i1 i2 i3 [i1, l1] [i2, l2] [i3, l3]) (n1 : l1 ≠ i1) (n2 : l2 ≠ i2) (n3 : l3 ≠ i3) (hS : ∀ b ∈ [z, TI, TO, i1, i2, i3, l1, l2, l3], b < S)
    (Tn : TI ∉ [z, TO, i1, i2, i3]) (Ln : ∀ b ∈ [l1, l2, l3], b ∉ [z, TO, i1, i2, i3])
    (rx : Vals vx xs) (ry : Vals vy ys) (rw' : Vals vw ws) (e1 : vy.length = vx.length) (e2 : vw.length = vx.length) (hz0 : vx.length ≤ sizeLine) (n0 : H0 S = none)
    (hdone : ∀ H' s' acc, Inv X pins σ H' s' → Same H0 H' → H' S = some (.lst acc) → acc.length = vx.length → Tups H' vx vy vw acc → Rs (.ok (.ret .none)) s') :
    ∀ (m i : Nat) (acc : List V) (H : Hp) (s : Shared), vx.length - i = m → i ≤ vx.length → Inv X pins σ H s → (∀ b ∈ [z, TO, i1, i2, i3], FpOk X pins H b) → Z3 s.heap z TI TO i1 i2 i3 l1 l2 l3 S xs.toArray ys.toArray ws.toArray i →
      Same H0 H → H S = some (.lst acc) → acc.length = i → Tups H vx vy vw acc → codeAny (model X.prog X.w) A1 (.builtin "list.extend.loop" ⟨[.ref S, .ref z, .none], []⟩) Rs s := by
  have k1 := rx.length
  have k2 := ry.length
  have k3 := rw'.length
  have hne : ∀ b ∈ [z, TI, TO, i1, i2, i3, l1, l2, l3], b ≠ S := fun b hb => Nat.ne_of_lt (hS b hb)
  have d1 : Draws X.prog X.w A1.in1.in1 i1 [i1, l1] _ _ _ := Draws.list (show A1.in1.in1.handled = none from hh) i1 l1 n1 xs.toArray
  have d2 : Draws X.prog X.w A1.in1.in1 i2 [i2, l2] _ _ _ := Draws.list (show A1.in1.in1.handled = none from hh) i2 l2 n2 ys.toArray
  have d3 : Draws X.prog X.w A1.in1.in1 i3 [i3, l3] _ _ _ := Draws.list (show A1.in1.in1.handled = none from hh) i3 l3 n3 ws.toArray
  intro m
  induction m with
  | zero =>
    intro i acc H s hm hi I hf st S0 hl ha ht
    have ei : i = vx.length := by omega
    subst ei
    refine codeAny_builtin PySem.F.entry_extend_loop ?_
    rw [Around.under_plainId PySem.F.plain_extend_loop _]
    show wpAny (model X.prog X.w) A1.in1 (pyNext (.ref z) >>= _) _ _ s
    rcases st.st with ⟨hz, a, b, c, hTO⟩ | ⟨T, f, oT, hz, hT, c1, c2, c3, c4, c5⟩
    · refine wpAny_bind (wpAny_pyNext_zipD3_end D d1 d2 d3 hz st.ti hTO st.s1 st.s2 st.s3 (by simp; omega) (by simp; omega) (by simp; omega) (.inl (by simp; omega)) fun h' tk hk => ?_)
      exact wpAny_pure (hdone H _ acc (I.turnedL (ch := [z, TO, i1, i2, i3]) (fun c o hb q => hk c o (fun w => hb (by simp [w])) (fun w => hb (by simp [w])) (fun w => hb (by simp [w])) (fun w => hb (by simp [w])) (fun w => hb (by simp [w])) q) hf) S0 hl ha ht)
    · refine wpAny_bind (z3h_end D d1 hz hT st.ti (by
        have e : xs.toArray.size = vx.length := by simp; omega
        rw [e]
        exact st.s1) fun h' hk => ?_)
      exact wpAny_pure (hdone H _ acc (I.turnedL (t' := s.toks) (ch := [z, TO, i1, i2, i3]) (fun c o hb q => hk c o (fun w => hb (by simp [w])) (fun w => hb (by simp [w])) q) hf) S0 hl ha ht)
  | succ m ih =>
    intro i acc H s hm hi I hf st S0 hl ha ht
    have hlt : i < vx.length := by omega
    refine codeAny_builtin PySem.F.entry_extend_loop ?_
    rw [Around.under_plainId PySem.F.plain_extend_loop _]
    show wpAny (model X.prog X.w) A1.in1 (pyNext (.ref z) >>= _) _ _ s
    have hSl : S < s.heap.objs.size := by
      obtain ⟨_, _, _, _, _, e⟩ := I.lstM hl
      exact Heap.lt_size e
    have fin : ∀ (u1 u2 u3 : Value) (h' : Heap) (tk : Nat), xs.toArray[i]? = some u1 → ys.toArray[i]? = some u2 → ws.toArray[i]? = some u3 → (∀ c o, c ∉ [z, TO, i1, i2, i3] → s.heap.get? c = some o → h'.get? c = some o) →
        IsTupOf3 h' s.heap.objs.size u1 u2 u3 → Z3 h' z TI TO i1 i2 i3 l1 l2 l3 S xs.toArray ys.toArray ws.toArray (i + 1) →
        wpAny (model X.prog X.w) A1.in1 (updateSeq S (·.push (Value.ref s.heap.objs.size)) >>= fun _ => again (.builtin "list.extend.loop" ⟨[.ref S, .ref z, .none], []⟩))
          (fun fin s' => match fin with | .done f => Rs (.ok f) s' | .again c' => c'.quiet = true ∧ codeAny (model X.prog X.w) A1 c' Rs s') (fun e s' => Rs (.error e) s') { s with heap := h', toks := tk } := by
      intro u1 u2 u3 h' tk g1 g2 g3 hk hT st'
      have hx : vx[i]? = some vx[i] := by simp [hlt]
      have hy : vy[i]? = some vy[i] := by simp [e1, hlt]
      have hw : vw[i]? = some vw[i] := by simp [e2, hlt]
      obtain ⟨w1, f1, r1⟩ := rx.get hx
      obtain ⟨w2, f2, r2⟩ := ry.get hy
      obtain ⟨w3, f3, r3⟩ := rw'.get hw
      obtain rfl : w1 = u1 := by
        have q : xs.toArray[i]? = some w1 := by simpa using f1
        rw [q] at g1
        exact Option.some.inj g1
      obtain rfl : w2 = u2 := by
        have q : ys.toArray[i]? = some w2 := by simpa using f2
        rw [q] at g2
        exact Option.some.inj g2
      obtain rfl : w3 = u3 := by
        have q : ws.toArray[i]? = some w3 := by simpa using f3
        rw [q] at g3
        exact Option.some.inj g3
      have new : ObjOk X.prog X.w (upd H s.heap.objs.size (.tup [vx[i], vy[i], vw[i]])) h' s.heap.objs.size (.tup [vx[i], vy[i], vw[i]]) :=
        ⟨by show 3 ≤ sizeLine; decide, [w1, w2, w3], .cons r1 (.cons r2 (.cons r3 .nil)), ⟨_, hT, rfl, _, rfl⟩⟩
      have I1 : Inv X pins σ (upd H s.heap.objs.size (.tup [vx[i], vy[i], vw[i]])) { s with heap := h', toks := tk } := I.turnedNew (ch := [z, TO, i1, i2, i3]) hk hf (Nat.le_refl _) new
      have nn : H s.heap.objs.size = none := I.hok.fresh (Nat.le_refl _)
      have hl1 : upd H s.heap.objs.size (.tup [vx[i], vy[i], vw[i]]) S = some (.lst acc) := by rw [upd_ne (Nat.ne_of_lt hSl)]; exact hl
      obtain ⟨zz, its, k, rv, hll, e⟩ := I1.lstM hl1
      refine wpAny_bind (wpAny_updateSeq e rfl (wpAny_pure ⟨plainId_quiet PySem.F.plain_extend_loop _, ?_⟩) (by rw [List.size_toArray]; omega) (by show (its.toArray.push (Value.ref s.heap.objs.size)).size ≤ sizeLine + 1; rw [Array.size_push, List.size_toArray]; omega))
      have I2 := I1.lset (f := (·.push (Value.ref s.heap.objs.size))) (its' := its ++ [Value.ref s.heap.objs.size]) (ys := acc ++ [V.ref s.heap.objs.size]) (t' := tk) hl1 e (by simp) (rv.append (.cons rfl .nil)) (by rw [List.length_append, List.length_singleton]; omega)
      have up : ∀ b o, b ≠ S → H b = some o → upd (upd H s.heap.objs.size (.tup [vx[i], vy[i], vw[i]])) S (.lst (acc ++ [V.ref s.heap.objs.size])) b = some o := fun b o hb q => by
        rw [upd_ne hb, upd_ne (ne_of_none q nn)]
        exact q
      refine ih (i + 1) (acc ++ [V.ref s.heap.objs.size]) _ _ (by omega) hlt I2 (fun b hb => ⟨?_, (hf b hb).2⟩) (st'.at hne fun b o hb q => (Heap.get?_update_other _ _ (Ne.symm hb)).trans q)
        (fun b o q => up b o (ne_of_none q n0) (S0 b o q)) upd_same (by rw [List.length_append, ha]; rfl) fun j v hj => ?_
      · have hbS : b < S := by
          refine hS b ?_
          have e' : b = z ∨ b = TO ∨ b = i1 ∨ b = i2 ∨ b = i3 := by simpa using hb
          rcases e' with q | q | q | q | q <;> simp [q]
        rw [upd_ne (Nat.ne_of_lt hbS), upd_ne (Nat.ne_of_lt (Nat.lt_trans hbS hSl))]
        exact (hf b hb).1
      · by_cases hj1 : j < acc.length
        · rw [List.getElem?_append_left hj1] at hj
          obtain ⟨T, x, y, w, q1, q2, q3, q4, q5⟩ := ht j v hj
          exact ⟨T, x, y, w, q1, q2, q3, q4, up T _ (fun q => by rw [q, hl] at q5; cases q5) q5⟩
        · rw [List.getElem?_append_right (by omega)] at hj
          have ej : j = i := by
            have := (List.getElem?_eq_some_iff.mp hj).1
            simp at this
            omega
          subst ej
          have ev : v = V.ref s.heap.objs.size := by
            rw [ha, Nat.sub_self] at hj
            exact (Option.some.inj hj).symm
          exact ⟨s.heap.objs.size, _, _, _, ev, hx, hy, hw, by rw [upd_ne (Nat.ne_of_gt hSl), upd_same]⟩
    have sx : i < xs.toArray.size := by simp; omega
    have sy : i < ys.toArray.size := by simp; omega
    have sw : i < ws.toArray.size := by simp; omega
    have lt : ∀ {c o}, s.heap.get? c = some o → s.heap.objs.size ≠ c := fun e => Nat.ne_of_gt (Heap.lt_size e)
    have li1 : s.heap.objs.size ≠ i1 := let ⟨_, e, _⟩ := st.s1.1; lt e
    have li2 : s.heap.objs.size ≠ i2 := let ⟨_, e, _⟩ := st.s2.1; lt e
    have li3 : s.heap.objs.size ≠ i3 := let ⟨_, e, _⟩ := st.s3.1; lt e
    rcases st.st with ⟨hz, a, b, c, hTO⟩ | ⟨T, f, oT, hz, hT, c1, c2, c3, c4, c5⟩
    · refine wpAny_bind (wpAny_pyNext_zipD3_item D d1 d2 d3 hz st.ti hTO st.s1 st.s2 st.s3 sx sy sw fun u1 u2 u3 h' tk g1 g2 g3 hz' hTO' y1 y2 y3 hT' hsz hk => ?_)
      have hk' : ∀ c o, c ∉ [z, TO, i1, i2, i3] → s.heap.get? c = some o → h'.get? c = some o := fun c o hb q => hk c o (fun w => hb (by simp [w])) (fun w => hb (by simp [w])) (fun w => hb (by simp [w])) (fun w => hb (by simp [w])) (fun w => hb (by simp [w])) q
      exact fin u1 u2 u3 h' tk g1 g2 g3 hk' hT' ⟨hk' _ _ Tn st.ti, y1, y2, y3, .inr ⟨s.heap.objs.size, false, _, hz', hT', lt hz, li1, li2, li3, Nat.ne_of_gt hSl⟩⟩
    · refine wpAny_bind (z3h_next D d1 d2 d3 hz hT st.ti st.s1 st.s2 st.s3 sx sy sw fun u1 u2 u3 h' tk g1 g2 g3 hz' y1 y2 y3 hT' hk => ?_)
      have hk' : ∀ c o, c ∉ [z, TO, i1, i2, i3] → s.heap.get? c = some o → h'.get? c = some o := fun c o hb q => hk c o (fun w => hb (by simp [w])) (fun w => hb (by simp [w])) (fun w => hb (by simp [w])) (fun w => hb (by simp [w])) q
      exact fin u1 u2 u3 h' tk g1 g2 g3 hk' hT' ⟨hk' _ _ Tn st.ti, y1, y2, y3, .inr ⟨T, true, oT, hz', hk _ _ c1 c2 c3 c4 hT, c1, c2, c3, c4, c5⟩⟩
end
end K54
set_option maxHeartbeats 8000000
namespace K54
open PySem PySem.Spec PyProof.Rows L2
def tLz3 (t : TA) : TE := fun σ H Q => t σ H fun vs H1 => ∃ (a b c : Addr) (vx vy vw : List V), vs = [.ref a, .ref b, .ref c] ∧ H1 a = some (.lst vx) ∧ H1 b = some (.lst vy) ∧ H1 c = some (.lst vw) ∧ vy.length = vx.length ∧ vw.length = vx.length ∧
  ∀ H2 S acc, Same H1 H2 → H1 S = none → H2 S = some (.lst acc) → acc.length = vx.length → Tups H2 vx vy vw acc → Q (.ref S) H2
theorem z3_notIn {N : Nat} : N + 3 ∉ [N + 5, N + 4, N, N + 1, N + 2] := by
  intro h
  simp at h
theorem z3_lt {N M a b c : Nat} (e : M = N + 6) (la : a < N) (lb : b < N) (lc : c < N) : ∀ d ∈ [N + 5, N + 3, N + 4, N, N + 1, N + 2, a, b, c], d < M := by
  intro d hd
  have e' : d = N + 5 ∨ d = N + 3 ∨ d = N + 4 ∨ d = N ∨ d = N + 1 ∨ d = N + 2 ∨ d = a ∨ d = b ∨ d = c := by simpa using hd
  rcases e' with w | w | w | w | w | w | w | w | w <;> omega
theorem z3_ln {N a b c : Nat} (la : a < N) (lb : b < N) (lc : c < N) : ∀ d ∈ [a, b, c], d ∉ [N + 5, N + 4, N, N + 1, N + 2] := by
  intro d hd hm2
  have e' : d = a ∨ d = b ∨ d = c := by simpa using hd
  have e2 : d = N + 5 ∨ d = N + 4 ∨ d = N ∨ d = N + 1 ∨ d = N + 2 := by simpa using hm2
  rcases e' with w | w | w <;> rcases e2 with v | v | v | v | v <;> omega
theorem z3_ge {N M d : Nat} (e : M = N + 6) (hd : d ∈ [N + 5, N + 4, N, N + 1, N + 2]) : N ≤ d ∧ d < M := by
  have e2 : d = N + 5 ∨ d = N + 4 ∨ d = N ∨ d = N + 1 ∨ d = N + 2 := by simpa using hd
  rcases e2 with v | v | v | v | v <;> omega
theorem z3_ne {N a k : Nat} (la : a < N) : a ≠ N + k := by omega
theorem pe_lz3 {X : Cx} {e1 e2 e3 : Expr} {ta : TA} {p p2 pos pos2 : Pos} (hg : Gl X "zip") (hm : X.mg "zip" = none) (hgl : Gl X "list") (hml : X.mg "list" = none) (ha : PA X [e1, e2, e3] ta)
    (hs : starEach [e1, e2, e3] X.env = (false, eval e1 X.env) :: starEach [e2, e3] X.env := by rfl) (hpl : (backTo pos2 (starEach [e2, e3] X.env)).any (·.1) = false := by rfl)
    (hs2 : starEach [.Call (.Name "zip" p2) [e1, e2, e3] [] pos2] X.env = (false, eval (.Call (.Name "zip" p2) [e1, e2, e3] [] pos2) X.env) :: starEach [] X.env := by rfl) (hr : Room 2 X.A) :
    PE X (.Call (.Name "list" p) [.Call (.Name "zip" p2) [e1, e2, e3] [] pos2] [] pos) (tLz3 ta) := by
  refine ⟨fun pins s0 σ H0 Q I0 h => ?_⟩
  refine wpAny_Call_Name_kw (ld_blt I0 hgl hml (u := .type "list") (by decide +kernel) ?_ (by decide) (by decide))
  refine PyProof.Rows.callWith_type1 ?_ hs2 rfl
  rw [hs2]
  show wpAny _ _ (spliced ((false, eval (.Call (.Name "zip" p2) [e1, e2, e3] [] pos2) X.env) :: backTo pos (starEach [] X.env))) _ _ s0
  refine Calls.spliced_cons (Call_ (ld_blt I0 hg hm PyProof.Rows.boot_zip (PyProof.Rows.callWith_type1 (thn (ha.run pos2 pins s0 σ H0 _ I0 h) fun us s1 ⟨vs, H1, I1, r1, q1⟩ => ?_) hs hpl)))
  obtain ⟨a, b, c, vx, vy, vw, ex, hx, hy, hw, l1, l2, q⟩ := q1
  subst ex
  cases r1 with
  | cons ra rr =>
    cases rr with
    | cons rb rr =>
      cases rr with
      | cons rc rr =>
        cases rr
        cases ra
        cases rb
        cases rc
        obtain ⟨xs, rx, px, zx⟩ := I1.list (SqL.of hx)
        obtain ⟨ys, ry, py, zy⟩ := I1.list (SqL.of hy)
        obtain ⟨ws, rw', pw, zw⟩ := I1.list (SqL.of hw)
        have la : a < s1.heap.objs.size := px.lt
        have lb : b < s1.heap.objs.size := py.lt
        have lc : c < s1.heap.objs.size := pw.lt
        generalize hN : s1.heap.objs.size = N at la lb lc
        have D : ZipSep3 (N + 5) (N + 3) (N + 4) N (N + 1) (N + 2) [N, a] [N + 1, b] [N + 2, c] := zip_sep3 (fun _ hb => by rw [List.mem_singleton.mp hb]; exact la) (fun _ hb => by rw [List.mem_singleton.mp hb]; exact lb) (fun _ hb => by rw [List.mem_singleton.mp hb]; exact lc)
        refine zip_begins3 (begins_list a xs.toArray) (begins_list b ys.toArray) (begins_list c ws.toArray) px.isList py.isList pw.isList fun h' hz hTI hTO hi1 hi2 hi3 hsz hk => ?_
        rw [hN] at hz hTI hTO hi1 hi2 hi3 hsz ⊢
        have I2 : Inv X pins σ H1 { s1 with heap := h' } := I1.kept (t' := s1.toks) hk
        refine Calls.spliced_nil ?_
        refine callType_codes (Q₁ := fun obj t₁ => obj = .ref h'.objs.size ∧ t₁ = { s1 with heap := h'.push { cls := .type "list", data := .seq #[] } }) PySem.F.called_list (PySem.F.typeCall_list_1 _) PySem.F.entry_list_init
          (code_list_new _ ⟨rfl, rfl⟩) fun obj t₁ h₁ => ?_
        obtain ⟨rfl, rfl⟩ := h₁
        have hS : (h'.push { cls := .type "list", data := .seq #[] }).get? h'.objs.size = some { cls := .type "list", data := .seq #[] } := Heap.get?_push_size _ rfl
        refine ⟨⟨_, hS, rfl⟩, PySem.F.args_list_init_2 _ _, ?_⟩
        have fr : H1 h'.objs.size = none := I2.hok.fresh (Nat.le_refl _)
        have J1 : Inv X pins σ (upd H1 h'.objs.size (.lst [])) { s1 with heap := h'.push { cls := .type "list", data := .seq #[] } } := I2.lnew (its := []) (t' := s1.toks) .nil (Nat.zero_le _)
        refine wpAny_bind (?_ : wpAny (model X.prog X.w) X.A.in1.in1 (Builtin.List.listItems (.ref h'.objs.size)) _ _ _)
        unfold Builtin.List.listItems
        refine wpAny_bind (wpAny_seqItems hS rfl (wpAny_pure ?_))
        refine wpAny_bind (wpAny_updateSeq hS rfl (?_ : wpAny (model X.prog X.w) X.A.in1.in1 (letGo (#[] : Array Value).toList.reverse >>= fun _ => Builtin.List.listExtendWith (.ref h'.objs.size) (.ref (N + 5)) .none) _ _ _))
        have hS2 := Heap.get?_update_self (Obj.mapSeq (fun _ => (#[] : Array Value))) hS rfl
        have J2 := J1.lset (f := fun _ => #[]) (its := []) (its' := []) (ys := []) (t' := s1.toks) upd_same hS rfl .nil (Nat.zero_le _)
        rw [upd_upd] at J2
        refine wpAny_bind (wpAny_letGo ?_)
        unfold Builtin.List.listExtendWith
        have up1 : ∀ b o, h'.get? b = some o → (h'.push { cls := .type "list", data := .seq #[] }).get? b = some o := fun b o e => Heap.get?_push_of_some _ e
        have upU : ∀ (g : Heap) (f : Obj → Obj), (∀ b o, h'.get? b = some o → g.get? b = some o) → ∀ b o, h'.get? b = some o → (g.update h'.objs.size f).get? b = some o := fun g f w b o e => (Heap.get?_update_other _ _ (Nat.ne_of_gt (Heap.lt_size e))).trans (w b o e)
        have up2 := upU _ (Obj.mapSeq (fun _ => (#[] : Array Value))) up1
        refine wpAny_bind (wpAny_typeOf (T := "zip") ⟨_, up2 _ _ hz, rfl⟩ ?_)
        have b1 : Builtin.List.listSameRef (.ref h'.objs.size) (.ref (N + 5)) = false := by
          have : h'.objs.size ≠ N + 5 := by omega
          simp [Builtin.List.listSameRef, this]
        have b2 : (Value.type "zip" == Value.type "list") = false := by decide
        have b3 : (Value.type "zip" == Value.type "tuple") = false := by decide
        simp only [b1, b2, b3, Bool.or_false, Bool.false_eq_true, if_false]
        refine wpAny_bind (wpAny_pyIter_zip (up2 _ _ hz) (wpAny_bind (wpAny_holding ?_)))
        unfold Builtin.List.listLengthHint
        refine wpAny_bind (wpAny_specialOf (T := "zip") ⟨_, up2 _ _ hz, rfl⟩ z3_len ?_)
        refine wpAny_bind (wpAny_specialOf (T := "zip") ⟨_, up2 _ _ hz, rfl⟩ z3_hint ?_)
        refine wpAny_pure ?_
        show wpAny (model X.prog X.w) X.A.in1.in1 (rule "list.extend.makes-room" >>= fun _ => Builtin.List.listTouch (.ref h'.objs.size) >>= fun _ => again (.builtin "list.extend.loop" ⟨[.ref h'.objs.size, .ref (N + 5), .none], []⟩)) _ _ _
        refine wpAny_bind (wpAny_rule (wpAny_bind ?_))
        show wpAny (model X.prog X.w) X.A.in1.in1 (updateSeq h'.objs.size (·.push .none) >>= fun _ => updateSeq h'.objs.size (·.pop)) _ _ _
        refine wpAny_bind (wpAny_updateSeq hS2 rfl ?_)
        have hS3 := Heap.get?_update_self (Obj.mapSeq (·.push Value.none)) hS2 rfl
        have J3 := J2.lset (f := (·.push Value.none)) (its' := [Value.none]) (ys := [.non]) (t' := s1.toks) upd_same hS2 (by rfl) (.cons rfl .nil) (by rw [List.length_singleton, sizeLine_eq]; decide)
        refine wpAny_updateSeq hS3 rfl ?_ (by show 1 ≤ sizeLine; rw [sizeLine_eq]; decide) (by show 0 ≤ sizeLine + 1; exact Nat.zero_le _)
        have J4 := J3.lset (f := (·.pop)) (its := [Value.none]) (its' := []) (ys := []) (t' := s1.toks) upd_same hS3 (by rfl) .nil (Nat.zero_le _)
        rw [upd_upd, upd_upd] at J4
        have up4 := upU _ (Obj.mapSeq (·.pop)) (upU _ (Obj.mapSeq (·.push Value.none)) up2)
        refine wpAny_pure ⟨plainId_quiet PySem.F.plain_extend_loop _, ?_⟩
        refine zloop (A1 := X.A.in1) (X := X) (pins := pins) (σ := σ) (H0 := H1) (z := N + 5) (TI := N + 3) (TO := N + 4) (i1 := N) (i2 := N + 1) (i3 := N + 2) (l1 := a) (l2 := b) (l3 := c) (S := h'.objs.size) (vx := vx) (vy := vy) (vw := vw) (xs := xs) (ys := ys) (ws := ws)
          hr.hd D (Nat.ne_of_lt la) (z3_ne lb) (z3_ne lc) (z3_lt hsz la lb lc) z3_notIn (z3_ln la lb lc) rx ry rw' l1 l2 zx fr ?_ vx.length 0 [] _ _ (Nat.sub_zero _) (Nat.zero_le _) J4 ?_ ?_ ?_ upd_same rfl ?_
        · intro H' s' acc I' S' hl' ha' ht'
          exact ⟨rfl, .ref h'.objs.size, H', I', rfl, q H' _ acc S' fr hl' ha' ht'⟩
        · intro d hd
          obtain ⟨hge, hlt⟩ := z3_ge hsz hd
          rw [← hN] at hge
          exact I1.fpOk hge (by rw [upd_ne (Nat.ne_of_lt hlt)]; exact I1.hok.fresh hge)
        · exact ⟨up4 _ _ hTI, ⟨⟨_, up4 _ _ hi1, rfl, rfl⟩, px.isList.at fun o e => up4 _ o (hk _ o e)⟩, ⟨⟨_, up4 _ _ hi2, rfl, rfl⟩, py.isList.at fun o e => up4 _ o (hk _ o e)⟩, ⟨⟨_, up4 _ _ hi3, rfl, rfl⟩, pw.isList.at fun o e => up4 _ o (hk _ o e)⟩,
            .inl ⟨up4 _ _ hz, _, _, _, up4 _ _ hTO⟩⟩
        · intro d o e
          rw [upd_ne (ne_of_none e fr)]
          exact e
        · intro j v hj
          simp at hj
end K54
set_option maxHeartbeats 8000000
namespace K54
open PySem PySem.Spec PyProof.Rows L2

/-! ### digits_at -/
theorem pass0C {X : Cx} : Passes (CX X.prog X.w) X E0 := fun _ _ _ _ _ _ _ ⟨_, _, _, _, _, _, _, _, _, _, _, _, hE⟩ => hE.elim
/-- any loop over a walk, from any heap -/
theorem lq_it {J : It} {n : Nat} {G : Hp → Prop} {Y : Nat → Hp → V → Hp → Prop} (w : Walk J n G Y) {B : V → Hp → (Hp → Prop) → Prop} {H0 : Hp} {Qd : Hp → Prop}
    (Pv : Nat → Hp → Prop) (h0 : Pv 0 H0) (hG : ∀ i H, i ≤ n → Pv i H → G H) (hs : ∀ i x H H', i < n → Pv i H → Y i H x H' → B x H' (Pv (i + 1))) (hd : ∀ H, Pv n H → Qd H) :
    ∃ W : Nat → Nat → Hp → Prop, (∃ m, W 0 m H0) ∧ ∀ i m H, W i m H → (J.stop i H ∧ Qd H) ∨ (J.go i H ∧ ∃ Nx : Hp → Prop, (∀ H', Nx H' → ∃ m', m' < m ∧ W (i + 1) m' H') ∧ ∀ x H', J.yld i H x H' → B x H' Nx) := by
  refine ⟨fun i m H => m = n - i ∧ i ≤ n ∧ Pv i H, ⟨n, (Nat.sub_zero n).symm, Nat.zero_le n, h0⟩, fun i m H ⟨em, hi, p⟩ => ?_⟩
  subst em
  have gd := hG i H hi p
  rcases Nat.lt_or_eq_of_le hi with hlt | rfl
  · exact .inr ⟨w.goes i H hlt gd, Pv (i + 1), fun H' p' => ⟨n - (i + 1), by omega, rfl, hlt, p'⟩, fun x H' y => hs i x H H' hlt p (w.yields i H x H' hlt gd y)⟩
  · exact .inl ⟨w.stops H gd, hd H p⟩
/-- a size can be asked at numbers -/
structure AtSz (nu es : Es) : Prop where
  inn : ∀ q ∈ es, q.1 ∈ nu.map (·.1)
  bd : ∃ L : Str → Nat, bnd es L ≤ 10000 ∧ ∀ q ∈ es, nOf nu q.1 < 2 ^ L q.1
  dv : dnV es (nOf nu) ∣ upV es (nOf nu)
  len : es.length ≤ 8
def valS (nu es : Es) : Nat := upV es (nOf nu) / dnV es (nOf nu)
/-- the tuple of a digit -/
def dTup (nu : Es) (m : M3) : HO := .tup [.int (valS nu m.r : Nat), .int (if m.k = 0 then 0 else (valS nu m.f : Nat)), .bl (decide (m.k = 2))]
abbrev sDga : Stmt := top 58
def spDga (C : Addr) (cl : Nat → Addr) : Sp := fun vs H Q _ => ∃ (L d : Addr) (ps : List Addr) (ms : List M3) (nu : Es), vs = [.ref L, .ref d] ∧ H L = some (.lst (ps.map V.ref)) ∧ Paired (DgAt C cl H) ps ms ∧ NumD H d nu ∧ ms.length ≤ 8 ∧ (∀ m ∈ ms, AtSz nu m.r ∧ AtSz nu m.f) ∧
  ∀ H' r ts, Same H H' → H r = none → H' r = some (.lst (ts.map V.ref)) → Paired (fun T m => H' T = some (dTup nu m)) ts ms → Q (.ref r) H'
/-- what stands at a digit -/
structure DgO (C : Addr) (cl : Nat → Addr) (H : Hp) (p q : Addr) (o : V) (m : M3) : Prop where
  ob : ∃ dx, H p = some (.ins (cl m.k) dx (fld2 (.ref q) o))
  rz : SizeAt C H q m.r
  fz : (m.k = 0 ∧ o = .non) ∨ (m.k ≠ 0 ∧ ∃ q2, o = .ref q2 ∧ SizeAt C H q2 m.f)
  lt : m.k < 3
theorem DgAt.dgo {C p : Addr} {cl : Nat → Addr} {m : M3} {H : Hp} (h : DgAt C cl H p m) : ∃ q o, DgO C cl H p q o m := by
  obtain ⟨dx, q, o, h1, h2, h3⟩ := h.obj
  exact ⟨q, o, ⟨dx, h1⟩, h2, h3, h.lt⟩
theorem DgO.same {C p q : Addr} {o : V} {cl : Nat → Addr} {m : M3} {H H' : Hp} (h : DgO C cl H p q o m) (S : Same H H') : DgO C cl H' p q o m := by
  obtain ⟨⟨dx, h1⟩, h2, h3, h4⟩ := h
  exact ⟨⟨dx, S _ _ h1⟩, h2.same S, h3.imp id fun ⟨a, u, b, c⟩ => ⟨a, u, b, c.same S⟩, h4⟩
section
variable {P : Program} {w : World} {K : PySem.W.Frag} {mg : Str → Option Value} {base : Heap} {C CW DD : Addr} {cl : Nat → Addr} {σ : L2.St} {H : Hp} {p q : Addr} {o : V} {m : M3}
/-- x.radix, x.factor, what stands being known -/
theorem rd_radO {i : Nat} (a : Dall P w K mg base C DD cl) {Q : VK} (hi : σ[i]? = some (some (.ref p))) (h : DgO C cl H p q o m) (k : Q (.ref q) H) : tPropA P w K mg base 1 "radix" (tVar i) σ H Q := by
  obtain ⟨⟨dx, h1⟩, h2, h3, hl⟩ := h
  obtain ⟨pp, g, fd, hp, F, hb⟩ := a.rad m.k hl
  exact ⟨_, hi, p, _, dx, _, pp, g, fd, _, rfl, h1, (a.dq m.k hl).cl, hp, F, hb, p, _, dx, _, o, rfl, h1, (a.dq m.k hl).toDf, k⟩
theorem rd_facO {i : Nat} (a : Dall P w K mg base C DD cl) {Q : VK} (hi : σ[i]? = some (some (.ref p))) (h : DgO C cl H p q o m) (k : Q o H) : tPropA P w K mg base 1 "factor" (tVar i) σ H Q := by
  obtain ⟨⟨dx, h1⟩, h2, h3, hl⟩ := h
  rcases h3 with ⟨e, rfl⟩ | ⟨e, q2, rfl, h3⟩
  · obtain ⟨pp, g, fd, hp, F, hb⟩ := a.fac0
    rw [e] at h1
    exact ⟨_, hi, p, _, dx, _, pp, g, fd, _, rfl, h1, (a.dq 0 (by decide)).cl, hp, F, hb, .ref p, rfl, k⟩
  · obtain ⟨pp, g, fd, hp, F, hb⟩ := a.fac m.k (by omega)
    exact ⟨_, hi, p, _, dx, _, pp, g, fd, _, rfl, h1, (a.dq m.k hl).cl, hp, F, hb, p, _, dx, _, _, rfl, h1, (a.dq m.k hl).toDf, k⟩
/-- s.at(numbers), s being the answer of te -/
theorem rd_atO {te : TE} {td : TE} {s d : Addr} {es nu : Es} {Q : VK} (ht : ∀ Q' : VK, Q' (.ref s) H → te σ H Q') (hd : ∀ Q' : VK, Q' (.ref d) H → td σ H Q') (hz : SizeAt C H s es) (hD : NumD H d nu) (ha : AtSz nu es)
    (k : ∀ H', Same H H' → Q (.int (valS nu es : Nat)) H') : tMeth C "at" (spAt C CW) [] E0 te (tCons td tNil) σ H Q := by
  obtain ⟨dx, D0, z1, z2, z3, z4, z5, z6⟩ := id hz
  obtain ⟨L, b1, b2⟩ := ha.bd
  refine ht _ ⟨s, dx, _, rfl, z1, rfl, hd _ ⟨s, d, es, nu, L, rfl, hz, hD, ha.inn, b1, b2, fun _ => k, fun n => absurd ha.dv n⟩⟩
end
end K54
set_option maxHeartbeats 8000000
namespace K54
open PySem PySem.Spec PyProof.Rows L2
def NDa : List Str := ["digits", "numbers", "sizes", "radices", "factors", "turned", "digit", "size", "name"]
/-- refs of sizes that can be asked at numbers -/
def SzR (C : Addr) (H : Hp) (nu : Es) (y : V) : Prop := ∃ q es, y = .ref q ∧ SizeAt C H q es ∧ AtSz nu es
theorem dg_at {C : Addr} {cl : Nat → Addr} {H : Hp} {ps : List Addr} {ms : List M3} (hz : Paired (DgAt C cl H) ps ms) {k : Nat} {x : V} (hx : (ps.map V.ref)[k]? = some x) : ∃ p q o m, x = .ref p ∧ ms[k]? = some m ∧ DgO C cl H p q o m := by
  have hk : k < ps.length := by
    have := (List.getElem?_eq_some_iff.mp hx).1
    rwa [List.length_map] at this
  obtain ⟨m, hm, hd⟩ := pairedLX hz hk
  obtain ⟨q, o, h⟩ := hd.dgo
  rw [List.getElem?_map, List.getElem?_eq_getElem hk] at hx
  exact ⟨ps[k], q, o, m, (Option.some.inj hx).symm, hm, h⟩
section
variable {P : Program} {w : World} {K : PySem.W.Frag} {mg : Str → Option Value} {base : Heap} {C CW DD : Addr} {cl : Nat → Addr} {H : Hp} {ps : List Addr} {ms : List M3} {nu : Es} {L d : Addr}
/-- [digit.factor for digit in digits if digit.factor is not None] -/
theorem rd_facs {σ : L2.St} {H1 : Hp} (a : Dall P w K mg base C DD cl) (hz : Paired (DgAt C cl H) ps ms) (hL : H L = some (.lst (ps.map V.ref))) (hl : ms.length ≤ 8) (hA : ∀ m ∈ ms, AtSz nu m.r ∧ AtSz nu m.f) (S1 : Same H H1) {o2 o3 o4 o5 : Option V} {Q : VK}
    (eσ : σ = [some (.ref L), some (.ref d), o2, o3, o4, o5, none, none, none])
    (k : ∀ H' D ys, Same H1 H' → H1 D = none → H' D = some (.lst ys) → ys.length ≤ 8 → (∀ y ∈ ys, SzR C H nu y) → Q (.ref D) H') :
    tLc (iList K (tVar 0)) (gName 6) (tB (tNotN (tPropA P w K mg base 1 "factor" (tVar 6)))) (tPropA P w K mg base 1 "factor" (tVar 6)) [6] σ H1 Q := by
  subst eσ
  have hlp := Paired.length hz
  refine ⟨_, rfl, L, rfl, ⟨_, SqL.of (S1 _ _ hL)⟩, fun D hD => ?_⟩
  refine lc_it (walk_list (K := K) (a := L) (xs := ps.map V.ref)) (fun n H4 => Same H1 H4 ∧ ∃ ys, H4 D = some (.lst ys) ∧ ys.length ≤ n ∧ ∀ y ∈ ys, SzR C H nu y) ⟨fresh_upd hD, [], upd_same, Nat.zero_le _, fun y e => by cases e⟩ (fun n H4 _ h => SqL.of (h.1 _ _ (S1 _ _ hL))) ?_ ?_
  · rintro n x H4 H5 hlt ⟨S4, ys, e, l, r⟩ ⟨rfl, hx⟩
    rw [List.length_map] at hlt
    obtain ⟨p, q, o, m, rfl, hm, h⟩ := dg_at hz hx
    have h5 := h.same (S1.trans S4)
    have pu : ∀ {y : V}, H5 D = some (.lst ys) → SzR C H nu y → ∃ acc, H5 D = some (.lst acc) ∧ acc.length < sizeLine ∧ (Same H1 (upd H5 D (.lst (acc ++ [y]))) ∧ ∃ ys, upd H5 D (.lst (acc ++ [y])) D = some (.lst ys) ∧ ys.length ≤ n + 1 ∧ ∀ y ∈ ys, SzR C H nu y) := fun {y} e hy =>
      ⟨ys, e, by rw [sizeLine_eq]; omega, ⟨fun b u eb => by rw [upd_ne (ne_of_none eb hD)]; exact S4 _ _ eb, ys ++ [y], upd_same, by rw [List.length_append]; exact Nat.succ_le_succ l, fun z hzz => by
        rcases List.mem_append.mp hzz with hzz | hzz
        · exact r z hzz
        · rw [List.mem_singleton.mp hzz]; exact hy⟩⟩
    refine ⟨rfl, rd_facO a rfl h5 ⟨_, rfl, ?_⟩⟩
    rcases h.fz with ⟨e0, rfl⟩ | ⟨e0, q2, rfl, h2⟩
    · exact iteF ⟨S4, ys, e, by omega, r⟩
    · exact iteT (rd_facO a rfl h5 (pu e ⟨q2, m.f, rfl, h2, (hA m (List.mem_of_getElem? hm)).2⟩))
  · rintro H4 ⟨S4, ys, e, l, r⟩
    rw [List.length_map] at l
    exact k H4 D ys S4 hD e (by omega) r
/-- [name for size in sizes for name in size.names()] -/
theorem rd_nms {σ : L2.St} {Z : Addr} {zs : List V} {H1 : Hp} (hZ : H1 Z = some (.lst zs)) (hl : zs.length ≤ 16) (hz : ∀ y ∈ zs, SzR C H nu y) (S1 : Same H H1) {o3 o4 o5 : Option V} {Q : VK}
    (eσ : σ = [some (.ref L), some (.ref d), some (.ref Z), o3, o4, o5, none, none, none])
    (k : ∀ H' D (ns : List Str), Same H1 H' → H1 D = none → H' D = some (.lst (ns.map V.str)) → ns.length ≤ 1000 → (∀ n ∈ ns, n ∈ nu.map (·.1)) → Q (.ref D) H') :
    tLc2 (iList K (tVar 2)) (gName 7) tYes (iList K (tMeth C "names" (spNames C) [] E0 (tVar 7) tNil)) (gName 8) tYes (tVar 8) [7, 8] [8] σ H1 Q := by
  subst eσ
  refine ⟨_, rfl, Z, rfl, ⟨_, SqL.of hZ⟩, fun D hD => ?_⟩
  refine lq_it (walk_list (K := K) (a := Z) (xs := zs)) (fun n H4 => Same H1 H4 ∧ ∃ ns : List Str, H4 D = some (.lst (ns.map V.str)) ∧ ns.length ≤ 8 * n ∧ ∀ y ∈ ns, y ∈ nu.map (·.1)) ⟨fresh_upd hD, [], upd_same, Nat.zero_le _, fun y e => by cases e⟩ (fun n H4 _ h => SqL.of (h.1 _ _ hZ)) ?_ ?_
  · rintro n x H4 H5 hlt ⟨S4, ns, e, l, r⟩ ⟨rfl, hx⟩
    obtain ⟨q, es, rfl, hq, ha⟩ := hz x (List.mem_of_getElem? hx)
    have hq5 := hq.same (S1.trans S4)
    obtain ⟨dx, D0, z1, z2, z3, z4, z5, z6⟩ := id hq5
    refine ⟨rfl, ?_⟩
    unfold tYes
    dsimp only
    rw [if_pos rfl]
    refine ⟨_, rfl, q, dx, _, rfl, z1, rfl, q, es, rfl, hq5, fun ln nln => ?_⟩
    have hDl : D ≠ ln := ne_of_none e nln
    have S5 := fresh_upd (o := .lst (es.map fun q => V.str q.1)) nln
    have hel := ha.len
    refine ⟨ln, rfl, ⟨_, SqL.of upd_same⟩, ?_⟩
    refine lq_it (walk_list (K := K) (a := ln) (xs := es.map fun q => V.str q.1)) (fun j H6 => Same H1 H6 ∧ H6 ln = some (.lst (es.map fun q => V.str q.1)) ∧ ∃ ns : List Str, H6 D = some (.lst (ns.map V.str)) ∧ ns.length ≤ 8 * n + j ∧ ∀ y ∈ ns, y ∈ nu.map (·.1))
      ⟨S4.trans S5, upd_same, ns, by rw [upd_ne hDl]; exact e, l, r⟩ (fun j H6 _ p => SqL.of p.2.1) ?_ ?_
    · rintro j v H6 H7 hj ⟨S6, hln, ns2, e2, l2, r2⟩ ⟨rfl, hv⟩
      rw [List.length_map] at hj
      have ev : v = V.str es[j].1 := by
        rw [List.getElem?_map, List.getElem?_eq_getElem hj] at hv
        exact (Option.some.inj hv).symm
      subst ev
      refine ⟨rfl, ?_⟩
      dsimp only
      rw [if_pos rfl]
      refine ⟨_, rfl, _, e2, by rw [List.length_map, sizeLine_eq]; omega, fun b u eb => ?_, ?_, ns2 ++ [es[j].1], by rw [upd_same, List.map_append]; rfl, by rw [List.length_append]; exact Nat.succ_le_succ l2, fun y hy => ?_⟩
      · rw [upd_ne (ne_of_none eb hD)]
        exact S6 _ _ eb
      · rw [upd_ne (Ne.symm hDl)]
        exact hln
      · rcases List.mem_append.mp hy with hy | hy
        · exact r2 y hy
        · rw [List.mem_singleton.mp hy]
          exact ha.inn _ (List.getElem_mem hj)
    · rintro H6 ⟨S6, hln, ns2, e2, l2, r2⟩
      rw [List.length_map] at l2
      exact ⟨S6, ns2, e2, by omega, r2⟩
  · rintro H4 ⟨S4, ns, e, l, r⟩
    exact k H4 D ns S4 hD e (by omega) r
end
end K54
set_option maxHeartbeats 8000000
namespace K54
open PySem PySem.Spec PyProof.Rows L2
theorem kit_self {K : PySem.W.Frag} {D : Addr} : PySem.W.kitOne K (.ref D) (.ref D) = some true := by
  unfold PySem.W.kitOne
  rw [if_pos (by simp)]
/-- a comprehension over a list: what is known of each item stands without the heap -/
theorem lcm_it {K : PySem.W.Frag} {te : TE} {vs : List Nat} {i : Nat} {σ : L2.St} {H1 : Hp} {a D : Addr} {xs : List V} {R : Nat → V → Prop} {Qd : Hp → Prop} (hD : H1 D = none) (ha : H1 a = some (.lst xs)) (hn : xs.length ≤ 1000)
    (he : ∀ k x H2 (Qy : VK), xs[k]? = some x → Same H1 H2 → (∀ y H3, Same H2 H3 → R k y → Qy y H3) → te ((wipe σ vs).set i (some x)) H2 Qy)
    (q : ∀ H' ys, Same H1 H' → H' D = some (.lst ys) → ys.length = xs.length → (∀ k y, ys[k]? = some y → R k y) → Qd H') (hw : ∀ x, wipe ((wipe σ vs).set i (some x)) vs = wipe σ vs) :
    ∃ W : Nat → Nat → Hp → Prop, (∃ m, W 0 m (upd H1 D (.lst []))) ∧ ∀ n m H, W n m H →
      ((Itl K a).stop n H ∧ Qd H) ∨ ((Itl K a).go n H ∧ ∃ Nx : Hp → Prop, (∀ H', Nx H' → ∃ m', m' < m ∧ W (n + 1) m' H') ∧ ∀ x H', (Itl K a).yld n H x H' → gName i x (wipe σ vs) H' fun σ2 H2 => wipe σ2 vs = wipe σ vs ∧ tYes σ2 H2 fun b H3 =>
        if b = true then te σ2 H3 fun y H4 => ∃ acc, H4 D = some (.lst acc) ∧ acc.length < sizeLine ∧ Nx (upd H4 D (.lst (acc ++ [y]))) else Nx H3) := by
  refine lc_it (walk_list (K := K) (a := a) (xs := xs)) (fun n H4 => Same H1 H4 ∧ ∃ ys, H4 D = some (.lst ys) ∧ ys.length = n ∧ ∀ k y, ys[k]? = some y → R k y) ⟨fresh_upd hD, [], upd_same, rfl, fun k y e => by simp at e⟩ (fun n H4 _ h => SqL.of (h.1 _ _ ha)) ?_ ?_
  · rintro n x H4 H5 hlt ⟨S4, ys, e, l, r⟩ ⟨rfl, hx⟩
    refine ⟨hw x, ?_⟩
    unfold tYes
    dsimp only
    rw [if_pos rfl]
    refine he n x H5 _ hx S4 fun y H6 S6 ry => ⟨ys, S6 _ _ e, by rw [sizeLine_eq]; omega, fun b o eb => ?_, ys ++ [y], upd_same, by rw [List.length_append, l]; rfl, fun k z ez => ?_⟩
    · rw [upd_ne (ne_of_none eb hD)]
      exact S6 _ _ (S4 _ _ eb)
    · by_cases hk : k < ys.length
      · rw [List.getElem?_append_left hk] at ez
        exact r k z ez
      · rw [List.getElem?_append_right (by omega)] at ez
        have ek : k = n := by
          have := (List.getElem?_eq_some_iff.mp ez).1
          simp at this
          omega
        subst ek
        rw [l, Nat.sub_self] at ez
        rw [← Option.some.inj ez]
        exact ry
  · rintro H4 ⟨S4, ys, e, l, r⟩
    exact q H4 ys S4 e l r
section
variable {P : Program} {w : World} {K : PySem.W.Frag} {mg : Str → Option Value} {base : Heap} {C CW DD : Addr} {cl : Nat → Addr}
theorem scDga : FnScope NDa ["digits", "numbers"] (defScope sDga) := ⟨rfl, rfl, rfl, by decide +kernel, rfl, by decide +kernel, by decide +kernel⟩
theorem ok_dga {f fC fN fA : Addr} {fd fdC fdN fdA : FuncData} (F : Fun K "digits_at" "digits_at" sDga f fd) (a : Dall P w K mg base C DD cl) (Tc : Ck K mg C) (iN : mg "isinstance" = none) (lN : mg "list" = none) (zN : mg "zip" = none)
    (GC : FnOk P w K mg base CX0 3 fC fdC ["value", "names"] spChN) (kC : PySem.W.keepIn K (.ref fC) = true) (bC : Binds K fdC ["value", "names"] []) (gC : mg "check_numbers" = some (.ref fC))
    (GN : FnOk P w K mg base CX0 1 fN fdN ["self"] (spNames C)) (mN : Meth K C "names" fN) (bN : Binds K fdN ["self"] [])
    (GA : FnOk P w K mg base (L2.CX P w) 5 fA fdA ["self", "numbers"] (spAt C CW)) (mA : Meth K C "at" fA) (bA : Binds K fdA ["self", "numbers"] []) :
    FnOk P w K mg base CX0 6 f fd ["digits", "numbers"] (spDga C cl) := by
  have GC5 := GC.mono (k := 5) (by decide)
  have GN5 := GN.mono (k := 5) (by decide)
  refine F.ok scDga (fun vs H Q E h => ?_) (fun cdv A outer s H vs Q E hr h => ?_)
  · obtain ⟨L, d, ps, ms, nu, rfl, _⟩ := h
    rfl
  · obtain ⟨L, d, ps, ms, nu, rfl, hL, hz, hD, hl, hA, k⟩ := h
    have hr2 : Room 2 (A.deeper (envOfC "digits_at" (defScope sDga) s.heap.objs.size f cdv)) := hr.mono (by decide)
    refine ⟨_, pss_cons (ps_set (i := 2) scDga.nd rfl (.inl rfl) (pe_op op_cat
        (pe_lc (own := [("digit", 6)]) (g := gName 6) (tt := tYes) (te := tPropA P w K mg base 1 "radix" (tVar 6)) rfl scDga.nd (pi_list (pv 0)) (blkOk_by (own := [("digit", 6)]) (N := NDa) (sc := defScope sDga) (by decide +kernel)) (fun _ _ _ _ _ => pg_name (i := 6) scDga.nd rfl (Or.inl rfl))
          (fun _ _ _ _ _ => pts_nil) (fun _ _ _ _ _ => by exact pe_propA (k := 1) (pv 6) hr2 rfl))
        (pe_lc (own := [("digit", 6)]) (g := gName 6) (tt := tB (tNotN (tPropA P w K mg base 1 "factor" (tVar 6)))) (te := tPropA P w K mg base 1 "factor" (tVar 6)) rfl scDga.nd (pi_list (pv 0)) (blkOk_by (own := [("digit", 6)]) (N := NDa) (sc := defScope sDga) (by decide +kernel)) (fun _ _ _ _ _ => pg_name (i := 6) scDga.nd rfl (Or.inl rfl))
          (fun _ _ _ _ _ => pts_one (by exact pt_cmp (pc_notN (pe_propA (k := 1) (pv 6) hr2 rfl)))) (fun _ _ _ _ _ => by exact pe_propA (k := 1) (pv 6) hr2 rfl))))
      (pss_cons (ps_expr (pe_call GC5 hr (by rfl) gC kC bC .nil pass0 (pa_cons (pv 1) (pa_cons
        (pe_lc2 (own := [("size", 7), ("name", 8)]) (vs1 := [8]) (g := gName 7) (tt := tYes) (wi1 := iList K (tMeth C "names" (spNames C) [] E0 (tVar 7) tNil)) (g1 := gName 8) (tt1 := tYes) (te := tVar 8) rfl scDga.nd (pi_list (pv 2))
          (blkOk_by (own := [("size", 7), ("name", 8)]) (N := NDa) (sc := defScope sDga) (by decide +kernel)) (by decide) (fun _ _ _ _ _ => pg_name (i := 7) scDga.nd rfl (Or.inl rfl)) (fun _ _ _ _ _ => pts_nil)
          (fun _ _ _ _ _ => by exact pi_list (pe_meth0 (pv 7) Tc.cl mN GN5 hr bN .nil pass0)) (fun _ _ _ _ _ => pg_name (i := 8) scDga.nd rfl (Or.inl rfl)) (fun _ _ _ _ _ => pts_nil) (fun _ _ _ _ _ => by exact pv 8)) pa_nil))))
      (pss_cons (ps_setLc (i := 3) (own := [("digit", 6)]) (g := gName 6) (tt := tYes) (te := tMeth C "at" (spAt C CW) [] E0 (tPropA P w K mg base 1 "radix" (tVar 6)) (tCons (tVar 1) tNil)) rfl scDga.nd rfl rfl (sw_true rfl rfl rfl (by decide +kernel)) (pi_list (pv 0))
          (blkOk_by (own := [("digit", 6)]) (N := NDa) (sc := defScope sDga) (by decide +kernel)) (fun _ _ _ _ _ => pg_name (i := 6) scDga.nd rfl (Or.inl rfl)) (fun _ _ _ _ _ => pts_nil)
          (fun _ _ _ _ _ => by exact pe_meth (pe_propA (k := 1) (pv 6) hr2 rfl) Tc.cl mA GA hr bA .nil pass0C (pa_cons (pv 1) pa_nil)))
      (pss_cons (ps_setLc (i := 4) (own := [("digit", 6)]) (g := gName 6) (tt := tYes) (te := tIf (tB (tIsN (tPropA P w K mg base 1 "factor" (tVar 6)))) (tC (.int 0)) (tMeth C "at" (spAt C CW) [] E0 (tPropA P w K mg base 1 "factor" (tVar 6)) (tCons (tVar 1) tNil))) rfl scDga.nd rfl rfl (sw_true rfl rfl rfl (by decide +kernel)) (pi_list (pv 0))
          (blkOk_by (own := [("digit", 6)]) (N := NDa) (sc := defScope sDga) (by decide +kernel)) (fun _ _ _ _ _ => pg_name (i := 6) scDga.nd rfl (Or.inl rfl)) (fun _ _ _ _ _ => pts_nil)
          (fun _ _ _ _ _ => by exact pe_ifExp (pt_cmp (pc_isN (pe_propA (k := 1) (pv 6) hr2 rfl))) pe_int (pe_meth (pe_propA (k := 1) (pv 6) hr2 rfl) Tc.cl mA GA hr bA .nil pass0C (pa_cons (pv 1) pa_nil))))
      (pss_cons (ps_setLc (i := 5) (own := [("digit", 6)]) (g := gName 6) (tt := tYes) (te := tCB (rIsi K) (tCons (tVar 6) (tCons (tC (.ref (cl 2))) tNil))) rfl scDga.nd rfl rfl (sw_true rfl rfl rfl (by decide +kernel)) (pi_list (pv 0))
          (blkOk_by (own := [("digit", 6)]) (N := NDa) (sc := defScope sDga) (by decide +kernel)) (fun _ _ _ _ _ => pg_name (i := 6) scDga.nd rfl (Or.inl rfl)) (fun _ _ _ _ _ => pts_nil)
          (fun _ _ _ _ _ => by exact pe_callB call_isi (by rfl) iN (by decide +kernel) (pa_cons (pv 6) (pa_cons (pe_glob (v := .ref (cl 2)) (by rfl) (a.dq 2 (by decide)).gD rfl) pa_nil))))
      (pss_one (ps_ret (pe_lz3 (by rfl) zN (by rfl) lN (pa_cons (pv 3) (pa_cons (pv 4) (pa_cons (pv 5) pa_nil))) rfl rfl rfl hr2))))))), ?_⟩
    have hlp := Paired.length hz
    have hm : ∀ {n : Nat} {x : V}, (ps.map V.ref)[n]? = some x → n < ms.length := fun {n x} e => by
      have := (List.getElem?_eq_some_iff.mp e).1
      rw [List.length_map] at this
      omega
    have hps : (ps.map V.ref).length ≤ 1000 := by rw [List.length_map]; omega
    refine ⟨_, rfl, L, rfl, ⟨_, SqL.of hL⟩, fun D1 n1 => ?_⟩
    refine lcm_it (K := K) (R := fun k y => SzR C H nu y) n1 hL hps (fun n x H2 Qy hx S2 ky => ?_) (fun H1 ys1 S1 e1 l1 r1 => ?_) (fun _ => rfl)
    · obtain ⟨p, q, o, m, rfl, hm', h⟩ := dg_at hz hx
      exact rd_radO a rfl (h.same S2) (ky _ _ (Same.refl H2) ⟨q, m.r, rfl, h.rz, (hA m (List.mem_of_getElem? hm')).1⟩)
    refine rd_facs (K := K) (L := L) (d := d) a hz hL hl hA S1 rfl fun H2 D2 ys2 S2 n2 e2 l2 r2 => ?_
    have S02 := S1.trans S2
    refine ⟨D1, D2, ys1, ys2, rfl, rfl, S2 _ _ e1, e2, by rw [l1, List.length_map, sizeLine_eq]; omega, fun Z nZ => ?_⟩
    have S3 := fresh_upd (o := .lst (ys1 ++ ys2)) nZ
    have S03 := S02.trans S3
    have eZ : upd H2 Z (.lst (ys1 ++ ys2)) Z = some (.lst (ys1 ++ ys2)) := upd_same
    generalize upd H2 Z (.lst (ys1 ++ ys2)) = H3 at S3 S03 eZ
    refine ⟨_, rfl, rd_nms (K := K) (L := L) (d := d) (nu := nu) (H := H) eZ (by rw [List.length_append, l1, List.length_map]; omega) (fun y hy => ?_) S03 rfl fun H4 D4 ns S4 n4 e4 l4 r4 => ?_⟩
    · rcases List.mem_append.mp hy with hy | hy
      · obtain ⟨i, hi⟩ := List.mem_iff_getElem?.mp hy
        exact r1 i y hi
      · exact r2 y hy
    have S04 := S03.trans S4
    have hD4 := hD.same S04
    refine ⟨d, D4, nu, ns, rfl, hD4.at_, hD4.len, hD4.nd, hD4.nm, hD4.pos, e4, l4, r4, fun H5 S5 => ?_⟩
    have S05 := S04.trans S5
    refine ⟨_, rfl, L, rfl, ⟨_, SqL.of (S05 _ _ hL)⟩, fun D6 n6 => ?_⟩
    refine lcm_it (K := K) (R := fun k y => ∃ m, ms[k]? = some m ∧ y = V.int (valS nu m.r : Nat)) n6 (S05 _ _ hL) hps (fun n x H6 Qy hx S6 ky => ?_) (fun H6 ys6 S6 e6 l6 r6 => ?_) (fun _ => rfl)
    · obtain ⟨p, q, o, m, rfl, hm', h⟩ := dg_at hz hx
      have h6 := h.same (S05.trans S6)
      exact rd_atO (s := q) (d := d) (es := m.r) (nu := nu) (fun Q' z => rd_radO a rfl h6 z) (fun Q' z => ⟨_, rfl, z⟩) h6.rz (hD.same (S05.trans S6)) (hA m (List.mem_of_getElem? hm')).1 fun H7 S7 => ky _ _ S7 ⟨m, hm', rfl⟩
    have S06 := S05.trans S6
    refine ⟨_, rfl, L, rfl, ⟨_, SqL.of (S06 _ _ hL)⟩, fun D7 n7 => ?_⟩
    refine lcm_it (K := K) (R := fun k y => ∃ m, ms[k]? = some m ∧ y = V.int (if m.k = 0 then 0 else (valS nu m.f : Nat))) n7 (S06 _ _ hL) hps (fun n x H7 Qy hx S7 ky => ?_) (fun H7 ys7 S7 e7 l7 r7 => ?_) (fun _ => rfl)
    · obtain ⟨p, q, o, m, rfl, hm', h⟩ := dg_at hz hx
      have h7 := h.same (S06.trans S7)
      refine rd_facO a rfl h7 ⟨_, rfl, ?_⟩
      rcases h7.fz with ⟨e0, rfl⟩ | ⟨e0, q2, rfl, h2⟩
      · exact iteT (ky _ _ (Same.refl H7) ⟨m, hm', by rw [if_pos e0]⟩)
      · refine iteF ?_
        exact rd_atO (s := q2) (d := d) (es := m.f) (nu := nu) (fun Q' z => rd_facO a rfl h7 z) (fun Q' z => ⟨_, rfl, z⟩) h2 (hD.same (S06.trans S7)) (hA m (List.mem_of_getElem? hm')).2 fun H8 S8 => ky _ _ S8 ⟨m, hm', by rw [if_neg e0]⟩
    have S07 := S06.trans S7
    refine ⟨_, rfl, L, rfl, ⟨_, SqL.of (S07 _ _ hL)⟩, fun D8 n8 => ?_⟩
    refine lcm_it (K := K) (R := fun k y => ∃ m, ms[k]? = some m ∧ y = V.bl (decide (m.k = 2))) n8 (S07 _ _ hL) hps (fun n x H8 Qy hx S8 ky => ?_) (fun H8 ys8 S8 e8 l8 r8 => ?_) (fun _ => rfl)
    · obtain ⟨p, q, o, m, rfl, hm', h⟩ := dg_at hz hx
      have h8 := h.same (S07.trans S8)
      obtain ⟨dx, h1⟩ := h8.ob
      have c3 := a.dq m.k h8.lt
      refine ⟨_, rfl, _, _, _, _, decide (m.k = 2), rfl, .own _, .base (.ins h1 c3.cl c3.cc c3.cn c3.ct c3.co), ?_, ky _ _ (Same.refl H8) ⟨m, hm', rfl⟩⟩
      by_cases e : m.k = 2
      · rw [e]
        exact kit_self
      · rw [a.kt m.k 2 h8.lt (by decide) e, decide_eq_false e]
    have S08 := S07.trans S8
    have E6 := (S7.trans S8) _ _ e6
    have E7 := S8 _ _ e7
    refine ⟨_, rfl, _, rfl, _, rfl, D6, D7, D8, ys6, ys7, ys8, rfl, E6, E7, e8, by rw [l7, l6], by rw [l8, l6], fun H9 r acc S9 nr er lr hT => ?_⟩
    have hacc : ∀ i, i < acc.length → ∃ T m, acc[i]? = some (V.ref T) ∧ ms[i]? = some m ∧ H9 T = some (dTup nu m) := fun i hi => by
      obtain ⟨T, x, y, w', ev, hx, hy, hw, ht⟩ := hT i acc[i] (by simp [hi])
      obtain ⟨m, hm1, rfl⟩ := r6 i x hx
      obtain ⟨m2, hm2, rfl⟩ := r7 i y hy
      obtain ⟨m3, hm3, rfl⟩ := r8 i w' hw
      rw [hm1] at hm2 hm3
      cases hm2
      cases hm3
      refine ⟨T, m, by rw [List.getElem?_eq_getElem hi, ev], hm1, ?_⟩
      rw [ht]
      unfold dTup
      rfl
    have key : ∀ (acc : List V) (ms : List M3), acc.length = ms.length → (∀ i, i < acc.length → ∃ T m, acc[i]? = some (V.ref T) ∧ ms[i]? = some m ∧ H9 T = some (dTup nu m)) → ∃ ts : List Addr, acc = ts.map V.ref ∧ Paired (fun T m => H9 T = some (dTup nu m)) ts ms := by
      intro acc
      induction acc with
      | nil =>
        intro ms e _
        have : ms = [] := List.length_eq_zero_iff.mp e.symm
        subst this
        exact ⟨[], rfl, .nil⟩
      | cons v r ih =>
        intro ms e h
        cases ms with
        | nil => cases e
        | cons m q =>
          obtain ⟨T, m', q1, q2, q3⟩ := h 0 (Nat.succ_pos _)
          obtain ⟨ts, z1, z2⟩ := ih q (Nat.succ.inj e) fun i hi => h (i + 1) (Nat.succ_lt_succ hi)
          have q1' : v = V.ref T := Option.some.inj q1
          have q2' : m = m' := Option.some.inj q2
          subst q1'
          subst q2'
          exact ⟨T :: ts, by rw [z1]; rfl, .cons q3 z2⟩
    have lacc : acc.length = ms.length := by rw [lr, l6, List.length_map]; exact hlp
    obtain ⟨ts, z1, z2⟩ := key acc ms lacc hacc
    rw [z1] at er
    exact k H9 r ts (S08.trans S9) (none_pre S08 nr) er z2
end
end K54
set_option maxHeartbeats 8000000
namespace K54
open PySem PySem.Spec PyProof.Rows L2

/-! ### product_of, place_at, Row.place -/
abbrev sPrd : Stmt := top 50
abbrev sPla : Stmt := top 59
abbrev sRwX : Stmt := inClass (top 56) 4
def spPrd : Sp := fun vs H Q _ => ∃ (l : Addr) (ns : List Int), vs = [.ref l] ∧ H l = some (.lst (ns.map V.int)) ∧ ns.length ≤ 1000 ∧ (∀ n ∈ ns, -(2 ^ 64) < n ∧ n < 2 ^ 64) ∧ Q (.int (ns.foldl (fun a b => a * b) 1)) H
def stT (s : Int × Int) (t : Int × Int × Bool) : Int × Int := (s.1 + t.2.1 * (if t.2.2 = true then t.1 - 1 - s.2 % t.1 else s.2 % t.1), s.2 / t.1)
def tupT (t : Int × Int × Bool) : HO := .tup [.int t.1, .int t.2.1, .bl t.2.2]
def spPla : Sp := fun vs H Q _ => ∃ (r : Addr) (x : Int) (ts : List Addr) (trs : List (Int × Int × Bool)), vs = [.ref r, .int x] ∧ H r = some (.lst (ts.map V.ref)) ∧ Paired (fun T t => H T = some (tupT t)) ts trs ∧ trs.length ≤ 1000 ∧
  (∀ t ∈ trs, 0 < t.1 ∧ t.1 < 1073741824 ∧ -(2 ^ 64) < t.2.1 ∧ t.2.1 < 2 ^ 64) ∧ ∀ H', Same H H' → Q (.int (trs.foldl stT (0, x)).1) H'
theorem take_snoc {α : Type} {l : List α} {i : Nat} {x : α} (h : l[i]? = some x) : l.take (i + 1) = l.take i ++ [x] := by
  rw [List.take_add_one, h]
  rfl
section
variable {P : Program} {w : World} {K : PySem.W.Frag} {mg : Str → Option Value} {base : Heap} {C CW DD CR : Addr} {cl : Nat → Addr}
theorem scPrd : FnScope ["numbers", "product", "number"] ["numbers"] (defScope sPrd) := ⟨rfl, rfl, rfl, by decide +kernel, rfl, by decide +kernel, by decide +kernel⟩
theorem ok_prd {f : Addr} {fd : FuncData} (F : Fun K "product_of" "product_of" sPrd f fd) : FnOk P w K mg base CX0 1 f fd ["numbers"] spPrd := by
  refine F.ok scPrd (fun vs H Q E h => ?_) (fun cdv A outer s H vs Q E hr h => ?_)
  · obtain ⟨l, ns, rfl, _⟩ := h
    rfl
  · obtain ⟨l, ns, rfl, hL, hl, hb, q⟩ := h
    refine ⟨_, pss_cons (ps_set (i := 1) scPrd.nd rfl (.inl rfl) pe_int)
      (pss_cons (ps_for PassesOwn.never rfl (pi_list (pv 0)) (pg_name (i := 2) scPrd.nd rfl (Or.inl rfl)) (pss_one (ps_set (i := 1) scPrd.nd rfl (.inl rfl) (pe_op op_mul (pv 1) (pv 2)))))
      (pss_one (ps_ret (pv 1)))), ?_⟩
    refine ⟨_, rfl, l, rfl, ⟨_, SqL.of hL⟩, for_it (walk_list (K := K) (a := l) (xs := ns.map V.int)) (fun i σ H2 => (∃ o2, σ = [some (.ref l), some (.int ((ns.take i).foldl (fun a b => a * b) 1)), o2]) ∧ H2 = H)
      ⟨⟨none, rfl⟩, rfl⟩ (fun i σ H2 _ h => by rw [h.2]; exact SqL.of hL) ?_ ?_⟩
    · rintro i x σ H9 H2 hi ⟨⟨o2, rfl⟩, rfl⟩ ⟨rfl, hx⟩
      rw [List.length_map] at hi
      have ex : x = V.int ns[i] := by
        rw [List.getElem?_map, List.getElem?_eq_getElem hi] at hx
        exact (Option.some.inj hx).symm
      subst ex
      have hh := hb _ (List.getElem_mem hi)
      refine ⟨_, rfl, _, rfl, _, _, rfl, rfl, .inr hh, ⟨o2.map id |>.elim (some (.int ns[i])) fun _ => some (.int ns[i]), ?_⟩, rfl⟩
      rw [take_snoc (List.getElem?_eq_getElem hi), List.foldl_append]
      cases o2 <;> rfl
    · rintro σ H2 ⟨⟨o2, rfl⟩, rfl⟩
      rw [List.length_map, List.take_length]
      exact ⟨_, rfl, q⟩
def NPla : List Str := ["digits", "index", "place", "radix", "factor", "is_turned", "value"]
theorem scPla : FnScope NPla ["digits", "index"] (defScope sPla) := ⟨rfl, rfl, rfl, by decide +kernel, rfl, by decide +kernel, by decide +kernel⟩
theorem ok_pla {f : Addr} {fd : FuncData} (F : Fun K "place_at" "place_at" sPla f fd) (dN : mg "divmod" = none) : FnOk P w K mg base CX0 1 f fd ["digits", "index"] spPla := by
  refine F.ok scPla (fun vs H Q E h => ?_) (fun cdv A outer s H vs Q E hr h => ?_)
  · obtain ⟨l, x, ts, trs, rfl, _⟩ := h
    rfl
  · obtain ⟨l, x, ts, trs, rfl, hL, hz, hl, hb, q⟩ := h
    refine ⟨_, pss_cons (ps_set (i := 2) scPla.nd rfl (.inl rfl) pe_int)
      (pss_cons (ps_for PassesOwn.never rfl (pi_list (pv 0)) (pg_tup rfl (pgs_cons (pg_name (i := 3) scPla.nd rfl (Or.inl rfl)) (pgs_cons (pg_name (i := 4) scPla.nd rfl (Or.inl rfl)) (pgs_cons (pg_name (i := 5) scPla.nd rfl (Or.inl rfl)) pgs_nil))))
        (pss_cons (ps_asg (pe_callB call_divmod (by rfl) dN (by decide +kernel) (pa_cons (pv 1) (pa_cons (pv 3) pa_nil))) (pg_tup rfl (pgs_cons (pg_name (i := 1) scPla.nd rfl (Or.inl rfl)) (pgs_cons (pg_name (i := 6) scPla.nd rfl (Or.inl rfl)) pgs_nil))))
        (pss_one (ps_set (i := 2) scPla.nd rfl (.inl rfl) (pe_op op_add (pv 2) (pe_op op_mul (pv 4) (pe_ifExp (pt_val (pv 5)) (pe_op op_sub (pe_op op_sub (pv 3) pe_int) (pv 6)) (pv 6))))))))
      (pss_one (ps_ret (pv 2)))), ?_⟩
    have hlp := Paired.length hz
    refine ⟨_, rfl, l, rfl, ⟨_, SqL.of hL⟩, for_it (walk_list (K := K) (a := l) (xs := ts.map V.ref)) (fun i σ H2 => (∃ o3 o4 o5 o6, σ = [some (.ref l), some (.int ((trs.take i).foldl stT (0, x)).2), some (.int ((trs.take i).foldl stT (0, x)).1), o3, o4, o5, o6]) ∧ Same H H2)
      ⟨⟨none, none, none, none, rfl⟩, Same.refl H⟩ (fun i σ H2 _ h => SqL.of (h.2 _ _ hL)) ?_ ?_⟩
    · rintro i y σ H9 H2 hi ⟨⟨o3, o4, o5, o6, rfl⟩, S2⟩ ⟨rfl, hx⟩
      rw [List.length_map] at hi
      have ex : y = V.ref ts[i] := by
        rw [List.getElem?_map, List.getElem?_eq_getElem hi] at hx
        exact (Option.some.inj hx).symm
      subst ex
      obtain ⟨t, ht, hd⟩ := pairedLX hz hi
      obtain ⟨b1, b2, b3, b4⟩ := hb t (List.mem_of_getElem? ht)
      generalize eS : (trs.take i).foldl stT (0, x) = S0
      have e1 : (trs.take (i + 1)).foldl stT (0, x) = stT S0 t := by rw [take_snoc ht, List.foldl_append, eS]; rfl
      refine ⟨_, _, rfl, SqT.of (S2 _ _ hd), rfl, _, _, rfl, _, _, rfl, _, _, rfl, rfl, ?_⟩
      refine ⟨_, rfl, _, rfl, _, _, rfl, ⟨b1, b2⟩, fun p hp => ⟨p, _, rfl, SqT.of upd_same, rfl, _, _, rfl, _, _, rfl, rfl, ?_⟩⟩
      have S3 := fresh_upd (o := .tup [V.int (S0.2 / t.1), V.int (S0.2 % t.1)]) hp
      refine ⟨_, rfl, _, rfl, _, rfl, _, rfl, ?_⟩
      have fin : ∀ v : Int, v = (if t.2.2 = true then t.1 - 1 - S0.2 % t.1 else S0.2 % t.1) → (∃ o3 o4 o5 o6, ([some (.ref l), some (.int (S0.2 / t.1)), some (.int (S0.1 + t.2.1 * v)), some (.int t.1), some (.int t.2.1), some (.bl t.2.2), some (.int (S0.2 % t.1))] : L2.St) =
          [some (.ref l), some (.int ((trs.take (i + 1)).foldl stT (0, x)).2), some (.int ((trs.take (i + 1)).foldl stT (0, x)).1), o3, o4, o5, o6]) := fun v hv => by
        rw [e1, hv]
        exact ⟨_, _, _, _, rfl⟩
      cases hb2 : t.2.2 with
      | true =>
        rw [hb2] at fin
        refine iteT ⟨_, rfl, _, _, rfl, rfl, _, rfl, _, _, rfl, rfl, _, _, rfl, rfl, .inl ⟨b3, b4⟩, _, _, rfl, rfl, ?_⟩
        exact ⟨fin _ rfl, S2.trans S3⟩
      | false =>
        rw [hb2] at fin
        refine iteF ⟨_, rfl, _, _, rfl, rfl, .inl ⟨b3, b4⟩, _, _, rfl, rfl, ?_⟩
        exact ⟨fin _ rfl, S2.trans S3⟩
    · rintro σ H2 ⟨⟨o3, o4, o5, o6, rfl⟩, S2⟩
      rw [List.length_map, List.take_of_length_le (by omega)]
      exact ⟨_, rfl, q H2 S2⟩
end
end K54
set_option maxHeartbeats 8000000
namespace K54
open PySem PySem.Spec PyProof.Rows L2

/-! ### Row.place -/
def tr3 (nu : Es) (m : M3) : Int × Int × Bool := ((valS nu m.r : Nat), (if m.k = 0 then 0 else ((valS nu m.f : Nat) : Int)), decide (m.k = 2))
structure PlM (nu : Es) (m : M3) : Prop where
  ar : AtSz nu m.r
  af : AtSz nu m.f
  rp : 0 < valS nu m.r
  rl : valS nu m.r < 1073741824
  fl : valS nu m.f < 1073741824
def prdM (nu : Es) (ms : List M3) : Int := (ms.map fun m => ((valS nu m.r : Nat) : Int)).foldl (fun a b => a * b) 1
def plcM (nu : Es) (ms : List M3) (x : Int) : Int := ((ms.map (tr3 nu)).foldl stT (0, x)).1
def NRwX : List Str := ["self", "index", "numbers", "digits", "radix", "_"]
def spRwX (CR C : Addr) (cl : Nat → Addr) : Sp := fun vs H Q _ => ∃ (p d : Addr) (x : Int) (ms : List M3) (nu : Es), vs = [.ref p, .int x, .ref d] ∧ RowAt CR C cl H p ms ∧ NumD H d nu ∧ ms.length ≤ 8 ∧ (∀ m ∈ ms, PlM nu m) ∧ 0 ≤ x ∧ x < prdM nu ms ∧
  ∀ H', Same H H' → Q (.int (plcM nu ms x)) H'
theorem tr3_ok {nu : Es} {m : M3} (h : PlM nu m) : 0 < (tr3 nu m).1 ∧ (tr3 nu m).1 < 1073741824 ∧ -(2 ^ 64) < (tr3 nu m).2.1 ∧ (tr3 nu m).2.1 < 2 ^ 64 := by
  have h1 := h.rp
  have h2 := h.rl
  have h3 := h.fl
  unfold tr3
  dsimp only
  refine ⟨by omega, by omega, ?_, ?_⟩
  · split <;> omega
  · split <;> omega
section
variable {P : Program} {w : World} {K : PySem.W.Frag} {mg : Str → Option Value} {base : Heap} {C CW DD CR : Addr} {cl : Nat → Addr}
theorem scRwX : FnScope NRwX ["self", "index", "numbers"] (defScope sRwX) := ⟨rfl, rfl, rfl, by decide +kernel, rfl, by decide +kernel, by decide +kernel⟩
theorem ok_rwX {f fD fI fP fL : Addr} {fd fdD fdI fdP fdL : FuncData} (F : Fun K "place" "Row.place" sRwX f fd) (c : Rwf K CR)
    (GD : FnOk P w K mg base CX0 6 fD fdD ["digits", "numbers"] (spDga C cl)) (kD : PySem.W.keepIn K (.ref fD) = true) (bD : Binds K fdD ["digits", "numbers"] []) (gD : mg "digits_at" = some (.ref fD))
    (GI : FnOk P w K mg base CX0 1 fI fdI ["value"] spIsInt) (kI : PySem.W.keepIn K (.ref fI) = true) (bI : Binds K fdI ["value"] []) (gI : mg "is_integer" = some (.ref fI))
    (GP : FnOk P w K mg base CX0 1 fP fdP ["numbers"] spPrd) (kP : PySem.W.keepIn K (.ref fP) = true) (bP : Binds K fdP ["numbers"] []) (gP : mg "product_of" = some (.ref fP))
    (GL : FnOk P w K mg base CX0 1 fL fdL ["digits", "index"] spPla) (kL : PySem.W.keepIn K (.ref fL) = true) (bL : Binds K fdL ["digits", "index"] []) (gL : mg "place_at" = some (.ref fL)) :
    FnOk P w K mg base CX0 7 f fd ["self", "index", "numbers"] (spRwX CR C cl) := by
  have GI6 := GI.mono (k := 6) (by decide)
  have GP6 := GP.mono (k := 6) (by decide)
  have GL6 := GL.mono (k := 6) (by decide)
  refine F.ok scRwX (fun vs H Q E h => ?_) (fun cdv A outer s H vs Q E hr h => ?_)
  · obtain ⟨p, d, x, ms, nu, rfl, _⟩ := h
    rfl
  · obtain ⟨p, d, x, ms, nu, rfl, ⟨dx, L, ps, h1, h2, h3⟩, hD, hl, hA, x0, x1, q⟩ := h
    refine ⟨_, pss_cons (ps_set (i := 3) scRwX.nd rfl (.inl rfl) (pe_call (E := E0) GD hr (by rfl) gD kD bD .nil pass0 (pa_cons (pe_fld (pv 0) rfl) (pa_cons (pv 2) pa_nil))))
      (pss_cons (ps_if (PW.pt (pw_or (pt_not (pt_val (pe_call (E := E0) GI6 hr (by rfl) gI kI bI .nil pass0 (pa_cons (pv 1) pa_nil))))
          (pw_or1 (pt_not (pt_chain op_le op_lt pe_int (pv 1) (pe_call (E := E0) GP6 hr (by rfl) gP kP bP .nil pass0 (pa_cons
            (pe_lc (own := [("radix", 4), ("_", 5)]) (g := gTup K 3 (gCons (gName 4) (gCons (gName 5) (gCons (gName 5) gNil)))) (tt := tYes) (te := tVar 4) rfl scRwX.nd (pi_list (pv 3))
              (blkOk_by (own := [("radix", 4), ("_", 5)]) (N := NRwX) (sc := defScope sRwX) (by decide +kernel))
              (fun _ _ _ _ _ => pg_tup rfl (pgs_cons (pg_name (i := 4) scRwX.nd rfl (Or.inl rfl)) (pgs_cons (pg_name (i := 5) scRwX.nd rfl (Or.inl rfl)) (pgs_cons (pg_name (i := 5) scRwX.nd rfl (Or.inl rfl)) pgs_nil))))
              (fun _ _ _ _ _ => pts_nil) (fun _ _ _ _ _ => by exact pv 4)) pa_nil)))))))
        (pss_one ps_no) pss_nil)
      (pss_one (ps_ret (pe_call (E := E0) GL6 hr (by rfl) gL kL bL .nil pass0 (pa_cons (pv 3) (pa_cons (pv 1) pa_nil)))))), ?_⟩
    refine ⟨_, rfl, p, CR, dx, _, .ref L, rfl, h1, c.cl, c.nd, rfl, ?_⟩
    refine ⟨_, rfl, L, d, ps, ms, nu, rfl, h2, h3, hD, hl, fun m hm => ⟨(hA m hm).ar, (hA m hm).af⟩, fun H1 r ts S1 nr hr1 hz => ?_⟩
    have hlp := Paired.length hz
    refine ⟨_, rfl, x, rfl, ⟨_, rfl, iteF ?_⟩⟩
    refine ⟨_, rfl, _, _, rfl, rfl, _, rfl, ?_⟩
    rw [if_pos (decide_eq_true x0)]
    refine ⟨_, rfl, r, rfl, ⟨_, SqL.of hr1⟩, fun D nD => ?_⟩
    refine lc_it (walk_list (K := K) (a := r) (xs := ts.map V.ref)) (fun i H2 => Same H1 H2 ∧ H2 D = some (.lst (((ms.take i).map fun m => ((valS nu m.r : Nat) : Int)).map V.int))) ⟨fresh_upd nD, upd_same⟩ (fun i H2 _ h => SqL.of (h.1 _ _ hr1)) ?_ ?_
    · rintro i y H2 H3 hi ⟨S2, e2⟩ ⟨rfl, hx⟩
      rw [List.length_map] at hi
      have ex : y = V.ref ts[i] := by
        rw [List.getElem?_map, List.getElem?_eq_getElem hi] at hx
        exact (Option.some.inj hx).symm
      subst ex
      obtain ⟨m, hm, hd⟩ := pairedLX hz hi
      refine ⟨ts[i], _, rfl, SqT.of (S2 _ _ hd), rfl, _, _, rfl, _, _, rfl, _, _, rfl, rfl, rfl, ?_⟩
      unfold tYes
      dsimp only
      rw [if_pos rfl]
      refine ⟨_, rfl, _, e2, ?_, fun b o eb => ?_, ?_⟩
      · rw [List.length_map, List.length_map, List.length_take, sizeLine_eq]
        omega
      · rw [upd_ne (ne_of_none eb nD)]
        exact S2 _ _ eb
      · rw [upd_same, take_snoc hm, List.map_append, List.map_append]
        rfl
    · rintro H2 ⟨S2, e2⟩
      rw [List.length_map, List.take_of_length_le (by omega)] at e2
      refine ⟨D, ms.map fun m => ((valS nu m.r : Nat) : Int), rfl, e2, by rw [List.length_map]; omega, fun n hn => ?_, ?_⟩
      · obtain ⟨m, hm, rfl⟩ := List.mem_map.mp hn
        have := (hA m hm).rl
        omega
      refine ⟨_, _, rfl, rfl, _, rfl, ?_⟩
      have e3 : decide (x < (ms.map fun m => ((valS nu m.r : Nat) : Int)).foldl (fun a b => a * b) 1) = true := decide_eq_true x1
      rw [e3]
      refine iteF ?_
      refine ⟨_, rfl, _, rfl, r, x, ts, ms.map (tr3 nu), rfl, S2 _ _ hr1, ?_, by rw [List.length_map]; omega, fun t ht => ?_, fun H3 S3 => q H3 (S1.trans (S2.trans S3))⟩
      · exact paired_map hz fun T m _ e => S2 _ _ e
      · obtain ⟨m, hm, rfl⟩ := List.mem_map.mp ht
        exact tr3_ok (hA m hm)
end
end K54
set_option maxHeartbeats 8000000
namespace K54
open PySem PySem.Spec PyProof.Rows L2

/-! ### dict([(name, number), ..]) -/
def PsAt (H : Hp) (ps : List Addr) (es : Es) : Prop := Paired (fun p q => H p = some (.tup [V.str q.1, V.int q.2])) ps es
theorem PsAt.same {H H' : Hp} (S : ∀ b xs, H b = some (.tup xs) → H' b = some (.tup xs)) {ps : List Addr} {es : Es} (h : PsAt H ps es) : PsAt H' ps es :=
  Paired.mapP h fun _ _ e => S _ _ e
theorem PsAt.snoc {H : Hp} {ps : List Addr} {es : Es} {p : Addr} {q : Str × Int} (h : PsAt H ps es) (e : H p = some (.tup [V.str q.1, V.int q.2])) : PsAt H (ps ++ [p]) (es ++ [q]) :=
  Paired.snoc h e
theorem PsAt.pairs {K : PySem.W.Frag} {H : Hp} : ∀ {ps : List Addr} {es : Es}, PsAt H ps es → Paired (fun p kv => SqT K H p [kV kv.1, kv.2]) ps (kv es)
  | _, _, .nil => .nil
  | _, _, .cons h t => .cons (SqT.of h) (PsAt.pairs t)
theorem merge_new : ∀ {ys xs : Es}, ((xs ++ ys).map (·.1)).Nodup → mergeK (kv xs) (kv ys) = kv (xs ++ ys)
  | [], xs, _ => by
    rw [List.append_nil]
    rfl
  | (n, v) :: r, xs, h => by
    have e : xs ++ (n, v) :: r = (xs ++ [(n, v)]) ++ r := by simp
    have hn : n ∉ xs.map (·.1) := fun z => by
      rw [List.map_append, List.nodup_append] at h
      exact h.2.2 n z n (by simp) rfl
    have ih := merge_new (ys := r) (xs := xs ++ [(n, v)]) (by rw [← e]; exact h)
    show mergeK (putK (kv xs) (ky n) (.int v)) (kv r) = _
    rw [putK_new _ (val_none hn), e, ← ih]
    unfold kv
    rw [List.map_append]
    rfl
theorem merge_kv {es : Es} (h : (es.map (·.1)).Nodup) : mergeK [] (kv es) = kv es := merge_new (xs := []) h

abbrev sTimesL : Stmt := top 65
def spTimesL : Sp := fun vs H Q _ => ∃ (a b : Addr) (es fs : Es), vs = [.ref a, .ref b] ∧ H a = some (.dK (kv es)) ∧ H b = some (.dK (kv fs)) ∧ (es.map (·.1)).Nodup ∧ (fs.map (·.1)).Nodup ∧ es.length + fs.length < 64 ∧
  ∀ H' D rs, Same H H' → H D = none → H' D = some (.dK (kv rs)) → SdE rs → (∀ n, rs.lookup n = cz (g0 es n + g0 fs n)) → Q (.ref D) H'
def NTl : List Str := ["_law_one", "_law_other", "_law_found", "_law_name", "_law_power"]
section
variable {P : Program} {w : World} {K : PySem.W.Frag} {mg : Str → Option Value} {base : Heap}
theorem scTimesL : FnScope NTl ["_law_one", "_law_other"] (defScope sTimesL) :=
  ⟨rfl, rfl, rfl, by decide +kernel, rfl, by decide +kernel, by decide +kernel⟩
theorem ok_timesL {f : Addr} {fd : FuncData} (F : Fun K "_law_times" "_law_times" sTimesL f fd) (T : Na mg) (T2 : Nt mg) :
    FnOk P w K mg base CX0 1 f fd ["_law_one", "_law_other"] spTimesL := by
  refine F.ok scTimesL (fun vs H Q E h => ?_) (fun cdv A outer s H vs Q E hr h => ?_)
  · obtain ⟨a, b, es, fs, rfl, _⟩ := h
    rfl
  · obtain ⟨a, b, es, fs, rfl, ha, hb, na, nb, hl, q⟩ := h
    have hu : (A.deeper (envOfC "_law_times" (defScope sTimesL) s.heap.objs.size f cdv)).units + 1 < cLine := by have := hr.units; omega
    refine ⟨_, pss_cons (ps_set (i := 2) scTimesL.nd rfl (.inr rfl) (pe_callTy call_dictD (by rfl) T2.dict (by decide +kernel) (pa_cons (pv 0) pa_nil)))
      (pss_cons (ps_lock (ps_for PassesOwn.never rfl (pi_items (pv 1)) (pg_tup rfl (pgs_cons (pg_name (i := 3) scTimesL.nd rfl (Or.inl rfl)) (pgs_cons (pg_name (i := 4) scTimesL.nd rfl (Or.inl rfl)) pgs_nil)))
          (pss_one (ps_dput hu (pv 2) (pv 3) (pe_op op_add (pe_dget2 hu (pv 2) (pv 3) pe_int ⟨rfl, rfl, rfl, rfl⟩) (pv 4)) rfl))))
      (pss_one (ps_ret (pe_callTy (call_dictP rfl) (by rfl) T2.dict (by decide +kernel) (pa_cons
        (pe_lc (own := [("_law_name", 3)]) (g := gName 3) (tt := tTest (tOp rNe (tDGet (tVar 2) (tVar 3)) (tC (.int 0)))) (te := tTup (tCons (tVar 3) (tCons (tDGet (tVar 2) (tVar 3)) tNil))) rfl scTimesL.nd
        (pi_list (pe_callB (call_sortedD rfl) (by rfl) T.sorted (by decide +kernel) (pa_cons (pv 2) pa_nil)))
        (blkOk_by (own := [("_law_name", 3)]) (N := NTl) (sc := defScope sTimesL) (by decide +kernel)) (fun _ _ _ _ _ => pg_name (i := 3) scTimesL.nd rfl (Or.inl rfl))
        (fun _ _ _ _ _ => pts_one (by exact pt_cmpR op_ne (pe_dget hu (pv 2) (pv 3) (fun _ _ => rfl)) pe_int (nomark _)))
        (fun _ _ _ _ _ => by exact pe_tup (pa_cons (pv 3) (pa_cons (pe_dget hu (pv 2) (pv 3) (fun _ _ => rfl)) pa_nil)))) pa_nil))))), ?_⟩
    refine ⟨_, rfl, a, _, rfl, .inl ha, fun p np => ?_⟩
    have S0 := fresh_upd (o := .dK (kv es)) np
    have hb0 := S0 _ _ hb
    have pb : p ≠ b := fun z => by
      rw [z, hb] at np
      cases np
    refine ⟨b, _, hb0, trivial, fun od => ?_⟩
    refine ⟨_, rfl, b, od, kv fs, rfl, upd_same, for_it walk_items (fun j σ H3 => (∃ o3 o4, σ = [some (.ref a), some (.ref b), some (.ref p), o3, o4]) ∧
      H3 p = some (.dK (kv (addE es (fs.take j)))) ∧ H3 b = some (.frz od (.dK (kv fs))) ∧ ∀ c o, c ≠ b → H c = some o → H3 c = some o)
      ⟨⟨none, none, rfl⟩, (upd_ne pb).trans upd_same, upd_same, fun c o hc e => (upd_ne hc).trans (S0 _ _ e)⟩ (fun j σ H3 _ h => h.2.2.1) ?_ ?_⟩
    · rintro j v σ H3 H4 hj ⟨⟨o3, o4, rfl⟩, hp3, hd3, S3⟩ ⟨T', y, z, rfl, nT, rfl, e1, e2⟩
      rw [kv_len] at hj
      have ej : (kv fs)[j]? = some (ky fs[j].1, V.int fs[j].2) := by
        unfold kv
        rw [List.getElem?_map, List.getElem?_eq_getElem hj]
        rfl
      dsimp only at e1 e2
      rw [ej] at e1 e2
      cases e1
      cases e2
      have pT : p ≠ T' := ne_of_none hp3 nT
      have dT : b ≠ T' := ne_of_none hd3 nT
      have hp4 : (upd H3 T' (.tup [kV (ky fs[j].1), V.int fs[j].2])) p = some (.dK (kv (addE es (fs.take j)))) := (upd_ne pT).trans hp3
      refine ⟨T', _, rfl, SqT.of upd_same, rfl, _, _, rfl, _, _, rfl, rfl, ?_⟩
      refine ⟨_, rfl, p, rfl, .inl ⟨_, .inl hp4⟩, _, rfl, _, DGet.k (k := ky fs[j].1) hp4, _, rfl, _, _, get_int _ _, rfl, ?_⟩
      have hlen : (addE es (fs.take j)).length < 64 := by
        have h1 := len_add (fs.take j) es
        have h4 : (fs.take j).length ≤ fs.length := by rw [List.length_take]; exact Nat.min_le_right ..
        omega
      refine ⟨_, rfl, _, rfl, p, _, rfl, .inl ⟨_, ky fs[j].1, hp4, rfl, by rw [kv_len, sizeLine_eq]; omega, rfl⟩, ⟨_, _, rfl⟩, ?_, ?_, fun c o hc e => ?_⟩
      · have et : fs.take (j + 1) = fs.take j ++ [fs[j]] := by
          rw [List.take_add_one, List.getElem?_eq_getElem hj]
          rfl
        rw [upd_same, et, addE_snoc, kv_put]
      · rw [upd_ne pb.symm, upd_ne dT]
        exact hd3
      · rw [upd_ne (ne_of_none e np), upd_ne (ne_of_none (S3 c o hc e) nT)]
        exact S3 c o hc e
    · rintro σ H3 ⟨⟨o3, o4, rfl⟩, hp3, hd3, S3⟩
      rw [kv_len, List.take_length] at hp3
      refine ⟨hd3, ?_⟩
      have S4 : Same H (upd H3 b (.dK (kv fs))) := fun c o e => by
        by_cases hc : c = b
        · subst hc
          rw [upd_same]
          exact hb.symm.trans e
        · exact (upd_ne hc).trans (S3 c o hc e)
      have hp4 : upd H3 b (.dK (kv fs)) p = some (.dK (kv (addE es fs))) := (upd_ne pb).trans hp3
      generalize upd H3 b (.dK (kv fs)) = H4 at S4 hp4
      have hnd : ((addE es fs).map (·.1)).Nodup := nod_add na
      have hl3 := len_add fs es
      refine ⟨_, rfl, p, _, (addE es fs).map (·.1), rfl, .inl hp4, ?_, by rw [List.length_map]; omega, fun ys r perm srt nr => ?_⟩
      · unfold kv
        rw [List.map_map, List.map_map]
        rfl
      have S5 := fresh_upd (o := .lst (ys.map V.str)) nr
      refine ⟨r, rfl, ⟨_, SqL.of upd_same⟩, fun D hD => ?_⟩
      have hys : ys.Nodup := perm.nodup_iff.mpr hnd
      have hyl : ys.length = (addE es fs).length := by rw [perm.length_eq, List.length_map]
      have hp5 := S5 _ _ hp4
      refine lc_it (walk_list (K := K) (a := r) (xs := ys.map V.str)) (fun i H5 => (∃ ps, H5 D = some (.lst (ps.map V.ref)) ∧ PsAt H5 ps (flE (addE es fs) (ys.take i))) ∧
        Same (upd H4 r (.lst (ys.map V.str))) H5) ⟨⟨[], upd_same, .nil⟩, fresh_upd hD⟩ (fun i H5 _ h => SqL.of (h.2 _ _ upd_same)) ?_ ?_
      · rintro i x H5 H6 hi ⟨⟨ps, hD5, hps⟩, S6⟩ ⟨rfl, hx⟩
        rw [List.length_map] at hi
        have ex : x = .str ys[i] := by
          rw [List.getElem?_map, List.getElem?_eq_getElem hi] at hx
          exact (Option.some.inj hx).symm
        subst ex
        have hin : ys[i] ∈ (addE es fs).map (·.1) := perm.mem_iff.mp (List.getElem_mem hi)
        obtain ⟨u, hu'⟩ := Option.isSome_iff_exists.mp (look_mem.mpr hin)
        have hgu : g0 (addE es fs) ys[i] = u := by
          unfold g0
          rw [hu']
          rfl
        have dg : DGet H6 p (kV (ky ys[i])) (some (.int u)) := .inl ⟨_, ky ys[i], .inl (S6 _ _ hp5), rfl, by rw [val_kv, hu']; rfl⟩
        refine ⟨rfl, ?_⟩
        refine ⟨_, rfl, _, rfl, p, .int u, rfl, dg, rfl, _, rfl, ?_⟩
        by_cases h0 : u = 0
        · subst h0
          rw [decide_eq_true rfl]
          refine iteF ⟨⟨ps, hD5, ?_⟩, S6⟩
          rw [fl_step hi, hgu, if_neg (fun z => z rfl)]
          exact hps
        · rw [decide_eq_false (show ¬ V.int u = V.int 0 from fun z => h0 (V.int.inj z))]
          refine iteT' rfl ?_
          refine ⟨_, rfl, _, rfl, _, rfl, p, .int u, rfl, dg, by rw [sizeLine_eq]; show 2 ≤ 16777216; decide, fun T nT => ?_⟩
          have DT : D ≠ T := ne_of_none hD5 nT
          have hlp := hps.length
          refine ⟨ps.map V.ref, (upd_ne DT).trans hD5, ?_, ⟨ps ++ [T], ?_, ?_⟩, fun c o e => ?_⟩
          · rw [List.length_map, hlp, sizeLine_eq]
            have h1 : (flE (addE es fs) (ys.take i)).length ≤ (ys.take i).length := by
              unfold flE
              refine Nat.le_trans (List.length_filter_le _ _) ?_
              rw [List.length_map]
              exact Nat.le_refl _
            have h2 : (ys.take i).length ≤ i := by rw [List.length_take]; exact Nat.min_le_left ..
            omega
          · rw [upd_same, List.map_append]
            rfl
          · rw [fl_step hi, hgu, if_pos h0]
            refine (hps.same fun c xs e => ?_).snoc ?_
            · have cT : c ≠ T := ne_of_none e nT
              have cD : c ≠ D := fun z => by
                rw [z, hD5] at e
                cases e
              rw [upd_ne cD, upd_ne cT]
              exact e
            · rw [upd_ne DT.symm]
              exact upd_same
          · rw [upd_ne (ne_of_none e hD), upd_ne (ne_of_none (S6 c o e) nT)]
            exact S6 c o e
      · rintro H5 ⟨⟨ps, hD5, hps⟩, S6⟩
        rw [List.length_map, List.take_length] at hps
        have hS : SdE (flE (addE es fs) ys) := List.Pairwise.sublist (fl_keys _ ys) (sd_of srt hys)
        refine ⟨D, ps, _, rfl, SqL.of hD5, hps.pairs, fun R nR => ?_⟩
        have S7 : Same H5 (upd H5 R (.dK (mergeK [] (kv (flE (addE es fs) ys))))) := fresh_upd nR
        have SH : Same H H5 := S4.trans (S5.trans S6)
        have nR0 : H R = none := by
          cases e : H R with
          | none => rfl
          | some o =>
            have z := SH _ _ e
            rw [nR] at z
            cases z
        refine q _ R (flE (addE es fs) ys) (SH.trans S7) nR0 (by rw [upd_same, merge_kv hS.nodup]) hS fun n => ?_
        rw [fl_nz (fun n => perm.mem_iff) n, nz_cz, g0_add nb]
end
end K54
set_option maxHeartbeats 8000000
namespace K54
open PySem PySem.Spec PyProof.Rows L2

/-! ### _law_value -/
theorem upV_snoc (N : Str → Nat) (q : Str × Int) : ∀ es : Es, upV (es ++ [q]) N = upV es N * (if 0 < q.2 then N q.1 ^ q.2.toNat else 1)
  | [] => by
    show (if 0 < q.2 then N q.1 ^ q.2.toNat else 1) * 1 = 1 * _
    rw [Nat.mul_one, Nat.one_mul]
  | p :: r => by
    show (if 0 < p.2 then N p.1 ^ p.2.toNat else 1) * upV (r ++ [q]) N = (if 0 < p.2 then N p.1 ^ p.2.toNat else 1) * upV r N * _
    rw [upV_snoc N q r, Nat.mul_assoc]
theorem dnV_snoc (N : Str → Nat) (q : Str × Int) : ∀ es : Es, dnV (es ++ [q]) N = dnV es N * (if q.2 < 0 then N q.1 ^ (-q.2).toNat else 1)
  | [] => by
    show (if q.2 < 0 then N q.1 ^ (-q.2).toNat else 1) * 1 = 1 * _
    rw [Nat.mul_one, Nat.one_mul]
  | p :: r => by
    show (if p.2 < 0 then N p.1 ^ (-p.2).toNat else 1) * dnV (r ++ [q]) N = (if p.2 < 0 then N p.1 ^ (-p.2).toNat else 1) * dnV r N * _
    rw [dnV_snoc N q r, Nat.mul_assoc]
theorem bnd_take (L : Str → Nat) : ∀ (es : Es) (i : Nat), bnd (es.take i) L ≤ bnd es L
  | [], i => by simp
  | p :: r, 0 => Nat.zero_le _
  | p :: r, i + 1 => by
    have := bnd_take L r i
    show p.2.natAbs * L p.1 + bnd (r.take i) L ≤ p.2.natAbs * L p.1 + bnd r L
    omega
abbrev sVal : Stmt := top 68
def spVal : Sp := fun vs H Q _ => ∃ (m d : Addr) (es ms : Es) (L : Str → Nat), vs = [.ref m, .ref d] ∧ H m = some (.dK (kv es)) ∧ NumD H d ms ∧ d ≠ m ∧ (∀ q ∈ es, q.1 ∈ ms.map (·.1)) ∧ (∀ q ∈ es, q.2.natAbs ≤ 1000) ∧
  bnd es L ≤ 1900 ∧ (∀ q ∈ es, nOf ms q.1 < 2 ^ L q.1) ∧ es.length < 64 ∧ ∀ H', Same H H' → Q (.int ((upV es (nOf ms) / dnV es (nOf ms) : Nat) : Int)) H'
def NVa : List Str := ["_law_size_here", "_law_numbers_here", "_law_above", "_law_below", "_law_name", "_law_power", "_law_turn"]
theorem wm2 {x z : Nat} (hx : x ≤ 2 ^ 1900) (hz : z ≤ 2 ^ 1900) : CMulW (z : Int) (x : Int) := by
  have h : (2 : Nat) ^ 1900 < 2 ^ 2000 := Nat.pow_lt_pow_right (by decide) (by decide)
  exact wide_mul (a := 2000) (b := 2000) (by rw [Int.natAbs_natCast]; omega) (by rw [Int.natAbs_natCast]; omega) (by decide) (by decide) (by decide)
theorem wd2 {x z : Nat} (x0 : 0 < x) (hx : x ≤ 2 ^ 1900) : CDivW (z : Int) (x : Int) := by
  have h : (2 : Nat) ^ 1900 < 2 ^ 2000 := Nat.pow_lt_pow_right (by decide) (by decide)
  exact wide_div (b := 2000) (by omega) (by rw [Int.natAbs_natCast]; omega) (by decide) (by decide)
section
variable {P : Program} {w : World} {K : PySem.W.Frag} {mg : Str → Option Value} {base : Heap}
theorem scVal : FnScope NVa ["_law_size_here", "_law_numbers_here"] (defScope sVal) :=
  ⟨rfl, rfl, rfl, by decide +kernel, rfl, by decide +kernel, by decide +kernel⟩
theorem ok_val {f : Addr} {fd : FuncData} (F : Fun K "_law_value" "_law_value" sVal f fd) (T : Nb mg) :
    FnOk P w K mg base CX0 1 f fd ["_law_size_here", "_law_numbers_here"] spVal := by
  refine F.ok scVal (fun vs H Q E h => ?_) (fun cdv A outer s H vs Q E hr h => ?_)
  · obtain ⟨m, d, es, ms, L, rfl, _⟩ := h
    rfl
  · obtain ⟨m, d, es, ms, L, rfl, hm, hD, dm, hin, hbig, hb, hL, hz, q⟩ := h
    have hu : (A.deeper (envOfC "_law_value" (defScope sVal) s.heap.objs.size f cdv)).units + 1 < cLine := by have := hr.units; omega
    refine ⟨_, pss_cons (ps_asg (pe_tup (pa_cons pe_int (pa_cons pe_int pa_nil))) (pg_tup rfl (pgs_cons (pg_name (i := 2) scVal.nd rfl (Or.inl rfl)) (pgs_cons (pg_name (i := 3) scVal.nd rfl (Or.inl rfl)) pgs_nil))))
      (pss_cons (ps_lock (ps_for PassesOwn.never rfl (pi_items (pv 0)) (pg_tup rfl (pgs_cons (pg_name (i := 4) scVal.nd rfl (Or.inl rfl)) (pgs_cons (pg_name (i := 5) scVal.nd rfl (Or.inl rfl)) pgs_nil)))
        (pss_one (ps_for PassesOwn.never rfl (pi_range1 (by rfl) T.range (pa_cons (pe_callB call_abs (by rfl) T.abs (by decide +kernel) (pa_cons (pv 5) pa_nil)) pa_nil)) (pg_name (i := 6) scVal.nd rfl (Or.inl rfl))
          (pss_one (ps_if (pt_cmpR op_gt (pv 5) pe_int (nomark _))
            (pss_one (ps_set (i := 2) scVal.nd rfl (.inl rfl) (pe_op op_mulW (pv 2) (pe_dget hu (pv 1) (pv 4) (fun _ _ => rfl)))))
            (pss_one (ps_set (i := 3) scVal.nd rfl (.inl rfl) (pe_op op_mulW (pv 3) (pe_dget hu (pv 1) (pv 4) (fun _ _ => rfl)))))))))))
      (pss_one (ps_ret (pe_op op_fdivW (pv 2) (pv 3))))), ?_⟩
    have hlook := fun q (hq : q ∈ es) => hD.look (hin q hq)
    have hpos : ∀ q ∈ es, 0 < nOf ms q.1 := fun q hq => (hlook q hq).2.1
    have hd0 := hD.at_
    generalize nOf ms = N at hlook hpos hL q
    have up_le : ∀ i, upV (es.take i) N ≤ 2 ^ 1900 := fun i =>
      Nat.le_trans (upV_lt (L := L) fun q hq => hL q (List.mem_of_mem_take hq)) (Nat.pow_le_pow_right (by decide) (Nat.le_trans (bnd_take L es i) hb))
    have dn_le : ∀ i, dnV (es.take i) N ≤ 2 ^ 1900 := fun i =>
      Nat.le_trans (dnV_lt (L := L) fun q hq => hL q (List.mem_of_mem_take hq)) (Nat.pow_le_pow_right (by decide) (Nat.le_trans (bnd_take L es i) hb))
    have up_pos : ∀ i, 0 < upV (es.take i) N := fun i => upV_pos fun q hq => hpos q (List.mem_of_mem_take hq)
    have dn_pos : ∀ i, 0 < dnV (es.take i) N := fun i => dnV_pos fun q hq => hpos q (List.mem_of_mem_take hq)
    refine ⟨by rw [sizeLine_eq]; show 2 ≤ 16777216; decide, fun t0 nt0 => ⟨t0, _, rfl, SqT.of upd_same, rfl, _, _, rfl, _, _, rfl, rfl, ?_⟩⟩
    have S00 := fresh_upd (o := .tup [V.int 1, V.int 1]) nt0
    have hm' := S00 _ _ hm
    have hd' := S00 _ _ hd0
    generalize upd H t0 (.tup [V.int 1, V.int 1]) = H1 at S00 hm' hd'
    refine ⟨m, _, hm', trivial, fun od => ?_⟩
    refine ⟨_, rfl, m, od, kv es, rfl, upd_same, for_it walk_items (fun i σ H2 => (∃ o4 o5 o6, σ = [some (.ref m), some (.ref d), some (.int ((upV (es.take i) N : Nat) : Int)), some (.int ((dnV (es.take i) N : Nat) : Int)), o4, o5, o6]) ∧
      H2 m = some (.frz od (.dK (kv es))) ∧ ∀ c o, c ≠ m → H1 c = some o → H2 c = some o)
      ⟨⟨none, none, none, rfl⟩, upd_same, fun c o hc e => (upd_ne hc).trans e⟩ (fun i σ H2 _ h => h.2.1) ?_ ?_⟩
    · rintro i v σ H2 H3 hi ⟨⟨o4, o5, o6, rfl⟩, hm2, S2⟩ ⟨T', y, z, rfl, nT, rfl, e1, e2⟩
      rw [kv_len] at hi
      have ei : (kv es)[i]? = some (ky es[i].1, V.int es[i].2) := by
        unfold kv
        rw [List.getElem?_map, List.getElem?_eq_getElem hi]
        rfl
      dsimp only at e1 e2
      rw [ei] at e1 e2
      cases e1
      cases e2
      have hq := List.getElem_mem hi
      have mT : m ≠ T' := ne_of_none hm2 nT
      have S3 : ∀ c o, c ≠ m → H1 c = some o → (upd H2 T' (.tup [kV (ky es[i].1), V.int es[i].2])) c = some o := fun c o hc e => (upd_ne (ne_of_none (S2 c o hc e) nT)).trans (S2 c o hc e)
      have hm3 : (upd H2 T' (.tup [kV (ky es[i].1), V.int es[i].2])) m = some (.frz od (.dK (kv es))) := (upd_ne mT).trans hm2
      have hsq : SqT K (upd H2 T' (.tup [kV (ky es[i].1), V.int es[i].2])) T' [kV (ky es[i].1), V.int es[i].2] := SqT.of upd_same
      have et : es.take (i + 1) = es.take i ++ [es[i]] := by
        rw [List.take_add_one, List.getElem?_eq_getElem hi]
        rfl
      have hu1 := up_le (i + 1)
      have hd1 := dn_le (i + 1)
      rw [et, upV_snoc] at hu1
      rw [et, dnV_snoc] at hd1
      rw [et, upV_snoc, dnV_snoc]
      have hu0 := up_pos i
      have hdd0 := dn_pos i
      obtain ⟨lk, np, _⟩ := hlook _ hq
      have hbg := hbig _ hq
      have dg : DGet (upd H2 T' (.tup [kV (ky es[i].1), V.int es[i].2])) d (.str es[i].1) (some (.int (N es[i].1 : Int))) :=
        .inl ⟨_, ky es[i].1, .inl (S3 _ _ dm hd'), rfl, by rw [val_kv, lk]; rfl⟩
      generalize upd H2 T' (.tup [kV (ky es[i].1), V.int es[i].2]) = H3 at S3 hm3 dg hsq
      refine ⟨T', _, rfl, hsq, rfl, _, _, rfl, _, _, rfl, rfl, ?_⟩
      clear hbg
      have hbg := hbig _ hq
      generalize N es[i].1 = n at hu1 hd1 np dg
      generalize upV (es.take i) N = a at hu1 hu0
      generalize dnV (es.take i) N = b at hd1 hdd0
      generalize es[i].2 = e at hu1 hd1 hbg
      have pw_le : ∀ {x j : Nat}, 0 < x → j ≤ e.natAbs → x * n ^ e.natAbs ≤ 2 ^ 1900 → x * n ^ j ≤ 2 ^ 1900 := fun {x j} hx hj h => Nat.le_trans (Nat.mul_le_mul_left _ (Nat.pow_le_pow_right np hj)) h
      refine ⟨_, rfl, _, rfl, _, rfl, by split <;> omega, by split <;> omega, ?_⟩
      refine for_it (walk_range (lo := 0) (n := Int.toNat (if e < 0 then -e else e))) (fun j σ H4 => (∃ o6, σ = [some (.ref m), some (.ref d), some (.int ((a * (if 0 < e then n ^ j else 1) : Nat) : Int)), some (.int ((b * (if e < 0 then n ^ j else 1) : Nat) : Int)), some (.str es[i].1), some (.int e), o6]) ∧
        H4 = H3) ⟨⟨o6, ?_⟩, rfl⟩ (fun _ _ _ _ _ => trivial) ?_ ?_
      · rw [Nat.pow_zero, ite_self, ite_self, Nat.mul_one, Nat.mul_one]
        rfl
      · rintro j x σ H4 H5 hj ⟨⟨o6', rfl⟩, rfl⟩ ⟨rfl, rfl⟩
        have hj' : j + 1 ≤ e.natAbs := by
          have : Int.toNat (if e < 0 then -e else e) = e.natAbs := by split <;> omega
          omega
        refine ⟨_, rfl, _, _, rfl, rfl, _, rfl, ?_⟩
        by_cases h0 : 0 < e
        · have h1 : ¬ e < 0 := by omega
          rw [if_pos h0] at hu1
          have en : e.toNat = e.natAbs := by omega
          rw [en] at hu1
          refine iteT' (decide_eq_true h0) ?_
          simp only [if_pos h0, if_neg h1]
          refine ⟨_, rfl, _, rfl, _, rfl, d, _, rfl, dg, _, _, rfl, rfl, ?_, ⟨some (.int (0 + (j : Int))), ?_⟩, rfl⟩
          · refine wm2 ?_ (pw_le hu0 (by omega) hu1)
            have z := pw_le hu0 (show 1 ≤ e.natAbs by omega) hu1
            rw [Nat.pow_one] at z
            exact Nat.le_trans (Nat.le_mul_of_pos_left _ hu0) z
          · rw [Nat.pow_succ, ← Nat.mul_assoc, Int.natCast_mul]
            rfl
        · refine iteN' h0 ?_
          have h1 : e < 0 := by omega
          rw [if_pos h1] at hd1
          have en : (-e).toNat = e.natAbs := by omega
          rw [en] at hd1
          simp only [if_neg h0, if_pos h1]
          refine ⟨_, rfl, _, rfl, _, rfl, d, _, rfl, dg, _, _, rfl, rfl, ?_, ⟨some (.int (0 + (j : Int))), ?_⟩, rfl⟩
          · refine wm2 ?_ (pw_le hdd0 (by omega) hd1)
            have z := pw_le hdd0 (show 1 ≤ e.natAbs by omega) hd1
            rw [Nat.pow_one] at z
            exact Nat.le_trans (Nat.le_mul_of_pos_left _ hdd0) z
          · rw [Nat.pow_succ, ← Nat.mul_assoc, Int.natCast_mul]
            rfl
      · rintro σ H4 ⟨⟨o6', rfl⟩, rfl⟩
        refine ⟨⟨some (.str es[i].1), some (.int e), o6', ?_⟩, hm3, S3⟩
        have e1 : (if 0 < e then n ^ Int.toNat (if e < 0 then -e else e) else 1) = if 0 < e then n ^ e.toNat else 1 := by
          by_cases h0 : 0 < e
          · rw [if_pos h0, if_pos h0, if_neg (show ¬ e < 0 by omega)]
          · rw [if_neg h0, if_neg h0]
        have e2 : (if e < 0 then n ^ Int.toNat (if e < 0 then -e else e) else 1) = if e < 0 then n ^ (-e).toNat else 1 := by
          by_cases h0 : e < 0
          · rw [if_pos h0, if_pos h0, if_pos h0]
          · rw [if_neg h0, if_neg h0]
        rw [e1, e2]
    · rintro σ H2 ⟨⟨o4, o5, o6, rfl⟩, hm2, S2⟩
      rw [kv_len, List.take_length]
      have hu := up_le es.length
      have hdn := dn_le es.length
      have hdp := dn_pos es.length
      rw [List.take_length] at hu hdn hdp
      refine ⟨hm2, ?_⟩
      have S4 : Same H (upd H2 m (.dK (kv es))) := fun c o e => by
        by_cases hc : c = m
        · subst hc
          rw [upd_same]
          exact hm.symm.trans e
        · exact (upd_ne hc).trans (S2 c o hc (S00 _ _ e))
      have hq := q _ S4
      generalize upV es N = a at hu hq
      generalize dnV es N = b at hdn hdp hq
      exact ⟨_, rfl, _, rfl, _, _, rfl, rfl, wd2 hdp hdn, hq⟩
end
end K54
set_option maxHeartbeats 8000000
namespace K54
open PySem PySem.Spec PyProof.Rows L2 TL

/-! ### lists of texts as data -/
theorem dp_strs {K : PySem.W.Frag} {H : Hp} : ∀ ns : List Str, DpAll K H (ns.map V.str) (ns.map PyData.str)
  | [] => .nil
  | n :: r => .cons (.str n) (dp_strs r)
theorem eqv_strs : ∀ ns ms : List Str, PyData.eqvAll (ns.map PyData.str) (ms.map PyData.str) = decide (ns = ms)
  | [], [] => rfl
  | [], m :: r => rfl
  | n :: r, [] => rfl
  | n :: r, m :: t => by
    show ((n == m) && PyData.eqvAll (r.map PyData.str) (t.map PyData.str)) = _
    rw [eqv_strs r t]
    by_cases h : n = m
    · subst h
      simp
    · have : (n == m) = false := by simpa using h
      rw [this]
      simp [h]
theorem lay_strs : ∀ {ns : List Str}, (∀ n ∈ ns, ∀ c ∈ tl n, c < 0x110000) → PyData.canLayAll0 (ns.map PyData.str) = true
  | [], _ => rfl
  | n :: r, h => by
    have ih := lay_strs (ns := r) fun m hm => h m (List.mem_cons_of_mem _ hm)
    have h1 : PyData.strOk n = true := by
      unfold PyData.strOk
      rw [← Array.all_toList, List.all_eq_true]
      exact fun c hc => decide_eq_true (h n (List.mem_cons_self ..) c hc)
    show (PyData.strOk n && PyData.canLayAll0 (r.map PyData.str)) = true
    rw [h1, ih]
    rfl
theorem dep_strs : ∀ ns : List Str, PyData.depthAll (ns.map PyData.str) = 0
  | [] => rfl
  | n :: r => by
    show max 0 (PyData.depthAll (r.map PyData.str)) = 0
    rw [dep_strs r]
    rfl
theorem sh_strs {ns : List Str} (h : ∀ n ∈ ns, ∀ c ∈ tl n, c < 0x110000) : SeqAt.shaped (.list (ns.map PyData.str)) = true := by
  unfold SeqAt.shaped
  have e1 : PyData.canLay0 (.list (ns.map PyData.str)) = true := lay_strs h
  have e2 : PyData.depth (.list (ns.map PyData.str)) = 1 := by
    show PyData.depthAll (ns.map PyData.str) + 1 = 1
    rw [dep_strs]
  rw [e1, e2]
  rfl

/-! ### _law_size_text -/
abbrev sTxL : Stmt := top 71
def spTxL : Sp := fun vs H Q _ => ∃ (m : Addr) (es : Es), vs = [.ref m] ∧ H m = some (.dK (kv es)) ∧ es.length < 64 ∧ (∀ q ∈ es, isNm q.1 = true ∧ Big q.2) ∧ ∀ H', Same H H' → Q (.str (reprS (texE es))) H'
def NTx : List Str := ["_law_size_here", "_law_words", "_law_name", "_law_power"]
section
variable {P : Program} {w : World} {K : PySem.W.Frag} {mg : Str → Option Value} {base : Heap}
theorem scTxL : FnScope NTx ["_law_size_here"] (defScope sTxL) :=
  ⟨rfl, rfl, rfl, by decide +kernel, rfl, by decide +kernel, by decide +kernel⟩
theorem ok_txL {f : Addr} {fd : FuncData} (F : Fun K "_law_size_text" "_law_size_text" sTxL f fd) (T : Ns mg) :
    FnOk P w K mg base CX0 1 f fd ["_law_size_here"] spTxL := by
  refine F.ok scTxL (fun vs H Q E h => ?_) (fun cdv A outer s H vs Q E hr h => ?_)
  · obtain ⟨m, es, rfl, _⟩ := h
    rfl
  · obtain ⟨m, es, rfl, hm, hz, hb, k⟩ := h
    have hu : (A.deeper (envOfC "_law_size_text" (defScope sTxL) s.heap.objs.size f cdv)).units + 64 < cLine := by have := hr.units; omega
    refine ⟨_, pss_cons (ps_lock (ps_setLc (i := 1) (own := [("_law_name", 2), ("_law_power", 3)]) (g := gTup K 2 (gCons (gName 2) (gCons (gName 3) gNil))) (tt := tYes)
          (te := tIf (tTest (tOp rEq (tVar 3) (tC (.int 1)))) (tVar 2) (tOp (fun x y H Q => ∃ i j, x = .str i ∧ y = .str j ∧ i.length + j.length ≤ sizeLine ∧ Q (.str (i ++ j)) H) (tOp (fun x y H Q => ∃ i j, x = .str i ∧ y = .str j ∧ i.length + j.length ≤ sizeLine ∧ Q (.str (i ++ j)) H) (tVar 2) (tC (.str "^"))) (tCB (fun xs H Q => ∃ i, xs = [.int i] ∧ i.natAbs.log2 < 1920 ∧ Q (.str (toString i)) H) (tCons (tVar 3) tNil))))
          rfl scTxL.nd rfl rfl (sw_true rfl rfl rfl rfl) (pi_items (pv 0))
          (blkOk_by (own := [("_law_name", 2), ("_law_power", 3)]) (N := NTx) (sc := defScope sTxL) (by decide +kernel))
          (fun _ _ _ _ _ => pg_tup rfl (pgs_cons (pg_name (i := 2) scTxL.nd rfl (Or.inl rfl)) (pgs_cons (pg_name (i := 3) scTxL.nd rfl (Or.inl rfl)) pgs_nil)))
          (fun _ _ _ _ _ => pts_nil) (fun _ _ _ _ _ => by exact pe_ifExp (pt_cmpR op_eq (pv 3) pe_int (nomark _)) (pv 2) (pe_op op_add_str (pe_op op_add_str (pv 2) pe_str) (pe_callTy call_str_int (by rfl) T.str (by decide +kernel) (pa_cons (pv 3) pa_nil))))))
      (pss_one (ps_ret (pe_op op_add_str (pe_op op_add_str pe_str (pe_ifExp (pt_cmpR (op_neD hu) (pv 1) (pe_lst pa_nil) (nomark _)) (pe_join pe_str (pv 1)) pe_str)) pe_str))), ?_⟩
    refine ⟨m, _, hm, trivial, fun od => ?_⟩
    refine ⟨_, rfl, m, od, kv es, rfl, upd_same, fun L hL => ?_⟩
    have Lm : L ≠ m := fun z => by
      rw [z, upd_same] at hL
      cases hL
    have hL0 : H L = none := by
      rw [upd_ne Lm] at hL
      exact hL
    refine lc_it walk_items (fun i H3 => H3 L = some (.lst (((es.take i).map fun q => pwT q.1 q.2).map V.str)) ∧ H3 m = some (.frz od (.dK (kv es))) ∧ ∀ b o, b ≠ m → H b = some o → H3 b = some o)
      ⟨upd_same, (upd_ne Lm.symm).trans upd_same, fun b o e1 e2 => ?_⟩ (fun i H3 _ q => q.2.1) ?_ ?_
    · rw [upd_ne (ne_of_none e2 hL0), upd_ne e1]
      exact e2
    · rintro i v H3 H4 hi ⟨hL3, hm3, S3⟩ ⟨T, x, y, rfl, nT, rfl, e1, e2⟩
      rw [kv_len] at hi
      have ei : (kv es)[i]? = some (ky es[i].1, V.int es[i].2) := by
        unfold kv
        rw [List.getElem?_map, List.getElem?_eq_getElem hi]
        rfl
      dsimp only at e1 e2
      rw [ei] at e1 e2
      cases e1
      cases e2
      have LT : L ≠ T := ne_of_none hL3 nT
      have mT : m ≠ T := ne_of_none hm3 nT
      obtain ⟨hb1, hb2⟩ := hb es[i] (List.getElem_mem hi)
      have hb3 := nm_len hb1
      refine ⟨T, _, rfl, SqT.of upd_same, rfl, _, _, rfl, _, _, rfl, rfl, rfl, ?_⟩
      unfold tYes
      dsimp only
      rw [if_pos rfl]
      have hnew : ∀ x : Str, x = pwT es[i].1 es[i].2 → ∀ b o, b = L → some (HO.lst ((((es.take i).map fun q => pwT q.1 q.2).map V.str) ++ [V.str x])) = o → o = some (.lst (((es.take (i + 1)).map fun q => pwT q.1 q.2).map V.str)) := fun x e b o _ e2 => by
        rw [← e2, e, List.take_add_one, List.getElem?_eq_getElem hi, List.map_append, List.map_append]
        rfl
      have hsz : ((((es.take i).map fun q => pwT q.1 q.2).map V.str)).length < sizeLine := by
        rw [List.length_map, List.length_map, List.length_take, sizeLine_eq]
        omega
      have e1 : ("^" : Str).length = 1 := by decide
      refine ⟨_, rfl, rfl, _, rfl, ?_⟩
      by_cases h1 : es[i].2 = 1
      case' pos =>
        refine iteT' (decide_eq_true (congrArg V.int h1)) ?_
        refine ⟨_, rfl, ?_⟩
        have ex : es[i].1 = pwT es[i].1 es[i].2 := by
          unfold pwT
          rw [if_pos h1]
      case' neg =>
        refine iteN' (fun z => h1 (V.int.inj z)) ?_
        have hd := dec_len hb2
        refine ⟨_, rfl, _, _, rfl, rfl, by rw [e1, sizeLine_eq]; omega, _, rfl, _, rfl, log_of hb2, _, _, rfl, rfl, ?_, ?_⟩
        · rw [len_tl, tl_append, List.length_append, ← len_tl, ← len_tl, e1, sizeLine_eq]
          show _ + (decS es[i].2).length ≤ _
          omega
        have ex : es[i].1 ++ ("^" : Str) ++ decS es[i].2 = pwT es[i].1 es[i].2 := by
          unfold pwT
          rw [if_neg h1]
      all_goals
        refine ⟨_, (upd_ne LT).trans hL3, hsz, ?_, ?_, fun b o hb' e => ?_⟩
        · rw [upd_same]
          exact hnew _ ex L _ rfl rfl
        · rw [upd_ne Lm.symm, upd_ne mT]
          exact hm3
        · rw [upd_ne (ne_of_none e hL0), upd_ne (ne_of_none (S3 b o hb' e) nT)]
          exact S3 b o hb' e
    · rintro H3 ⟨hL3, hm3, S3⟩
      rw [kv_len, List.take_length] at hL3
      refine ⟨hm3, ?_⟩
      have S4 : Same H (upd H3 m (.dK (kv es))) := fun b o e => by
        by_cases hbD : b = m
        · subst hbD
          rw [upd_same]
          exact hm.symm.trans e
        · exact (upd_ne hbD).trans (S3 b o hbD e)
      have hL4 : upd H3 m (.dK (kv es)) L = some (.lst ((es.map fun q => pwT q.1 q.2).map V.str)) := (upd_ne Lm).trans hL3
      generalize upd H3 m (.dK (kv es)) = H4 at S4 hL4
      refine ⟨_, rfl, by rw [sizeLine_eq]; show 0 ≤ 16777216; decide, fun e0 n0 => ?_⟩
      have S5 := fresh_upd (o := .lst []) n0
      have hsg : ∀ n ∈ es.map (fun q => pwT q.1 q.2), ∀ c ∈ tl n, c < 0x110000 := fun n hn c hc => by
        obtain ⟨q, hq, rfl⟩ := List.mem_map.mp hn
        have := sgn_lt (sgn_pw (hb q hq).1 hc)
        omega
      refine ⟨.list ((es.map fun q => pwT q.1 q.2).map PyData.str), .list ([].map PyData.str), .lst (SqL.of (S5 _ _ hL4)) (dp_strs _), .lst (SqL.of upd_same) .nil, sh_strs hsg, by decide, _, rfl, ?_⟩
      show (if (!PyData.eqvAll ((es.map fun q => pwT q.1 q.2).map PyData.str) (([] : List Str).map PyData.str)) = true then _ else _)
      rw [eqv_strs]
      have wr : ∀ (x : Str) (H' : Hp), x.length ≤ 10000 → Q (.str (reprS x)) H' → ∃ i j, V.str "Size('" = V.str i ∧ V.str x = V.str j ∧ i.length + j.length ≤ sizeLine ∧ ∃ i' j', V.str (i ++ j) = V.str i' ∧ V.str "')" = V.str j' ∧ i'.length + j'.length ≤ sizeLine ∧ Q (V.str (i' ++ j')) H' := fun x H' hx q => by
        have e1 : ("Size('" : Str).length = 6 := by decide
        have e2 : ("')" : Str).length = 2 := by decide
        refine ⟨_, _, rfl, rfl, by rw [e1, sizeLine_eq]; omega, _, _, rfl, rfl, ?_, q⟩
        rw [len_app, e1, e2, sizeLine_eq]
        omega
      have hx := tex_len (fun q hq => ⟨nm_len (hb q hq).1, (hb q hq).2⟩) hz
      by_cases h0 : es = []
      · subst h0
        have z := k _ (S4.trans S5)
        unfold texE at z
        rw [if_pos rfl] at z
        exact iteF (wr _ _ (by decide) z)
      · have z := k _ (S4.trans S5)
        unfold texE at z hx
        rw [if_neg h0] at z hx
        replace z := wr _ _ hx z
        rw [decide_eq_false (show ¬ es.map (fun q => pwT q.1 q.2) = [] by simpa using h0)]
        refine iteT' rfl ?_
        refine ⟨⟨_, rfl⟩, _, rfl, _, L, _, rfl, rfl, .inl (SqL.of (S5 _ _ hL4)), ?_, z⟩
        have hs : ∀ l : Es, (∀ q ∈ l, isNm q.1 = true ∧ Big q.2) → ((l.map fun q => pwT q.1 q.2).map (·.length)).sum ≤ l.length * 70 := fun l => by
          induction l with
          | nil => intro _; exact Nat.zero_le _
          | cons p r ih =>
            intro hb
            have z := ih fun q hq => hb q (List.mem_cons_of_mem _ hq)
            have z2 := pw_len (nm_len (hb p (List.mem_cons_self ..)).1) (hb p (List.mem_cons_self ..)).2
            show (pwT p.1 p.2).length + ((r.map fun q => pwT q.1 q.2).map (·.length)).sum ≤ (r.length + 1) * 70
            omega
        have z := hs es hb
        have e : ("*" : Str).length = 1 := by decide
        rw [e, List.length_map]
        omega
end
end K54
set_option maxHeartbeats 8000000
namespace K54
open PySem PySem.Spec PyProof.Rows L2 TL

/-! ### the law's models of digits -/
def MAt (H : Hp) (T : Addr) (m : M3) : Prop := ∃ (dr : Addr) (vf : V), H T = some (.tup [.str (wayD m.k), .ref dr, vf]) ∧ H dr = some (.dK (kv m.r)) ∧ ((m.k = 0 ∧ vf = .non ∧ m.f = []) ∨ (m.k ≠ 0 ∧ ∃ df, vf = .ref df ∧ H df = some (.dK (kv m.f)))) ∧ m.k < 3
theorem MAt.same {H H' : Hp} {T : Addr} {m : M3} (h : MAt H T m) (S : Same H H') : MAt H' T m := by
  obtain ⟨dr, vf, h1, h2, h3, h4⟩ := h
  exact ⟨dr, vf, S _ _ h1, S _ _ h2, h3.imp id fun ⟨a, df, b, c⟩ => ⟨a, df, b, S _ _ c⟩, h4⟩
/-- exponents of a drawn size -/
structure Nice (es : Es) : Prop where
  sd : SdE es
  nm : ∀ q ∈ es, isNm q.1 = true
  nz : ∀ q ∈ es, q.2 ≠ 0
  bd : ∀ q ∈ es, -2 ≤ q.2 ∧ q.2 ≤ 2
  ln : es.length ≤ 3
theorem Nice.big {es : Es} (h : Nice es) : ∀ q ∈ es, Big q.2 := fun q hq => by
  have := h.bd q hq
  unfold Big
  omega
theorem Nice.nil : Nice [] := by
  constructor
  · exact List.Pairwise.nil
  · intro _ h; cases h
  · intro _ h; cases h
  · intro _ h; cases h
  · exact Nat.zero_le _
structure NiceM (m : M3) : Prop where
  r : Nice m.r
  f : Nice m.f
theorem emp_app (x : Str) : Str.empty ++ x = x := ext_tl (by rw [tl_append]; rfl)
theorem way_eq {i : Nat} (hi : i < 3) : (wayD i = "unused" ↔ i = 0) ∧ (wayD i = "straight" ↔ i = 1) ∧ (wayD i = "turned" ↔ i = 2) := by
  have e : i = 0 ∨ i = 1 ∨ i = 2 := by omega
  rcases e with rfl | rfl | rfl <;> decide
theorem dT_0 {m : M3} (h : m.k = 0) : dT m = uT m.r := by
  obtain ⟨k, r, f⟩ := m
  cases h
  rfl
theorem dT_1 {m : M3} (h : m.k = 1) : dT m = sT "Straight(" m.r m.f := by
  obtain ⟨k, r, f⟩ := m
  cases h
  rfl
theorem dT_2 {m : M3} (h : m.k = 2) : dT m = sT "Turned(" m.r m.f := by
  obtain ⟨k, r, f⟩ := m
  cases h
  rfl
abbrev sDtx : Stmt := top 72
abbrev sOtw : Stmt := top 74
def spDtx : Sp := fun vs H Q _ => ∃ (T : Addr) (m : M3), vs = [.ref T] ∧ MAt H T m ∧ NiceM m ∧ ∀ H', Same H H' → Q (.str (dT m)) H'
def spOtw : Sp := fun vs H Q _ => ∃ (T : Addr) (m : M3), vs = [.ref T] ∧ MAt H T m ∧ ∀ H' T', Same H H' → H T' = none → MAt H' T' m.turn → Q (.ref T') H'
def NDtx : List Str := ["_law_model", "_law_kind", "_law_radix", "_law_factor", "_law_word"]
def NOtw : List Str := ["_law_model", "_law_kind", "_law_radix", "_law_factor"]
theorem st_len {es : Es} (h : Nice es) : (reprS (texE es)).length ≤ 10008 := by
  have hx := tex_len (fun q hq => ⟨nm_len (h.nm q hq), h.big q hq⟩) (show es.length < 64 by have := h.ln; omega)
  unfold reprS
  have e1 : ("Size('" : Str).length = 6 := by decide
  have e2 : ("')" : Str).length = 2 := by decide
  rw [len_app, len_app, e1, e2]
  omega
section
variable {P : Program} {w : World} {K : PySem.W.Frag} {mg : Str → Option Value} {base : Heap}
theorem scDtx : FnScope NDtx ["_law_model"] (defScope sDtx) := ⟨rfl, rfl, rfl, by decide +kernel, rfl, by decide +kernel, by decide +kernel⟩
theorem ok_dtx {f fT : Addr} {fd fdT : FuncData} (F : Fun K "_law_digit_text" "_law_digit_text" sDtx f fd)
    (GT : FnOk P w K mg base CX0 1 fT fdT ["_law_size_here"] spTxL) (kT : PySem.W.keepIn K (.ref fT) = true) (bT : Binds K fdT ["_law_size_here"] []) (gT : mg "_law_size_text" = some (.ref fT)) :
    FnOk P w K mg base CX0 2 f fd ["_law_model"] spDtx := by
  refine F.ok scDtx (fun vs H Q E h => ?_) (fun cdv A outer s H vs Q E hr h => ?_)
  · obtain ⟨T, m, rfl, _⟩ := h
    rfl
  · obtain ⟨T, m, rfl, ⟨dr, vf, h1, h2, h3, h4⟩, hN, k⟩ := h
    refine ⟨_, pss_cons (ps_asg (pv 0) (pg_tup rfl (pgs_cons (pg_name (i := 1) scDtx.nd rfl (Or.inl rfl)) (pgs_cons (pg_name (i := 2) scDtx.nd rfl (Or.inl rfl)) (pgs_cons (pg_name (i := 3) scDtx.nd rfl (Or.inl rfl)) pgs_nil)))))
      (pss_cons (ps_if (pt_cmpR op_eq (pv 1) pe_str (nomark _)) (pss_one (ps_ret (pe_op op_add_str (pe_op op_add_str pe_str (pe_call (E := E0) GT hr (by rfl) gT kT bT .nil pass0 (pa_cons (pv 2) pa_nil))) pe_str))) pss_nil)
      (pss_cons (ps_set (i := 4) scDtx.nd rfl (.inl rfl) (pe_ifExp (pt_cmpR op_eq (pv 1) pe_str (nomark _)) pe_str pe_str))
      (pss_one (ps_ret (pe_op op_add_str (pe_op op_add_str (pe_op op_add_str (pe_op op_add_str (pv 4) (pe_call (E := E0) GT hr (by rfl) gT kT bT .nil pass0 (pa_cons (pv 2) pa_nil))) pe_str)
        (pe_call (E := E0) GT hr (by rfl) gT kT bT .nil pass0 (pa_cons (pv 3) pa_nil))) pe_str))))), ?_⟩
    have hr10 := st_len hN.r
    have hf10 := st_len hN.f
    have l1 : ("Unused(" : Str).length = 7 := by decide
    have l2 : (")" : Str).length = 1 := by decide
    have l3 : (", " : Str).length = 2 := by decide
    have l4 : ("Straight(" : Str).length = 9 := by decide
    have l5 : ("Turned(" : Str).length = 7 := by decide
    have nmr : ∀ q ∈ m.r, isNm q.1 = true ∧ Big q.2 := fun q hq => ⟨hN.r.nm q hq, hN.r.big q hq⟩
    have nmf : ∀ q ∈ m.f, isNm q.1 = true ∧ Big q.2 := fun q hq => ⟨hN.f.nm q hq, hN.f.big q hq⟩
    have lr := hN.r.ln
    have lf := hN.f.ln
    refine ⟨_, rfl, T, _, rfl, SqT.of h1, rfl, _, _, rfl, _, _, rfl, _, _, rfl, rfl, ?_⟩
    refine ⟨_, rfl, rfl, _, rfl, ?_⟩
    by_cases e0 : m.k = 0
    · refine iteT' (decide_eq_true (congrArg V.str ((way_eq h4).1.mpr e0))) ?_
      refine ⟨_, rfl, dr, m.r, rfl, h2, by omega, nmr, fun H1 S1 => ⟨_, _, rfl, rfl, by rw [l1, sizeLine_eq]; omega, _, _, rfl, rfl, by rw [len_app, l1, l2, sizeLine_eq]; omega, ?_⟩⟩
      have z := k H1 S1
      rw [dT_0 e0] at z
      unfold uT repT at z
      rw [emp_app] at z
      exact z
    · refine iteN' (fun z => e0 ((way_eq h4).1.mp (V.str.inj z))) ?_
      rcases h3 with ⟨z, _⟩ | ⟨_, df, rfl, h3⟩
      · exact absurd z e0
      have fin : ∀ (nm : Str) (H1 : Hp), Same H H1 → nm.length ≤ 9 → dT m = sT nm m.r m.f → (tOp (fun x y H Q => ∃ i j, x = .str i ∧ y = .str j ∧ i.length + j.length ≤ sizeLine ∧ Q (.str (i ++ j)) H) (tOp (fun x y H Q => ∃ i j, x = .str i ∧ y = .str j ∧ i.length + j.length ≤ sizeLine ∧ Q (.str (i ++ j)) H)
          (tOp (fun x y H Q => ∃ i j, x = .str i ∧ y = .str j ∧ i.length + j.length ≤ sizeLine ∧ Q (.str (i ++ j)) H) (tOp (fun x y H Q => ∃ i j, x = .str i ∧ y = .str j ∧ i.length + j.length ≤ sizeLine ∧ Q (.str (i ++ j)) H) (tVar 4) (tCall spTxL [] E0 (tCons (tVar 2) tNil))) (tC (.str ", "))) (tCall spTxL [] E0 (tCons (tVar 3) tNil))) (tC (.str ")")))
          [some (.ref T), some (.str (wayD m.k)), some (.ref dr), some (.ref df), some (.str nm)] H1 Q := fun nm H1 S1 hn e => by
        refine ⟨_, rfl, _, rfl, dr, m.r, rfl, S1 _ _ h2, by omega, nmr, fun H2 S2 => ⟨_, _, rfl, rfl, by rw [sizeLine_eq]; omega, _, _, rfl, rfl, by rw [len_app, l3, sizeLine_eq]; omega, ?_⟩⟩
        refine ⟨_, rfl, df, m.f, rfl, S2 _ _ (S1 _ _ h3), by omega, nmf, fun H3 S3 => ⟨_, _, rfl, rfl, by rw [len_app, len_app, l3, sizeLine_eq]; omega, _, _, rfl, rfl, by rw [len_app, len_app, len_app, l3, l2, sizeLine_eq]; omega, ?_⟩⟩
        have z := k H3 (S1.trans (S2.trans S3))
        rw [e] at z
        unfold sT repT at z
        rw [emp_app] at z
        exact z
      refine ⟨_, rfl, rfl, _, rfl, ?_⟩
      by_cases e1 : m.k = 1
      · refine iteT' (decide_eq_true (congrArg V.str ((way_eq h4).2.1.mpr e1))) ?_
        exact fin "Straight(" H (Same.refl H) (by decide) (dT_1 e1)
      · refine iteN' (fun z => e1 ((way_eq h4).2.1.mp (V.str.inj z))) ?_
        have e2 : m.k = 2 := by omega
        exact fin "Turned(" H (Same.refl H) (by decide) (dT_2 e2)
end
end K54
set_option maxHeartbeats 8000000
namespace K54
open PySem PySem.Spec PyProof.Rows L2 TL

/-! ### _law_other_way, _law_made -/
def KW : List (Key × V) := [(ky "unused", V.str "unused"), (ky "straight", V.str "turned"), (ky "turned", V.str "straight")]
def trnN (i : Nat) : Nat := if i = 0 then 0 else 3 - i
theorem way_val {i : Nat} (hi : i < 3) : valV (mergeK [] KW) (ky (wayD i)) = some (V.str (wayD (trnN i))) := by
  have e : i = 0 ∨ i = 1 ∨ i = 2 := by omega
  rcases e with rfl | rfl | rfl <;> decide +kernel
theorem nice_look {es : Es} (h : Nice es) (n : Str) : es.lookup n = cz (g0 es n) := by
  unfold g0
  cases e : es.lookup n with
  | none => rfl
  | some v =>
    have hv : (n, v) ∈ es := by
      clear h
      induction es with
      | nil => cases e
      | cons p r ih =>
        rw [List.lookup_cons] at e
        by_cases hp : n == p.1
        · rw [hp] at e
          have e2 : n = p.1 := by simpa using hp
          have e3 : p.2 = v := Option.some.inj e
          rw [e2, ← e3]
          exact List.mem_cons_self ..
        · have hp' : (n == p.1) = false := by simpa using hp
          rw [hp'] at e
          exact List.mem_cons_of_mem _ (ih e)
    have z := h.nz _ hv
    show some v = cz v
    unfold cz
    rw [if_neg (show ¬ v = 0 from z)]
theorem nice_eq {es rs : Es} (h : Nice es) (sd : SdE rs) (hl : ∀ n, rs.lookup n = cz (g0 es n)) : rs = es := SdE.one sd h.sd fun n => by rw [hl n, nice_look h n]
section
variable {P : Program} {w : World} {K : PySem.W.Frag} {mg : Str → Option Value} {base : Heap} {C DD : Addr} {cl : Nat → Addr}
theorem scOtw : FnScope NOtw ["_law_model"] (defScope sOtw) := ⟨rfl, rfl, rfl, by decide +kernel, rfl, by decide +kernel, by decide +kernel⟩
theorem ok_otw {f : Addr} {fd : FuncData} (F : Fun K "_law_other_way" "_law_other_way" sOtw f fd) : FnOk P w K mg base CX0 1 f fd ["_law_model"] spOtw := by
  refine F.ok scOtw (fun vs H Q E h => ?_) (fun cdv A outer s H vs Q E hr h => ?_)
  · obtain ⟨T, m, rfl, _⟩ := h
    rfl
  · obtain ⟨T, m, rfl, ⟨dr, vf, h1, h2, h3, h4⟩, k⟩ := h
    have hu : (A.deeper (envOfC "_law_other_way" (defScope sOtw) s.heap.objs.size f cdv)).units + 1 < cLine := by have := hr.units; omega
    refine ⟨_, pss_cons (ps_asg (pv 0) (pg_tup rfl (pgs_cons (pg_name (i := 1) scOtw.nd rfl (Or.inl rfl)) (pgs_cons (pg_name (i := 2) scOtw.nd rfl (Or.inl rfl)) (pgs_cons (pg_name (i := 3) scOtw.nd rfl (Or.inl rfl)) pgs_nil)))))
      (pss_one (ps_ret (pe_tup (pa_cons (pe_dget hu (pe_disp (pps_cons pe_str pe_str (pps_cons pe_str pe_str (pps_cons pe_str pe_str pps_nil))) (by rfl) (by rfl) (fun z => by cases z) (by decide)) (pv 1) (fun _ _ => rfl)) (pa_cons (pv 2) (pa_cons (pv 3) pa_nil)))))), ?_⟩
    refine ⟨_, rfl, T, _, rfl, SqT.of h1, rfl, _, _, rfl, _, _, rfl, _, _, rfl, rfl, ?_⟩
    refine fun p np => ⟨upd_same, KW, rfl, by show 3 ≤ 15; decide, ?_⟩
    rw [upd_upd]
    have S1 := fresh_upd (o := .dK (mergeK [] KW)) np
    have e1 : upd H p (.dK (mergeK [] KW)) p = some (.dK (mergeK [] KW)) := upd_same
    generalize upd H p (.dK (mergeK [] KW)) = H1 at S1 e1
    have dg := DGet.k (k := ky (wayD m.k)) e1
    rw [way_val h4] at dg
    refine ⟨_, rfl, p, _, rfl, dg, _, rfl, _, rfl, by rw [sizeLine_eq]; show 3 ≤ 16777216; decide, fun T' nT => ?_⟩
    have S2 := fresh_upd (o := .tup [V.str (wayD (trnN m.k)), V.ref dr, vf]) nT
    refine k _ T' (S1.trans S2) (none_pre S1 nT) ⟨dr, vf, upd_same, S2 _ _ (S1 _ _ h2), ?_, ?_⟩
    · rcases h3 with ⟨a, b, c⟩ | ⟨a, df, b, c⟩
      · refine .inl ⟨?_, b, c⟩
        unfold M3.turn
        rw [if_pos a]
      · refine .inr ⟨?_, df, b, S2 _ _ (S1 _ _ c)⟩
        unfold M3.turn
        rw [if_neg a]
        dsimp only
        omega
    · unfold M3.turn
      dsimp only
      split <;> omega
abbrev sMdd : Stmt := top 70
def spMdd (C : Addr) (cl : Nat → Addr) : Sp := fun vs H Q _ => ∃ (T : Addr) (m : M3), vs = [.ref T] ∧ MAt H T m ∧ NiceM m ∧ ∀ H' p, Same H H' → H p = none → DgAt C cl H' p m → Q (.ref p) H'
/-- what makes a Size -/
def MkS (P : Program) (w : World) (K : PySem.W.Frag) (mg : Str → Option Value) (base : Heap) (C : Addr) : Prop :=
  mg "Size" = some (.ref C) ∧ ∃ f fd, Mk K C f ∧ FnOk P w K mg base CX0 3 f fd ["self", "exponents"] (spInit C) ∧ Binds K fd ["self", "exponents"] [] ∧ Binds K fd ["self", "exponents"] [.none]
theorem rd_szn {H : Hp} {G : Addr} {es : Es} {Qx : Addr → VK} (hG : H G = some (.dK (kv es))) (hN : Nice es) (k : ∀ H' r, Same H H' → H r = none → SizeAt C H' r es → Qx r .non H') :
    ∀ x dx, H x = none → H dx = none → dx ≠ x → spInit C (.ref x :: ([.ref G] ++ [])) (upd (upd H dx (.own x)) x (.ins C dx [])) (Qx x) E0 :=
  rd_mk hG hN.sd.nodup (by have := hN.ln; omega) hN.nm fun H' r rs dx D S z l nr nD _ => by
    obtain ⟨dx2, D2, z1, z2, z3, z4⟩ := id z
    have e := nice_eq hN z3 l
    subst e
    exact k H' r S nr z
def NMdd : List Str := ["_law_model", "_law_kind", "_law_radix", "_law_factor"]
theorem scMdd : FnScope NMdd ["_law_model"] (defScope sMdd) := ⟨rfl, rfl, rfl, by decide +kernel, rfl, by decide +kernel, by decide +kernel⟩
theorem ok_mdd {f : Addr} {fd : FuncData} (F : Fun K "_law_made" "_law_made" sMdd f fd) (a : Dall P w K mg base C DD cl) (z : MkS P w K mg base C) : FnOk P w K mg base CX0 5 f fd ["_law_model"] (spMdd C cl) := by
  obtain ⟨gC, fi, fdi, M, gi, bi, _⟩ := z
  obtain ⟨f0, fd0, M0, G0, b0⟩ := a.new0
  obtain ⟨f1, fd1, M1, G1, b1⟩ := a.new 1 (.inl rfl)
  obtain ⟨f2, fd2, M2, G2, b2⟩ := a.new 2 (.inr rfl)
  have g0 := (a.dq 0 (by decide)).gD
  have g1 := (a.dq 1 (by decide)).gD
  have g2 := (a.dq 2 (by decide)).gD
  refine F.ok scMdd (fun vs H Q E h => ?_) (fun cdv A outer s H vs Q E hr h => ?_)
  · obtain ⟨T, m, rfl, _⟩ := h
    rfl
  · obtain ⟨T, m, rfl, ⟨dr, vf, h1, h2, h3, h4⟩, hN, k⟩ := h
    have hr3 : Room 3 (A.deeper (envOfC "_law_made" (defScope sMdd) s.heap.objs.size f cdv)) := hr.mono (by decide)
    refine ⟨_, pss_cons (ps_asg (pv 0) (pg_tup rfl (pgs_cons (pg_name (i := 1) scMdd.nd rfl (Or.inl rfl)) (pgs_cons (pg_name (i := 2) scMdd.nd rfl (Or.inl rfl)) (pgs_cons (pg_name (i := 3) scMdd.nd rfl (Or.inl rfl)) pgs_nil)))))
      (pss_cons (ps_if (pt_cmpR op_eq (pv 1) pe_str (nomark _)) (pss_one (ps_ret (pe_make M0 G0 hr3 (by rfl) g0 b0 .nil pass0 (pa_cons (pe_make M gi hr (by rfl) gC bi .nil pass0 (pa_cons (pv 2) pa_nil)) pa_nil)))) pss_nil)
      (pss_one (ps_ret (pe_ifExp (pt_cmpR op_eq (pv 1) pe_str (nomark _))
        (pe_make M1 G1 hr3 (by rfl) g1 b1 .nil pass0 (pa_cons (pe_make M gi hr (by rfl) gC bi .nil pass0 (pa_cons (pv 2) pa_nil)) (pa_cons (pe_make M gi hr (by rfl) gC bi .nil pass0 (pa_cons (pv 3) pa_nil)) pa_nil)))
        (pe_make M2 G2 hr3 (by rfl) g2 b2 .nil pass0 (pa_cons (pe_make M gi hr (by rfl) gC bi .nil pass0 (pa_cons (pv 2) pa_nil)) (pa_cons (pe_make M gi hr (by rfl) gC bi .nil pass0 (pa_cons (pv 3) pa_nil)) pa_nil))))))), ?_⟩
    refine ⟨_, rfl, T, _, rfl, SqT.of h1, rfl, _, _, rfl, _, _, rfl, _, _, rfl, rfl, ?_⟩
    refine ⟨_, rfl, rfl, _, rfl, ?_⟩
    by_cases e0 : m.k = 0
    · refine iteT' (decide_eq_true (congrArg V.str ((way_eq h4).1.mpr e0))) ?_
      refine ⟨_, rfl, rd_szn h2 hN.r fun H1 r S1 nr z1 => ⟨rfl, ?_⟩⟩
      obtain ⟨dq, D1, y1, _⟩ := id z1
      intro x dx nx ndx nex
      have Sx : Same H1 (upd (upd H1 dx (.own x)) x (.ins (cl 0) dx [])) := fun b o e => by
        rw [upd_ne (ne_of_none e nx), upd_ne (ne_of_none e ndx)]
        exact e
      refine ⟨x, r, dx, dq, _, rfl, upd_same, Sx _ _ y1, rfl, ?_⟩
      have Sy : Same H1 (upd (upd (upd H1 dx (.own x)) x (.ins (cl 0) dx [])) x (.ins (cl 0) dx (fld2 (.ref r) .non))) := fun b o e => by
        rw [upd_ne (ne_of_none e nx)]
        exact Sx _ _ e
      have ef : m.f = [] := by
        rcases h3 with ⟨_, _, c⟩ | ⟨c, _⟩
        · exact c
        · exact absurd e0 c
      exact k _ x (S1.trans Sy) (none_pre S1 nx) (.inl ⟨e0, ef, dx, r, upd_same, z1.same Sy⟩)
    · refine iteN' (fun z => e0 ((way_eq h4).1.mp (V.str.inj z))) ?_
      rcases h3 with ⟨z, _⟩ | ⟨_, df, rfl, h3⟩
      · exact absurd z e0
      have fin : ∀ i, m.k = i → (i = 1 ∨ i = 2) → (tMake (cl i) (spSI C (cl i)) [] E0 (tCons (tMake C (spInit C) [] E0 (tCons (tVar 2) tNil)) (tCons (tMake C (spInit C) [] E0 (tCons (tVar 3) tNil)) tNil))) [some (.ref T), some (.str (wayD m.k)), some (.ref dr), some (.ref df)] H Q := by
        intro i ei hi
        refine ⟨_, rfl, rd_szn h2 hN.r fun H1 r S1 nr z1 => ⟨rfl, ?_⟩⟩
        refine ⟨_, rfl, rd_szn (S1 _ _ h3) hN.f fun H2 u S2 nu z2 => ⟨rfl, ?_⟩⟩
        have z1' := z1.same S2
        obtain ⟨dq, D1, y1, _⟩ := id z1'
        obtain ⟨du, D2, y2, _⟩ := id z2
        intro x dx nx ndx nex
        have Sx : Same H2 (upd (upd H2 dx (.own x)) x (.ins (cl i) dx [])) := fun b o e => by
          rw [upd_ne (ne_of_none e nx), upd_ne (ne_of_none e ndx)]
          exact e
        refine ⟨x, r, u, dx, dq, du, _, _, rfl, upd_same, Sx _ _ y1, Sx _ _ y2, rfl, ?_⟩
        have Sy : Same H2 (upd (upd (upd H2 dx (.own x)) x (.ins (cl i) dx [])) x (.ins (cl i) dx (fld2 (.ref r) (.ref u)))) := fun b o e => by
          rw [upd_ne (ne_of_none e nx)]
          exact Sx _ _ e
        refine k _ x (S1.trans (S2.trans Sy)) (none_pre S1 (none_pre S2 nx)) (.inr ⟨by rw [ei]; exact hi, dx, r, u, ?_, z1'.same Sy, z2.same Sy⟩)
        rw [ei]
        exact upd_same
      refine ⟨_, rfl, rfl, _, rfl, ?_⟩
      by_cases e1 : m.k = 1
      · exact iteT' (decide_eq_true (congrArg V.str ((way_eq h4).2.1.mpr e1))) (fin 1 e1 (.inl rfl))
      · exact iteN' (fun z => e1 ((way_eq h4).2.1.mp (V.str.inj z))) (fin 2 (by omega) (.inr rfl))
end
end K54
set_option maxHeartbeats 8000000
namespace K54
open PySem PySem.Spec PyProof.Rows L2

/-! ### digits: == and != as operators -/
def rDg (C : Addr) (cl : Nat → Addr) (g : Bool → Bool) : R2 := fun x y H Q => ∃ b, DDg C cl x y H b ∧ ∀ H', Same H H' → Q (.bl (g b)) H'
section
variable {X : Cx} {C DD : Addr} {cl : Nat → Addr}
theorem run_dow {n : Nat} {A : Around} {pins : List (Addr × Obj)} {σ : L2.St} {s : Shared} {H : Hp} {a f c : Addr} {fd : FuncData} {ps : List Str} {sp : Sp} {b : Bool} {E : Value → Shared → Prop} (hr : Room n A) (fr : A.frames = X.A.frames) (I : Inv X pins σ H s)
    (F : FnOk X.prog X.w X.K X.mg X.base CX0 n f fd ps sp) (hb : Binds X.K fd ps []) (hsp : sp [.ref a, .ref c] H (fun v H' => v = .bl b ∧ Same H H') E0) :
    wpAny (model X.prog X.w) A (call (.ref f) [.ref a, .ref c]) (fun r s' => r = .bool b ∧ ∃ H', Inv X pins σ H' s' ∧ Same H H') E s := by
  have e0 : Env0 X.prog X.w X.K X.mg X.base A X.stack s H := by
    have e := I.env0
    exact ⟨by rw [fr]; exact e.frames, e.mod, e.bs, e.bsz, e.funs, e.frf, e.hok, e.bare⟩
  have hl := F.len _ _ _ _ hsp
  have r2 : Vals [V.ref a, V.ref c] [Value.ref a, Value.ref c] := .cons rfl (.cons rfl .nil)
  refine wpAny_call (codeAny_mono (F.run A X.stack s H ⟨[.ref a, .ref c], []⟩ [.ref a, .ref c] [.ref a, .ref c] _ E0 hr e0 (by
    have := hb s [.ref a, .ref c] I.kIn (by simpa using hl)
    simpa using this) r2 hsp) fun r s' hq => ?_)
  cases r with
  | error e => exact hq.elim
  | ok fl =>
    match fl, hq with
    | .ret w, hq =>
      obtain ⟨z, H', I', rz, ez, ex⟩ := I.after hq
      subst ez
      cases rz
      exact ⟨rfl, H', I', ex⟩
theorem op_dgE (a : Dall X.prog X.w X.K X.mg X.base C DD cl) (hr : Room 2 X.A) : OpR X (compareOp .Eq) (rDg C cl id) := by
  intro pins s σ H x y v u Q I rx ry ⟨b, ⟨p, p', m, m', e1, e2, h, h', e⟩, k⟩
  subst e1 e2 e
  obtain ⟨q, dx, c, D, f, fs, t, fd, ps, sp, z1, z2, ha, ho, hs, hf, hb, F, hsp, _⟩ := down a h h'
  injection z1 with z1
  injection z2 with z2
  subst z1 z2
  cases rx
  cases ry
  obtain ⟨mA, J, _⟩ := ins_get I.hok ha
  obtain ⟨od, J, _⟩ := J.look
  obtain ⟨m0, hF⟩ := I.fr
  refine PySem.W.cmp_K (op := .Eq) (tb := t) hr.units0 hF I.ok.mod.kin J (ho.looks I rfl) ho.first hs hf ?_
  refine wpAny_mono (run_dow hr rfl I F hb hsp) (fun r s' z => ?_) fun _ _ e => e
  obtain ⟨rfl, H', I', S'⟩ := z
  exact ⟨.bl _, H', I', rfl, k H' S'⟩
theorem op_dgN (a : Dall X.prog X.w X.K X.mg X.base C DD cl) (hr : Room 3 X.A) : OpR X (compareOp .NotEq) (rDg C cl not) := by
  intro pins s σ H x y v u Q I rx ry ⟨b, ⟨p, p', m, m', e1, e2, h, h', e⟩, k⟩
  subst e1 e2 e
  obtain ⟨q, dx, c, D, f, fs, t, fd, ps, sp, z1, z2, ha, ho, hs, hf, hb, F, hsp, _⟩ := down a h h'
  injection z1 with z1
  injection z2 with z2
  subst z1 z2
  cases rx
  cases ry
  obtain ⟨dy, q0, o0, y1, _⟩ := id h.obj
  have eD : D = cl m.k := by
    rw [ha] at y1
    injection y1 with y1
    injection y1
  subst eD
  obtain ⟨mA, J, _⟩ := ins_get I.hok ha
  obtain ⟨od, J, _⟩ := J.look
  show wpAny (model X.prog X.w) X.A (richCompare .NotEq (.ref p) (.ref p')) (EP X pins σ Q) X.xe s
  refine ne_K (by have := hr.units; omega) I.kIn J (ho.looks I rfl) ho.first (a.dq m.k h.lt).co (a.ne m.k h.lt) hs hf ?_
  refine wpAny_mono (run_dow hr.in1 rfl I F hb hsp) (fun r s' z => ?_) fun _ _ e => e
  obtain ⟨rfl, H', I', S'⟩ := z
  exact ⟨_, rfl, .bl _, H', I', rfl, k H' S'⟩
end
end K54
set_option maxHeartbeats 8000000
namespace K54
open PySem PySem.Spec PyProof.Rows L2

/-! ### _law_is_digit -/
abbrev sIsd : Stmt := top 73
def NIsd : List Str := ["_law_digit_here", "_law_model", "_law_kind", "_law_radix", "_law_factor"]
def spIsd (C : Addr) (cl : Nat → Addr) : Sp := fun vs H Q _ => ∃ (p T : Addr) (m : M3), vs = [.ref p, .ref T] ∧ DgAt C cl H p m ∧ MAt H T m ∧ NiceM m ∧ ∀ H', Same H H' → Q (.bl true) H'
section
variable {P : Program} {w : World} {K : PySem.W.Frag} {mg : Str → Option Value} {base : Heap} {C DD : Addr} {cl : Nat → Addr}
/-- Unused(..), the size just made -/
theorem rd_un1 {H : Hp} {r : Addr} {es : Es} {Qx : Addr → VK} (z : SizeAt C H r es) (k : ∀ H' x, Same H H' → H x = none → DgAt C cl H' x ⟨0, es, []⟩ → Qx x .non H') :
    ∀ x dx, H x = none → H dx = none → dx ≠ x → spUI C (cl 0) (.ref x :: ([.ref r] ++ [])) (upd (upd H dx (.own x)) x (.ins (cl 0) dx [])) (Qx x) E0 := by
  intro x dx nx ndx nex
  obtain ⟨dq, D1, y1, _⟩ := id z
  have Sx : Same H (upd (upd H dx (.own x)) x (.ins (cl 0) dx [])) := fun b o e => by
    rw [upd_ne (ne_of_none e nx), upd_ne (ne_of_none e ndx)]
    exact e
  refine ⟨x, r, dx, dq, _, rfl, upd_same, Sx _ _ y1, ?_⟩
  have Sy : Same H (upd (upd (upd H dx (.own x)) x (.ins (cl 0) dx [])) x (.ins (cl 0) dx (fld2 (.ref r) .non))) := fun b o e => by
    rw [upd_ne (ne_of_none e nx)]
    exact Sx _ _ e
  exact k _ x Sy nx (.inl ⟨rfl, rfl, dx, r, upd_same, z.same Sy⟩)
theorem rd_st1 {H : Hp} {r u : Addr} {es fs : Es} {Qx : Addr → VK} (z : SizeAt C H r es) (z2 : SizeAt C H u fs) (k : ∀ H' x, Same H H' → H x = none → DgAt C cl H' x ⟨1, es, fs⟩ → Qx x .non H') :
    ∀ x dx, H x = none → H dx = none → dx ≠ x → spSI C (cl 1) (.ref x :: ([.ref r, .ref u] ++ [])) (upd (upd H dx (.own x)) x (.ins (cl 1) dx [])) (Qx x) E0 := by
  intro x dx nx ndx nex
  obtain ⟨dq, D1, y1, _⟩ := id z
  obtain ⟨du, D2, y2, _⟩ := id z2
  have Sx : Same H (upd (upd H dx (.own x)) x (.ins (cl 1) dx [])) := fun b o e => by
    rw [upd_ne (ne_of_none e nx), upd_ne (ne_of_none e ndx)]
    exact e
  refine ⟨x, r, u, dx, dq, du, _, _, rfl, upd_same, Sx _ _ y1, Sx _ _ y2, ?_⟩
  have Sy : Same H (upd (upd (upd H dx (.own x)) x (.ins (cl 1) dx [])) x (.ins (cl 1) dx (fld2 (.ref r) (.ref u)))) := fun b o e => by
    rw [upd_ne (ne_of_none e nx)]
    exact Sx _ _ e
  exact k _ x Sy nx (.inr ⟨.inl rfl, dx, r, u, upd_same, z.same Sy, z2.same Sy⟩)
theorem scIsd : FnScope NIsd ["_law_digit_here", "_law_model"] (defScope sIsd) := ⟨rfl, rfl, rfl, by decide +kernel, rfl, by decide +kernel, by decide +kernel⟩
theorem ok_isd {f fT fM : Addr} {fd fdT fdM : FuncData} (F : Fun K "_law_is_digit" "_law_is_digit" sIsd f fd) (a : Dall P w K mg base C DD cl) (z : MkS P w K mg base C) (rN : mg "repr" = none)
    (me : PySem.W.mroIn K C (.type "object") = some true) (ne : PySem.W.findIn K (.ref C) "__ne__" = some (some (.builtin "object.__ne__")))
    (GT : FnOk P w K mg base CX0 2 fT fdT ["_law_model"] spDtx) (kT : PySem.W.keepIn K (.ref fT) = true) (bT : Binds K fdT ["_law_model"] []) (gT : mg "_law_digit_text" = some (.ref fT))
    (GM : FnOk P w K mg base CX0 5 fM fdM ["_law_model"] (spMdd C cl)) (kM : PySem.W.keepIn K (.ref fM) = true) (bM : Binds K fdM ["_law_model"] []) (gM : mg "_law_made" = some (.ref fM)) :
    FnOk P w K mg base CX0 8 f fd ["_law_digit_here", "_law_model"] (spIsd C cl) := by
  obtain ⟨gC, fi, fdi, M, gi, bi, bi0⟩ := z
  obtain ⟨f0, fd0, M0, G0, b0⟩ := a.new0
  obtain ⟨f1, fd1, M1, G1, b1⟩ := a.new 1 (.inl rfl)
  obtain ⟨fE, fdE, GE, hs, hf, hb⟩ := a.sz.eq
  have g0 := (a.dq 0 (by decide)).gD
  have g1 := (a.dq 1 (by decide)).gD
  have GT7 := GT.mono (k := 7) (by decide)
  have GM7 := GM.mono (k := 7) (by decide)
  refine F.ok scIsd (fun vs H Q E h => ?_) (fun cdv A outer s H vs Q E hr h => ?_)
  · obtain ⟨p, T, m, rfl, _⟩ := h
    rfl
  · obtain ⟨p, T, m, rfl, hd, ⟨dr, vf, h1, h2, h3, h4⟩, hN, k⟩ := h
    have hr4 : Room 4 (A.deeper (envOfC "_law_is_digit" (defScope sIsd) s.heap.objs.size f cdv)) := hr.mono (by decide)
    have hr3 : Room 3 (A.deeper (envOfC "_law_is_digit" (defScope sIsd) s.heap.objs.size f cdv)) := hr.mono (by decide)
    have hr2 : Room 2 (A.deeper (envOfC "_law_is_digit" (defScope sIsd) s.heap.objs.size f cdv)) := hr.mono (by decide)
    have hr1 : Room 1 (A.deeper (envOfC "_law_is_digit" (defScope sIsd) s.heap.objs.size f cdv)) := hr.mono (by decide)
    refine ⟨_, pss_cons (ps_asg (pv 1) (pg_tup rfl (pgs_cons (pg_name (i := 2) scIsd.nd rfl (Or.inl rfl)) (pgs_cons (pg_name (i := 3) scIsd.nd rfl (Or.inl rfl)) (pgs_cons (pg_name (i := 4) scIsd.nd rfl (Or.inl rfl)) pgs_nil)))))
      (pss_cons (ps_if (PW.pt (pw_or (pt_cmpR op_ne (pe_con (pv 0) rfl) (pv 2) (nomark _))
          (pw_or (pt_cmpR (op_ownNe GE hr2 hs hf me ne hb pass0 spEq_mono) (pe_propA (k := 1) (pv 0) hr2 rfl) (pe_make M gi hr4 (by rfl) gC bi .nil pass0 (pa_cons (pv 3) pa_nil)) (nomark _))
          (pw_or1 (pt_cmpR op_ne (pe_callB (call_reprX (ro_dg (DD := DD) (cl := cl) a) hr) (by rfl) rN (by decide +kernel) (pa_cons (pv 0) pa_nil)) (pe_call (E := E0) GT7 hr (by rfl) gT kT bT .nil pass0 (pa_cons (pv 1) pa_nil)) (nomark _))))))
        (pss_one ps_no) pss_nil)
      (pss_cons (ps_if (pt_cmpR op_eq (pv 2) pe_str (nomark _)) (pss_one (ps_ret (pe_and (pe_cmp (pc_isN (pe_propA (k := 1) (pv 0) hr2 rfl)))
          (pe_and (pe_cmpR (op_dgE (DD := DD) (cl := cl) a hr2) (pv 0) (pe_make M0 G0 hr3 (by rfl) g0 b0 .nil pass0 (pa_cons (pe_make M gi hr4 (by rfl) gC bi .nil pass0 (pa_cons (pv 3) pa_nil)) pa_nil)) (nomark _))
          (pe_one (pe_cmpR (op_dgN (DD := DD) (cl := cl) a hr3) (pv 0) (pe_make M1 G1 hr3 (by rfl) g1 b1 .nil pass0 (pa_cons (pe_make M gi hr4 (by rfl) gC bi .nil pass0 (pa_cons (pv 3) pa_nil)) (pa_cons (pe_make0 M gi hr4 (by rfl) gC bi0 (.cons (show RelV .non .none from rfl) .nil) pass0) pa_nil))) (nomark _))))))) pss_nil)
      (pss_one (ps_ret (pe_and (pe_cmpR (op_own GE hr1 hs hf hb pass0 spEq_mono) (pe_propA (k := 1) (pv 0) hr2 rfl) (pe_make M gi hr4 (by rfl) gC bi .nil pass0 (pa_cons (pv 4) pa_nil)) (nomark _))
          (pe_and (pe_cmpR (op_dgE (DD := DD) (cl := cl) a hr2) (pv 0) (pe_call (E := E0) GM7 hr (by rfl) gM kM bM .nil pass0 (pa_cons (pv 1) pa_nil)) (nomark _))
          (pe_one (pe_cmpR (op_dgN (DD := DD) (cl := cl) a hr3) (pv 0) (pe_make M0 G0 hr3 (by rfl) g0 b0 .nil pass0 (pa_cons (pe_make M gi hr4 (by rfl) gC bi .nil pass0 (pa_cons (pv 3) pa_nil)) pa_nil)) (nomark _))))))))), ?_⟩
    obtain ⟨q, o, hO⟩ := hd.dgo
    obtain ⟨dx, y1⟩ := hO.ob
    obtain ⟨u, hc⟩ := a.way m.k h4
    refine ⟨_, rfl, T, _, rfl, SqT.of h1, rfl, _, _, rfl, _, _, rfl, _, _, rfl, rfl, ?_⟩
    refine ⟨_, rfl, p, _, dx, _, _, u, rfl, y1, (a.dq m.k h4).cl, hc, rfl, _, rfl, rfl, _, rfl, ?_⟩
    rw [show (!decide (V.str (wayD m.k) = V.str (wayD m.k))) = false by simp]
    refine iteF ?_
    refine rd_radO a rfl hO ?_
    refine ⟨_, rfl, rd_szn h2 hN.r fun H1 r1 S1 n1 z1 => ⟨rfl, ?_⟩⟩
    have hO1 := hO.same S1
    have hd1 := hd.same S1
    obtain ⟨dq, Dq1, w1, _⟩ := id hO1.rz
    obtain ⟨dr1, Dr1, v1, _⟩ := id z1
    refine ⟨q, dq, _, _, rfl, w1, .ins v1, q, m.r, _, rfl, hO1.rz, .inl ⟨r1, m.r, rfl, z1, _, rfl, _, rfl, ?_⟩⟩
    rw [show (!decide (m.r = m.r)) = false by simp]
    refine iteF ?_
    refine ⟨_, rfl, p, dT m, rfl, ⟨m, hd1, ⟨hN.r.big, hN.f.big⟩, rfl⟩, fun H2 S2 => ?_⟩
    have hT0 : MAt H T m := ⟨dr, vf, h1, h2, h3, h4⟩
    have S02 := S1.trans S2
    refine ⟨_, rfl, T, m, rfl, hT0.same S02, hN, fun H3 S3 => ⟨rfl, _, rfl, ?_⟩⟩
    rw [show (!decide (V.str (dT m) = V.str (dT m))) = false by simp]
    refine iteF (next_ ?_)
    have S03 := S02.trans S3
    have h2' := S03 _ _ h2
    have hd3 := hd.same S03
    have hO3 := hO.same S03
    refine ⟨_, rfl, rfl, _, rfl, ?_⟩
    by_cases e0 : m.k = 0
    · refine iteT' (decide_eq_true (congrArg V.str ((way_eq h4).1.mpr e0))) ?_
      have ef : m.f = [] := by
        rcases h3 with ⟨_, _, c⟩ | ⟨c, _⟩
        · exact c
        · exact absurd e0 c
      have eo : o = .non := by
        rcases hO.fz with ⟨_, c⟩ | ⟨c, _⟩
        · exact c
        · exact absurd e0 c
      have em : m = ⟨0, m.r, []⟩ := by
        obtain ⟨mk, mr, mf⟩ := m
        dsimp only at e0 ef
        rw [e0, ef]
      refine rd_facO a rfl hO3 ⟨_, rfl, ?_⟩
      rw [eo]
      refine iteT' (by simp) ?_
      refine ⟨_, rfl, _, rfl, rd_szn h2' hN.r fun H4 r4 S4 n4 z4 => ⟨rfl, ?_⟩⟩
      refine rd_un1 z4 fun H5 x5 S5 n5 d5 => ⟨rfl, ?_⟩
      have S05 := S03.trans (S4.trans S5)
      refine ⟨true, ⟨p, x5, m, _, rfl, rfl, hd.same S05, d5, (decide_eq_true em).symm⟩, fun H6 S6 => ⟨_, rfl, iteT' rfl ?_⟩⟩
      have S06 := S05.trans S6
      refine ⟨_, rfl, _, rfl, rd_szn (S06 _ _ h2) hN.r fun H7 r7 S7 n7 z7 => ⟨rfl, ?_⟩⟩
      refine rd_mk0 fun H8 q8 S8 z8 _ => ⟨rfl, ?_⟩
      refine rd_st1 (z7.same S8) z8 fun H9 x9 S9 n9 d9 => ⟨rfl, ?_⟩
      have S09 := S06.trans (S7.trans (S8.trans S9))
      have em2 : decide (m = ⟨1, m.r, []⟩) = false := m3_ne (by rw [e0]; exact Nat.zero_ne_one)
      refine ⟨false, ⟨p, x9, m, _, rfl, rfl, hd.same S09, d9, em2.symm⟩, fun HA SA => ?_⟩
      exact k HA (S09.trans SA)
    · refine iteN' (fun z => e0 ((way_eq h4).1.mp (V.str.inj z))) (next_ ?_)
      rcases h3 with ⟨z, _⟩ | ⟨_, df, rfl, h3⟩
      · exact absurd z e0
      rcases hO.fz with ⟨c, _⟩ | ⟨_, q2, rfl, zf⟩
      · exact absurd c e0
      refine rd_facO a rfl hO3 ?_
      refine ⟨_, rfl, rd_szn (S03 _ _ h3) hN.f fun H4 r4 S4 n4 z4 => ⟨rfl, ?_⟩⟩
      have zf4 := zf.same (S03.trans S4)
      obtain ⟨dq4, Dq4, w4, _⟩ := id zf4
      obtain ⟨dr4, Dr4, v4, _⟩ := id z4
      refine ⟨q2, dq4, _, _, rfl, w4, .ins v4, q2, m.f, _, rfl, zf4, .inl ⟨r4, m.f, rfl, z4, _, rfl, _, rfl, ?_⟩⟩
      refine iteT' (by simp) ?_
      have S04 := S03.trans S4
      refine ⟨_, rfl, _, rfl, T, m, rfl, hT0.same S04, hN, fun H5 x5 S5 n5 d5 => ?_⟩
      have S05 := S04.trans S5
      refine ⟨true, ⟨p, x5, m, _, rfl, rfl, hd.same S05, d5, (decide_eq_true rfl).symm⟩, fun H6 S6 => ⟨_, rfl, iteT' rfl ?_⟩⟩
      have S06 := S05.trans S6
      refine ⟨_, rfl, _, rfl, rd_szn (S06 _ _ h2) hN.r fun H7 r7 S7 n7 z7 => ⟨rfl, ?_⟩⟩
      refine rd_un1 z7 fun H9 x9 S9 n9 d9 => ⟨rfl, ?_⟩
      have S09 := S06.trans (S7.trans S9)
      have em2 : decide (m = ⟨0, m.r, []⟩) = false := m3_ne e0
      refine ⟨false, ⟨p, x9, m, _, rfl, rfl, hd.same S09, d9, em2.symm⟩, fun HA SA => ?_⟩
      exact k HA (S09.trans SA)
end
end K54
set_option maxHeartbeats 8000000
namespace K54
open PySem PySem.Spec PyProof.Rows L2

/-! ### _law_place -/
structure NuOk (H : Hp) (d : Addr) (nu : Es) : Prop where
  nd : NumD H d nu
  ln : 3 < nu.length
  lt : ∀ p ∈ nu, p.2 < 16
theorem NuOk.same {H H' : Hp} {d : Addr} {nu : Es} (h : NuOk H d nu) (S : Same H H') : NuOk H' d nu := ⟨h.nd.same S, h.ln, h.lt⟩
structure InE (nu es : Es) : Prop where
  inn : ∀ q ∈ es, q.1 ∈ nu.map (·.1)
  dv : dnV es (nOf nu) ∣ upV es (nOf nu)
structure InM (nu : Es) (m : M3) : Prop where
  r : InE nu m.r
  f : InE nu m.f
theorem nof_lt {H : Hp} {d : Addr} {nu : Es} (h : NuOk H d nu) {n : Str} (hn : n ∈ nu.map (·.1)) : nOf nu n < 16 ∧ 0 < nOf nu n := by
  obtain ⟨p, hp, rfl⟩ := List.mem_map.mp hn
  obtain ⟨e, e0, _⟩ := h.nd.look hn
  have e2 := lookG h.nd.nd hp
  rw [e] at e2
  have z := Option.some.inj e2
  have := h.lt p hp
  exact ⟨by omega, e0⟩
theorem bnd_le : ∀ {es : Es}, (∀ q ∈ es, -2 ≤ q.2 ∧ q.2 ≤ 2) → bnd es (fun _ => 4) ≤ 8 * es.length
  | [], _ => Nat.le_refl _
  | p :: r, h => by
    have ih := bnd_le (es := r) fun q hq => h q (List.mem_cons_of_mem _ hq)
    have z := h p (List.mem_cons_self ..)
    show p.2.natAbs * 4 + bnd r (fun _ => 4) ≤ 8 * (r.length + 1)
    omega
theorem at_ok {H : Hp} {d : Addr} {nu es : Es} (h : NuOk H d nu) (hN : Nice es) (hI : InE nu es) : AtSz nu es := by
  have hl := hN.ln
  have hb := bnd_le hN.bd
  exact ⟨hI.inn, ⟨fun _ => 4, by omega, fun q hq => (nof_lt h (hI.inn q hq)).1⟩, hI.dv, by omega⟩
theorem val_ok {H : Hp} {d : Addr} {nu es : Es} (h : NuOk H d nu) (hN : Nice es) (hI : InE nu es) : 0 < valS nu es ∧ valS nu es < 1073741824 := by
  have hl := hN.ln
  have hb := bnd_le hN.bd
  have up0 : 0 < upV es (nOf nu) := upV_pos fun q hq => (nof_lt h (hI.inn q hq)).2
  have dn0 : 0 < dnV es (nOf nu) := dnV_pos fun q hq => (nof_lt h (hI.inn q hq)).2
  have ul : upV es (nOf nu) ≤ 2 ^ bnd es (fun _ => 4) := upV_lt fun q hq => (nof_lt h (hI.inn q hq)).1
  have ul2 : (2 : Nat) ^ bnd es (fun _ => 4) ≤ 2 ^ 24 := Nat.pow_le_pow_right (by decide) (by omega)
  unfold valS
  have h24 : (2 : Nat) ^ 24 < 1073741824 := by decide
  refine ⟨Nat.div_pos (Nat.le_of_dvd up0 hI.dv) dn0, ?_⟩
  have := Nat.div_le_self (upV es (nOf nu)) (dnV es (nOf nu))
  omega
theorem pl_ok {H : Hp} {d : Addr} {nu : Es} {m : M3} (h : NuOk H d nu) (hN : NiceM m) (hI : InM nu m) : PlM nu m :=
  ⟨at_ok h hN.r hI.r, at_ok h hN.f hI.f, (val_ok h hN.r hI.r).1, (val_ok h hN.r hI.r).2, (val_ok h hN.f hI.f).2⟩
abbrev sLpl : Stmt := top 75
def NLpl : List Str := ["_law_models", "_law_index", "_law_numbers_here", "_law_found", "_law_left", "_law_kind", "_law_radix", "_law_factor", "_law_many", "_law_value_here"]
def spLpl : Sp := fun vs H Q _ => ∃ (L d : Addr) (x : Int) (ts : List Addr) (ms : List M3) (nu : Es), vs = [.ref L, .int x, .ref d] ∧ H L = some (.lst (ts.map V.ref)) ∧ Paired (MAt H) ts ms ∧ NuOk H d nu ∧ ms.length ≤ 8 ∧ (∀ m ∈ ms, NiceM m ∧ InM nu m) ∧ 0 ≤ x ∧
  ∀ H', Same H H' → Q (.int (plcM nu ms x)) H'
section
variable {P : Program} {w : World} {K : PySem.W.Frag} {mg : Str → Option Value} {base : Heap}
/-- _law_value(e, numbers), as it is called -/
theorem rd_val {H : Hp} {dr d : Addr} {es nu : Es} {Q : VK} (hd : NuOk H d nu) (hr : H dr = some (.dK (kv es))) (hN : Nice es) (hI : InE nu es) (k : ∀ H', Same H H' → Q (.int (valS nu es : Nat)) H') : spVal [.ref dr, .ref d] H Q E0 := by
  have hl := hN.ln
  have hb := bnd_le hN.bd
  refine ⟨dr, d, es, nu, fun _ => 4, rfl, hr, hd.nd, fun e => ?_, hI.inn, fun q hq => by have := hN.bd q hq; omega, by omega, fun q hq => (nof_lt hd (hI.inn q hq)).1, by omega, k⟩
  have z := hd.nd.at_
  rw [e, hr] at z
  injection z with z
  injection z with z
  have z2 := kv_one z
  have := hd.ln
  rw [← z2] at this
  omega
theorem scLpl : FnScope NLpl ["_law_models", "_law_index", "_law_numbers_here"] (defScope sLpl) := ⟨rfl, rfl, rfl, by decide +kernel, rfl, by decide +kernel, by decide +kernel⟩
theorem ok_lpl {f fV : Addr} {fd fdV : FuncData} (F : Fun K "_law_place" "_law_place" sLpl f fd) (iN : mg "int" = none)
    (GV : FnOk P w K mg base CX0 1 fV fdV ["_law_size_here", "_law_numbers_here"] spVal) (kV : PySem.W.keepIn K (.ref fV) = true) (bV : Binds K fdV ["_law_size_here", "_law_numbers_here"] []) (gV : mg "_law_value" = some (.ref fV)) :
    FnOk P w K mg base CX0 2 f fd ["_law_models", "_law_index", "_law_numbers_here"] spLpl := by
  refine F.ok scLpl (fun vs H Q E h => ?_) (fun cdv A outer s H vs Q E hr h => ?_)
  · obtain ⟨L, d, x, ts, ms, nu, rfl, _⟩ := h
    rfl
  · obtain ⟨L, d, x, ts, ms, nu, rfl, hL, hz, hD, hl, hA, x0, k⟩ := h
    refine ⟨_, pss_cons (ps_par (i := 3) (j := 4) (by rfl) scLpl.nd rfl rfl (by decide) rfl rfl (pa_cons pe_int (pa_cons (pv 1) pa_nil)) (by rfl))
      (pss_cons (ps_for PassesOwn.never rfl (pi_list (pv 0)) (pg_tup rfl (pgs_cons (pg_name (i := 5) scLpl.nd rfl (Or.inl rfl)) (pgs_cons (pg_name (i := 6) scLpl.nd rfl (Or.inl rfl)) (pgs_cons (pg_name (i := 7) scLpl.nd rfl (Or.inl rfl)) pgs_nil))))
        (pss_cons (ps_set (i := 8) scLpl.nd rfl (.inl rfl) (pe_call (E := E0) GV hr (by rfl) gV kV bV .nil pass0 (pa_cons (pv 6) (pa_cons (pv 2) pa_nil))))
        (pss_cons (ps_set (i := 9) scLpl.nd rfl (.inl rfl) (pe_op op_mod (pe_callTy call_int1 (by rfl) iN (by decide +kernel) (pa_cons (pv 4) pa_nil)) (pv 8)))
        (pss_cons (ps_set (i := 4) scLpl.nd rfl (.inl rfl) (pe_op op_fdiv (pv 4) (pv 8)))
        (pss_cons (ps_if (pt_cmpR op_eq (pv 5) pe_str (nomark _)) (pss_one (ps_set (i := 3) scLpl.nd rfl (.inl rfl) (pe_op op_add (pv 3) (pe_op op_mul (pv 9) (pe_call (E := E0) GV hr (by rfl) gV kV bV .nil pass0 (pa_cons (pv 7) (pa_cons (pv 2) pa_nil))))))) pss_nil)
        (pss_one (ps_if (pt_cmpR op_eq (pv 5) pe_str (nomark _)) (pss_one (ps_set (i := 3) scLpl.nd rfl (.inl rfl) (pe_op op_add (pv 3) (pe_op op_mul (pe_op op_sub (pe_op op_sub (pv 8) pe_int) (pv 9)) (pe_call (E := E0) GV hr (by rfl) gV kV bV .nil pass0 (pa_cons (pv 7) (pa_cons (pv 2) pa_nil))))))) pss_nil)))))))
      (pss_one (ps_ret (pv 3)))), ?_⟩
    have hlp := Paired.length hz
    refine ⟨_, rfl, _, _, rfl, ?_⟩
    refine ⟨_, rfl, L, rfl, ⟨_, SqL.of hL⟩, for_it (walk_list (K := K) (a := L) (xs := ts.map V.ref)) (fun i σ H2 => (∃ o5 o6 o7 o8 o9, σ = [some (.ref L), some (.int x), some (.ref d), some (.int (((ms.take i).map (tr3 nu)).foldl stT (0, x)).1), some (.int (((ms.take i).map (tr3 nu)).foldl stT (0, x)).2), o5, o6, o7, o8, o9]) ∧ Same H H2)
      ⟨⟨none, none, none, none, none, rfl⟩, Same.refl H⟩ (fun i σ H2 _ h => SqL.of (h.2 _ _ hL)) ?_ ?_⟩
    · rintro i y σ H9 H2 hi ⟨⟨o5, o6, o7, o8, o9, rfl⟩, S2⟩ ⟨rfl, hx⟩
      rw [List.length_map] at hi
      have ex : y = V.ref ts[i] := by
        rw [List.getElem?_map, List.getElem?_eq_getElem hi] at hx
        exact (Option.some.inj hx).symm
      subst ex
      obtain ⟨m, hm, ⟨dr, vf, h1, h2, h3, h4⟩⟩ := pairedLX hz hi
      obtain ⟨hN, hI⟩ := hA m (List.mem_of_getElem? hm)
      have pl := pl_ok hD hN hI
      have p1 := pl.rp
      have p2 := pl.rl
      have p3 := pl.fl
      generalize eS : ((ms.take i).map (tr3 nu)).foldl stT (0, x) = Z0
      have e1 : ((ms.take (i + 1)).map (tr3 nu)).foldl stT (0, x) = stT Z0 (tr3 nu m) := by rw [take_snoc hm, List.map_append, List.foldl_append, eS]; rfl
      refine ⟨_, _, rfl, SqT.of (S2 _ _ h1), rfl, _, _, rfl, _, _, rfl, _, _, rfl, rfl, ?_⟩
      have vcall : ∀ {H9 : Hp} {es : Es} {G : Addr} {σ' : L2.St} {i : Nat} {Q' : VK}, Same H H9 → σ'[i]? = some (some (.ref G)) → σ'[2]? = some (some (.ref d)) → H9 G = some (.dK (kv es)) → Nice es → InE nu es → (∀ H', Same H9 H' → Q' (.int (valS nu es : Nat)) H') →
          tCall spVal [] E0 (tCons (tVar i) (tCons (tVar 2) tNil)) σ' H9 Q' := fun {H9 es G σ' i Q'} S hi h2 hG hn hI k => ⟨_, hi, _, h2, rd_val (hD.same S) hG hn hI k⟩
      refine vcall (i := 6) S2 rfl rfl (S2 _ _ h2) hN.r hI.r fun H3 S3 => ?_
      have S03 := S2.trans S3
      refine ⟨_, rfl, .inl ⟨_, rfl, _, rfl, _, _, rfl, rfl, (by show (0 : Int) < (valS nu m.r : Nat); omega), ?_⟩⟩
      refine ⟨_, rfl, _, rfl, _, _, rfl, rfl, ⟨by omega, by omega⟩, ?_⟩
      have hS : stT Z0 (tr3 nu m) = (Z0.1 + (if m.k = 0 then 0 else ((valS nu m.f : Nat) : Int)) * (if decide (m.k = 2) = true then ((valS nu m.r : Nat) : Int) - 1 - Z0.2 % ((valS nu m.r : Nat) : Int) else Z0.2 % ((valS nu m.r : Nat) : Int)), Z0.2 / ((valS nu m.r : Nat) : Int)) := rfl
      rw [hS] at e1
      have fb : -(2 ^ 64) < ((valS nu m.f : Nat) : Int) ∧ ((valS nu m.f : Nat) : Int) < 2 ^ 64 := by omega
      have w1 := way_eq h4
      refine ⟨_, rfl, rfl, _, rfl, ?_⟩
      by_cases k1 : m.k = 1
      · refine iteT' (decide_eq_true (congrArg V.str (w1.2.1.mpr k1))) ?_
        rcases h3 with ⟨z, _⟩ | ⟨_, df, rfl, h3⟩
        · omega
        refine ⟨_, rfl, _, rfl, vcall (i := 7) S03 rfl rfl (S03 _ _ h3) hN.f hI.f fun H4 S4 => ⟨_, _, rfl, rfl, .inr fb, _, _, rfl, rfl, ?_⟩⟩
        refine ⟨_, rfl, rfl, _, rfl, iteN' (fun z => by have := w1.2.2.mp (V.str.inj z); omega) ?_⟩
        refine next_ ⟨?_, S03.trans S4⟩
        rw [e1]
        dsimp only
        rw [if_neg (show ¬ m.k = 0 by omega), if_neg (show ¬ decide (m.k = 2) = true by rw [decide_eq_true_eq]; omega), Int.mul_comm ((valS nu m.f : Nat) : Int)]
        exact ⟨_, _, _, _, _, rfl⟩
      · refine iteN' (fun z => k1 (w1.2.1.mp (V.str.inj z))) (next_ ?_)
        refine ⟨_, rfl, rfl, _, rfl, ?_⟩
        by_cases k2 : m.k = 2
        · refine iteT' (decide_eq_true (congrArg V.str (w1.2.2.mpr k2))) ?_
          rcases h3 with ⟨z, _⟩ | ⟨_, df, rfl, h3⟩
          · omega
          refine ⟨_, rfl, _, rfl, _, _, rfl, rfl, _, rfl, _, _, rfl, rfl, vcall (i := 7) S03 rfl rfl (S03 _ _ h3) hN.f hI.f fun H4 S4 => ⟨_, _, rfl, rfl, .inr fb, _, _, rfl, rfl, ?_⟩⟩
          refine ⟨?_, S03.trans S4⟩
          rw [e1]
          dsimp only
          rw [if_neg (show ¬ m.k = 0 by omega), if_pos (show decide (m.k = 2) = true by rw [decide_eq_true_eq]; omega), Int.mul_comm ((valS nu m.f : Nat) : Int)]
          exact ⟨_, _, _, _, _, rfl⟩
        · refine iteN' (fun z => k2 (w1.2.2.mp (V.str.inj z))) (next_ ?_)
          refine ⟨?_, S03⟩
          rw [e1]
          dsimp only
          rw [if_pos (show m.k = 0 by omega), Int.zero_mul, Int.add_zero]
          exact ⟨_, _, _, _, _, rfl⟩
    · rintro σ H2 ⟨⟨o5, o6, o7, o8, o9, rfl⟩, S2⟩
      rw [List.length_map, List.take_of_length_le (by omega)]
      exact ⟨_, rfl, k H2 S2⟩
end
end K54
set_option maxHeartbeats 8000000
namespace K54
open PySem PySem.Spec PyProof.Rows L2

/-! ### _law_cuts -/
abbrev sLcu : Stmt := top 76
def NLcu : List Str := ["_law_models", "_law_found", "_law_kind", "_law_radix", "_law_factor"]
/-- the dicts at ds are the exponents of the cuts -/
def CutsD (ns : List Str) (ms : List M3) (H : Hp) (ds : List Addr) : Prop := ∀ (j : Nat) (d : Addr), ds[j]? = some d → ∃ es, H d = some (.dK (kv es)) ∧ Md ns (2 * (j : Int)) (cutF ms j) es
def spLcu : Sp := fun vs H Q _ => ∃ (L : Addr) (ts : List Addr) (ms : List M3) (ns : List Str), vs = [.ref L] ∧ H L = some (.lst (ts.map V.ref)) ∧ Paired (MAt H) ts ms ∧ Pool ns ∧ (∀ m ∈ ms, MdD ns m) ∧ ms.length ≤ 8 ∧
  ∀ H' l ds, Same H H' → H l = none → H' l = some (.lst (ds.map V.ref)) → ds.length = ms.length + 1 → CutsD ns ms H' ds → Q (.ref l) H'
section
variable {P : Program} {w : World} {K : PySem.W.Frag} {mg : Str → Option Value} {base : Heap}
theorem scLcu : FnScope NLcu ["_law_models"] (defScope sLcu) := ⟨rfl, rfl, rfl, by decide +kernel, rfl, by decide +kernel, by decide +kernel⟩
theorem ok_lcu {f fT : Addr} {fd fdT : FuncData} (F : Fun K "_law_cuts" "_law_cuts" sLcu f fd)
    (GT : FnOk P w K mg base CX0 1 fT fdT ["_law_one", "_law_other"] spTimesL) (kT : PySem.W.keepIn K (.ref fT) = true) (bT : Binds K fdT ["_law_one", "_law_other"] []) (gT : mg "_law_times" = some (.ref fT)) :
    FnOk P w K mg base CX0 2 f fd ["_law_models"] spLcu := by
  refine F.ok scLcu (fun vs H Q E h => ?_) (fun cdv A outer s H vs Q E hr h => ?_)
  · obtain ⟨L, ts, ms, ns, rfl, _⟩ := h
    rfl
  · obtain ⟨L, ts, ms, ns, rfl, hL, hz, hP, hM, hl, k⟩ := h
    refine ⟨_, pss_cons (ps_set (i := 1) scLcu.nd rfl (.inl rfl) (pe_lst (pa_cons pe_dnewK pa_nil)))
      (pss_cons (ps_for PassesOwn.never rfl (pi_list (pv 0)) (pg_tup rfl (pgs_cons (pg_name (i := 2) scLcu.nd rfl (Or.inl rfl)) (pgs_cons (pg_name (i := 3) scLcu.nd rfl (Or.inl rfl)) (pgs_cons (pg_name (i := 4) scLcu.nd rfl (Or.inl rfl)) pgs_nil))))
        (pss_one (ps_expr (pe_bm PySem.F.plainAttrs_list PySem.F.slot_list_append PySem.F.type_list_append mt_append (pv 1) (pa_cons
          (pe_call (E := E0) GT hr (by rfl) gT kT bT .nil pass0 (pa_cons (pe_ix ix_list (pv 1) (pe_un un_neg pe_int) (fun _ _ => rfl)) (pa_cons (pv 3) pa_nil))) pa_nil)))))
      (pss_one (ps_ret (pv 1)))), ?_⟩
    have hlen := Paired.length hz
    refine fun q0 nq => ⟨by rw [sizeLine_eq]; show 1 ≤ 16777216; decide, fun l nl => ?_⟩
    have S1 := fresh_upd (o := .dK []) nq
    have S2 := fresh_upd (o := .lst [V.ref q0]) nl
    have S02 := S1.trans S2
    have n0 := none_pre S1 nl
    have hq0 : upd (upd H q0 (.dK [])) l (.lst [V.ref q0]) q0 = some (.dK []) := S2 _ _ upd_same
    refine ⟨_, rfl, L, rfl, ⟨_, SqL.of (S02 _ _ hL)⟩, for_it (walk_list (K := K) (a := L) (xs := ts.map V.ref)) (fun i σ H2 => (∃ o2 o3 o4, σ = [some (.ref L), some (.ref l), o2, o3, o4]) ∧ Same H H2 ∧ ∃ ds : List Addr, H2 l = some (.lst (ds.map V.ref)) ∧ ds.length = i + 1 ∧ CutsD ns ms H2 ds)
      ⟨⟨none, none, none, rfl⟩, S02, [q0], upd_same, rfl, fun j q e => ?_⟩ (fun i σ H2 _ h => SqL.of (h.2.1 _ _ hL)) ?_ ?_⟩
    · match j, e with
      | 0, e =>
        cases e
        exact ⟨[], hq0, (Md.nil ns).congr (fun n => (cutF_zero ms n).symm) (by decide)⟩
    · rintro i x σ H9 H2 hi ⟨⟨o2, o3, o4, rfl⟩, S3, ds, hq, hql, hc⟩ ⟨rfl, hx⟩
      rw [List.length_map] at hi
      have ex : x = V.ref ts[i] := by
        rw [List.getElem?_map, List.getElem?_eq_getElem hi] at hx
        exact (Option.some.inj hx).symm
      subst ex
      obtain ⟨m, hm, ⟨dr, vf, h1, h2, h3, h4⟩⟩ := pairedLX hz hi
      obtain ⟨r0, qz, eqs⟩ : ∃ r0 qz, ds = r0 ++ [qz] := ⟨ds.dropLast, ds.getLast (by intro e; rw [e] at hql; cases hql), (List.dropLast_concat_getLast _).symm⟩
      have hqz : ds[i]? = some qz := by
        have e : r0.length = i := by
          have := congrArg List.length eqs
          rw [List.length_append] at this
          simp at this
          omega
        rw [eqs, ← e]
        simp
      obtain ⟨es, hs, hmd⟩ := hc i qz hqz
      refine ⟨_, _, rfl, SqT.of (S3 _ _ h1), rfl, _, _, rfl, _, _, rfl, _, _, rfl, rfl, ?_⟩
      refine ⟨_, rfl, .inl ⟨rfl, _, SqL.of hq⟩, ?_⟩
      have hat : atI (ds.map V.ref) (-1) = some (V.ref qz) := by
        rw [eqs, List.map_append]
        exact atI_last _ _
      have hmm := hM m (List.mem_of_getElem? hm)
      have l1 := hmd.len hP
      have l2 := hmm.r.len hP
      refine ⟨_, rfl, 1, rfl, l, _, _, _, rfl, rfl, SqL.of hq, hat, _, rfl, qz, dr, es, m.r, rfl, hs, S3 _ _ h2, hmd.sd.nodup, hmm.r.sd.nodup, by omega, fun H4 r3 rs S4 nr3 hr3 sd3 lk3 => ?_⟩
      have hq4 := S4 _ _ hq
      refine ⟨l, _, _, rfl, rfl, hq4, by rw [List.length_map, sizeLine_eq]; omega, ?_⟩
      have S5 : Same H (upd H4 l (.lst (ds.map V.ref ++ [V.ref r3]))) := fun b o e => by
        rw [upd_ne (ne_of_none e n0)]
        exact S4 _ _ (S3 _ _ e)
      have up : ∀ {q : Addr} {es : Es}, H4 q = some (.dK (kv es)) → upd H4 l (.lst (ds.map V.ref ++ [V.ref r3])) q = some (.dK (kv es)) := fun {q es} e =>
        (upd_ne (fun z => by rw [z, hq4] at e; cases e)).trans e
      refine ⟨⟨_, _, _, rfl⟩, S5, ds ++ [r3], by rw [upd_same, List.map_append]; rfl, by rw [List.length_append, hql]; rfl, fun j q e => ?_⟩
      by_cases hj : j < ds.length
      · rw [List.getElem?_append_left hj] at e
        obtain ⟨es', w1, w2⟩ := hc j q e
        exact ⟨es', up (S4 _ _ w1), w2⟩
      · rw [List.getElem?_append_right (by omega)] at e
        have ej : j = i + 1 := by
          have := (List.getElem?_eq_some_iff.mp e).1
          simp at this
          omega
        subst ej
        have er : q = r3 := by
          rw [show i + 1 - ds.length = 0 by omega] at e
          exact (Option.some.inj e).symm
        subst er
        refine ⟨rs, up hr3, sd3, fun n => ?_, fun n hn => ?_, fun n => ?_⟩
        · rw [lk3, hmd.g, cutF_succ hm]
        · rw [cutF_succ hm, hmd.sup n hn, hmm.r.sup n hn]
          rfl
        · have := hmd.bd n
          have := hmm.r.bd n
          rw [cutF_succ hm]
          omega
    · rintro σ H2 ⟨⟨o2, o3, o4, rfl⟩, S3, ds, hq, hql, hc⟩
      rw [List.length_map] at hql
      exact ⟨_, rfl, k H2 l ds S3 n0 hq (by omega) hc⟩
end
end K54
set_option maxHeartbeats 8000000
namespace K54
open PySem PySem.Spec PyProof.Rows L2

/-! ### draws below great bounds -/
def spDrawW : Sp := fun vs H Q _ => ∃ (r : Addr) (m : Int), vs = [.ref r, .int m] ∧ Rg H r ∧ 0 < m ∧ m ≤ 10 ^ 25 ∧
  ∀ (H' : Hp) (d : Int), 0 ≤ d → d < m → Rg H' r → But r H H' → Q (.int d) H'
theorem big_draw {m : Int} (h : 0 < m) (h2 : m ≤ 10 ^ 25) : m.natAbs.log2 < 9000 := by
  have h3 : m.natAbs ≤ 10 ^ 25 := by omega
  have h4 : m.natAbs < 2 ^ 100 := Nat.lt_of_le_of_lt h3 (by decide)
  have h5 : m.natAbs.log2 < 100 := (Nat.log2_lt (by omega)).mpr h4
  omega
section
variable {P : Program} {w : World} {K : PySem.W.Frag} {mg : Str → Option Value} {base : Heap}
theorem ok_drawW {f : Addr} {fd : FuncData} (F : Fun K "_law_draw" "_law_draw" sDraw f fd) (T : Nb mg) :
    FnOk P w K mg base CX0 1 f fd ["_law_rng_here", "_law_many"] spDrawW := by
  refine F.ok scDraw (fun vs H Q E h => ?_) (fun cdv A outer s H vs Q E hr h => ?_)
  · obtain ⟨r, m, rfl, _⟩ := h
    rfl
  · obtain ⟨r, m, rfl, ⟨x, y, hR, hx, hy, hy2⟩, hm, hm2, q⟩ := h
    refine ⟨_, pss_cons (ps_if (pt_cmpR op_gt (pe_ix ix_list (pv 0) pe_int (fun _ _ => rfl)) pe_int (nomark _))
        (pss_cons (ps_asg (pe_callB call_divmodW (by rfl) T.divmod (by decide +kernel)
            (pa_cons (pe_ix ix_list (pv 0) pe_int (fun _ _ => rfl)) (pa_cons (pv 1) pa_nil)))
          (pg_tup rfl (pgs_cons (pg_sub (pv 0) pe_int set_list) (pgs_cons (pg_name (i := 2) scDraw.nd rfl (Or.inl rfl)) pgs_nil))))
        (pss_one (ps_ret (pv 2)))) pss_nil)
      (pss_cons (ps_asg (pe_op op_mod (pe_callTy call_int1 (by rfl) T.int (by decide +kernel) (pa_cons
          (pe_op op_add (pe_op op_mul (pe_ix ix_list (pv 0) pe_int (fun _ _ => rfl)) pe_int) pe_int) pa_nil)) pe_int)
          (pg_sub (pv 0) pe_int set_list))
      (pss_one (ps_ret (pe_op op_mod (pe_op op_fdiv (pe_op op_mod (pe_callTy call_int1 (by rfl) T.int (by decide +kernel)
        (pa_cons (pe_op op_mul (pe_ix ix_list (pv 0) pe_int (fun _ _ => rfl)) (pe_ix ix_list (pv 0) pe_int (fun _ _ => rfl))) pa_nil))
        pe_int) pe_int) (pv 1))))), ?_⟩
    refine ⟨_, rfl, r, _, _, _, rfl, rfl, SqL.of hR, at0 x y, _, _, rfl, rfl, _, rfl, ?_⟩
    refine ite2 (fun hgt => ?_) fun _ => ?_
    · refine ⟨_, rfl, r, _, _, _, rfl, rfl, SqL.of hR, at0 x y, _, rfl, _, _, rfl, ⟨hm, PyProof.noPylong_of_log2 (big_draw hm hm2)⟩, fun p hp => ?_⟩
      have npr : p ≠ r := Ne.symm (ne_of_none hR hp)
      have hR1 : upd H p (.tup [.int (x / m), .int (x % m)]) r = some (.lst [.int x, .int y]) := by
        rw [upd_ne npr.symm]
        exact hR
      refine ⟨p, _, rfl, SqT.of upd_same, rfl, ?_⟩
      refine ⟨_, _, rfl, ⟨_, rfl, r, _, _, _, rfl, rfl, hR1, rfl, ?_⟩⟩
      refine ⟨_, _, rfl, rfl, ?_⟩
      refine ⟨_, rfl, ?_⟩
      refine q _ _ (Int.emod_nonneg _ (by omega)) (Int.emod_lt_of_pos _ hm) ⟨x / m, y, upd_same, Int.ediv_nonneg hx (by omega), hy, hy2⟩ ?_
      intro b o ne e
      rw [upd_ne ne, upd_ne (ne_of_none e hp)]
      exact e
    · have c1 := Int.emod_nonneg (y * 40693 + 27017) (show (2147483563 : Int) ≠ 0 by decide)
      have c2 := Int.emod_lt_of_pos (y * 40693 + 27017) (show (0 : Int) < 2147483563 by decide)
      refine ⟨_, rfl, r, _, _, _, rfl, rfl, SqL.of hR, at1 x y, _, _, rfl, rfl, .inl ⟨by omega, by omega⟩, _, _, rfl, rfl, .inl ⟨_, rfl, ?_⟩⟩
      refine ⟨_, _, rfl, rfl, (by show (0 : Int) < 2147483563; decide), ?_⟩
      refine ⟨_, rfl, r, _, _, _, rfl, rfl, hR, rfl, ?_⟩
      refine ⟨_, rfl, r, _, _, _, rfl, rfl, SqL.of upd_same, at1 x _, _, rfl, r, _, _, _, rfl, rfl, SqL.of upd_same, at1 x _, ?_⟩
      refine ⟨_, _, rfl, rfl, .inl ⟨by omega, by omega⟩, .inl ⟨_, rfl, ?_⟩⟩
      refine ⟨_, _, rfl, rfl, (by show (0 : Int) < 2147483477; decide), _, _, rfl, rfl, ⟨by decide, by decide⟩, _, rfl, _, _, rfl, rfl, hm, ?_⟩
      refine q _ _ (Int.emod_nonneg _ (by omega)) (Int.emod_lt_of_pos _ hm) ⟨x, _, upd_same, hx, c1, by omega⟩ ?_
      intro b o ne e
      rw [upd_ne ne]
      exact e

end
end K54
set_option maxHeartbeats 8000000
namespace K54
open PySem PySem.Spec PyProof.Rows L2

/-! ### _law_indexes -/
abbrev sLin : Stmt := top 77
def NLin : List Str := ["_law_rng_here", "_law_many", "_law_found", "_law_turn"]
def spLin : Sp := fun vs H Q _ => ∃ (r : Addr) (n : Int), vs = [.ref r, .int n] ∧ Rg H r ∧ 0 < n ∧ n ≤ 10 ^ 25 ∧
  ∀ H' l (xs : List Int), Rg H' r → But r H H' → H l = none → H' l = some (.lst (xs.map V.int)) → (∀ x ∈ xs, 0 ≤ x ∧ x < n) → Q (.ref l) H'
theorem rgV_int (b : Int) : rgV 0 b = ((List.range b.toNat).map fun i => ((i : Nat) : Int)).map V.int := by
  unfold rgV
  rw [Int.sub_zero, List.map_map]
  refine List.map_congr_left fun i _ => ?_
  show V.int (0 + (i : Nat)) = V.int ((i : Nat) : Int)
  rw [Int.zero_add]
section
variable {P : Program} {w : World} {K : PySem.W.Frag} {mg : Str → Option Value} {base : Heap}
theorem scLin : FnScope NLin ["_law_rng_here", "_law_many"] (defScope sLin) := ⟨rfl, rfl, rfl, by decide +kernel, rfl, by decide +kernel, by decide +kernel⟩
theorem ok_lin {f fD : Addr} {fd fdD : FuncData} (F : Fun K "_law_indexes" "_law_indexes" sLin f fd) (T : Nb mg) (lN : mg "list" = none)
    (GD : FnOk P w K mg base CX0 1 fD fdD ["_law_rng_here", "_law_many"] spDrawW) (kD : PySem.W.keepIn K (.ref fD) = true) (bD : Binds K fdD ["_law_rng_here", "_law_many"] []) (gD : mg "_law_draw" = some (.ref fD)) :
    FnOk P w K mg base CX0 2 f fd ["_law_rng_here", "_law_many"] spLin := by
  refine F.ok scLin (fun vs H Q E h => ?_) (fun cdv A outer s H vs Q E hr h => ?_)
  · obtain ⟨r, n, rfl, _⟩ := h
    rfl
  · obtain ⟨r, n, rfl, hR, n0, n1, k⟩ := h
    refine ⟨_, pss_cons (ps_set (i := 2) scLin.nd rfl (.inl rfl) (pe_op op_cat (pe_lst (pa_cons pe_int (pa_cons (pe_op op_sub (pv 1) pe_int) (pa_cons (pe_op op_fdiv (pv 1) pe_int) pa_nil))))
        (pe_lc (own := [("_law_turn", 3)]) (g := gName 3) (tt := tYes) (te := tCall spDrawW [] E0 (tCons (tVar 0) (tCons (tVar 1) tNil))) rfl scLin.nd (pi_range1 (by rfl) T.range (pa_cons pe_int pa_nil))
          (blkOk_by (own := [("_law_turn", 3)]) (N := NLin) (sc := defScope sLin) (by decide +kernel)) (fun _ _ _ _ _ => pg_name (i := 3) scLin.nd rfl (Or.inl rfl)) (fun _ _ _ _ _ => pts_nil)
          (fun _ _ _ _ _ => by exact pe_call GD hr (by rfl) gD kD bD .nil pass0 (pa_cons (pv 0) (pa_cons (pv 1) pa_nil))))))
      (pss_one (ps_ret (pe_ifExp (pt_cmpR op_lt (pv 1) pe_int (nomark _)) (pe_op op_cat (pv 2) (pe_listRg rfl (by rfl) lN (prg_1 (by rfl) T.range (pv 1)))) (pv 2)))), ?_⟩
    refine ⟨_, rfl, _, _, rfl, rfl, _, rfl, _, _, rfl, rfl, ⟨by decide, by decide⟩, ?_⟩
    refine ⟨by rw [sizeLine_eq]; show 3 ≤ 16777216; decide, fun q nq => ?_⟩
    have S1 := fresh_upd (o := .lst [V.int 0, V.int (n - 1), V.int (n / 2)]) nq
    have hq : upd H q (.lst [V.int 0, V.int (n - 1), V.int (n / 2)]) q = some (.lst [V.int 0, V.int (n - 1), V.int (n / 2)]) := upd_same
    generalize upd H q (.lst [V.int 0, V.int (n - 1), V.int (n / 2)]) = H1 at S1 hq
    have hR1 := hR.same S1
    have qr : q ≠ r := (hR.ne nq).symm
    refine ⟨5, rfl, by decide, by decide, fun D nD => ?_⟩
    have Dr : D ≠ r := (hR1.ne nD).symm
    have Dq : D ≠ q := fun e => by rw [e, hq] at nD; cases nD
    refine lc_range (lo := 0) (n := 5) (fun j H4 => Rg H4 r ∧ But r H1 H4 ∧ ∃ xs : List Int, H4 D = some (.lst (xs.map V.int)) ∧ xs.length = j ∧ ∀ x ∈ xs, 0 ≤ x ∧ x < n)
      ⟨hR1.upd Dr, But.of (fresh_upd nD), [], upd_same, rfl, fun y hy => by cases hy⟩ ?_ ?_
    · rintro j H4 hj ⟨hR4, B4, xs, hD4, hx, hxs⟩
      refine ⟨rfl, ?_⟩
      unfold tYes
      dsimp only
      rw [if_pos rfl]
      refine ⟨_, rfl, _, rfl, r, n, rfl, hR4, n0, n1, fun H5 v v0 v1 hR5 B5 => ⟨_, B5 _ _ Dr hD4, by rw [List.length_map, sizeLine_eq]; omega, hR5.upd Dr, ?_, xs ++ [v], by rw [upd_same, List.map_append]; rfl, by rw [List.length_append, hx]; rfl, fun x hm => ?_⟩⟩
      · exact (B4.trans B5).upd nD
      · rcases List.mem_append.mp hm with hm | hm
        · exact hxs x hm
        · rw [List.mem_singleton.mp hm]
          exact ⟨v0, v1⟩
    · rintro H4 ⟨hR4, B4, xs, hD4, hx, hxs⟩
      have hq4 := B4 _ _ qr hq
      refine ⟨q, D, _, _, rfl, rfl, hq4, hD4, by rw [List.length_map, hx, sizeLine_eq]; show 3 + 5 ≤ 16777216; decide, fun Z nZ => ?_⟩
      have Zr : Z ≠ r := (hR4.ne nZ).symm
      have B04 : But r H H4 := (But.of S1).trans B4
      have eL : ([V.int 0, V.int (n - 1), V.int (n / 2)] ++ xs.map V.int) = ((0 :: (n - 1) :: (n / 2) :: xs).map V.int) := rfl
      rw [eL]
      have in0 : ∀ x ∈ (0 :: (n - 1) :: (n / 2) :: xs), 0 ≤ x ∧ x < n := fun x hm => by
        rcases List.mem_cons.mp hm with rfl | hm
        · omega
        rcases List.mem_cons.mp hm with rfl | hm
        · omega
        rcases List.mem_cons.mp hm with rfl | hm
        · omega
        · exact hxs x hm
      have l5 : (0 :: (n - 1) :: (n / 2) :: xs).length = 8 := by rw [List.length_cons, List.length_cons, List.length_cons, hx]
      generalize hys : (0 :: (n - 1) :: (n / 2) :: xs) = ys at in0 l5
      have SZ := fresh_upd (o := .lst (ys.map V.int)) nZ
      have B5 : But r H (upd H4 Z (.lst (ys.map V.int))) := B04.trans (But.of SZ)
      have hR5 : Rg (upd H4 Z (.lst (ys.map V.int))) r := hR4.same SZ
      have eZ : upd H4 Z (.lst (ys.map V.int)) Z = some (.lst (ys.map V.int)) := upd_same
      have nZ0 : H Z = none := by
        cases e : H Z with
        | none => rfl
        | some o =>
          have z := B04 _ _ Zr e
          rw [nZ] at z
          cases z
      generalize upd H4 Z (.lst (ys.map V.int)) = H5 at B5 hR5 eZ
      refine ⟨_, rfl, _, _, rfl, rfl, _, rfl, ?_⟩
      by_cases h40 : n < 40
      · refine iteT' (decide_eq_true h40) ?_
        refine ⟨_, rfl, _, rfl, _, rfl, RgOk.of_le (by decide) (by omega) (by decide) (by omega), fun G nG => ?_⟩
        have SG := fresh_upd (o := .lst (rgV 0 n)) nG
        refine ⟨Z, G, _, _, rfl, rfl, SG _ _ eZ, upd_same, by rw [List.length_map, rgV_length, sizeLine_eq]; omega, fun W nW => ?_⟩
        have SW := fresh_upd (o := .lst (ys.map V.int ++ rgV 0 n)) nW
        have nW5 := none_pre SG nW
        have Wr : W ≠ r := (hR5.ne nW5).symm
        have nW0 : H W = none := by
          cases e : H W with
          | none => rfl
          | some o =>
            have z := B5 _ _ Wr e
            rw [nW5] at z
            cases z
        refine k _ W (ys ++ (List.range n.toNat).map fun i => ((i : Nat) : Int)) (hR5.same (SG.trans SW)) (B5.trans (But.of (SG.trans SW))) nW0 (by rw [upd_same, List.map_append, rgV_int]) fun x hm => ?_
        rcases List.mem_append.mp hm with hm | hm
        · exact in0 x hm
        · obtain ⟨i, hi, rfl⟩ := List.mem_map.mp hm
          have := List.mem_range.mp hi
          omega
      · refine iteN' h40 ?_
        exact ⟨_, rfl, k H5 Z ys hR5 B5 nZ0 eZ in0⟩
end
end K54
set_option maxHeartbeats 8000000
namespace K54
open PySem PySem.Spec PyProof.Rows L2

/-! ### _law_places_right -/
/-- H without what stands at r -/
def strip (r : Addr) (H : Hp) : Hp := fun b => if b = r then none else H b
theorem strip_r (r : Addr) (H : Hp) : strip r H r = none := by unfold strip; rw [if_pos rfl]
theorem strip_same {r : Addr} {H H' : Hp} (B : But r H H') : Same (strip r H) H' := fun b o e => by
  unfold strip at e
  by_cases h : b = r
  · rw [if_pos h] at e
    cases e
  · rw [if_neg h] at e
    exact B b o h e
theorem strip_self (r : Addr) (H : Hp) : Same (strip r H) H := strip_same fun _ _ _ e => e
/-- kept apart from the generator at r: what G holds stays -/
theorem keep_but {r : Addr} {G H H' : Hp} (g : G r = none) (S : Same G H) (B : But r H H') : Same G H' := fun b o e => B b o (fun z => by rw [z, g] at e; cases e) (S b o e)
abbrev sPlr : Stmt := top 78
def NPlr : List Str := ["_law_rng_here", "_law_row", "_law_models", "_law_times_at", "_law_numbers_here", "_law_many", "_law_index"]
def spPlr (CR C : Addr) (cl : Nat → Addr) : Sp := fun vs H Q _ => ∃ (r R M A : Addr) (G : Hp) (ts ds : List Addr) (ms : List M3) (ns : List Str), vs = [.ref r, .ref R, .ref M, .ref A] ∧ G r = none ∧ Same G H ∧ Rg H r ∧ RowAt CR C cl G R ms ∧ G M = some (.lst (ts.map V.ref)) ∧ Paired (MAt G) ts ms ∧
  G A = some (.lst (ds.map V.ref)) ∧ ds.length ≤ 1000 ∧ (∀ d ∈ ds, ∃ nu, NuOk G d nu ∧ (∃ n ∈ nu.map (·.1), n ∉ ns) ∧ ∀ m ∈ ms, InM nu m ∧ valS nu m.r ≤ 256) ∧ ms.length ≤ 7 ∧ (∀ m ∈ ms, NiceM m ∧ MdD ns m) ∧ Pool ns ∧ ∀ H', Rg H' r → But r H H' → Q (.bl true) H'
end K54
set_option maxHeartbeats 8000000
namespace K54
open PySem PySem.Spec PyProof.Rows L2

/-! ### the value of the last cut -/
def prodN (ns : List Str) (f : Str → Nat) (N : Str → Nat) : Nat := ns.foldr (fun n r => N n ^ f n * r) 1
theorem prodN_cons (n : Str) (r : List Str) (f N : Str → Nat) : prodN (n :: r) f N = N n ^ f n * prodN r f N := rfl
theorem prodN_add (f g N : Str → Nat) : ∀ ns : List Str, prodN ns (fun n => f n + g n) N = prodN ns f N * prodN ns g N
  | [] => rfl
  | n :: r => by
    rw [prodN_cons, prodN_cons, prodN_cons, prodN_add f g N r, Nat.pow_add, Nat.mul_mul_mul_comm]
theorem prodN_zero (N : Str → Nat) : ∀ ns : List Str, prodN ns (fun _ => 0) N = 1
  | [] => rfl
  | n :: r => by rw [prodN_cons, prodN_zero N r, Nat.pow_zero]
theorem prodN_out (a : Str) (v : Nat) (N : Str → Nat) : ∀ ns : List Str, a ∉ ns → prodN ns (fun n => if n = a then v else 0) N = 1
  | [], _ => rfl
  | n :: r, h => by
    rw [prodN_cons, prodN_out a v N r fun z => h (List.mem_cons_of_mem _ z), if_neg fun z => h (by rw [z]; exact List.mem_cons_self ..), Nat.pow_zero]
theorem prodN_one (a : Str) (v : Nat) (N : Str → Nat) : ∀ ns : List Str, ns.Nodup → a ∈ ns → prodN ns (fun n => if n = a then v else 0) N = N a ^ v
  | [], _, h => nomatch h
  | n :: r, hn, h => by
    have h2 := List.nodup_cons.mp hn
    by_cases e : n = a
    · rw [prodN_cons, prodN_out a v N r (by rw [← e]; exact h2.1), if_pos e, e, Nat.mul_one]
    · rw [prodN_cons, prodN_one a v N r h2.2 (by
        rcases List.mem_cons.mp h with z | z
        · exact absurd z.symm e
        · exact z), if_neg e, Nat.pow_zero, Nat.one_mul]
theorem g0_cons {q : Str × Int} {r : Es} (h : q.1 ∉ r.map (·.1)) (n : Str) : g0 (q :: r) n = if n = q.1 then q.2 else g0 r n := by
  unfold g0
  by_cases z : n = q.1
  · rw [if_pos z, z, List.lookup_cons_self]
    rfl
  · rw [if_neg z, List.lookup_cons, show (n == q.1) = false from by simpa using z]
theorem upV_prod {ns : List Str} (hn : ns.Nodup) (N : Str → Nat) : ∀ es : Es, (es.map (·.1)).Nodup → (∀ q ∈ es, q.1 ∈ ns) → upV es N = prodN ns (fun n => (g0 es n).toNat) N
  | [], _, _ => (prodN_zero N ns).symm
  | q :: r, hd, hs => by
    have h2 := List.nodup_cons.mp (show (q.1 :: r.map (·.1)).Nodup from hd)
    have ih := upV_prod hn N r h2.2 fun p hp => hs p (List.mem_cons_of_mem _ hp)
    have e : (fun n => (g0 (q :: r) n).toNat) = fun n => (if n = q.1 then q.2.toNat else 0) + (g0 r n).toNat := by
      funext n
      rw [g0_cons h2.1]
      by_cases z : n = q.1
      · have z2 : g0 r n = 0 := by
          unfold g0
          rw [g0_none (by rw [z]; exact h2.1)]
          rfl
        rw [if_pos z, if_pos z, z2]
        rfl
      · rw [if_neg z, if_neg z, Nat.zero_add]
    rw [e, prodN_add, prodN_one q.1 q.2.toNat N ns hn (hs q (List.mem_cons_self ..)), ← ih]
    show (if 0 < q.2 then N q.1 ^ q.2.toNat else 1) * upV r N = _
    split
    · rfl
    · rw [show q.2.toNat = 0 by omega, Nat.pow_zero]
theorem upV_md {ns : List Str} {b : Int} {f : Str → Int} {es : Es} (h : Md ns b f es) (hP : Pool ns) (N : Str → Nat) : upV es N = prodN ns (fun n => (f n).toNat) N := by
  rw [upV_prod hP.nd N es h.sd.nodup fun q hq => h.key hq]
  congr 1
  funext n
  rw [h.g]

def negE (es : Es) : Es := es.map fun q => (q.1, -q.2)
theorem dn_neg (N : Str → Nat) : ∀ es : Es, dnV es N = upV (negE es) N
  | [] => rfl
  | q :: r => by
    have ih := dn_neg N r
    show (if q.2 < 0 then N q.1 ^ (-q.2).toNat else 1) * dnV r N = (if 0 < -q.2 then N q.1 ^ (-q.2).toNat else 1) * upV (negE r) N
    rw [ih]
    by_cases h : q.2 < 0
    · rw [if_pos h, if_pos (show 0 < -q.2 by omega)]
    · rw [if_neg h, if_neg (show ¬ 0 < -q.2 by omega)]
theorem look_neg (n : Str) : ∀ es : Es, g0 (negE es) n = -(g0 es n)
  | [] => rfl
  | q :: r => by
    have ih := look_neg n r
    unfold g0 at ih ⊢
    show (List.lookup n ((q.1, -q.2) :: negE r)).getD 0 = _
    rw [List.lookup_cons, List.lookup_cons]
    cases n == q.1 with
    | true => rfl
    | false => exact ih
theorem dnV_mdN {ns : List Str} {b : Int} {f : Str → Int} {es : Es} (h : Md ns b f es) (hP : Pool ns) (N : Str → Nat) : dnV es N = prodN ns (fun n => (-(f n)).toNat) N := by
  rw [dn_neg, upV_prod hP.nd N (negE es) (by unfold negE; rw [List.map_map]; exact h.sd.nodup) (fun q hq => by
    unfold negE at hq
    obtain ⟨p, hp, rfl⟩ := List.mem_map.mp hq
    exact h.key (q := p) hp)]
  congr 1
  funext n
  rw [look_neg, h.g]
theorem prodN_pos {f N : Str → Nat} : ∀ {ns : List Str}, (∀ n ∈ ns, f n ≠ 0 → 0 < N n) → 0 < prodN ns f N
  | [], _ => Nat.zero_lt_one
  | n :: r, h => by
    rw [prodN_cons]
    refine Nat.mul_pos ?_ (prodN_pos fun m hm => h m (List.mem_cons_of_mem _ hm))
    by_cases e : f n = 0
    · rw [e, Nat.pow_zero]
      exact Nat.zero_lt_one
    · exact Nat.pow_pos (h n (List.mem_cons_self ..) e)
/-- one step of the product -/
theorem cut_step {ns : List Str} {f g : Str → Int} {N : Str → Nat} {v w : Nat} (hd : 0 < prodN ns (fun n => (-(f n)).toNat) N) (he : 0 < prodN ns (fun n => (-(g n)).toNat) N)
    (h1 : prodN ns (fun n => (f n).toNat) N = v * prodN ns (fun n => (-(f n)).toNat) N) (h2 : prodN ns (fun n => (g n).toNat) N = w * prodN ns (fun n => (-(g n)).toNat) N) :
    prodN ns (fun n => (f n + g n).toNat) N = (v * w) * prodN ns (fun n => (-(f n + g n)).toNat) N := by
  have key : prodN ns (fun n => (f n + g n).toNat) N * (prodN ns (fun n => (-(f n)).toNat) N * prodN ns (fun n => (-(g n)).toNat) N) =
      prodN ns (fun n => (-(f n + g n)).toNat) N * (prodN ns (fun n => (f n).toNat) N * prodN ns (fun n => (g n).toNat) N) := by
    rw [← prodN_add, ← prodN_add, ← prodN_add, ← prodN_add]
    congr 1
    funext n
    omega
  rw [h1, h2] at key
  refine Nat.eq_of_mul_eq_mul_right (Nat.mul_pos hd he) ?_
  rw [key]
  simp only [Nat.mul_assoc, Nat.mul_comm, Nat.mul_left_comm]
/-- the product of the values of the first i radices -/
def prdN (nu : Es) (ms : List M3) : Nat := ms.foldl (fun a m => a * valS nu m.r) 1
theorem prd_eq (nu : Es) (ms : List M3) : ((prdN nu ms : Nat) : Int) = prdM nu ms := by
  unfold prdN prdM
  have : ∀ (ms : List M3) (a : Nat), ((ms.foldl (fun a m => a * valS nu m.r) a : Nat) : Int) = (ms.map fun m => ((valS nu m.r : Nat) : Int)).foldl (fun a b => a * b) (a : Int) := by
    intro ms
    induction ms with
    | nil => intro a; rfl
    | cons m r ih =>
      intro a
      rw [List.foldl_cons, ih, List.map_cons, List.foldl_cons, Int.natCast_mul]
  exact this ms 1
theorem prd_pos {nu : Es} : ∀ {ms : List M3} {a : Nat}, 0 < a → (∀ m ∈ ms, 0 < valS nu m.r) → 0 < ms.foldl (fun a m => a * valS nu m.r) a
  | [], _, h, _ => h
  | m :: r, a, h, k => prd_pos (ms := r) (Nat.mul_pos h (k m (List.mem_cons_self ..))) fun x hx => k x (List.mem_cons_of_mem _ hx)
theorem cut_val {H : Hp} {d : Addr} {ns : List Str} {nu : Es} {ms : List M3} (hP : Pool ns) (hD : NuOk H d nu) (hN : ∀ m ∈ ms, NiceM m ∧ MdD ns m) (hI : ∀ m ∈ ms, InM nu m) : ∀ i, i ≤ ms.length →
    prodN ns (fun n => (cutF ms i n).toNat) (nOf nu) = prdN nu (ms.take i) * prodN ns (fun n => (-(cutF ms i n)).toNat) (nOf nu) ∧ 0 < prodN ns (fun n => (-(cutF ms i n)).toNat) (nOf nu) ∧ ∀ n, cutF ms i n ≠ 0 → n ∈ nu.map (·.1) := by
  intro i
  induction i with
  | zero =>
    intro _
    have e1 : (fun n => (cutF ms 0 n).toNat) = fun _ => 0 := by funext n; rw [cutF_zero]; rfl
    have e2 : (fun n => (-(cutF ms 0 n)).toNat) = fun _ => 0 := by funext n; rw [cutF_zero]; rfl
    rw [e1, e2, prodN_zero, List.take_zero]
    exact ⟨rfl, Nat.zero_lt_one, fun n h => absurd (cutF_zero ms n) h⟩
  | succ i ih =>
    intro hi
    obtain ⟨h1, h2, h3⟩ := ih (by omega)
    have hm : ms[i]? = some ms[i] := List.getElem?_eq_getElem (by omega)
    have hmem := List.getElem_mem (show i < ms.length by omega)
    obtain ⟨hn, hd⟩ := hN _ hmem
    have hI' := hI _ hmem
    have u := upV_md hd.r hP (nOf nu)
    have dd := dnV_mdN hd.r hP (nOf nu)
    have mem : ∀ n, g0 ms[i].r n ≠ 0 → n ∈ nu.map (·.1) := fun n hn0 => by
      unfold g0 at hn0
      cases e : ms[i].r.lookup n with
      | none => rw [e] at hn0; exact absurd rfl hn0
      | some v =>
        have z : (List.lookup n ms[i].r).isSome = true := by rw [e]; rfl
        obtain ⟨q, hq, eq⟩ := List.mem_map.mp (look_mem.mp z)
        rw [← eq]
        exact hI'.r.inn q hq
    have d0 : 0 < prodN ns (fun n => (-(g0 ms[i].r n)).toNat) (nOf nu) := prodN_pos fun n _ hne => (nof_lt hD (mem n (by omega))).2
    have hv : prodN ns (fun n => (g0 ms[i].r n).toNat) (nOf nu) = valS nu ms[i].r * prodN ns (fun n => (-(g0 ms[i].r n)).toNat) (nOf nu) := by
      unfold valS
      rw [← u, ← dd]
      exact (Nat.div_mul_cancel hI'.r.dv).symm
    have st := cut_step h2 d0 h1 hv
    have ef : ∀ n, cutF ms (i + 1) n = cutF ms i n + g0 ms[i].r n := fun n => cutF_succ hm n
    refine ⟨?_, ?_, ?_⟩
    · simp only [ef]
      rw [st, take_snoc hm]
      unfold prdN
      rw [List.foldl_append]
      rfl
    · refine prodN_pos fun n _ hne => (nof_lt hD ?_).2
      by_cases z : cutF ms i n = 0
      · refine mem n ?_
        have := ef n
        omega
      · exact h3 n z
    · intro n hne
      by_cases z : cutF ms i n = 0
      · refine mem n ?_
        have := ef n
        omega
      · exact h3 n z
end K54
set_option maxHeartbeats 8000000
namespace K54
open PySem PySem.Spec PyProof.Rows L2
theorem bnd_gen {b : Nat} : ∀ {es : Es}, (∀ q ∈ es, q.2.natAbs ≤ b) → bnd es (fun _ => 4) ≤ 4 * b * es.length
  | [], _ => Nat.zero_le _
  | p :: r, h => by
    have ih := bnd_gen (b := b) (es := r) fun q hq => h q (List.mem_cons_of_mem _ hq)
    have z := h p (List.mem_cons_self ..)
    show p.2.natAbs * 4 + bnd r (fun _ => 4) ≤ 4 * b * (r.length + 1)
    rw [Nat.mul_add]
    omega
theorem plc_bd : ∀ {trs : List (Int × Int × Bool)} {a x : Int}, (∀ t ∈ trs, 0 < t.1 ∧ t.1 < 1073741824 ∧ 0 ≤ t.2.1 ∧ t.2.1 < 1073741824) → 0 ≤ a → 0 ≤ (trs.foldl stT (a, x)).1 ∧ (trs.foldl stT (a, x)).1 ≤ a + trs.length * (1073741824 * 1073741824)
  | [], a, x, _, h => ⟨h, by show a ≤ a + 0 * _; omega⟩
  | t :: r, a, x, hb, h => by
    obtain ⟨b1, b2, b3, b4⟩ := hb t (List.mem_cons_self ..)
    have m0 := Int.emod_nonneg x (show t.1 ≠ 0 by omega)
    have m1 := Int.emod_lt_of_pos x b1
    have hv : 0 ≤ (if t.2.2 = true then t.1 - 1 - x % t.1 else x % t.1) ∧ (if t.2.2 = true then t.1 - 1 - x % t.1 else x % t.1) ≤ 1073741824 := by split <;> omega
    generalize hg : (if t.2.2 = true then t.1 - 1 - x % t.1 else x % t.1) = v at hv
    have p0 : 0 ≤ t.2.1 * v := Int.mul_nonneg b3 hv.1
    have p1 : t.2.1 * v ≤ 1073741824 * 1073741824 := Int.mul_le_mul (by omega) hv.2 hv.1 (by decide)
    have ih := plc_bd (trs := r) (a := a + t.2.1 * v) (x := x / t.1) (fun u hu => hb u (List.mem_cons_of_mem _ hu)) (by omega)
    have e : (t :: r).foldl stT (a, x) = r.foldl stT (a + t.2.1 * v, x / t.1) := by rw [List.foldl_cons]; unfold stT; dsimp only; rw [hg]
    rw [e, List.length_cons, Int.natCast_add]
    refine ⟨ih.1, ?_⟩
    have := ih.2
    omega
theorem plc_log {nu : Es} {ms : List M3} {x : Int} (h : ∀ m ∈ ms, PlM nu m) (hl : ms.length ≤ 8) : (plcM nu ms x).natAbs.log2 < 1920 := by
  have z := plc_bd (trs := ms.map (tr3 nu)) (a := 0) (x := x) (fun t ht => by
    obtain ⟨m, hm, rfl⟩ := List.mem_map.mp ht
    have p := h m hm
    have h1 := p.rp
    have h2 := p.rl
    have h3 := p.fl
    unfold tr3
    dsimp only
    refine ⟨by omega, by omega, ?_, ?_⟩
    · split <;> omega
    · split <;> omega) (by decide)
  rw [List.length_map] at z
  unfold plcM
  generalize ((ms.map (tr3 nu)).foldl stT (0, x)).1 = v at z
  by_cases hv : v.natAbs = 0
  · rw [hv]
    decide
  · refine (Nat.log2_lt hv).mpr ?_
    have h1 : v.natAbs < 2 ^ 70 := by
      have : (2 : Nat) ^ 70 = 1180591620717411303424 := by decide
      omega
    exact Nat.lt_of_lt_of_le h1 (Nat.pow_le_pow_right (by decide) (by decide))
theorem prd_le {nu : Es} : ∀ {ms : List M3} {a : Nat}, (∀ m ∈ ms, valS nu m.r ≤ 256) → ms.foldl (fun a m => a * valS nu m.r) a ≤ a * 256 ^ ms.length
  | [], a, _ => by rw [List.length_nil, Nat.pow_zero, Nat.mul_one]; exact Nat.le_refl _
  | m :: r, a, h => by
    have ih := prd_le (nu := nu) (ms := r) (a := a * valS nu m.r) fun x hx => h x (List.mem_cons_of_mem _ hx)
    have z := h m (List.mem_cons_self ..)
    rw [List.foldl_cons, List.length_cons, Nat.pow_succ]
    refine Nat.le_trans ih ?_
    rw [Nat.mul_comm (256 ^ r.length) 256, ← Nat.mul_assoc]
    exact Nat.mul_le_mul_right _ (Nat.mul_le_mul_left _ z)
section
variable {P : Program} {w : World} {K : PySem.W.Frag} {mg : Str → Option Value} {base : Heap} {C DD CR : Addr} {cl : Nat → Addr}
/-- _law_value(cuts[-1], numbers) -/
theorem rd_cutv {H : Hp} {d q : Addr} {ns : List Str} {nu es : Es} {ms : List M3} (hP : Pool ns) (hD : NuOk H d nu) (hN : ∀ m ∈ ms, NiceM m ∧ MdD ns m) (hI : ∀ m ∈ ms, InM nu m) (hx : ∃ n ∈ nu.map (·.1), n ∉ ns) (hl : ms.length ≤ 8)
    (hq : H q = some (.dK (kv es))) (hm : Md ns (2 * (ms.length : Int)) (cutF ms ms.length) es) :
    d ≠ q ∧ (∀ p ∈ es, p.1 ∈ nu.map (·.1)) ∧ (∀ p ∈ es, p.2.natAbs ≤ 1000) ∧ bnd es (fun _ => 4) ≤ 1900 ∧ (∀ p ∈ es, nOf nu p.1 < 2 ^ 4) ∧ es.length < 64 ∧ ((upV es (nOf nu) / dnV es (nOf nu) : Nat) : Int) = prdM nu ms := by
  obtain ⟨c1, c2, c3⟩ := cut_val hP hD hN hI ms.length (Nat.le_refl _)
  rw [List.take_length] at c1
  have inn : ∀ p ∈ es, p.1 ∈ nu.map (·.1) := fun p hp => c3 p.1 (hm.at hp).2
  have bq : ∀ p ∈ es, p.2.natAbs ≤ 16 := fun p hp => by
    have := hm.bq hp
    omega
  have hb := bnd_gen bq
  have hle := hm.len hP
  refine ⟨fun e => ?_, inn, fun p hp => by have := bq p hp; omega, by omega, fun p hp => (nof_lt hD (inn p hp)).1, by omega, ?_⟩
  · have z := hD.nd.at_
    rw [e, hq] at z
    injection z with z
    injection z with z
    have z2 := kv_one z
    obtain ⟨n, hn, hnn⟩ := hx
    rw [← z2] at hn
    obtain ⟨p, hp, rfl⟩ := List.mem_map.mp hn
    exact hnn (hm.key hp)
  · rw [upV_md hm hP, dnV_mdN hm hP, c1, Nat.mul_div_cancel _ c2, prd_eq]
theorem scPlr : FnScope NPlr ["_law_rng_here", "_law_row", "_law_models", "_law_times_at"] (defScope sPlr) := ⟨rfl, rfl, rfl, by decide +kernel, rfl, by decide +kernel, by decide +kernel⟩
theorem ok_plr {f fV fC fI fP fL : Addr} {fd fdV fdC fdI fdP fdL : FuncData} (F : Fun K "_law_places_right" "_law_places_right" sPlr f fd) (rN : mg "repr" = none) (c : Rwf K CR)
    (GV : FnOk P w K mg base CX0 1 fV fdV ["_law_size_here", "_law_numbers_here"] spVal) (kV : PySem.W.keepIn K (.ref fV) = true) (bV : Binds K fdV ["_law_size_here", "_law_numbers_here"] []) (gV : mg "_law_value" = some (.ref fV))
    (GC : FnOk P w K mg base CX0 2 fC fdC ["_law_models"] spLcu) (kC : PySem.W.keepIn K (.ref fC) = true) (bC : Binds K fdC ["_law_models"] []) (gC : mg "_law_cuts" = some (.ref fC))
    (GI : FnOk P w K mg base CX0 2 fI fdI ["_law_rng_here", "_law_many"] spLin) (kI : PySem.W.keepIn K (.ref fI) = true) (bI : Binds K fdI ["_law_rng_here", "_law_many"] []) (gI : mg "_law_indexes" = some (.ref fI))
    (GP : FnOk P w K mg base CX0 7 fP fdP ["self", "index", "numbers"] (spRwX CR C cl)) (mP : Meth K CR "place" fP) (bP : Binds K fdP ["self", "index", "numbers"] [])
    (GL : FnOk P w K mg base CX0 2 fL fdL ["_law_models", "_law_index", "_law_numbers_here"] spLpl) (kL : PySem.W.keepIn K (.ref fL) = true) (bL : Binds K fdL ["_law_models", "_law_index", "_law_numbers_here"] []) (gL : mg "_law_place" = some (.ref fL)) :
    FnOk P w K mg base CX0 8 f fd ["_law_rng_here", "_law_row", "_law_models", "_law_times_at"] (spPlr CR C cl) := by
  have GV7 := GV.mono (k := 7) (by decide)
  have GC7 := GC.mono (k := 7) (by decide)
  have GI7 := GI.mono (k := 7) (by decide)
  have GL7 := GL.mono (k := 7) (by decide)
  refine F.ok scPlr (fun vs H Q E h => ?_) (fun cdv A outer s H vs Q E hr h => ?_)
  · obtain ⟨r, R, M, A', G, ts, ds, ms, ns, rfl, _⟩ := h
    rfl
  · obtain ⟨r, R, M, A', G, ts, ds, ms, ns, rfl, g0, SG, hR, hRow, hM, hz, hA, hdl, hds, hl, hN, hP, k⟩ := h
    refine ⟨_, pss_cons (ps_for PassesOwn.never rfl (pi_list (pv 3)) (pg_name (i := 4) scPlr.nd rfl (Or.inl rfl))
        (pss_cons (ps_set (i := 5) scPlr.nd rfl (.inl rfl) (pe_call (E := E0) GV7 hr (by rfl) gV kV bV .nil pass0 (pa_cons (pe_ix ix_list (pe_call (E := E0) GC7 hr (by rfl) gC kC bC .nil pass0 (pa_cons (pv 2) pa_nil)) (pe_un un_neg pe_int) (fun _ _ => rfl)) (pa_cons (pv 4) pa_nil))))
        (pss_one (ps_for PassesOwn.never rfl (pi_list (pe_call (E := E0) GI7 hr (by rfl) gI kI bI .nil pass0 (pa_cons (pv 0) (pa_cons (pv 5) pa_nil)))) (pg_name (i := 6) scPlr.nd rfl (Or.inl rfl))
          (pss_one (ps_if (pt_cmpR op_ne (pe_callB SkE.call_repr_int (by rfl) rN (by decide +kernel) (pa_cons (pe_meth (E := E0) (pv 1) c.cl mP GP hr bP .nil pass0 (pa_cons (pv 6) (pa_cons (pv 4) pa_nil))) pa_nil))
            (pe_callB SkE.call_repr_int (by rfl) rN (by decide +kernel) (pa_cons (pe_call (E := E0) GL7 hr (by rfl) gL kL bL .nil pass0 (pa_cons (pv 2) (pa_cons (pv 6) (pa_cons (pv 4) pa_nil)))) pa_nil)) (nomark _)) (pss_one ps_no) pss_nil))))))
      (pss_one (ps_ret pe_bl)), ?_⟩
    refine ⟨_, rfl, A', rfl, ⟨_, SqL.of (SG _ _ hA)⟩, for_it (walk_list (K := K) (a := A') (xs := ds.map V.ref)) (fun i σ H2 => (∃ o4 o5 o6, σ = [some (.ref r), some (.ref R), some (.ref M), some (.ref A'), o4, o5, o6]) ∧ Rg H2 r ∧ But r H H2)
      ⟨⟨none, none, none, rfl⟩, hR, But.refl r H⟩ (fun i σ H2 _ h => SqL.of (keep_but g0 SG h.2.2 _ _ hA)) ?_ ?_⟩
    · rintro i y σ H9 H2 hi ⟨⟨o4, o5, o6, rfl⟩, hR2, B2⟩ ⟨rfl, hx⟩
      rw [List.length_map] at hi
      have ex : y = V.ref ds[i] := by
        rw [List.getElem?_map, List.getElem?_eq_getElem hi] at hx
        exact (Option.some.inj hx).symm
      subst ex
      obtain ⟨nu, hNu, hx, hI⟩ := hds _ (List.getElem_mem hi)
      have SG2 := keep_but g0 SG B2
      refine ⟨_, rfl, M, ts, ms, ns, rfl, SG2 _ _ hM, Paired.mapP hz (fun _ _ e => e.same SG2), hP, fun m hm => (hN m hm).2, by omega, fun H3 l qs S3 nl hl3 hql hc => ?_⟩
      have hI1 : ∀ m ∈ ms, InM nu m := fun m hm => (hI m hm).1
      obtain ⟨r0, qz, eqs⟩ : ∃ r0 qz, qs = r0 ++ [qz] := ⟨qs.dropLast, qs.getLast (by intro e; rw [e] at hql; cases hql), (List.dropLast_concat_getLast _).symm⟩
      have hqz : qs[ms.length]? = some qz := by
        have e : r0.length = ms.length := by
          have := congrArg List.length eqs
          rw [List.length_append] at this
          simp at this
          omega
        rw [eqs, ← e]
        simp
      obtain ⟨es, hs, hmd⟩ := hc ms.length qz hqz
      have hat : atI (qs.map V.ref) (-1) = some (V.ref qz) := by
        rw [eqs, List.map_append]
        exact atI_last _ _
      have SG3 := SG2.trans S3
      have hNu3 := hNu.same SG3
      obtain ⟨f1, f2, f3, f4, f5, f6, f7⟩ := rd_cutv hP hNu3 hN hI1 hx (by omega) hs hmd
      refine ⟨1, rfl, l, _, _, _, rfl, rfl, SqL.of hl3, hat, _, rfl, qz, ds[i], es, nu, fun _ => 4, rfl, hs, hNu3.nd, f1, f2, f3, f4, f5, f6, fun H4 S4 => ?_⟩
      rw [f7]
      have SG4 := SG3.trans S4
      have hR4 := hR2.same (S3.trans S4)
      have B4 : But r H H4 := B2.trans (But.of (S3.trans S4))
      have pl : ∀ m ∈ ms, PlM nu m := fun m hm => pl_ok hNu3 (hN m hm).1 (hI1 m hm)
      have p0 : 0 < prdN nu ms := prd_pos Nat.zero_lt_one fun m hm => (pl m hm).rp
      have p1 : prdN nu ms ≤ 10 ^ 25 := by
        have z := prd_le (nu := nu) (ms := ms) (a := 1) fun m hm => (hI m hm).2
        have z2 : 256 ^ ms.length ≤ 256 ^ 7 := Nat.pow_le_pow_right (by decide) hl
        have z3 : 1 * 256 ^ 7 ≤ 10 ^ 25 := by decide
        unfold prdN
        omega
      have pe := prd_eq nu ms
      refine ⟨_, rfl, _, rfl, r, prdM nu ms, rfl, hR4, by omega, by omega, fun H5 l5 xs hR5 B5 nl5 e5 hb5 => ?_⟩
      have B05 := B4.trans B5
      have SG5 := keep_but g0 SG B05
      refine ⟨l5, rfl, ⟨_, SqL.of e5⟩, for_it (walk_list (K := K) (a := l5) (xs := xs.map V.int)) (fun j σ H6 => (∃ o6, σ = [some (.ref r), some (.ref R), some (.ref M), some (.ref A'), some (.ref ds[i]), some (.int (prdM nu ms)), o6]) ∧ Same H5 H6)
        ⟨⟨o6, rfl⟩, Same.refl H5⟩ (fun j σ H6 _ h => SqL.of (h.2 _ _ e5)) ?_ ?_⟩
      · rintro j y σ H6' H6 hj ⟨⟨o6', rfl⟩, S6⟩ ⟨rfl, hy⟩
        rw [List.length_map] at hj
        have ey : y = V.int xs[j] := by
          rw [List.getElem?_map, List.getElem?_eq_getElem hj] at hy
          exact (Option.some.inj hy).symm
        subst ey
        obtain ⟨x0, x1⟩ := hb5 _ (List.getElem_mem hj)
        have SG6 := SG5.trans S6
        have hRow6 := hRow.same SG6
        obtain ⟨dxR, LR, psR, y1, y2, y3⟩ := id hRow6
        have lg := plc_log (x := xs[j]) pl (by omega)
        refine ⟨_, rfl, R, dxR, _, rfl, y1, rfl, _, rfl, _, rfl, R, ds[i], xs[j], ms, nu, rfl, hRow6, (hNu.same SG6).nd, by omega, pl, x0, x1, fun H7 S7 => ⟨_, rfl, lg, ?_⟩⟩
        have SG7 := SG6.trans S7
        refine ⟨_, rfl, _, rfl, _, rfl, M, ds[i], xs[j], ts, ms, nu, rfl, SG7 _ _ hM, Paired.mapP hz (fun _ _ e => e.same SG7), hNu.same SG7, by omega, fun m hm => ⟨(hN m hm).1, hI1 m hm⟩, x0, fun H8 S8 => ⟨_, rfl, lg, rfl, _, rfl, ?_⟩⟩
        rw [show (!decide (V.str (toString (plcM nu ms xs[j])) = V.str (toString (plcM nu ms xs[j])))) = false by simp]
        exact iteF (next_ ⟨⟨_, rfl⟩, S6.trans (S7.trans S8)⟩)
      · rintro σ H6 ⟨⟨o6', rfl⟩, S6⟩
        exact ⟨⟨_, _, _, rfl⟩, hR5.same S6, B05.trans (But.of S6)⟩
    · rintro σ H2 ⟨⟨o4, o5, o6, rfl⟩, hR2, B2⟩
      exact k H2 hR2 B2
end
end K54
set_option maxHeartbeats 8000000
namespace K54
open PySem PySem.Spec PyProof.Rows L2

/-! ### _law_numbers -/
abbrev sLnu : Stmt := top 66
def NLnu : List Str := ["_law_rng_here", "_law_names_here", "_law_least"]
def nuE (n1 n2 n3 : Str) (a l c : Int) : Es := [(n1, a), (n2, l), (n3, c), ("spare", 3)]
/-- names as they are drawn -/
structure N3 (n1 n2 n3 : Str) : Prop where
  nd : [n1, n2, n3].Nodup
  nm : ∀ n ∈ [n1, n2, n3], isNm n = true
  ln : ∀ n ∈ [n1, n2, n3], n.length ≤ 4
theorem N3.pool {n1 n2 n3 : Str} (h : N3 n1 n2 n3) : Pool [n1, n2, n3] := ⟨h.nd, h.nm, by show 3 ≤ 10; decide⟩
theorem spare_out {n1 n2 n3 : Str} (h : N3 n1 n2 n3) : ("spare" : Str) ∉ [n1, n2, n3] := fun z => by
  have := h.ln _ z
  have e : ("spare" : Str).length = 5 := by decide
  omega
theorem nuE_nd {n1 n2 n3 : Str} {a l c : Int} (h : N3 n1 n2 n3) : ((nuE n1 n2 n3 a l c).map (·.1)).Nodup := by
  have e : (nuE n1 n2 n3 a l c).map (·.1) = [n1, n2, n3] ++ [("spare" : Str)] := rfl
  rw [e, List.nodup_append]
  refine ⟨h.nd, by simp, fun x hx y hy z => ?_⟩
  rw [List.mem_singleton.mp hy] at z
  rw [z] at hx
  exact spare_out h hx
theorem nuE_ok {H : Hp} {D : Addr} {n1 n2 n3 : Str} {a l c : Int} (h : N3 n1 n2 n3) (hD : H D = some (.dK (kv (nuE n1 n2 n3 a l c)))) (ha : 1 ≤ a ∧ a < 16) (hl : 1 ≤ l ∧ l < 16) (hc : 1 ≤ c ∧ c < 16) : NuOk H D (nuE n1 n2 n3 a l c) := by
  have all : ∀ p ∈ nuE n1 n2 n3 a l c, isNm p.1 = true ∧ 1 ≤ p.2 ∧ p.2 < 16 := fun p hp => by
    rcases List.mem_cons.mp hp with rfl | hp
    · exact ⟨h.nm _ (by simp), ha⟩
    rcases List.mem_cons.mp hp with rfl | hp
    · exact ⟨h.nm _ (by simp), hl⟩
    rcases List.mem_cons.mp hp with rfl | hp
    · exact ⟨h.nm _ (by simp), hc⟩
    rw [List.mem_singleton.mp hp]
    exact ⟨by decide +kernel, by decide, by decide⟩
  exact ⟨⟨hD, by show 4 ≤ 1000; decide, nuE_nd h, fun p hp => (all p hp).1, fun p hp => (all p hp).2.1, fun p hp => by have := (all p hp).2.2; omega⟩, by show 3 < 4; decide, fun p hp => (all p hp).2.2⟩
def spLnu : Sp := fun vs H Q _ => ∃ (r N : Addr) (n1 n2 n3 : Str), vs = [.ref r, .ref N] ∧ Rg H r ∧ N ≠ r ∧ H N = some (.lst [.str n1, .str n2, .str n3]) ∧ N3 n1 n2 n3 ∧
  ∀ H' D (l k c : Int), Rg H' r → But r H H' → H D = none → H' D = some (.dK (kv (nuE n1 n2 n3 (l * k) l c))) → 1 ≤ l → l ≤ 4 → 1 ≤ k → k ≤ 3 → 1 ≤ c → c ≤ 5 → Q (.ref D) H'
section
variable {P : Program} {w : World} {K : PySem.W.Frag} {mg : Str → Option Value} {base : Heap}
theorem scLnu : FnScope NLnu ["_law_rng_here", "_law_names_here"] (defScope sLnu) := ⟨rfl, rfl, rfl, by decide +kernel, rfl, by decide +kernel, by decide +kernel⟩
theorem ok_lnu {f fD : Addr} {fd fdD : FuncData} (F : Fun K "_law_numbers" "_law_numbers" sLnu f fd)
    (GD : FnOk P w K mg base CX0 1 fD fdD ["_law_rng_here", "_law_many"] spDraw) (kD : PySem.W.keepIn K (.ref fD) = true) (bD : Binds K fdD ["_law_rng_here", "_law_many"] []) (gD : mg "_law_draw" = some (.ref fD)) :
    FnOk P w K mg base CX0 2 f fd ["_law_rng_here", "_law_names_here"] spLnu := by
  refine F.ok scLnu (fun vs H Q E h => ?_) (fun cdv A outer s H vs Q E hr h => ?_)
  · obtain ⟨r, N, n1, n2, n3, rfl, _⟩ := h
    rfl
  · obtain ⟨r, N, n1, n2, n3, rfl, hR, Nr, hN, h3, k⟩ := h
    refine ⟨_, pss_cons (ps_set (i := 2) scLnu.nd rfl (.inl rfl) (pe_op op_add pe_int (pe_call (E := E0) GD hr (by rfl) gD kD bD .nil pass0 (pa_cons (pv 0) (pa_cons pe_int pa_nil)))))
      (pss_one (ps_ret (pe_disp (pps_cons (pe_ix ix_list (pv 1) pe_int (fun _ _ => rfl)) (pe_op op_mul (pv 2) (pe_op op_add pe_int (pe_call (E := E0) GD hr (by rfl) gD kD bD .nil pass0 (pa_cons (pv 0) (pa_cons pe_int pa_nil)))))
        (pps_cons (pe_ix ix_list (pv 1) pe_int (fun _ _ => rfl)) (pv 2) (pps_cons (pe_ix ix_list (pv 1) pe_int (fun _ _ => rfl)) (pe_op op_add pe_int (pe_call (E := E0) GD hr (by rfl) gD kD bD .nil pass0 (pa_cons (pv 0) (pa_cons pe_int pa_nil))))
        (pps_cons pe_str pe_int pps_nil)))) (by rfl) (by rfl) (fun z => by cases z) (by decide)))), ?_⟩
    refine ⟨_, rfl, r, 4, rfl, hR, by decide, by decide, fun H1 d0 d00 d01 hR1 B1 => ⟨_, _, rfl, rfl, ?_⟩⟩
    have hN1 := B1 _ _ Nr hN
    refine fun p np => ?_
    have pr : p ≠ r := (hR1.ne np).symm
    have pN : N ≠ p := ne_of_none hN1 np
    have S1 := fresh_upd (o := .dK []) np
    have hR2 := hR1.same S1
    have hN2 := S1 _ _ hN1
    have hp2 : upd H1 p (.dK []) p = some (.dK []) := upd_same
    have B2 : But r H1 (upd H1 p (.dK [])) := But.of S1
    generalize upd H1 p (.dK []) = H2 at hR2 hN2 hp2 B2
    have at0' : atI [V.str n1, V.str n2, V.str n3] 0 = some (V.str n1) := rfl
    have at1' : atI [V.str n1, V.str n2, V.str n3] 1 = some (V.str n2) := rfl
    have at2' : atI [V.str n1, V.str n2, V.str n3] 2 = some (V.str n3) := rfl
    refine ⟨_, rfl, N, _, _, _, rfl, rfl, SqL.of hN2, at0', _, rfl, ?_⟩
    refine ⟨_, rfl, r, 3, rfl, hR2, by decide, by decide, fun H3 d1 d10 d11 hR3 B3 => ⟨_, _, rfl, rfl, _, _, rfl, rfl, .inl ⟨by omega, by omega⟩, ?_⟩⟩
    have hN3 := B3 _ _ Nr hN2
    have hp3 := B3 _ _ pr hp2
    refine ⟨_, rfl, N, _, _, _, rfl, rfl, SqL.of hN3, at1', _, rfl, ?_⟩
    refine ⟨_, rfl, N, _, _, _, rfl, rfl, SqL.of hN3, at2', ?_⟩
    refine ⟨_, rfl, r, 5, rfl, hR3, by decide, by decide, fun H4 d2 d20 d21 hR4 B4 => ⟨_, _, rfl, rfl, ?_⟩⟩
    have hp4 := B4 _ _ pr hp3
    refine ⟨hp4, kv (nuE n1 n2 n3 ((1 + d0) * (1 + d1)) (1 + d0) (1 + d2)), rfl, by show 4 ≤ 15; decide, ?_⟩
    rw [merge_kv (nuE_nd h3)]
    have np0 : H p = none := by
      cases e : H p with
      | none => rfl
      | some o =>
        have z := B1 _ _ pr e
        rw [np] at z
        cases z
    refine k _ p (1 + d0) (1 + d1) (1 + d2) (hR4.upd pr) (fun b o hb e => ?_) np0 upd_same (by omega) (by omega) (by omega) (by omega) (by omega) (by omega)
    rw [upd_ne (ne_of_none e np0)]
    exact B4 _ _ hb (B3 _ _ hb (B2 _ _ hb (B1 _ _ hb e)))
end
end K54
set_option maxHeartbeats 8000000
namespace K54
open PySem PySem.Spec PyProof.Rows L2

/-! ### _law_size -/
abbrev sLsz : Stmt := top 67
def NLsz : List Str := ["_law_rng_here", "_law_names_here", "_law_one", "_law_two", "_law_three", "_law_some"]
/-- the exponents of the three names that are drawn -/
def T8 : List (Int × Int × Int) := [(0, 0, 0), (1, 0, 0), (0, 1, 0), (0, 0, 1), (1, -1, 0), (1, 0, 1), (0, 2, 0), (2, -2, 0)]
def f8 (n1 n2 n3 : Str) (t : Int × Int × Int) (n : Str) : Int := if n = n1 then t.1 else if n = n2 then t.2.1 else if n = n3 then t.2.2 else 0
/-- as the law writes them -/
def E8 (n1 n2 n3 : Str) : List Es := [[], [(n1, 1)], [(n2, 1)], [(n3, 1)], [(n1, 1), (n2, -1)], [(n1, 1), (n3, 1)], [(n2, 2)], [(n1, 2), (n2, -2)]]
def spLsz : Sp := fun vs H Q _ => ∃ (r N : Addr) (n1 n2 n3 : Str), vs = [.ref r, .ref N] ∧ Rg H r ∧ N ≠ r ∧ H N = some (.lst [.str n1, .str n2, .str n3]) ∧ N3 n1 n2 n3 ∧
  ∀ H' D es t, Rg H' r → But r H H' → H D = none → H' D = some (.dK (kv es)) → t ∈ T8 → Md [n1, n2, n3] 2 (f8 n1 n2 n3 t) es → Q (.ref D) H'
theorem e8_ok {n1 n2 n3 : Str} (h : N3 n1 n2 n3) : ∀ es ∈ E8 n1 n2 n3, (es.map (·.1)).Nodup ∧ es.length ≤ 2 ∧ ∃ t ∈ T8, ∀ n, g0 es n = f8 n1 n2 n3 t n := by
  have h12 : n1 ≠ n2 := fun z => by have := h.nd; rw [z] at this; simp at this
  have h13 : n1 ≠ n3 := fun z => by have := h.nd; rw [z] at this; simp at this
  have h23 : n2 ≠ n3 := fun z => by have := h.nd; rw [z] at this; simp at this
  intro es he
  unfold E8 at he
  have gl : ∀ (a : Str) (v : Int) (r : Es) (n : Str), g0 ((a, v) :: r) n = if n = a then v else g0 r n := fun a v r n => by
    unfold g0
    rw [List.lookup_cons]
    by_cases e : n = a
    · rw [e]; simp
    · have e' : (n == a) = false := by simpa using e
      rw [e', if_neg e]
  have gn : ∀ n : Str, g0 [] n = 0 := fun n => rfl
  simp only [List.mem_cons, List.not_mem_nil, or_false] at he
  have fin : ∀ (es : Es) (t : Int × Int × Int), (es.map (·.1)).Nodup → es.length ≤ 2 → t ∈ T8 → g0 es n1 = t.1 → g0 es n2 = t.2.1 → g0 es n3 = t.2.2 → (∀ n, n ≠ n1 → n ≠ n2 → n ≠ n3 → g0 es n = 0) →
      (es.map (·.1)).Nodup ∧ es.length ≤ 2 ∧ ∃ t ∈ T8, ∀ n, g0 es n = f8 n1 n2 n3 t n := fun es t a b c d1 d2 d3 d4 => by
    refine ⟨a, b, t, c, fun n => ?_⟩
    unfold f8
    by_cases e1 : n = n1
    · rw [if_pos e1, e1, d1]
    · rw [if_neg e1]
      by_cases e2 : n = n2
      · rw [if_pos e2, e2, d2]
      · rw [if_neg e2]
        by_cases e3 : n = n3
        · rw [if_pos e3, e3, d3]
        · rw [if_neg e3, d4 n e1 e2 e3]
  have s1 : ∀ (x : Str) (v : Int), ([(x, v)].map (·.1) : List Str).Nodup := fun x v => by simp
  have s2 : ∀ (x y : Str) (v u : Int), x ≠ y → ([(x, v), (y, u)].map (·.1) : List Str).Nodup := fun x y v u hxy => by simpa using hxy
  have g1 : ∀ (x : Str) (v : Int), g0 [(x, v)] x = v := fun x v => by rw [gl, if_pos rfl]
  have g2 : ∀ (x y : Str) (v : Int), y ≠ x → g0 [(x, v)] y = 0 := fun x y v e => by rw [gl, if_neg e]; rfl
  rcases he with rfl | rfl | rfl | rfl | rfl | rfl | rfl | rfl
  · exact fin _ (0, 0, 0) List.Pairwise.nil (Nat.zero_le _) (by decide) rfl rfl rfl fun _ _ _ _ => rfl
  · exact fin _ (1, 0, 0) (s1 _ _) (by show 1 ≤ 2; decide) (by decide) (g1 _ _) (g2 _ _ _ h12.symm) (g2 _ _ _ h13.symm) fun n a _ _ => g2 _ _ _ a
  · exact fin _ (0, 1, 0) (s1 _ _) (by show 1 ≤ 2; decide) (by decide) (g2 _ _ _ h12) (g1 _ _) (g2 _ _ _ h23.symm) fun n _ a _ => g2 _ _ _ a
  · exact fin _ (0, 0, 1) (s1 _ _) (by show 1 ≤ 2; decide) (by decide) (g2 _ _ _ h13) (g2 _ _ _ h23) (g1 _ _) fun n _ _ a => g2 _ _ _ a
  · exact fin _ (1, -1, 0) (s2 _ _ _ _ h12) (by show 2 ≤ 2; decide) (by decide) (by rw [gl, if_pos rfl]) (by rw [gl, if_neg h12.symm, g1]) (by rw [gl, if_neg h13.symm, g2 _ _ _ h23.symm]) fun n a b _ => by rw [gl, if_neg a, g2 _ _ _ b]
  · exact fin _ (1, 0, 1) (s2 _ _ _ _ h13) (by show 2 ≤ 2; decide) (by decide) (by rw [gl, if_pos rfl]) (by rw [gl, if_neg h12.symm, g2 _ _ _ h23]) (by rw [gl, if_neg h13.symm, g1]) fun n a _ b => by rw [gl, if_neg a, g2 _ _ _ b]
  · exact fin _ (0, 2, 0) (s1 _ _) (by show 1 ≤ 2; decide) (by decide) (g2 _ _ _ h12) (g1 _ _) (g2 _ _ _ h23.symm) fun n _ a _ => g2 _ _ _ a
  · exact fin _ (2, -2, 0) (s2 _ _ _ _ h12) (by show 2 ≤ 2; decide) (by decide) (by rw [gl, if_pos rfl]) (by rw [gl, if_neg h12.symm, g1]) (by rw [gl, if_neg h13.symm, g2 _ _ _ h23.symm]) fun n a b _ => by rw [gl, if_neg a, g2 _ _ _ b]
theorem f8_md {n1 n2 n3 : Str} {t : Int × Int × Int} (ht : t ∈ T8) : (∀ n, n ∉ [n1, n2, n3] → f8 n1 n2 n3 t n = 0) ∧ ∀ n, -2 ≤ f8 n1 n2 n3 t n ∧ f8 n1 n2 n3 t n ≤ 2 := by
  have hb : ∀ t ∈ T8, (-2 ≤ t.1 ∧ t.1 ≤ 2) ∧ (-2 ≤ t.2.1 ∧ t.2.1 ≤ 2) ∧ (-2 ≤ t.2.2 ∧ t.2.2 ≤ 2) := by decide
  obtain ⟨b1, b2, b3⟩ := hb t ht
  refine ⟨fun n hn => ?_, fun n => ?_⟩
  · unfold f8
    rw [if_neg (fun e => hn (by simp [e])), if_neg (fun e => hn (by simp [e])), if_neg (fun e => hn (by simp [e]))]
  · unfold f8
    split
    · exact b1
    · split
      · exact b2
      · split
        · exact b3
        · omega
end K54
set_option maxHeartbeats 8000000
namespace K54
open PySem PySem.Spec PyProof.Rows L2
section
variable {σ : L2.St} {CH : Hp → V → Prop}
def LTE (CH : Hp → V → Prop) (te : TE) (σ : L2.St) : Prop := ∀ (H : Hp) (Q : VK), (∀ H' v, Same H H' → CH H' v → Q v H') → te σ H Q
def LTA (CH : Hp → V → Prop) (ta : TA) (σ : L2.St) (n : Nat) : Prop := ∀ (H : Hp) (Q : List V → Hp → Prop), (∀ H' vs, Same H H' → (∀ v ∈ vs, CH H' v) → vs.length = n → Q vs H') → ta σ H Q
theorem lta_nil : LTA CH tNil σ 0 := fun H Q k => k H [] (Same.refl H) (fun v hv => by cases hv) rfl
theorem lta_cons {te : TE} {tr : TA} {n : Nat} (mono : ∀ H H' v, CH H v → Same H H' → CH H' v) (h : LTE CH te σ) (hr : LTA CH tr σ n) : LTA CH (tCons te tr) σ (n + 1) := fun H Q k =>
  h H _ fun H1 v S1 c1 => hr H1 _ fun H2 vs S2 c2 l => k H2 (v :: vs) (S1.trans S2) (fun u hu => by
    rcases List.mem_cons.mp hu with rfl | hu
    · exact mono _ _ _ c1 S2
    · exact c2 u hu) (by rw [List.length_cons, l])
/-- a new dict that is one of those -/
def OneOf (L : List Es) (H : Hp) (v : V) : Prop := ∃ d es, v = .ref d ∧ H d = some (.dK (kv es)) ∧ es ∈ L
theorem one_mono {L : List Es} : ∀ H H' v, OneOf L H v → Same H H' → OneOf L H' v := fun H H' v ⟨d, es, a, b, c⟩ S => ⟨d, es, a, S _ _ b, c⟩
theorem lte_0 {L : List Es} (h : [] ∈ L) : LTE (OneOf L) tDNewK σ := fun H Q k p np => k _ _ (fresh_upd np) ⟨p, [], rfl, upd_same, h⟩
theorem lte_1 {L : List Es} {i : Nat} {n : Str} {v : Int} {tv : TE} (hi : σ[i]? = some (some (.str n))) (hv : ∀ (H : Hp) (Q : VK), Q (.int v) H → tv σ H Q) (h : [(n, v)] ∈ L) : LTE (OneOf L) (tDisp [(tVar i, tv)]) σ := fun H Q k p np => by
  refine ⟨_, hi, hv _ _ ⟨upd_same, kv [(n, v)], rfl, by show 1 ≤ 15; decide, ?_⟩⟩
  rw [merge_kv (by simp), upd_upd]
  exact k _ _ (fresh_upd np) ⟨p, _, rfl, upd_same, h⟩
theorem lte_2 {L : List Es} {i j : Nat} {n m : Str} {v u : Int} {tv tu : TE} (hi : σ[i]? = some (some (.str n))) (hj : σ[j]? = some (some (.str m))) (hv : ∀ (H : Hp) (Q : VK), Q (.int v) H → tv σ H Q) (hu : ∀ (H : Hp) (Q : VK), Q (.int u) H → tu σ H Q) (hnm : n ≠ m) (h : [(n, v), (m, u)] ∈ L) :
    LTE (OneOf L) (tDisp [(tVar i, tv), (tVar j, tu)]) σ := fun H Q k p np => by
  refine ⟨_, hi, hv _ _ ⟨_, hj, hu _ _ ⟨upd_same, kv [(n, v), (m, u)], rfl, by show 2 ≤ 15; decide, ?_⟩⟩⟩
  rw [merge_kv (by simpa using hnm), upd_upd]
  exact k _ _ (fresh_upd np) ⟨p, _, rfl, upd_same, h⟩
end
end K54
set_option maxHeartbeats 8000000
namespace K54
open PySem PySem.Spec PyProof.Rows L2
section
variable {P : Program} {w : World} {K : PySem.W.Frag} {mg : Str → Option Value} {base : Heap}
theorem scLsz : FnScope NLsz ["_law_rng_here", "_law_names_here"] (defScope sLsz) := ⟨rfl, rfl, rfl, by decide +kernel, rfl, by decide +kernel, by decide +kernel⟩
theorem ok_lsz {f fC fT : Addr} {fd fdC fdT : FuncData} (F : Fun K "_law_size" "_law_size" sLsz f fd)
    (GC : FnOk P w K mg base CX0 2 fC fdC ["_law_rng_here", "_law_some"] spChoice) (kC : PySem.W.keepIn K (.ref fC) = true) (bC : Binds K fdC ["_law_rng_here", "_law_some"] []) (gC : mg "_law_choice" = some (.ref fC))
    (GT : FnOk P w K mg base CX0 1 fT fdT ["_law_one", "_law_other"] spTimesL) (kT : PySem.W.keepIn K (.ref fT) = true) (bT : Binds K fdT ["_law_one", "_law_other"] []) (gT : mg "_law_times" = some (.ref fT)) :
    FnOk P w K mg base CX0 3 f fd ["_law_rng_here", "_law_names_here"] spLsz := by
  have GT2 := GT.mono (k := 2) (by decide)
  refine F.ok scLsz (fun vs H Q E h => ?_) (fun cdv A outer s H vs Q E hr h => ?_)
  · obtain ⟨r, N, n1, n2, n3, rfl, _⟩ := h
    rfl
  · obtain ⟨r, N, n1, n2, n3, rfl, hR, Nr, hN, h3, k⟩ := h
    have h12 : n1 ≠ n2 := fun z => by have := h3.nd; rw [z] at this; simp at this
    have h13 : n1 ≠ n3 := fun z => by have := h3.nd; rw [z] at this; simp at this
    have d1 : ∀ {i : Str} {j : Str}, True := trivial
    refine ⟨_, pss_cons (ps_asg (pv 1) (pg_unl rfl (pgs_cons (pg_name (i := 2) scLsz.nd rfl (Or.inl rfl)) (pgs_cons (pg_name (i := 3) scLsz.nd rfl (Or.inl rfl)) (pgs_cons (pg_name (i := 4) scLsz.nd rfl (Or.inl rfl)) pgs_nil)))))
      (pss_cons (ps_set (i := 5) scLsz.nd rfl (.inl rfl) (pe_lst (pa_cons pe_dnewK
        (pa_cons (pe_disp (pps_cons (pv 2) pe_int pps_nil) (by rfl) (by rfl) (fun z => by cases z) (by decide))
        (pa_cons (pe_disp (pps_cons (pv 3) pe_int pps_nil) (by rfl) (by rfl) (fun z => by cases z) (by decide))
        (pa_cons (pe_disp (pps_cons (pv 4) pe_int pps_nil) (by rfl) (by rfl) (fun z => by cases z) (by decide))
        (pa_cons (pe_disp (pps_cons (pv 2) pe_int (pps_cons (pv 3) (pe_un un_neg pe_int) pps_nil)) (by rfl) (by rfl) (fun z => by cases z) (by decide))
        (pa_cons (pe_disp (pps_cons (pv 2) pe_int (pps_cons (pv 4) pe_int pps_nil)) (by rfl) (by rfl) (fun z => by cases z) (by decide))
        (pa_cons (pe_disp (pps_cons (pv 3) pe_int pps_nil) (by rfl) (by rfl) (fun z => by cases z) (by decide))
        (pa_cons (pe_disp (pps_cons (pv 2) pe_int (pps_cons (pv 3) (pe_un un_neg pe_int) pps_nil)) (by rfl) (by rfl) (fun z => by cases z) (by decide)) pa_nil))))))))))
      (pss_one (ps_ret (pe_call (E := E0) GT2 hr (by rfl) gT kT bT .nil pass0 (pa_cons (pe_call (E := E0) GC hr (by rfl) gC kC bC .nil pass0 (pa_cons (pv 0) (pa_cons (pv 5) pa_nil))) (pa_cons pe_dnewK pa_nil)))))), ?_⟩
    refine ⟨_, rfl, N, _, rfl, SqL.of hN, rfl, _, _, rfl, _, _, rfl, _, _, rfl, rfl, ?_⟩
    have L8 : LTA (OneOf (E8 n1 n2 n3)) (tCons tDNewK (tCons (tDisp [(tVar 2, tC (.int 1))]) (tCons (tDisp [(tVar 3, tC (.int 1))]) (tCons (tDisp [(tVar 4, tC (.int 1))])
        (tCons (tDisp [(tVar 2, tC (.int 1)), (tVar 3, tUn (rU fun i => .int (-i)) (tC (.int 1)))]) (tCons (tDisp [(tVar 2, tC (.int 1)), (tVar 4, tC (.int 1))]) (tCons (tDisp [(tVar 3, tC (.int 2))])
        (tCons (tDisp [(tVar 2, tC (.int 2)), (tVar 3, tUn (rU fun i => .int (-i)) (tC (.int 2)))]) tNil))))))))
        [some (.ref r), some (.ref N), some (.str n1), some (.str n2), some (.str n3), none] 8 := by
      have m : ∀ H H' v, OneOf (E8 n1 n2 n3) H v → Same H H' → OneOf (E8 n1 n2 n3) H' v := one_mono
      refine lta_cons m (lte_0 (by simp [E8])) ?_
      refine lta_cons m (lte_1 (n := n1) (v := 1) rfl (fun _ _ q => q) (by simp [E8])) ?_
      refine lta_cons m (lte_1 (n := n2) (v := 1) rfl (fun _ _ q => q) (by simp [E8])) ?_
      refine lta_cons m (lte_1 (n := n3) (v := 1) rfl (fun _ _ q => q) (by simp [E8])) ?_
      refine lta_cons m (lte_2 (n := n1) (m := n2) (v := 1) (u := -1) rfl rfl (fun _ _ q => q) (fun _ _ q => ⟨1, rfl, q⟩) h12 (by simp [E8])) ?_
      refine lta_cons m (lte_2 (n := n1) (m := n3) (v := 1) (u := 1) rfl rfl (fun _ _ q => q) (fun _ _ q => q) h13 (by simp [E8])) ?_
      refine lta_cons m (lte_1 (n := n2) (v := 2) rfl (fun _ _ q => q) (by simp [E8])) ?_
      refine lta_cons m (lte_2 (n := n1) (m := n2) (v := 2) (u := -2) rfl rfl (fun _ _ q => q) (fun _ _ q => ⟨2, rfl, q⟩) h12 (by simp [E8])) ?_
      exact lta_nil
    dsimp only [tSeq, tAsg, tLst]
    refine L8 H _ fun H1 xs S1 hxs lxs => ?_
    refine ⟨by rw [lxs, sizeLine_eq]; decide, fun Z nZ => ?_⟩
    have hR1 := hR.same S1
    have Zr : Z ≠ r := (hR1.ne nZ).symm
    have S2 := fresh_upd (o := .lst xs) nZ
    refine ⟨_, rfl, _, rfl, r, Z, xs, rfl, hR1.same S2, Zr, upd_same, by rw [lxs]; decide, by rw [lxs]; decide, fun H3 v hv hR3 B3 => ?_⟩
    obtain ⟨d, es, rfl, hd, hes⟩ := one_mono _ _ _ (hxs v hv) S2
    obtain ⟨e1, e2, t, ht, e3⟩ := e8_ok h3 es hes
    have dr : d ≠ r := fun z => by
      obtain ⟨x, y, q, _⟩ := hR1.same S2
      rw [z, q] at hd
      cases hd
    have hd3 := B3 _ _ dr hd
    refine fun q0 nq => ?_
    have S4 := fresh_upd (o := .dK []) nq
    refine ⟨d, q0, es, [], rfl, S4 _ _ hd3, upd_same, e1, List.Pairwise.nil, by show es.length + 0 < 64; omega, fun H5 D rs S5 nD hD sd lk => ?_⟩
    have B5 : But r H H5 := (But.of (S1.trans S2)).trans (B3.trans (But.of (S4.trans S5)))
    have hR5 := hR3.same (S4.trans S5)
    have Dr : D ≠ r := ((hR3.same S4).ne nD).symm
    have nD0 : H D = none := by
      cases e : H D with
      | none => rfl
      | some o =>
        have z := ((But.of (S1.trans S2)).trans (B3.trans (But.of S4))) _ _ Dr e
        rw [nD] at z
        cases z
    obtain ⟨m1, m2⟩ := f8_md (n1 := n1) (n2 := n2) (n3 := n3) ht
    exact k H5 D rs t hR5 B5 nD0 hD ht ⟨sd, fun n => by rw [lk, e3]; congr 1; show _ + (0 : Int) = _; omega, m1, m2⟩
end
end K54
set_option maxHeartbeats 8000000
namespace K54
open PySem PySem.Spec PyProof.Rows L2

/-! ### _law_digit -/
abbrev sLdg : Stmt := top 69
def NLdg : List Str := ["_law_rng_here", "_law_names_here", "_law_kind", "_law_radix"]
structure Drn (n1 n2 n3 : Str) (m : M3) : Prop where
  r : ∃ t ∈ T8, Md [n1, n2, n3] 2 (f8 n1 n2 n3 t) m.r
  f : ∃ t ∈ T8, Md [n1, n2, n3] 2 (f8 n1 n2 n3 t) m.f
def spLdg : Sp := fun vs H Q _ => ∃ (r N : Addr) (n1 n2 n3 : Str), vs = [.ref r, .ref N] ∧ Rg H r ∧ N ≠ r ∧ H N = some (.lst [.str n1, .str n2, .str n3]) ∧ N3 n1 n2 n3 ∧
  ∀ H' T m, Rg H' r → But r H H' → H T = none → MAt H' T m → Drn n1 n2 n3 m → Q (.ref T) H'
theorem none_but {r b : Addr} {H H' : Hp} (B : But r H H') (hb : b ≠ r) (n : H' b = none) : H b = none := by
  cases e : H b with
  | none => rfl
  | some o =>
    have z := B _ _ hb e
    rw [n] at z
    cases z
section
variable {P : Program} {w : World} {K : PySem.W.Frag} {mg : Str → Option Value} {base : Heap}
theorem scLdg : FnScope NLdg ["_law_rng_here", "_law_names_here"] (defScope sLdg) := ⟨rfl, rfl, rfl, by decide +kernel, rfl, by decide +kernel, by decide +kernel⟩
theorem ok_ldg {f fC fS : Addr} {fd fdC fdS : FuncData} (F : Fun K "_law_digit" "_law_digit" sLdg f fd)
    (GC : FnOk P w K mg base CX0 2 fC fdC ["_law_rng_here", "_law_some"] spChoice) (kC : PySem.W.keepIn K (.ref fC) = true) (bC : Binds K fdC ["_law_rng_here", "_law_some"] []) (gC : mg "_law_choice" = some (.ref fC))
    (GS : FnOk P w K mg base CX0 3 fS fdS ["_law_rng_here", "_law_names_here"] spLsz) (kS : PySem.W.keepIn K (.ref fS) = true) (bS : Binds K fdS ["_law_rng_here", "_law_names_here"] []) (gS : mg "_law_size" = some (.ref fS)) :
    FnOk P w K mg base CX0 4 f fd ["_law_rng_here", "_law_names_here"] spLdg := by
  have GC3 := GC.mono (k := 3) (by decide)
  refine F.ok scLdg (fun vs H Q E h => ?_) (fun cdv A outer s H vs Q E hr h => ?_)
  · obtain ⟨r, N, n1, n2, n3, rfl, _⟩ := h
    rfl
  · obtain ⟨r, N, n1, n2, n3, rfl, hR, Nr, hN, h3, k⟩ := h
    refine ⟨_, pss_cons (ps_par (i := 2) (j := 3) (by rfl) scLdg.nd rfl rfl (by decide) rfl rfl (pa_cons (pe_call (E := E0) GC3 hr (by rfl) gC kC bC .nil pass0 (pa_cons (pv 0) (pa_cons (pe_lst (pa_cons pe_str (pa_cons pe_str (pa_cons pe_str (pa_cons pe_str pa_nil))))) pa_nil)))
        (pa_cons (pe_call (E := E0) GS hr (by rfl) gS kS bS .nil pass0 (pa_cons (pv 0) (pa_cons (pv 1) pa_nil))) pa_nil)) (by rfl))
      (pss_one (ps_ret (pe_tup (pa_cons (pv 2) (pa_cons (pv 3) (pa_cons (pe_ifExp (pt_cmpR op_eq (pv 2) pe_str (nomark _)) pe_non (pe_call (E := E0) GS hr (by rfl) gS kS bS .nil pass0 (pa_cons (pv 0) (pa_cons (pv 1) pa_nil)))) pa_nil)))))), ?_⟩
    refine ⟨_, rfl, by rw [sizeLine_eq]; show 4 ≤ 16777216; decide, fun Z nZ => ?_⟩
    have Zr : Z ≠ r := (hR.ne nZ).symm
    have S1 := fresh_upd (o := .lst [V.str "unused", V.str "straight", V.str "straight", V.str "turned"]) nZ
    refine ⟨r, Z, _, rfl, hR.same S1, Zr, upd_same, by decide, by decide, fun H2 v hv hR2 B2 => ?_⟩
    have B02 : But r H H2 := (But.of S1).trans B2
    obtain ⟨kd, hk, rfl⟩ : ∃ kd, kd < 3 ∧ v = V.str (wayD kd) := by
      simp only [List.mem_cons, List.not_mem_nil, or_false] at hv
      rcases hv with rfl | rfl | rfl | rfl
      · exact ⟨0, by decide, rfl⟩
      · exact ⟨1, by decide, rfl⟩
      · exact ⟨1, by decide, rfl⟩
      · exact ⟨2, by decide, rfl⟩
    refine ⟨_, rfl, _, rfl, r, N, n1, n2, n3, rfl, hR2, Nr, B02 _ _ Nr hN, h3, fun H3 D es t hR3 B3 nD hD ht hm => ?_⟩
    have B03 := B02.trans B3
    refine ⟨_, _, rfl, _, rfl, _, rfl, _, rfl, rfl, _, rfl, ?_⟩
    by_cases k0 : kd = 0
    · refine iteT' (decide_eq_true (congrArg V.str ((way_eq hk).1.mpr k0))) ?_
      refine ⟨by rw [sizeLine_eq]; show 3 ≤ 16777216; decide, fun T nT => ?_⟩
      have Tr : T ≠ r := (hR3.ne nT).symm
      have S4 := fresh_upd (o := .tup [V.str (wayD kd), V.ref D, V.non]) nT
      refine k _ T ⟨kd, es, []⟩ (hR3.same S4) (B03.trans (But.of S4)) (none_but B03 Tr nT) ⟨D, .non, upd_same, S4 _ _ hD, .inl ⟨k0, rfl, rfl⟩, hk⟩ ⟨⟨t, ht, hm⟩, (0, 0, 0), by decide, List.Pairwise.nil, fun n => ?_, fun n _ => ?_, fun n => ?_⟩
      all_goals
        have z : f8 n1 n2 n3 (0, 0, 0) n = 0 := by
          unfold f8
          dsimp only
          split
          · rfl
          · split
            · rfl
            · split <;> rfl
        first
          | (rw [z]; done)
          | (rw [z]; rfl)
          | (rw [z]; decide)
    · refine iteN' (fun z => k0 ((way_eq hk).1.mp (V.str.inj z))) ?_
      refine ⟨_, rfl, _, rfl, r, N, n1, n2, n3, rfl, hR3, Nr, B03 _ _ Nr hN, h3, fun H4 D2 fs u hR4 B4 nD2 hD2 hu hmu => ?_⟩
      have Dr : D ≠ r := fun z => by
        obtain ⟨x, y, q, _⟩ := hR3
        rw [z, q] at hD
        cases hD
      have hD4 := B4 _ _ Dr hD
      have B04 := B03.trans B4
      refine ⟨by rw [sizeLine_eq]; show 3 ≤ 16777216; decide, fun T nT => ?_⟩
      have Tr : T ≠ r := (hR4.ne nT).symm
      have S4 := fresh_upd (o := .tup [V.str (wayD kd), V.ref D, V.ref D2]) nT
      exact k _ T ⟨kd, es, fs⟩ (hR4.same S4) (B04.trans (But.of S4)) (none_but B04 Tr nT) ⟨D, .ref D2, upd_same, S4 _ _ hD4, .inr ⟨k0, D2, rfl, S4 _ _ hD2⟩, hk⟩ ⟨⟨t, ht, hm⟩, u, hu, hmu⟩
end
end K54
set_option maxHeartbeats 8000000
namespace K54
open PySem PySem.Spec PyProof.Rows L2

/-! ### what the drawn digits are at the drawn numbers -/
theorem md_nice {n1 n2 n3 : Str} {t : Int × Int × Int} {es : Es} (h3 : N3 n1 n2 n3) (h : Md [n1, n2, n3] 2 (f8 n1 n2 n3 t) es) : Nice es :=
  ⟨h.sd, h.nm h3.pool, h.nz, fun q hq => h.bq hq, by
    have z := sub_len (es.map (·.1)) [n1, n2, n3] h.sd.nodup fun x hx => by
      obtain ⟨q, hq, e⟩ := List.mem_map.mp hx
      rw [← e]
      exact h.key hq
    rw [List.length_map] at z
    exact z⟩
theorem drn_nice {n1 n2 n3 : Str} {m : M3} (h3 : N3 n1 n2 n3) (h : Drn n1 n2 n3 m) : NiceM m ∧ MdD [n1, n2, n3] m := by
  obtain ⟨⟨t, ht, h1⟩, u, hu, h2⟩ := h
  exact ⟨⟨md_nice h3 h1, md_nice h3 h2⟩, h1.congr (fun n => (h1.g n).symm) (Int.le_refl _), h2.congr (fun n => (h2.g n).symm) (Int.le_refl _)⟩
def upT (x y z : Nat) (t : Int × Int × Int) : Nat := x ^ t.1.toNat * (y ^ t.2.1.toNat * (z ^ t.2.2.toNat * 1))
def dnT (x y z : Nat) (t : Int × Int × Int) : Nat := x ^ (-t.1).toNat * (y ^ (-t.2.1).toNat * (z ^ (-t.2.2).toNat * 1))
theorem t8_val : ∀ l ∈ [1, 2, 3, 4], ∀ k ∈ [1, 2, 3], ∀ c ∈ [1, 2, 3, 4, 5], ∀ t ∈ T8, upT (l * k) l c t % dnT (l * k) l c t = 0 ∧ upT (l * k) l c t / dnT (l * k) l c t ≤ 256 := by decide +kernel
theorem f8_at {n1 n2 n3 : Str} (h3 : N3 n1 n2 n3) (t : Int × Int × Int) : f8 n1 n2 n3 t n1 = t.1 ∧ f8 n1 n2 n3 t n2 = t.2.1 ∧ f8 n1 n2 n3 t n3 = t.2.2 := by
  have h12 : n1 ≠ n2 := fun z => by have := h3.nd; rw [z] at this; simp at this
  have h13 : n1 ≠ n3 := fun z => by have := h3.nd; rw [z] at this; simp at this
  have h23 : n2 ≠ n3 := fun z => by have := h3.nd; rw [z] at this; simp at this
  unfold f8
  exact ⟨by rw [if_pos rfl], by rw [if_neg h12.symm, if_pos rfl], by rw [if_neg h13.symm, if_neg h23.symm, if_pos rfl]⟩
theorem nu_at {n1 n2 n3 : Str} (h3 : N3 n1 n2 n3) (a l c : Int) : nOf (nuE n1 n2 n3 a l c) n1 = a.toNat ∧ nOf (nuE n1 n2 n3 a l c) n2 = l.toNat ∧ nOf (nuE n1 n2 n3 a l c) n3 = c.toNat := by
  have nd := nuE_nd (a := a) (l := l) (c := c) h3
  have g : ∀ (q : Str × Int), q ∈ nuE n1 n2 n3 a l c → nOf (nuE n1 n2 n3 a l c) q.1 = q.2.toNat := fun q hq => by
    unfold nOf g0
    rw [lookG nd hq]
    rfl
  exact ⟨g (n1, a) (by simp [nuE]), g (n2, l) (by simp [nuE]), g (n3, c) (by simp [nuE])⟩
theorem ine_ok {n1 n2 n3 : Str} {t : Int × Int × Int} {es : Es} {l k c : Int} (h3 : N3 n1 n2 n3) (ht : t ∈ T8) (h : Md [n1, n2, n3] 2 (f8 n1 n2 n3 t) es) (l1 : 1 ≤ l) (l4 : l ≤ 4) (k1 : 1 ≤ k) (k3 : k ≤ 3) (c1 : 1 ≤ c) (c5 : c ≤ 5) :
    InE (nuE n1 n2 n3 (l * k) l c) es ∧ valS (nuE n1 n2 n3 (l * k) l c) es ≤ 256 := by
  obtain ⟨a1, a2, a3⟩ := f8_at h3 t
  obtain ⟨b1, b2, b3⟩ := nu_at h3 (l * k) l c
  have u : upV es (nOf (nuE n1 n2 n3 (l * k) l c)) = upT (l.toNat * k.toNat) l.toNat c.toNat t := by
    rw [upV_md h h3.pool]
    show nOf _ n1 ^ (f8 n1 n2 n3 t n1).toNat * (nOf _ n2 ^ (f8 n1 n2 n3 t n2).toNat * (nOf _ n3 ^ (f8 n1 n2 n3 t n3).toNat * 1)) = _
    rw [a1, a2, a3, b1, b2, b3, show (l * k).toNat = l.toNat * k.toNat from Int.toNat_mul (by omega) (by omega)]
    rfl
  have d : dnV es (nOf (nuE n1 n2 n3 (l * k) l c)) = dnT (l.toNat * k.toNat) l.toNat c.toNat t := by
    rw [dnV_mdN h h3.pool]
    show nOf _ n1 ^ (-(f8 n1 n2 n3 t n1)).toNat * (nOf _ n2 ^ (-(f8 n1 n2 n3 t n2)).toNat * (nOf _ n3 ^ (-(f8 n1 n2 n3 t n3)).toNat * 1)) = _
    rw [a1, a2, a3, b1, b2, b3, show (l * k).toNat = l.toNat * k.toNat from Int.toNat_mul (by omega) (by omega)]
    rfl
  have hl : l.toNat ∈ [1, 2, 3, 4] := by
    have : l.toNat = 1 ∨ l.toNat = 2 ∨ l.toNat = 3 ∨ l.toNat = 4 := by omega
    simpa using this
  have hk : k.toNat ∈ [1, 2, 3] := by
    have : k.toNat = 1 ∨ k.toNat = 2 ∨ k.toNat = 3 := by omega
    simpa using this
  have hc : c.toNat ∈ [1, 2, 3, 4, 5] := by
    have : c.toNat = 1 ∨ c.toNat = 2 ∨ c.toNat = 3 ∨ c.toNat = 4 ∨ c.toNat = 5 := by omega
    simpa using this
  obtain ⟨v1, v2⟩ := t8_val _ hl _ hk _ hc t ht
  refine ⟨⟨fun q hq => ?_, ?_⟩, ?_⟩
  · have z := h.key hq
    simp only [List.mem_cons, List.not_mem_nil, or_false] at z
    rcases z with z | z | z <;> rw [z] <;> simp [nuE]
  · rw [u, d]
    exact Nat.dvd_of_mod_eq_zero v1
  · unfold valS
    rw [u, d]
    exact v2
theorem drn_in {n1 n2 n3 : Str} {m : M3} {l k c : Int} (h3 : N3 n1 n2 n3) (h : Drn n1 n2 n3 m) (l1 : 1 ≤ l) (l4 : l ≤ 4) (k1 : 1 ≤ k) (k3 : k ≤ 3) (c1 : 1 ≤ c) (c5 : c ≤ 5) : InM (nuE n1 n2 n3 (l * k) l c) m ∧ valS (nuE n1 n2 n3 (l * k) l c) m.r ≤ 256 := by
  obtain ⟨⟨t, ht, h1⟩, u, hu, h2⟩ := h
  have z := ine_ok h3 ht h1 l1 l4 k1 k3 c1 c5
  exact ⟨⟨z.1, (ine_ok h3 hu h2 l1 l4 k1 k3 c1 c5).1⟩, z.2⟩
end K54
set_option maxHeartbeats 8000000
namespace K54
open PySem PySem.Spec PyProof.Rows L2

/-! ### xs != ys, two lists that are equal item by item (own == among them) -/
section
open PySem.MeetsSeq PySem.MeetsSeq2 PySem.MeetsSeq3
open PySem.AutoSeq1 (wpAny_loadPart')
variable {prog : Program} {w : World} {A : Around}
theorem ne_loopG {R : Result → Shared → Prop} (l b : Addr) (N : Nat) (I : Nat → Shared → Prop) (hl : GQ.ListI prog w A (fun e s' => R (.error e) s') l b N I)
    (fin : ∀ s, I N s → R (.ok (.ret (.bool false))) s) (m : Nat) : ∀ i : Nat, N - i = m → i ≤ N → ∀ s, I i s →
      wpAny (model prog w) A.in1 (Builtin.«list.__eq__.loop» ⟨[.ref l, .ref b, rawInt i, rawInt 3], []⟩) (GQ.FinOf prog w A R) (fun e s' => R (.error e) s') s := by
  induction m with
  | zero =>
    intro i hm hi s h
    obtain ⟨xs1, xs2, n, n2, hl1, hb1, hs1, hs2, _⟩ := hl _ _ h
    have hi' : i = N := by omega
    have hR : R (.ok (.ret (.bool false))) s := fin s (hi' ▸ h)
    obtain ⟨hp, g, d, tk, os⟩ := s
    wp_walk using wpAny_loadPart' hl1, wpAny_loadPart' hb1
    have z1 : xs1[((i : Nat) : Int).toNat]? = none := by simp; omega
    have z2 : xs2[((i : Nat) : Int).toNat]? = none := by simp; omega
    rw [z1, z2]
    wp_walk using wpAny_loadPart' hl1, wpAny_loadPart' hb1
    show R (.ok (.ret (.bool (xs1.size != xs2.size)))) _
    rw [hs1, hs2]
    simpa using hR
  | succ m ih =>
    intro i hm hi s h
    obtain ⟨xs1, xs2, n, n2, hl1, hb1, hs1, hs2, turn⟩ := hl _ _ h
    have l1 : i < xs1.size := by omega
    have l2 : i < xs2.size := by omega
    have ht := turn l1 l2
    obtain ⟨hp, g, d, tk, os⟩ := s
    wp_walk using wpAny_loadPart' hl1, wpAny_loadPart' hb1
    have z1 : xs1[((i : Nat) : Int).toNat]? = some xs1[i] := by simp [l1]
    have z2 : xs2[((i : Nat) : Int).toNat]? = some xs2[i] := by simp [l2]
    have hc : ((i : Int) + 1) = ((i + 1 : Nat) : Int) := by omega
    rw [z1, z2]
    refine wpAny_bind (wpAny_mono ht (fun r s2 h2 => ?_) fun _ _ x => x)
    obtain ⟨rfl, h2⟩ := h2
    have hrec := ih (i + 1) (by omega) (by omega) s2 h2
    obtain ⟨hp2, g2, d2, tk2, os2⟩ := s2
    wp_walk
    rw [hc]
    exact ⟨plainId_quiet plain_eq_loop _, codeAny_builtin entry_eq_loop (by rw [Around.under_plainId plain_eq_loop _]; exact hrec)⟩
theorem list_neG {R : Result → Shared → Prop} (l b : Addr) (N : Nat) (I : Nat → Shared → Prop) (hl : GQ.ListI prog w A (fun e s' => R (.error e) s') l b N I)
    (fin : ∀ s, I N s → R (.ok (.ret (.bool false))) s) {s : Shared} (h : I 0 s) :
    wpAny (model prog w) A.in1 (Builtin.«list.__ne__» ⟨[.ref l, .ref b], []⟩) (GQ.FinOf prog w A R) (fun e s' => R (.error e) s') s := by
  obtain ⟨xs1, xs2, n, n2, hl1, hb1, hs1, hs2, _⟩ := hl _ _ h
  have hrec := ne_loopG (A := A) (R := R) l b N I hl fin _ 0 rfl (Nat.zero_le _) s h
  obtain ⟨hp, g, d, tk, os⟩ := s
  have f3 := AutoSeq1.sub_list_list
  have hne : ¬ (xs1.size != xs2.size) = true := by simp [hs1, hs2]
  wp_walk using wpAny_loadPart' hl1, wpAny_loadPart' hb1
  exact ⟨plainId_quiet plain_eq_loop _, codeAny_builtin entry_eq_loop (by rw [Around.under_plainId plain_eq_loop _]; exact hrec)⟩
theorem rn_listG {E : Value → Shared → Prop} {s : Shared} {l b : Addr} {N : Nat} {Q : Value → Shared → Prop} (hu : A.units < cLine) (I : Nat → Shared → Prop) (hl : GQ.ListI prog w A E l b N I)
    (fin : ∀ s, I N s → Q (.bool false) s) (h : I 0 s) : wpAny (model prog w) A (richCompare .NotEq (.ref l) (.ref b)) Q E s := by
  obtain ⟨xs1, xs2, n, n2, hl1, hb1, _, _, _⟩ := hl _ _ h
  refine wpAny_richCompare_same_room (op := .NotEq) ⟨_, hl1, rfl⟩ ⟨_, hb1, rfl⟩ F.slot_list_ne (GQ.call_here F.slot_list_ne ⟨_, hl1, rfl⟩ F.entry_list_ne (F.args_list_ne_2 _ _) ?_) hu
  exact list_neG (R := wants (fun v s' => v ≠ .notImplemented ∧ Q v s') E) l b N I hl (fun s' q => ⟨(fun x => nomatch x), fin s' q⟩) h
end
def rNeG (D : Eqv) : R2 := fun x y H Q => DList D x y H ∧ ∀ H', Same H H' → Q (.bl false) H'
section
variable {X : Cx} {n : Nat} {D : Eqv}
theorem op_neG (hD : Mon D) (h : EqG X n D) (hr : Room (n + 1) X.A) : OpR X (compareOp .NotEq) (rNeG D) := by
  intro pins s σ H x y v u Q I rx ry hq
  obtain ⟨⟨a, b, xs, ys, rfl, rfl, ha, hb, p⟩, q⟩ := hq
  cases rx
  cases ry
  have sb : Sub X (n + 1) X.A := ⟨hr, rfl⟩
  show wpAny (model X.prog X.w) X.A (richCompare .NotEq (.ref a) (.ref b)) (EP X pins σ Q) X.xe s
  refine rn_listG (N := xs.length) sb.room.units0 (fun _ s' => LoopI X pins σ H s') (fun i s' z => ?_) (fun s' z => ?_) ⟨H, I, Ext.rfl'⟩
  · obtain ⟨H1, I1, e1⟩ := id z
    obtain ⟨z1, its, k, r, e⟩ := I1.hok a _ (e1 _ _ ha)
    obtain ⟨z2, its2, k2, r2, e2⟩ := I1.hok b _ (e1 _ _ hb)
    refine ⟨its.toArray, its2.toArray, k, k2, e, e2, by rw [List.size_toArray, ← r.length], by rw [List.size_toArray, ← r2.length, ← p.1], fun h1 h2 => ?_⟩
    exact turnG hD h sb p r r2 i h1 h2 s' z
  · obtain ⟨H1, I1, e1⟩ := z
    exact ⟨.bl false, H1, I1, rfl, q H1 e1⟩
end
end K54
set_option maxHeartbeats 8000000
namespace K54
open PySem PySem.Spec PyProof.Rows L2

/-! ### two dicts of the same exponents -/
def DEs : Eqv := fun x y H => ∃ (a b : Addr) (es : Es), x = .ref a ∧ y = .ref b ∧ H a = some (.dK (kv es)) ∧ H b = some (.dK (kv es)) ∧ SdE es
theorem mon_es : Mon DEs := fun x y H H' e ⟨a, b, es, p, q, h1, h2, h3⟩ => ⟨a, b, es, p, q, e _ _ h1, e _ _ h2, h3⟩
theorem eqG_es {X : Cx} {n : Nat} : EqG X n DEs := by
  intro A pins s σ H x y u v sb I rx ry ⟨a, b, es, e1, e2, ea, eb, he⟩
  subst e1 e2
  cases rx
  cases ry
  by_cases hab : a = b
  · subst hab
    exact SeqAt.EqAt.same (A := A) (s := s) (.ref a) X.prog X.w X.xe _ ⟨rfl, H, I, Ext.rfl'⟩
  · refine GQ.eqBool_refG hab ?_
    obtain ⟨_, ya, va, ra, da⟩ := (show ObjOk X.prog X.w H s.heap a (.dK (kv es)) from I.hok a _ ea)
    obtain ⟨_, yb, vb, rb, db⟩ := (show ObjOk X.prog X.w H s.heap b (.dK (kv es)) from I.hok b _ eb)
    refine PySem.W.keq_eq (knd := mixKind X.prog X.w) (r := hitR es es) ya yb da db sb.room.units0 (fun _ => hits_int rb ra) ?_
    rw [← ra.length, ← rb.length, kv_len, eq_hit he he, decide_eq_true rfl]
    first
      | exact ⟨true, rfl, rfl, H, I, Ext.rfl'⟩
      | exact fun tk => ⟨true, rfl, rfl, H, I.tok tk, Ext.rfl'⟩
end K54
set_option maxHeartbeats 8000000
namespace K54
open PySem PySem.Spec PyProof.Rows L2

/-! ### len(o), o an instance with an own __len__ -/
def rLenO (C : Addr) (sp : Sp) (E : XK) : List V → Hp → VK → Prop := fun xs H Q => ∃ (a dx : Addr) (fs : List (Str × V)), xs = [.ref a] ∧ H a = some (.ins C dx fs) ∧
  sp [.ref a] H (fun v H' => ∃ i : Int, v = .int i ∧ 0 ≤ i ∧ i < 2 ^ 63 ∧ Q (.int i) H') E
section
variable {X : Cx} {CX : CXT} {C f : Addr} {fd : FuncData} {ps : List Str} {sp : Sp} {E : XK} {n : Nat}
theorem call_lenO (F : FnOk X.prog X.w X.K X.mg X.base CX n f fd ps sp) (hr : Room (n + 1) X.A) (hs : PySem.W.findIn X.K (.ref C) "__len__" = some (some (.ref f))) (hf : PySem.W.isFn X.K (.ref f) = true)
    (hb : Binds X.K fd ps []) (hx : Passes CX X E) : CallR X (.builtin "len") (rLenO C sp E) := by
  intro pins s σ H xs us Q I r h
  obtain ⟨a, dx, fs, rfl, ha, hsp⟩ := h
  obtain ⟨u, rfl, ru⟩ := vals1 r
  cases (show u = Value.ref a from ru)
  obtain ⟨mA, J, _⟩ := ins_get I.hok ha
  obtain ⟨od, J, _⟩ := J.look
  obtain ⟨m, hF⟩ := I.fr
  refine PySem.W.len_K hF I.ok.mod.kin J hs hf ?_
  have e0 : Env0 X.prog X.w X.K X.mg X.base X.A.in1 X.stack s H := by
    have e := I.env0
    exact ⟨e.frames, e.mod, e.bs, e.bsz, e.funs, e.frf, e.hok, e.bare⟩
  have hl := F.len _ _ _ _ hsp
  have r2 : Vals [V.ref a] [Value.ref a] := .cons rfl .nil
  refine wpAny_call (codeAny_mono (F.run X.A.in1 X.stack s H ⟨[.ref a], []⟩ [.ref a] [.ref a] _ E hr.in1 e0 (by
    have := hb s [.ref a] I.kIn (by simpa using hl)
    simpa using this) r2 hsp) fun r s' hq => ?_)
  cases r with
  | error e => exact hx pins σ H s e s' I hq
  | ok fl =>
    cases fl with
    | ret w =>
      obtain ⟨z, H', I', rz, i, ez, i0, i1, ex⟩ := I.after hq
      subst ez
      obtain ⟨t, rfl⟩ := (show ∃ t, w = Value.int i t from rz)
      exact ⟨⟨i0, i1⟩, .int i, H', I'.tok _, ⟨_, rfl⟩, ex⟩
    | next => exact False.elim hq
    | brk => exact False.elim hq
    | cont => exact False.elim hq
end
end K54
set_option maxHeartbeats 8000000
namespace K54
open PySem PySem.Spec PyProof.Rows L2

/-! ### repr(o), an own __repr__ that wants free guards -/
section
variable {X : Cx} {C f : Addr} {fd : FuncData} {ps : List Str} {sp : Sp} {n : Nat}
theorem call_reprG (F : FnG X.prog X.w X.K X.mg X.base n f fd ps sp) (hgu : X.A.guards = some []) (hr : Room (n + 1) X.A) (hs : PySem.W.findIn X.K (.ref C) "__repr__" = some (some (.ref f))) (hf : PySem.W.isFn X.K (.ref f) = true)
    (hb : Binds X.K fd ps []) : CallR X (.builtin "repr") (rStrO C sp E0) := by
  intro pins s σ H xs us Q I r h
  obtain ⟨a, dx, fs, rfl, ha, hsp⟩ := h
  obtain ⟨u, rfl, ru⟩ := vals1 r
  cases (show u = Value.ref a from ru)
  obtain ⟨mA, J, _⟩ := ins_get I.hok ha
  obtain ⟨od, J, _⟩ := J.look
  obtain ⟨m, hF⟩ := I.fr
  refine PySem.W.repr_K (by have := hr.units; show X.A.units + 1 < cLine; omega) hF I.ok.mod.kin J hs hf ?_
  have e0 : Env0 X.prog X.w X.K X.mg X.base X.A.in1 X.stack s H := by
    have e := I.env0
    exact ⟨e.frames, e.mod, e.bs, e.bsz, e.funs, e.frf, e.hok, e.bare⟩
  have hl := F.len _ _ _ hsp
  have r2 : Vals [V.ref a] [Value.ref a] := .cons rfl .nil
  refine wpAny_call (codeAny_mono (F.run X.A.in1 X.stack s H ⟨[.ref a], []⟩ [.ref a] [.ref a] _ hgu hr.in1 e0 (by
    have := hb s [.ref a] I.kIn (by simpa using hl)
    simpa using this) r2 hsp) fun r s' hq => ?_)
  cases r with
  | error e => exact False.elim hq
  | ok fl =>
    cases fl with
    | ret w =>
      obtain ⟨z, H', I', rz, x, ez, ex⟩ := I.after hq
      subst ez
      obtain ⟨t, rfl⟩ := (show ∃ t, w = Value.str x t from rz)
      exact ⟨.str x, H', I', ⟨t, rfl⟩, ex⟩
    | next => exact False.elim hq
    | brk => exact False.elim hq
    | cont => exact False.elim hq
end
end K54
set_option maxHeartbeats 8000000
namespace K54
open PySem PySem.Spec PyProof.Rows L2 TL

/-! ### _law_told_right: what it wants, texts -/
abbrev sTld : Stmt := top 79
def NTld : List Str := ["_law_row", "_law_models", "_law_digits", "_law_cuts_here", "_law_digit_here", "_law_model", "_law_size_here"]
structure Kt (P : Program) (w : World) (K : PySem.W.Frag) (mg : Str → Option Value) (base : Heap) (C DD CR : Addr) (cl : Nat → Addr) : Prop where
  a : Dall P w K mg base C DD cl
  c : Rq K mg CR
  z : MkS P w K mg base C
  tc : Ck K mg C
  dg : ∃ f fd, Meth K CR "digits" f ∧ FnOk P w K mg base CX0 1 f fd ["self"] (spRwD CR C cl) ∧ Binds K fd ["self"] []
  cu : ∃ f fd, Meth K CR "cuts" f ∧ FnOk P w K mg base CX0 7 f fd ["self"] (spRwC CR C cl) ∧ Binds K fd ["self"] []
  to : ∃ p g fd, PropOf K CR "total" p g ∧ FnOk P w K mg base CX0 7 g fd ["self"] (spRwT CR C cl) ∧ Binds K fd ["self"] []
  ln : ∃ f fd, FnOk P w K mg base CX0 1 f fd ["self"] (spRwL CR C cl) ∧ PySem.W.findIn K (.ref CR) "__len__" = some (some (.ref f)) ∧ PySem.W.isFn K (.ref f) = true ∧ Binds K fd ["self"] []
  rp : ∃ f fd, FnG P w K mg base 11 f fd ["self"] (spRwP CR C cl) ∧ PySem.W.findIn K (.ref CR) "__repr__" = some (some (.ref f)) ∧ PySem.W.isFn K (.ref f) = true ∧ Binds K fd ["self"] []
  ex : ∃ f fd, Meth K C "exponents" f ∧ FnOk P w K mg base CX0 1 f fd ["self"] (spExpo C) ∧ Binds K fd ["self"] []
  me : PySem.W.mroIn K C (.type "object") = some true
  ne : PySem.W.findIn K (.ref C) "__ne__" = some (some (.builtin "object.__ne__"))
  lc : ∃ f fd, FnOk P w K mg base CX0 2 f fd ["_law_models"] spLcu ∧ PySem.W.keepIn K (.ref f) = true ∧ Binds K fd ["_law_models"] [] ∧ mg "_law_cuts" = some (.ref f)
  isd : ∃ f fd, FnOk P w K mg base CX0 8 f fd ["_law_digit_here", "_law_model"] (spIsd C cl) ∧ PySem.W.keepIn K (.ref f) = true ∧ Binds K fd ["_law_digit_here", "_law_model"] [] ∧ mg "_law_is_digit" = some (.ref f)
  otw : ∃ f fd, FnOk P w K mg base CX0 1 f fd ["_law_model"] spOtw ∧ PySem.W.keepIn K (.ref f) = true ∧ Binds K fd ["_law_model"] [] ∧ mg "_law_other_way" = some (.ref f)
  dtx : ∃ f fd, FnOk P w K mg base CX0 2 f fd ["_law_model"] spDtx ∧ PySem.W.keepIn K (.ref f) = true ∧ Binds K fd ["_law_model"] [] ∧ mg "_law_digit_text" = some (.ref f)
  lenN : mg "len" = none
  allN : mg "all" = none
  zipN : mg "zip" = none
  reprN : mg "repr" = none
def spTld (CR C : Addr) (cl : Nat → Addr) : Sp := fun vs H Q _ => ∃ (R M : Addr) (ts : List Addr) (ms : List M3) (ns : List Str), vs = [.ref R, .ref M] ∧ RowAt CR C cl H R ms ∧ H M = some (.lst (ts.map V.ref)) ∧ Paired (MAt H) ts ms ∧ Pool ns ∧
  (∀ m ∈ ms, NiceM m ∧ MdD ns m) ∧ ms.length ≤ 8 ∧ ∀ H', Same H H' → Q (.bl true) H'
theorem dT_len {m : M3} (h : NiceM m) : (dT m).length ≤ 21000 := by
  have h1 := st_len h.r
  have h2 := st_len h.f
  have e1 : (Str.empty ++ ("Unused(" : Str)).length = 7 := by decide
  have e2 : (")" : Str).length = 1 := by decide
  have e3 : (", " : Str).length = 2 := by decide
  have e4 : (Str.empty ++ ("Straight(" : Str)).length = 9 := by decide
  have e5 : (Str.empty ++ ("Turned(" : Str)).length = 7 := by decide
  have hu : (uT m.r).length ≤ 21000 := by
    unfold uT repT
    rw [len_app, len_app, e1, e2]
    omega
  have hs : (sT "Straight(" m.r m.f).length ≤ 21000 := by
    unfold sT repT
    rw [len_app, len_app, len_app, len_app, e4, e3, e2]
    omega
  have ht : (sT "Turned(" m.r m.f).length ≤ 21000 := by
    unfold sT repT
    rw [len_app, len_app, len_app, len_app, e5, e3, e2]
    omega
  obtain ⟨k, r, f⟩ := m
  match k with
  | 0 => exact hu
  | 1 => exact hs
  | (n + 2) => exact ht
theorem dTs_sum : ∀ {ms : List M3}, (∀ m ∈ ms, NiceM m) → ((ms.map dT).map (·.length)).sum ≤ ms.length * 21000
  | [], _ => Nat.zero_le _
  | m :: r, h => by
    have ih := dTs_sum (ms := r) fun x hx => h x (List.mem_cons_of_mem _ hx)
    have z := dT_len (h m (List.mem_cons_self ..))
    show (dT m).length + ((r.map dT).map (·.length)).sum ≤ (r.length + 1) * 21000
    omega
theorem join_len (y : Str) : ∀ ts : List Str, (Str.join y ts).length ≤ (ts.map (·.length)).sum + ts.length * y.length
  | [] => by show (Str.empty).length ≤ _; exact Nat.zero_le _
  | [x] => by show x.length ≤ x.length + 0 + 1 * y.length; omega
  | x :: z :: r => by
    have ih := join_len y (z :: r)
    show (x ++ y ++ Str.join y (z :: r)).length ≤ x.length + ((z :: r).map (·.length)).sum + ((z :: r).length + 1) * y.length
    rw [len_app, len_app, Nat.add_mul]
    omega
theorem rw_len {ms : List M3} (h : ∀ m ∈ ms, NiceM m) (hl : ms.length ≤ 8) : (Str.join ", " (ms.map dT)).length ≤ 170000 ∧ (listText (ms.map dT)).length ≤ 1000000 := by
  have h1 := dTs_sum h
  have h2 := join_len ", " (ms.map dT)
  have e3 : (", " : Str).length = 2 := by decide
  have e4 : ("[" : Str).length = 1 := by decide
  have e5 : ("]" : Str).length = 1 := by decide
  rw [List.length_map, e3] at h2
  have h3 : (Str.join ", " (ms.map dT)).length ≤ 170000 := by omega
  refine ⟨h3, ?_⟩
  rw [listText_eq_join, len_app, len_app, e4, e5]
  omega
theorem rwT_eq (ms : List M3) : ("Row([" : Str) ++ Txt.join ", " (ms.map dT) ++ ("])" : Str) = rwT ms := by
  unfold rwT
  rw [listText_eq_join, join_eq, emp_app]
  have e1 : ("Row([" : Str) = ("Row(" : Str) ++ ("[" : Str) := by decide +kernel
  have e2 : ("])" : Str) = ("]" : Str) ++ (")" : Str) := by decide +kernel
  rw [e1, e2]
  simp only [Str.append_assoc]
theorem all_trues (n : Nat) : (List.replicate n true).all id = true := by
  rw [List.all_eq_true]
  intro x hx
  exact List.eq_of_mem_replicate hx
theorem NiceM.bigM {m : M3} (h : NiceM m) : BigM m := ⟨h.r.big, h.f.big⟩
theorem NiceM.turn {m : M3} (h : NiceM m) : NiceM m.turn := ⟨h.r, h.f⟩
end K54
set_option maxHeartbeats 8000000
namespace K54
open PySem PySem.Spec PyProof.Rows L2 TL

/-! ### _law_told_right: its last two statements -/
section
variable {P : Program} {w : World} {K : PySem.W.Frag} {mg : Str → Option Value} {base : Heap} {C DD CR : Addr} {cl : Nat → Addr}
theorem scTld : FnScope NTld ["_law_row", "_law_models"] (defScope sTld) := ⟨rfl, rfl, rfl, by decide +kernel, rfl, by decide +kernel, by decide +kernel⟩
theorem tld_t5 {fr : Addr} {cdv : Value} {A : Around} {outer : List Env} {s : Shared} {H0 : Hp} (Kk : Kt P w K mg base C DD CR cl)
    (hgu : (A.deeper (envOfC "_law_told_right" (defScope sTld) s.heap.objs.size fr cdv)).guards = some []) (hr : Room 12 (A.deeper (envOfC "_law_told_right" (defScope sTld) s.heap.objs.size fr cdv))) :
    ∃ t, PSs (cxOf CX0 P w K mg base NTld "_law_told_right" (defScope sTld) fr cdv A outer s H0 E0).nox ((defBody sTld).drop 5) t ∧
      ∀ (D : Ends) (H : Hp) (R M : Addr) (o2 o3 : Option V) (ts : List Addr) (ms : List M3), RowAt CR C cl H R ms → H M = some (.lst (ts.map V.ref)) → Paired (MAt H) ts ms → (∀ m ∈ ms, NiceM m) → ms.length ≤ 8 →
        (∀ H', Same H H' → D.rt (.bl true) H') → t D [some (.ref R), some (.ref M), o2, o3, none, none, none] H := by
  obtain ⟨_, c, _, _, _, _, _, _, ⟨fp, fdp, Gp, hsp, hfp, bp⟩, _, _, _, _, _, _, ⟨fx, fdx, Gx, kx, bx, gx⟩, _, _, _, reprN⟩ := Kk
  have Gx12 := Gx.mono (k := 12) (by decide)
  refine ⟨_, pss_one (ps_ret (pe_cmpR op_eq (pe_callB (call_reprG Gp hgu hr hsp hfp bp) (by rfl) reprN (by decide +kernel) (pa_cons (pv 0) pa_nil))
    (pe_op op_add_str (pe_op op_add_str pe_str (pe_join pe_str
      (pe_lc (own := [("_law_model", 5)]) (g := gName 5) (tt := tYes) (te := tCall spDtx [] E0 (tCons (tVar 5) tNil)) rfl scTld.nd (pi_list (pv 1))
        (blkOk_by (own := [("_law_model", 5)]) (N := NTld) (sc := defScope sTld) (by decide +kernel)) (fun _ _ _ _ _ => pg_name (i := 5) scTld.nd rfl (Or.inl rfl)) (fun _ _ _ _ _ => pts_nil)
        (fun _ _ _ _ _ => by exact pe_call (E := E0) Gx12 hr (by rfl) gx kx bx .nil pass0 (pa_cons (pv 5) pa_nil))))) pe_str) (nomark _))), ?_⟩
  intro D H R M o2 o3 ts ms hR hM hz hN hl k
  obtain ⟨l1, l2⟩ := rw_len hN hl
  obtain ⟨dx, L, ps, y1, y2, y3⟩ := id hR
  refine ⟨_, rfl, R, dx, _, rfl, y1, R, ms, rfl, hR, fun m hm => (hN m hm).bigM, l2, fun H1 S1 => ⟨_, rfl, ?_⟩⟩
  have e1 : ("Row([" : Str).length = 5 := by decide
  have e2 : ("])" : Str).length = 2 := by decide
  have e3 : (", " : Str).length = 2 := by decide
  have hlp := Paired.length hz
  refine ⟨⟨_, rfl⟩, _, rfl, M, rfl, ⟨_, SqL.of (S1 _ _ hM)⟩, fun Z nZ => ?_⟩
  refine lc_it (walk_list (K := K) (a := M) (xs := ts.map V.ref)) (fun i H2 => Same H1 H2 ∧ H2 Z = some (.lst (((ms.take i).map dT).map V.str))) ⟨fresh_upd nZ, upd_same⟩ (fun i H2 _ h => SqL.of (h.1 _ _ (S1 _ _ hM))) ?_ ?_
  · rintro i y H2 H3 hi ⟨S2, hZ2⟩ ⟨rfl, hx⟩
    rw [List.length_map] at hi
    have ex : y = V.ref ts[i] := by
      rw [List.getElem?_map, List.getElem?_eq_getElem hi] at hx
      exact (Option.some.inj hx).symm
    subst ex
    obtain ⟨m, hm, hd⟩ := pairedLX hz hi
    refine ⟨rfl, ?_⟩
    unfold tYes
    dsimp only
    rw [if_pos rfl]
    refine ⟨_, rfl, ts[i], m, rfl, hd.same (S1.trans S2), hN m (List.mem_of_getElem? hm), fun H4 S4 => ⟨_, S4 _ _ hZ2, ?_, fun b o eb => ?_, ?_⟩⟩
    · rw [List.length_map, List.length_map, List.length_take, sizeLine_eq]
      omega
    · rw [upd_ne (ne_of_none eb nZ)]
      exact S4 _ _ (S2 _ _ eb)
    · rw [upd_same, take_snoc hm, List.map_append, List.map_append]
      rfl
  · rintro H2 ⟨S2, hZ2⟩
    rw [List.length_map, List.take_of_length_le (by omega)] at hZ2
    have sm := dTs_sum hN
    have lj : (Txt.join ", " (ms.map dT)).length ≤ 170000 := by rw [join_eq]; exact l1
    refine ⟨_, Z, _, rfl, rfl, .inl (SqL.of hZ2), by rw [e3, List.length_map]; omega, _, _, rfl, rfl, by rw [e1, sizeLine_eq]; omega, _, _, rfl, rfl, by rw [len_app, e1, e2, sizeLine_eq]; omega, rfl, ?_⟩
    rw [rwT_eq, decide_eq_true rfl]
    exact k H2 (S1.trans S2)
end
end K54
set_option maxHeartbeats 8000000
namespace K54
open PySem PySem.Spec PyProof.Rows L2 TL

/-! ### _law_told_right: the cuts and the total -/
section
variable {P : Program} {w : World} {K : PySem.W.Frag} {mg : Str → Option Value} {base : Heap} {C DD CR : Addr} {cl : Nat → Addr}
theorem tld_t4 {fr : Addr} {cdv : Value} {A : Around} {outer : List Env} {s : Shared} {H0 : Hp} (Kk : Kt P w K mg base C DD CR cl)
    (hr : Room 12 (A.deeper (envOfC "_law_told_right" (defScope sTld) s.heap.objs.size fr cdv))) {t5 : TS}
    (ht : PSs (cxOf CX0 P w K mg base NTld "_law_told_right" (defScope sTld) fr cdv A outer s H0 E0).nox ((defBody sTld).drop 5) t5) :
    ∃ t, PSs (cxOf CX0 P w K mg base NTld "_law_told_right" (defScope sTld) fr cdv A outer s H0 E0).nox ((defBody sTld).drop 4) t ∧
      ∀ (D : Ends) (H : Hp) (R M l3 : Addr) (o2 : Option V) (ds : List Addr) (ms : List M3) (ns : List Str), RowAt CR C cl H R ms → Pool ns → (∀ m ∈ ms, MdD ns m) → ms.length ≤ 8 →
        H l3 = some (.lst (ds.map V.ref)) → ds.length = ms.length + 1 → CutsD ns ms H ds →
        (∀ H', Same H H' → t5 D [some (.ref R), some (.ref M), o2, some (.ref l3), none, none, none] H') → t D [some (.ref R), some (.ref M), o2, some (.ref l3), none, none, none] H := by
  obtain ⟨a, c, ⟨gC, fi, fdi, MM, gi, bi, bi0⟩, Tc, _, ⟨fc, fdc, mC, Gc, bc⟩, ⟨pt, ft, fdt, hpt, Gt, bt⟩, _, _, ⟨fe, fde, mE, Ge, be⟩, me, ne, _, _, _, _, _, _, _, _⟩ := Kk
  obtain ⟨fE, fdE, GE, hs, hf, hb⟩ := a.sz.eq
  have Gc12 := Gc.mono (k := 12) (by decide)
  have Ge12 := Ge.mono (k := 12) (by decide)
  have hr8 : Room 8 (A.deeper (envOfC "_law_told_right" (defScope sTld) s.heap.objs.size fr cdv)) := hr.mono (by decide)
  have hr4 : Room 4 (A.deeper (envOfC "_law_told_right" (defScope sTld) s.heap.objs.size fr cdv)) := hr.mono (by decide)
  have hr2 : Room 2 (A.deeper (envOfC "_law_told_right" (defScope sTld) s.heap.objs.size fr cdv)) := hr.mono (by decide)
  refine ⟨_, pss_cons (ps_if (PW.pt (pw_or (pt_cmpR (op_neG (n := 1) mon_es eqG_es hr2)
        (pe_lc (own := [("_law_size_here", 6)]) (g := gName 6) (tt := tYes) (te := tMeth C "exponents" (spExpo C) [] E0 (tVar 6) tNil) rfl scTld.nd (pi_list (pe_meth0 (E := E0) (pv 0) c.cl mC Gc12 hr bc .nil pass0))
          (blkOk_by (own := [("_law_size_here", 6)]) (N := NTld) (sc := defScope sTld) (by decide +kernel)) (fun _ _ _ _ _ => pg_name (i := 6) scTld.nd rfl (Or.inl rfl)) (fun _ _ _ _ _ => pts_nil)
          (fun _ _ _ _ _ => by exact pe_meth0 (E := E0) (pv 6) Tc.cl mE Ge12 hr be .nil pass0))
        (pv 3) (nomark _))
      (pw_or1 (pt_cmpR (op_ownNe GE hr2 hs hf me ne hb pass0 spEq_mono) (pe_prop (E := E0) (pv 0) c.cl hpt Gt hr8 bt .nil pass0 rfl)
        (pe_make (E := E0) MM gi hr4 (by rfl) gC bi .nil pass0 (pa_cons (pe_ix ix_list (pv 3) (pe_un un_neg pe_int) (fun _ _ => rfl)) pa_nil)) (nomark _)))))
    (pss_one ps_no) pss_nil) ht, ?_⟩
  intro D H R M l3 o2 ds ms ns hR hP hM hl h3 hdl hD k
  obtain ⟨dx, L, ps, y1, y2, y3⟩ := id hR
  refine ⟨_, rfl, R, dx, _, rfl, y1, rfl, R, ms, ns, rfl, hR, hP, hM, hl, fun H1 l qs S1 nl hl1 hql hc => ?_⟩
  refine ⟨l, rfl, ⟨_, SqL.of hl1⟩, fun Z nZ => ?_⟩
  refine lc_it (walk_list (K := K) (a := l) (xs := qs.map V.ref)) (fun i H2 => Same H1 H2 ∧ ∃ es : List Addr, H2 Z = some (.lst (es.map V.ref)) ∧ es.length = i ∧ CutsD ns ms H2 es)
    ⟨fresh_upd nZ, [], upd_same, rfl, fun j d e => by cases e⟩ (fun i H2 _ h => SqL.of (h.1 _ _ hl1)) ?_ ?_
  · rintro i y H2 H3 hi ⟨S2, es, e2, el, hc2⟩ ⟨rfl, hx⟩
    rw [List.length_map] at hi
    have ex : y = V.ref qs[i] := by
      rw [List.getElem?_map, List.getElem?_eq_getElem hi] at hx
      exact (Option.some.inj hx).symm
    subst ex
    obtain ⟨fs, hz, hmd⟩ := hc i _ (List.getElem?_eq_getElem hi)
    have hz2 := hz.same S2
    obtain ⟨dz, Dz, z1, _⟩ := id hz2
    refine ⟨rfl, ?_⟩
    unfold tYes
    dsimp only
    rw [if_pos rfl]
    refine ⟨_, rfl, qs[i], dz, _, rfl, z1, rfl, qs[i], fs, rfl, hz2, fun p np => ?_⟩
    have Zp : Z ≠ p := ne_of_none e2 np
    refine ⟨_, (upd_ne Zp).trans e2, by rw [List.length_map, el, sizeLine_eq]; omega, fun b o eb => ?_, es ++ [p], by rw [upd_same, List.map_append]; rfl, by rw [List.length_append, el]; rfl, fun j d ed => ?_⟩
    · rw [upd_ne (ne_of_none eb nZ), upd_ne (ne_of_none (S2 _ _ eb) np)]
      exact S2 _ _ eb
    · by_cases hj : j < es.length
      · rw [List.getElem?_append_left hj] at ed
        obtain ⟨es', w1, w2⟩ := hc2 j d ed
        have dZ : d ≠ Z := fun z => by rw [z, e2] at w1; cases w1
        exact ⟨es', (upd_ne dZ).trans ((upd_ne (ne_of_none w1 np)).trans w1), w2⟩
      · rw [List.getElem?_append_right (by omega)] at ed
        have ej : j = i := by
          have := (List.getElem?_eq_some_iff.mp ed).1
          simp at this
          omega
        subst ej
        have er : d = p := by
          rw [show j - es.length = 0 by omega] at ed
          exact (Option.some.inj ed).symm
        subst er
        exact ⟨fs, (upd_ne Zp.symm).trans upd_same, hmd⟩
  · rintro H2 ⟨S2, es, e2, el, hc2⟩
    rw [List.length_map] at el
    have S02 := S1.trans S2
    have h32 := S02 _ _ h3
    refine ⟨_, rfl, ⟨Z, l3, _, _, rfl, rfl, e2, h32, by rw [List.length_map, List.length_map]; omega, fun j x y hx hy => ?_⟩, fun H3 S3 => ⟨_, rfl, iteF ?_⟩⟩
    · rw [List.getElem?_map] at hx hy
      obtain ⟨d1, q1, rfl⟩ := Option.map_eq_some_iff.mp hx
      obtain ⟨d2, q2, rfl⟩ := Option.map_eq_some_iff.mp hy
      obtain ⟨f1, w1, m1⟩ := hc2 j d1 q1
      obtain ⟨f2, w2, m2⟩ := hD j d2 q2
      have ee := m1.one m2 fun _ => rfl
      subst ee
      exact ⟨d1, d2, f1, rfl, rfl, w1, S02 _ _ w2, m1.sd⟩
    · have S03 := S02.trans S3
      have hR3 := hR.same S03
      refine ⟨_, rfl, R, dx, _, rfl, S03 _ _ y1, R, ms, ns, rfl, hR3, hP, hM, hl, fun H4 q es4 S4 z4 m4 => ?_⟩
      have S04 := S03.trans S4
      have h34 := S04 _ _ h3
      obtain ⟨r0, qz, eqs⟩ : ∃ r0 qz, ds = r0 ++ [qz] := ⟨ds.dropLast, ds.getLast (by intro e; rw [e] at hdl; cases hdl), (List.dropLast_concat_getLast _).symm⟩
      have hqz : ds[ms.length]? = some qz := by
        have e : r0.length = ms.length := by
          have := congrArg List.length eqs
          rw [List.length_append] at this
          simp at this
          omega
        rw [eqs, ← e]
        simp
      obtain ⟨fs, w1, m1⟩ := hD ms.length qz hqz
      have hat : atI (ds.map V.ref) (-1) = some (V.ref qz) := by
        rw [eqs, List.map_append]
        exact atI_last _ _
      have lf := m1.len hP
      refine ⟨_, rfl, 1, rfl, l3, _, _, _, rfl, rfl, SqL.of h34, hat, rd_mk (S04 _ _ w1) m1.sd.nodup (by omega) (m1.nm hP) fun H5 r rs dx5 D5 S5 z5 lk5 _ _ _ => ⟨rfl, ?_⟩⟩
      have z45 := z4.same S5
      obtain ⟨dq, Dq, v1, _⟩ := id z45
      obtain ⟨dr, Dr, v2, _, sd5, _⟩ := id z5
      have ee : rs = es4 := sd5.one m4.sd fun n => by rw [lk5, m1.g, m4.lk]
      subst ee
      refine ⟨q, dq, _, _, rfl, v1, .ins v2, q, rs, _, rfl, z45, .inl ⟨r, rs, rfl, z5, _, rfl, _, rfl, ?_⟩⟩
      rw [show (!decide (rs = rs)) = false by simp]
      exact iteF (next_ (k H5 (S04.trans S5)))
end
end K54
set_option maxHeartbeats 8000000
namespace K54
open PySem PySem.Spec PyProof.Rows L2 TL

/-! ### _law_told_right -/
section
variable {P : Program} {w : World} {K : PySem.W.Frag} {mg : Str → Option Value} {base : Heap} {C DD CR : Addr} {cl : Nat → Addr}
theorem tld_t2 {fr : Addr} {cdv : Value} {A : Around} {outer : List Env} {s : Shared} {H0 : Hp} (Kk : Kt P w K mg base C DD CR cl)
    (hr : Room 12 (A.deeper (envOfC "_law_told_right" (defScope sTld) s.heap.objs.size fr cdv))) {t4 : TS}
    (ht : PSs (cxOf CX0 P w K mg base NTld "_law_told_right" (defScope sTld) fr cdv A outer s H0 E0).nox ((defBody sTld).drop 4) t4) :
    ∃ t, PSs (cxOf CX0 P w K mg base NTld "_law_told_right" (defScope sTld) fr cdv A outer s H0 E0).nox ((defBody sTld).drop 2) t ∧
      ∀ (D : Ends) (H : Hp) (R M l2 l3 : Addr) (ps ts : List Addr) (ms : List M3), H M = some (.lst (ts.map V.ref)) → Paired (MAt H) ts ms → H l2 = some (.lst (ps.map V.ref)) → Paired (DgAt C cl H) ps ms → (∀ m ∈ ms, NiceM m) → ms.length ≤ 8 →
        (∀ H', Same H H' → t4 D [some (.ref R), some (.ref M), some (.ref l2), some (.ref l3), none, none, none] H') → t D [some (.ref R), some (.ref M), some (.ref l2), some (.ref l3), none, none, none] H := by
  obtain ⟨a, _, _, _, _, _, _, _, _, _, _, _, _, ⟨fi, fdi, Gi, ki, bi, gi⟩, ⟨fo, fdo, Go, ko, bo, go⟩, _, lenN, allN, zipN, _⟩ := Kk
  have Gi12 := Gi.mono (k := 12) (by decide)
  have Go12 := Go.mono (k := 12) (by decide)
  have hr4 : Room 4 (A.deeper (envOfC "_law_told_right" (defScope sTld) s.heap.objs.size fr cdv)) := hr.mono (by decide)
  refine ⟨_, pss_cons (ps_if (pt_not (pt_val (pe_callB (cr_all rfl) (by rfl) allN (by decide +kernel) (pa_cons
      (pe_lc (own := [("_law_digit_here", 4), ("_law_model", 5)]) (g := gTup K 2 (gCons (gName 4) (gCons (gName 5) gNil))) (tt := tYes) (te := tCall (spIsd C cl) [] E0 (tCons (tVar 4) (tCons (tVar 5) tNil))) rfl scTld.nd
        (pi_zip (by rfl) zipN (pa_cons (pv 2) (pa_cons (pv 1) pa_nil)))
        (blkOk_by (own := [("_law_digit_here", 4), ("_law_model", 5)]) (N := NTld) (sc := defScope sTld) (by decide +kernel))
        (fun _ _ _ _ _ => pg_tup rfl (pgs_cons (pg_name (i := 4) scTld.nd rfl (Or.inl rfl)) (pgs_cons (pg_name (i := 5) scTld.nd rfl (Or.inl rfl)) pgs_nil))) (fun _ _ _ _ _ => pts_nil)
        (fun _ _ _ _ _ => by exact pe_call (E := E0) Gi12 hr (by rfl) gi ki bi .nil pass0 (pa_cons (pv 4) (pa_cons (pv 5) pa_nil)))) pa_nil)))) (pss_one ps_no) pss_nil)
    (pss_cons (ps_if (pt_not (pt_val (pe_callB (cr_all rfl) (by rfl) allN (by decide +kernel) (pa_cons
      (pe_lc (own := [("_law_digit_here", 4), ("_law_model", 5)]) (g := gTup K 2 (gCons (gName 4) (gCons (gName 5) gNil))) (tt := tYes) (te := tCall (spIsd C cl) [] E0 (tCons (tMethA P w K mg base 4 "turned" (tVar 4)) (tCons (tCall spOtw [] E0 (tCons (tVar 5) tNil)) tNil))) rfl scTld.nd
        (pi_zip (by rfl) zipN (pa_cons (pv 2) (pa_cons (pv 1) pa_nil)))
        (blkOk_by (own := [("_law_digit_here", 4), ("_law_model", 5)]) (N := NTld) (sc := defScope sTld) (by decide +kernel))
        (fun _ _ _ _ _ => pg_tup rfl (pgs_cons (pg_name (i := 4) scTld.nd rfl (Or.inl rfl)) (pgs_cons (pg_name (i := 5) scTld.nd rfl (Or.inl rfl)) pgs_nil))) (fun _ _ _ _ _ => pts_nil)
        (fun _ _ _ _ _ => by exact pe_call (E := E0) Gi12 hr (by rfl) gi ki bi .nil pass0 (pa_cons (pe_methA (k := 4) (pv 4) hr4) (pa_cons (pe_call (E := E0) Go12 hr (by rfl) go ko bo .nil pass0 (pa_cons (pv 5) pa_nil)) pa_nil)))) pa_nil)))) (pss_one ps_no) pss_nil) ht), ?_⟩
  intro D H R M l2 l3 ps ts ms hM hz h2 hd hN hl k
  have n1 := Paired.length hz
  have n2 := Paired.length hd
  have hn : ms.length = min (ps.map V.ref).length (ts.map V.ref).length := by rw [List.length_map, List.length_map]; omega
  refine ⟨_, rfl, _, rfl, l2, M, _, _, rfl, SqL.of h2, SqL.of hM, fun Z nZ => ?_⟩
  refine lc_it (walk_zip (K := K) (a := l2) (b := M) (xs := ps.map V.ref) (ys := ts.map V.ref) hn) (fun i H2 => Same H H2 ∧ H2 Z = some (.lst (List.replicate i (V.bl true)))) ⟨fresh_upd nZ, upd_same⟩
    (fun i H2 _ h => ⟨SqL.of (h.1 _ _ h2), SqL.of (h.1 _ _ hM)⟩) ?_ ?_
  · rintro i y H2 H3 hi ⟨S2, hZ2⟩ ⟨T, x, y', rfl, nT, rfl, e1, e2⟩
    dsimp only at e1 e2
    rw [List.getElem?_map, List.getElem?_eq_getElem (by omega)] at e1 e2
    cases e1
    cases e2
    obtain ⟨m, hm, dm⟩ := pairedLX hz (show i < ts.length by omega)
    obtain ⟨m', hm', dd⟩ := pairedLX hd (show i < ps.length by omega)
    rw [hm] at hm'
    cases hm'
    refine ⟨T, _, rfl, SqT.of upd_same, rfl, _, _, rfl, _, _, rfl, rfl, rfl, ?_⟩
    unfold tYes
    dsimp only
    rw [if_pos rfl]
    have ST := fresh_upd (o := .tup [V.ref ps[i], V.ref ts[i]]) nT
    refine ⟨_, rfl, _, rfl, ps[i], ts[i], m, rfl, dd.same (S2.trans ST), dm.same (S2.trans ST), hN m (List.mem_of_getElem? hm), fun H4 S4 => ⟨_, S4 _ _ (ST _ _ hZ2), by rw [List.length_replicate, sizeLine_eq]; omega, fun b o eb => ?_, ?_⟩⟩
    · rw [upd_ne (ne_of_none eb nZ)]
      exact S4 _ _ (ST _ _ (S2 _ _ eb))
    · rw [upd_same, List.replicate_succ']
  · rintro H2 ⟨S2, hZ2⟩
    refine ⟨Z, List.replicate ms.length true, rfl, SqL.of (by rw [List.map_replicate]; exact hZ2), ?_⟩
    rw [all_trues]
    refine ⟨_, rfl, iteF (next_ ?_)⟩
    refine ⟨_, rfl, _, rfl, l2, M, _, _, rfl, SqL.of (S2 _ _ h2), SqL.of (S2 _ _ hM), fun Y nY => ?_⟩
    refine lc_it (walk_zip (K := K) (a := l2) (b := M) (xs := ps.map V.ref) (ys := ts.map V.ref) hn) (fun i H3 => Same H2 H3 ∧ H3 Y = some (.lst (List.replicate i (V.bl true)))) ⟨fresh_upd nY, upd_same⟩
      (fun i H3 _ h => ⟨SqL.of (h.1 _ _ (S2 _ _ h2)), SqL.of (h.1 _ _ (S2 _ _ hM))⟩) ?_ ?_
    · rintro i y H3 H4 hi ⟨S3, hY3⟩ ⟨T, x, y', rfl, nT, rfl, e1, e2⟩
      dsimp only at e1 e2
      rw [List.getElem?_map, List.getElem?_eq_getElem (by omega)] at e1 e2
      cases e1
      cases e2
      obtain ⟨m, hm, dm⟩ := pairedLX hz (show i < ts.length by omega)
      obtain ⟨m', hm', dd⟩ := pairedLX hd (show i < ps.length by omega)
      rw [hm] at hm'
      cases hm'
      refine ⟨T, _, rfl, SqT.of upd_same, rfl, _, _, rfl, _, _, rfl, rfl, rfl, ?_⟩
      unfold tYes
      dsimp only
      rw [if_pos rfl]
      have ST := fresh_upd (o := .tup [V.ref ps[i], V.ref ts[i]]) nT
      have S03 := S2.trans (S3.trans ST)
      refine rd_trnV a rfl (dd.same S03) fun H5 r5 S5 d5 => ?_
      refine ⟨_, rfl, ts[i], m, rfl, dm.same (S03.trans S5), fun H6 T6 S6 n6 m6 => ?_⟩
      refine ⟨r5, T6, m.turn, rfl, d5.same S6, m6, (hN m (List.mem_of_getElem? hm)).turn, fun H7 S7 => ⟨_, S7 _ _ (S6 _ _ (S5 _ _ (ST _ _ hY3))), by rw [List.length_replicate, sizeLine_eq]; omega, fun b o eb => ?_, ?_⟩⟩
      · rw [upd_ne (ne_of_none eb nY)]
        exact S7 _ _ (S6 _ _ (S5 _ _ (ST _ _ (S3 _ _ eb))))
      · rw [upd_same, List.replicate_succ']
    · rintro H3 ⟨S3, hY3⟩
      refine ⟨Y, List.replicate ms.length true, rfl, SqL.of (by rw [List.map_replicate]; exact hY3), ?_⟩
      rw [all_trues]
      exact ⟨_, rfl, iteF (next_ (k H3 (S2.trans S3)))⟩
theorem ok_tld {f : Addr} {fd : FuncData} (F : Fun K "_law_told_right" "_law_told_right" sTld f fd) (Kk : Kt P w K mg base C DD CR cl) :
    FnG P w K mg base 13 f fd ["_law_row", "_law_models"] (spTld CR C cl) := by
  refine F.okG scTld (fun vs H Q h => ?_) (fun cdv A outer s H vs Q hgu hr h => ?_)
  · obtain ⟨R, M, ts, ms, ns, rfl, _⟩ := h
    rfl
  · obtain ⟨R, M, ts, ms, ns, rfl, hR, hM, hz, hP, hN, hl, k⟩ := h
    have hgu' : (A.deeper (envOfC "_law_told_right" (defScope sTld) s.heap.objs.size f cdv)).guards = some [] := hgu
    obtain ⟨t5, h5, k5⟩ := tld_t5 (outer := outer) (H0 := H) Kk hgu' hr
    obtain ⟨t4, h4, k4⟩ := tld_t4 Kk hr h5
    obtain ⟨t2, h2, k2⟩ := tld_t2 Kk hr h4
    obtain ⟨a, c, _, _, ⟨fg, fdg, mG, Gg, bg⟩, _, _, ⟨fn, fdn, Gn, hsn, hfn, bn⟩, _, _, _, _, ⟨fc, fdc, Gc, kc, bc, gc⟩, _, _, _, lenN, _, _, _⟩ := Kk
    have Gg12 := Gg.mono (k := 12) (by decide)
    have Gc12 := Gc.mono (k := 12) (by decide)
    have hr2 : Room 2 (A.deeper (envOfC "_law_told_right" (defScope sTld) s.heap.objs.size f cdv)) := hr.mono (by decide)
    refine ⟨_, pss_cons (ps_par (i := 2) (j := 3) (by rfl) scTld.nd rfl rfl (by decide) rfl rfl (pa_cons (pe_meth0 (E := E0) (pv 0) c.cl mG Gg12 hr bg .nil pass0) (pa_cons (pe_call (E := E0) Gc12 hr (by rfl) gc kc bc .nil pass0 (pa_cons (pv 1) pa_nil)) pa_nil)) (by rfl))
      (pss_cons (ps_if (PW.pt (pw_or (pt_cmpR op_ne (pe_callB (call_lenO (E := E0) Gn hr2 hsn hfn bn pass0) (by rfl) lenN PySem.boot_len (pa_cons (pv 0) pa_nil)) (pe_callB call_len_seq (by rfl) lenN PySem.boot_len (pa_cons (pv 1) pa_nil)) (nomark _))
        (pw_or1 (pt_cmpR op_ne (pe_callB call_len_seq (by rfl) lenN PySem.boot_len (pa_cons (pv 2) pa_nil)) (pe_callB call_len_seq (by rfl) lenN PySem.boot_len (pa_cons (pv 1) pa_nil)) (nomark _))))) (pss_one ps_no) pss_nil) h2), ?_⟩
    obtain ⟨dx, L, ps, y1, y2, y3⟩ := id hR
    have n1 := Paired.length hz
    refine ⟨_, rfl, R, dx, _, rfl, y1, rfl, R, ms, rfl, hR, fun l ps hd nl => ?_⟩
    have S1 := fresh_upd (o := .lst (ps.map V.ref)) nl
    have e1 : upd H l (.lst (ps.map V.ref)) l = some (.lst (ps.map V.ref)) := upd_same
    generalize upd H l (.lst (ps.map V.ref)) = H1 at S1 e1
    have n2 := Paired.length hd
    refine ⟨_, rfl, M, ts, ms, ns, rfl, S1 _ _ hM, Paired.mapP hz (fun _ _ e => e.same S1), hP, fun m hm => (hN m hm).2, hl, fun H2 l3 ds S2 n3 e3 hdl hc => ⟨_, _, rfl, ?_⟩⟩
    have S02 := S1.trans S2
    have hR2 := hR.same S02
    have hM2 := S02 _ _ hM
    refine ⟨_, rfl, R, dx, _, rfl, S02 _ _ y1, R, ms, rfl, hR2, (ms.length : Int), rfl, by omega, by omega, ?_⟩
    refine ⟨_, rfl, M, _, rfl, .inl (SqL.of hM2), rfl, _, rfl, ?_⟩
    rw [show (!decide (V.int (ms.length : Nat) = V.int ((ts.map V.ref).length : Nat))) = false by rw [List.length_map, n1]; simp]
    refine iteF ?_
    refine ⟨_, rfl, l, _, rfl, .inl (SqL.of (S2 _ _ e1)), _, rfl, M, _, rfl, .inl (SqL.of hM2), rfl, _, rfl, ?_⟩
    rw [show (!decide (V.int ((ps.map V.ref).length : Nat) = V.int ((ts.map V.ref).length : Nat))) = false by rw [List.length_map, List.length_map, n1, n2]; simp]
    refine iteF (next_ ?_)
    refine k2 _ H2 R M l l3 ps ts ms hM2 (Paired.mapP hz fun _ _ e => e.same S02) (S2 _ _ e1) (dgs_same hd S02) (fun m hm => (hN m hm).1) hl fun H3 S3 => ?_
    have hc3 : CutsD ns ms H3 ds := fun j d e => by
      obtain ⟨es, a1, a2⟩ := hc j d e
      exact ⟨es, S3 _ _ a1, a2⟩
    refine k4 _ H3 R M l3 _ ds ms ns (hR2.same S3) hP (fun m hm => (hN m hm).2) hl (S3 _ _ e3) hdl hc3 fun H4 S4 => ?_
    have S04 := S02.trans (S3.trans S4)
    exact k5 _ H4 R M _ _ ts ms (hR.same S04) (S04 _ _ hM) (Paired.mapP hz fun _ _ e => e.same S04) (fun m hm => (hN m hm).1) hl fun H5 S5 => k H5 (S04.trans S5)
end
end K54
set_option maxHeartbeats 8000000
namespace K54
open PySem PySem.Spec PyProof.Rows L2

/-! ### what is no list stays where lists change -/
def Nl (H G : Hp) : Prop := ∀ b o, (∀ xs, o ≠ HO.lst xs) → H b = some o → G b = some o
theorem Nl.of {H G : Hp} (S : Same H G) : Nl H G := fun b o _ e => S b o e
theorem Nl.trans {H G J : Hp} (a : Nl H G) (b : Nl G J) : Nl H J := fun c o n e => b c o n (a c o n e)
theorem Nl.but {r : Addr} {H H' : Hp} (B : But r H H') (hr : ∃ xs, H r = some (.lst xs)) : Nl H H' := fun b o n e => B b o (fun z => by
  subst z
  obtain ⟨xs, q⟩ := hr
  rw [q] at e
  cases e
  exact n _ rfl) e
theorem Rg.lst {H : Hp} {r : Addr} (h : Rg H r) : ∃ xs, H r = some (.lst xs) := by
  obtain ⟨x, y, q, _⟩ := h
  exact ⟨_, q⟩
theorem Nl.strip {r : Addr} {H : Hp} (hr : ∃ xs, H r = some (.lst xs)) : Nl H (strip r H) := fun b o n e => by
  unfold K54.strip
  rw [if_neg fun z => by
    subst z
    obtain ⟨xs, q⟩ := hr
    rw [q] at e
    cases e
    exact n _ rfl]
  exact e
theorem strip_ne {r b : Addr} {H : Hp} (h : b ≠ r) : strip r H b = H b := by
  unfold strip
  rw [if_neg h]
theorem SizeAt.nl {C p : Addr} {es : Es} {H G : Hp} (h : SizeAt C H p es) (k : Nl H G) : SizeAt C G p es := by
  obtain ⟨dx, D, a, b, c⟩ := h
  exact ⟨dx, D, k _ _ (fun xs z => nomatch z) a, k _ _ (fun xs z => nomatch z) b, c⟩
theorem DgAt.nl {C p : Addr} {cl : Nat → Addr} {m : M3} {H G : Hp} (h : DgAt C cl H p m) (k : Nl H G) : DgAt C cl G p m := by
  rcases h with ⟨a, b, dx, q, h1, h2⟩ | ⟨a, dx, q, u, h1, h2, h3⟩
  · exact .inl ⟨a, b, dx, q, k _ _ (fun xs z => nomatch z) h1, h2.nl k⟩
  · exact .inr ⟨a, dx, q, u, k _ _ (fun xs z => nomatch z) h1, h2.nl k, h3.nl k⟩
theorem MAt.nl {T : Addr} {m : M3} {H G : Hp} (h : MAt H T m) (k : Nl H G) : MAt G T m := by
  obtain ⟨dr, vf, h1, h2, h3, h4⟩ := h
  exact ⟨dr, vf, k _ _ (fun xs z => nomatch z) h1, k _ _ (fun xs z => nomatch z) h2, h3.imp id fun ⟨a, df, b, c⟩ => ⟨a, df, b, k _ _ (fun xs z => nomatch z) c⟩, h4⟩
theorem NuOk.nl {d : Addr} {nu : Es} {H G : Hp} (h : NuOk H d nu) (k : Nl H G) : NuOk G d nu :=
  ⟨⟨k _ _ (fun xs z => nomatch z) h.nd.at_, h.nd.len, h.nd.nd, h.nd.nm, h.nd.pos, h.nd.lt⟩, h.ln, h.lt⟩
theorem dgs_nl {C : Addr} {cl : Nat → Addr} {H G : Hp} {ps : List Addr} {ms : List M3} (h : Paired (DgAt C cl H) ps ms) (k : Nl H G) : Paired (DgAt C cl G) ps ms := Paired.mapP h fun _ _ e => e.nl k
theorem mats_nl {H G : Hp} {ts : List Addr} {ms : List M3} (h : Paired (MAt H) ts ms) (k : Nl H G) : Paired (MAt G) ts ms := Paired.mapP h fun _ _ e => e.nl k
theorem mats_same {H G : Hp} {ts : List Addr} {ms : List M3} (h : Paired (MAt H) ts ms) (k : Same H G) : Paired (MAt G) ts ms := Paired.mapP h fun _ _ e => e.same k

/-! ### rows are made and compared -/
theorem spRwE_mono {K : PySem.W.Frag} {CR C : Addr} {cl : Nat → Addr} {E : XK} : ∀ vs H (Q Q' : VK), (∀ v H', Q v H' → Q' v H') → spRwE K CR C cl vs H Q E → spRwE K CR C cl vs H Q' E := by
  rintro vs H Q Q' k ⟨p, ms, y, h1, h2, h3⟩
  refine ⟨p, ms, y, h1, h2, ?_⟩
  rcases h3 with ⟨p2, ms2, a, b, c⟩ | ⟨t, a, b, c⟩
  · exact .inl ⟨p2, ms2, a, b, fun H' S => k _ _ (c H' S)⟩
  · exact .inr ⟨t, a, b, k _ _ c⟩
theorem rd_row {K : PySem.W.Frag} {CR C l : Addr} {cl : Nat → Addr} {H : Hp} {ps : List Addr} {ms : List M3} {Qx : Addr → VK} (hl : SqX K H l (ps.map V.ref)) (hd : Paired (DgAt C cl H) ps ms)
    (k : ∀ H' x dx L, Same H H' → H x = none → H L = none → L ≠ x → H' L = some (.lst (ps.map V.ref)) → H' x = some (.ins CR dx [("_digits", .ref L)]) → Qx x .non H') :
    ∀ x dx, H x = none → H dx = none → dx ≠ x → spRwI K C CR cl (.ref x :: ([.ref l] ++ [])) (upd (upd H dx (.own x)) x (.ins CR dx [])) (Qx x) E0 := by
  intro x dx nx ndx nex
  have Sx : Same H (upd (upd H dx (.own x)) x (.ins CR dx [])) := fun b o e => by
    rw [upd_ne (ne_of_none e nx), upd_ne (ne_of_none e ndx)]
    exact e
  have ex : upd (upd H dx (.own x)) x (.ins CR dx []) x = some (.ins CR dx []) := upd_same
  generalize upd (upd H dx (.own x)) x (.ins CR dx []) = H1 at Sx ex
  refine ⟨x, dx, l, ps, ms, rfl, ex, hl.same Sx, dgs_same hd Sx, fun H' L B nL hL hx => ?_⟩
  have Lx : L ≠ x := fun z => by
    rw [z, ex] at nL
    cases nL
  exact k H' x dx L (fun b o e => B b o (ne_of_none e nx) (Sx _ _ e)) nx (none_pre Sx nL) Lx hL hx
theorem row_at {CR C x dx L : Addr} {cl : Nat → Addr} {H : Hp} {ps : List Addr} {ms : List M3} (hx : H x = some (.ins CR dx [("_digits", .ref L)])) (hL : H L = some (.lst (ps.map V.ref))) (hd : Paired (DgAt C cl H) ps ms) : RowAt CR C cl H x ms := ⟨dx, L, ps, hx, hL, hd⟩

/-! ### _law_right: what stands behind its first five statements -/
abbrev sRi : Stmt := top 80
def NRi : List Str := ["_law_rng_here", "_law_names_here", "_law_models", "_law_model", "_law_passed", "_law_row", "_law_same", "_law_times_at", "_law_more", "_law_k", "_law_other", "_law_turn", "_law_one"]
def z0M : M3 := ⟨0, [], []⟩
structure Rst (CR C : Addr) (cl : Nat → Addr) (r R S M TA lp d1 d2 : Addr) (ts : List Addr) (ms : List M3) (ns : List Str) (G H : Hp) : Prop where
  g0 : G r = none
  sg : Same G H
  rg : Rg H r
  row : RowAt CR C cl G R ms
  sam : RowAt CR C cl G S ms
  mod : G M = some (.lst (ts.map V.ref))
  mat : Paired (MAt G) ts ms
  tim : G TA = some (.lst [.ref d1, .ref d2])
  pas : ∃ ps, G lp = some (.lst (ps.map V.ref)) ∧ Paired (DgAt C cl G) ps (ms ++ [z0M])
  len : ms.length ≤ 6
  pool : Pool ns
  nic : ∀ m ∈ ms, NiceM m ∧ MdD ns m
  nus : ∀ d, d = d1 ∨ d = d2 → ∃ nu, NuOk G d nu ∧ (∃ n ∈ nu.map (·.1), n ∉ ns) ∧ ∀ m ∈ ms, InM nu m ∧ valS nu m.r ≤ 256
theorem Rst.next {CR C : Addr} {cl : Nat → Addr} {r R S M TA lp d1 d2 : Addr} {ts : List Addr} {ms : List M3} {ns : List Str} {G H H' : Hp} (h : Rst CR C cl r R S M TA lp d1 d2 ts ms ns G H) (B : But r H H') (hR : Rg H' r) :
    Rst CR C cl r R S M TA lp d1 d2 ts ms ns G H' := ⟨h.g0, keep_but h.g0 h.sg B, hR, h.row, h.sam, h.mod, h.mat, h.tim, h.pas, h.len, h.pool, h.nic, h.nus⟩
theorem z0_ok (ns : List Str) : NiceM z0M ∧ MdD ns z0M :=
  ⟨⟨Nice.nil, Nice.nil⟩, (Md.nil ns).congr (fun n => rfl) (by decide), (Md.nil ns).congr (fun n => rfl) (by decide)⟩
structure Kr (P : Program) (w : World) (K : PySem.W.Frag) (mg : Str → Option Value) (base : Heap) (C DD CR : Addr) (cl : Nat → Addr) : Prop where
  kt : Kt P w K mg base C DD CR cl
  T : Nb mg
  dr : ∃ f fd, FnOk P w K mg base CX0 1 f fd ["_law_rng_here", "_law_many"] spDraw ∧ PySem.W.keepIn K (.ref f) = true ∧ Binds K fd ["_law_rng_here", "_law_many"] [] ∧ mg "_law_draw" = some (.ref f)
  nm : ∃ f fd, FnOk P w K mg base CX0 3 f fd ["_law_rng_here", "_law_many", "_law_taken"] spNm ∧ PySem.W.keepIn K (.ref f) = true ∧ Binds K fd ["_law_rng_here", "_law_many", "_law_taken"] [] ∧ mg "_law_names" = some (.ref f)
  ld : ∃ f fd, FnOk P w K mg base CX0 4 f fd ["_law_rng_here", "_law_names_here"] spLdg ∧ PySem.W.keepIn K (.ref f) = true ∧ Binds K fd ["_law_rng_here", "_law_names_here"] [] ∧ mg "_law_digit" = some (.ref f)
  md : ∃ f fd, FnOk P w K mg base CX0 5 f fd ["_law_model"] (spMdd C cl) ∧ PySem.W.keepIn K (.ref f) = true ∧ Binds K fd ["_law_model"] [] ∧ mg "_law_made" = some (.ref f)
  nu : ∃ f fd, FnOk P w K mg base CX0 2 f fd ["_law_rng_here", "_law_names_here"] spLnu ∧ PySem.W.keepIn K (.ref f) = true ∧ Binds K fd ["_law_rng_here", "_law_names_here"] [] ∧ mg "_law_numbers" = some (.ref f)
  pl : ∃ f fd, FnOk P w K mg base CX0 8 f fd ["_law_rng_here", "_law_row", "_law_models", "_law_times_at"] (spPlr CR C cl) ∧ PySem.W.keepIn K (.ref f) = true ∧ Binds K fd ["_law_rng_here", "_law_row", "_law_models", "_law_times_at"] [] ∧ mg "_law_places_right" = some (.ref f)
  td : ∃ f fd, FnG P w K mg base 13 f fd ["_law_row", "_law_models"] (spTld CR C cl) ∧ PySem.W.keepIn K (.ref f) = true ∧ Binds K fd ["_law_row", "_law_models"] [] ∧ mg "_law_told_right" = some (.ref f)
  mr : ∃ f fd, Mk K CR f ∧ FnOk P w K mg base CX0 2 f fd ["self", "digits"] (spRwI K C CR cl) ∧ Binds K fd ["self", "digits"] []
  eq : ∃ f fd, FnOk P w K mg base CX0 4 f fd ["self", "other"] (spRwE K CR C cl) ∧ PySem.W.findIn K (.ref CR) "__eq__" = some (some (.ref f)) ∧ PySem.W.isFn K (.ref f) = true ∧ Binds K fd ["self", "other"] []
  rme : PySem.W.mroIn K CR (.type "object") = some true
  rne : PySem.W.findIn K (.ref CR) "__ne__" = some (some (.builtin "object.__ne__"))
  rlk : PySem.W.kitOne K (.type "list") (.ref CR) = some false
  tupN : mg "tuple" = none
end K54
set_option maxHeartbeats 8000000
namespace K54
open PySem PySem.Spec PyProof.Rows L2

/-! ### _law_right: names, models, digits -/
section
variable {P : Program} {w : World} {K : PySem.W.Frag} {mg : Str → Option Value} {base : Heap} {C DD CR : Addr} {cl : Nat → Addr}
theorem scRi : FnScope NRi ["_law_rng_here"] (defScope sRi) := ⟨rfl, rfl, rfl, by decide +kernel, rfl, by decide +kernel, by decide +kernel⟩
theorem ri_t0 {fr : Addr} {cdv : Value} {A : Around} {outer : List Env} {s : Shared} {H0 : Hp} (Kk : Kr P w K mg base C DD CR cl)
    (hr : Room 13 (A.deeper (envOfC "_law_right" (defScope sRi) s.heap.objs.size fr cdv))) {t3 : TS}
    (ht : PSs (cxOf CX0 P w K mg base NRi "_law_right" (defScope sRi) fr cdv A outer s H0 E0).nox ((defBody sRi).drop 3) t3) :
    ∃ t, PSs (cxOf CX0 P w K mg base NRi "_law_right" (defScope sRi) fr cdv A outer s H0 E0).nox (defBody sRi) t ∧
      ∀ (D : Ends) (H : Hp) (r : Addr), Rg H r →
        (∀ (H' : Hp) (N M lp : Addr) (ts ps : List Addr) (ms : List M3) (n1 n2 n3 : Str), But r H H' → Rg H' r → N ≠ r → M ≠ r → lp ≠ r → lp ≠ M → lp ≠ N → H lp = none → H' N = some (.lst [.str n1, .str n2, .str n3]) → N3 n1 n2 n3 →
          H' M = some (.lst (ts.map V.ref)) → Paired (MAt H') ts ms → ms.length ≤ 6 → (∀ m ∈ ms, Drn n1 n2 n3 m) → H' lp = some (.lst (ps.map V.ref)) → Paired (DgAt C cl H') ps ms →
          t3 D [some (.ref r), some (.ref N), some (.ref M), none, some (.ref lp), none, none, none, none, none, none, none, none] H') →
        t D [some (.ref r), none, none, none, none, none, none, none, none, none, none, none, none] H := by
  obtain ⟨_, T, ⟨fd, fdd, Gd, kd, bd, gd⟩, ⟨fn, fdn, Gn, kn, bn, gn⟩, ⟨fg, fdg, Gg, kg, bg, gg⟩, ⟨fm, fdm, Gm, km, bm, gm⟩, _, _, _, _, _, _, _, _, _⟩ := Kk
  have Gd13 := Gd.mono (k := 13) (by decide)
  have Gn13 := Gn.mono (k := 13) (by decide)
  have Gg13 := Gg.mono (k := 13) (by decide)
  have Gm13 := Gm.mono (k := 13) (by decide)
  refine ⟨_, pss_cons (ps_set (i := 1) scRi.nd rfl (.inr rfl) (pe_call (E := E0) Gn13 hr (by rfl) gn kn bn .nil pass0 (pa_cons (pv 0) (pa_cons pe_int (pa_cons (pe_lst (pa_cons pe_str pa_nil)) pa_nil)))))
    (pss_cons (ps_setLc (i := 2) (own := [("_law_turn", 11)]) (g := gName 11) (tt := tYes) (te := tCall spLdg [] E0 (tCons (tVar 0) (tCons (tVar 1) tNil))) rfl scRi.nd rfl rfl (sw_true rfl rfl rfl rfl)
        (pi_range1 (by rfl) T.range (pa_cons (pe_call (E := E0) Gd13 hr (by rfl) gd kd bd .nil pass0 (pa_cons (pv 0) (pa_cons pe_int pa_nil))) pa_nil))
        (blkOk_by (own := [("_law_turn", 11)]) (N := NRi) (sc := defScope sRi) (by decide +kernel)) (fun _ _ _ _ _ => pg_name (i := 11) scRi.nd rfl (Or.inl rfl)) (fun _ _ _ _ _ => pts_nil)
        (fun _ _ _ _ _ => by exact pe_call (E := E0) Gg13 hr (by rfl) gg kg bg .nil pass0 (pa_cons (pv 0) (pa_cons (pv 1) pa_nil))))
    (pss_cons (ps_setLc (i := 4) (own := [("_law_model", 3)]) (g := gName 3) (tt := tYes) (te := tCall (spMdd C cl) [] E0 (tCons (tVar 3) tNil)) rfl scRi.nd rfl rfl (sw_true rfl rfl rfl rfl) (pi_list (pv 2))
        (blkOk_by (own := [("_law_model", 3)]) (N := NRi) (sc := defScope sRi) (by decide +kernel)) (fun _ _ _ _ _ => pg_name (i := 3) scRi.nd rfl (Or.inl rfl)) (fun _ _ _ _ _ => pts_nil)
        (fun _ _ _ _ _ => by exact pe_call (E := E0) Gm13 hr (by rfl) gm km bm .nil pass0 (pa_cons (pv 3) pa_nil))) ht)), ?_⟩
  intro D H r hR k
  refine ⟨_, rfl, by rw [sizeLine_eq]; show 1 ≤ 16777216; decide, fun T0 nT => ?_⟩
  have S1 := fresh_upd (o := .lst [V.str "spare"]) nT
  have Tr : T0 ≠ r := (hR.ne nT).symm
  refine ⟨r, 3, T0, ["spare"], rfl, hR.same S1, by decide, by decide, Tr, upd_same, fun y hy => by rw [List.mem_singleton.mp hy]; decide, fun H2 N ns B2 hR2 nN hN hP hl hle => ?_⟩
  have Nr : N ≠ r := ((hR.same S1).ne nN).symm
  obtain ⟨n1, n2, n3, rfl⟩ : ∃ n1 n2 n3, ns = [n1, n2, n3] := by
    match ns, hl with
    | [a, b, c], _ => exact ⟨a, b, c, rfl⟩
    | [], h => cases h
    | [_], h => cases h
    | [_, _], h => cases h
    | _ :: _ :: _ :: _ :: _, h => simp at h; omega
  have h3 : N3 n1 n2 n3 := ⟨hP.nd, hP.nm, hle⟩
  have B02 : But r H H2 := (But.of S1).trans B2
  refine ⟨_, rfl, r, 7, rfl, hR2, by decide, by decide, fun H3 d d0 d1 hR3 B3 => ?_⟩
  have hN3 := B3 _ _ Nr hN
  refine ⟨d, rfl, by omega, by omega, fun M nM => ?_⟩
  have Mr : M ≠ r := (hR3.ne nM).symm
  have MN : M ≠ N := fun e => by
    rw [e, hN3] at nM
    cases nM
  refine lc_range (lo := 0) (n := d.toNat) (fun j H4 => Rg H4 r ∧ But r H3 H4 ∧ ∃ ts ms, H4 M = some (.lst (ts.map V.ref)) ∧ Paired (MAt H4) ts ms ∧ ms.length = j ∧ ∀ m ∈ ms, Drn n1 n2 n3 m)
    ⟨hR3.upd Mr, But.of (fresh_upd nM), [], [], upd_same, .nil, rfl, fun m h => nomatch h⟩ ?_ ?_
  · rintro j H4 hj ⟨hR4, B4, ts, ms, hM4, hz4, hl4, hd4⟩
    refine ⟨rfl, ?_⟩
    unfold tYes
    dsimp only
    rw [if_pos rfl]
    refine ⟨_, rfl, _, rfl, r, N, n1, n2, n3, rfl, hR4, Nr, B4 _ _ Nr hN3, h3, fun H5 T5 m hR5 B5 nT5 hm hdm => ⟨_, B5 _ _ Mr hM4, ?_, hR5.upd Mr, (B4.trans B5).upd nM, ts ++ [T5], ms ++ [m], by rw [upd_same, List.map_append]; rfl, ?_, by rw [List.length_append, hl4]; rfl, fun x hx => ?_⟩⟩
    · have := Paired.length hz4
      rw [List.length_map, sizeLine_eq]
      omega
    · have kl : Nl H5 (upd H5 M (.lst (ts.map V.ref ++ [V.ref T5]))) := fun b o n e => by
        rw [upd_ne (fun z => by rw [z, B5 _ _ Mr hM4] at e; cases e; exact n _ rfl)]
        exact e
      exact Paired.snoc (mats_nl hz4 ((Nl.but B5 hR4.lst).trans kl)) (hm.nl kl)
    · rcases List.mem_append.mp hx with hx | hx
      · exact hd4 x hx
      · rw [List.mem_singleton.mp hx]
        exact hdm
  · rintro H4 ⟨hR4, B4, ts, ms, hM4, hz4, hl4, hd4⟩
    have hN4 := B4 _ _ Nr hN3
    have B04 := B02.trans (B3.trans B4)
    refine ⟨_, rfl, M, rfl, ⟨_, SqL.of hM4⟩, fun lp nlp => ?_⟩
    have lpr : lp ≠ r := (hR4.ne nlp).symm
    have lpM : lp ≠ M := fun e => by rw [e, hM4] at nlp; cases nlp
    have lpN : lp ≠ N := fun e => by rw [e, hN4] at nlp; cases nlp
    have h3n : ∀ m ∈ ms, NiceM m := fun m hm => (drn_nice h3 (hd4 m hm)).1
    have lz := Paired.length hz4
    refine lc_it (walk_list (K := K) (a := M) (xs := ts.map V.ref)) (fun i H5 => Same H4 H5 ∧ ∃ ps, H5 lp = some (.lst (ps.map V.ref)) ∧ Paired (DgAt C cl H5) ps (ms.take i)) ⟨fresh_upd nlp, [], upd_same, .nil⟩
      (fun i H5 _ h => SqL.of (h.1 _ _ hM4)) ?_ ?_
    · rintro i y H5 H6 hi ⟨S5, ps, hp5, hd5⟩ ⟨rfl, hx⟩
      rw [List.length_map] at hi
      have ex : y = V.ref ts[i] := by
        rw [List.getElem?_map, List.getElem?_eq_getElem hi] at hx
        exact (Option.some.inj hx).symm
      subst ex
      obtain ⟨m, hm, hd⟩ := pairedLX hz4 hi
      refine ⟨rfl, ?_⟩
      unfold tYes
      dsimp only
      rw [if_pos rfl]
      refine ⟨_, rfl, ts[i], m, rfl, hd.same S5, h3n m (List.mem_of_getElem? hm), fun H7 p S7 np hp => ⟨_, S7 _ _ hp5, ?_, fun b o eb => ?_, ps ++ [p], by rw [upd_same, List.map_append]; rfl, ?_⟩⟩
      · have := Paired.length hd5
        rw [List.length_take] at this
        rw [List.length_map, sizeLine_eq]
        omega
      · rw [upd_ne (ne_of_none eb nlp)]
        exact S7 _ _ (S5 _ _ eb)
      · have kl : Nl H7 (upd H7 lp (.lst (ps.map V.ref ++ [V.ref p]))) := fun b o n e => by
          rw [upd_ne (fun z => by rw [z, S7 _ _ hp5] at e; cases e; exact n _ rfl)]
          exact e
        rw [take_snoc hm]
        exact Paired.snoc (dgs_nl (dgs_same hd5 S7) kl) (hp.nl kl)
    · rintro H5 ⟨S5, ps, hp5, hd5⟩
      rw [List.length_map, List.take_of_length_le (by omega)] at hd5
      exact k H5 N M lp ts ps ms n1 n2 n3 (B04.trans (But.of S5)) (hR4.same S5) Nr Mr lpr lpM lpN (none_but B04 lpr nlp) (S5 _ _ hN4) h3 (S5 _ _ hM4) (mats_same hz4 S5) (by omega) hd4 hp5 hd5
end
end K54
set_option maxHeartbeats 8000000
namespace K54
open PySem PySem.Spec PyProof.Rows L2

/-! ### _law_right: two rows, numbers, one digit more -/
section
variable {P : Program} {w : World} {K : PySem.W.Frag} {mg : Str → Option Value} {base : Heap} {C DD CR : Addr} {cl : Nat → Addr}
theorem ri_t3 {fr : Addr} {cdv : Value} {A : Around} {outer : List Env} {s : Shared} {H0 : Hp} (Kk : Kr P w K mg base C DD CR cl)
    (hr : Room 13 (A.deeper (envOfC "_law_right" (defScope sRi) s.heap.objs.size fr cdv))) {t5 : TS}
    (ht : PSs (cxOf CX0 P w K mg base NRi "_law_right" (defScope sRi) fr cdv A outer s H0 E0).nox ((defBody sRi).drop 5) t5) :
    ∃ t, PSs (cxOf CX0 P w K mg base NRi "_law_right" (defScope sRi) fr cdv A outer s H0 E0).nox ((defBody sRi).drop 3) t ∧
      ∀ (D : Ends) (H : Hp) (r N M lp : Addr) (ts ps : List Addr) (ms : List M3) (n1 n2 n3 : Str), Rg H r → N ≠ r → M ≠ r → lp ≠ r → lp ≠ M → lp ≠ N → H N = some (.lst [.str n1, .str n2, .str n3]) → N3 n1 n2 n3 →
          H M = some (.lst (ts.map V.ref)) → Paired (MAt H) ts ms → ms.length ≤ 6 → (∀ m ∈ ms, Drn n1 n2 n3 m) → H lp = some (.lst (ps.map V.ref)) → Paired (DgAt C cl H) ps ms →
        (∀ (H' G : Hp) (R S TA d1 d2 : Addr), (∀ b o, b ≠ r → b ≠ lp → H b = some o → H' b = some o) → Rst CR C cl r R S M TA lp d1 d2 ts ms [n1, n2, n3] G H' →
          t5 D [some (.ref r), some (.ref N), some (.ref M), none, some (.ref lp), some (.ref R), some (.ref S), some (.ref TA), none, none, none, none, none] H') →
        t D [some (.ref r), some (.ref N), some (.ref M), none, some (.ref lp), none, none, none, none, none, none, none, none] H := by
  obtain ⟨⟨a, c, ⟨gC, fi, fdi, MS, gi, bi, bi0⟩, _, _, _, _, _, _, _, _, _, _, _, _, _, _, _, _, _⟩, T, _, _, _, _, ⟨fn, fdn, Gn, kn, bn, gn⟩, _, _, ⟨fr', fdr, MR, Gr, br⟩, _, _, _, _, tupN⟩ := Kk
  obtain ⟨f0, fd0, M0, G0, b0⟩ := a.new0
  have g0 := (a.dq 0 (by decide)).gD
  have Gn13 := Gn.mono (k := 13) (by decide)
  have hr4 : Room 4 (A.deeper (envOfC "_law_right" (defScope sRi) s.heap.objs.size fr cdv)) := hr.mono (by decide)
  have hr3 : Room 3 (A.deeper (envOfC "_law_right" (defScope sRi) s.heap.objs.size fr cdv)) := hr.mono (by decide)
  refine ⟨_, pss_cons (ps_par3 (i := 5) (j := 6) (l := 7) rfl scRi.nd rfl rfl rfl (by decide) (by decide) (by decide) rfl rfl rfl
        (pa_cons (pe_make (E := E0) MR Gr hr3 (by rfl) c.gR br .nil pass0 (pa_cons (pv 4) pa_nil))
        (pa_cons (pe_make (E := E0) MR Gr hr3 (by rfl) c.gR br .nil pass0 (pa_cons (pe_callTy call_tuple_of (by rfl) tupN (by decide +kernel) (pa_cons (pv 4) pa_nil)) pa_nil))
        (pa_cons (pe_lst (pa_cons (pe_call (E := E0) Gn13 hr (by rfl) gn kn bn .nil pass0 (pa_cons (pv 0) (pa_cons (pv 1) pa_nil))) (pa_cons (pe_call (E := E0) Gn13 hr (by rfl) gn kn bn .nil pass0 (pa_cons (pv 0) (pa_cons (pv 1) pa_nil))) pa_nil))) pa_nil))) rfl)
    (pss_cons (ps_expr (pe_bm PySem.F.plainAttrs_list PySem.F.slot_list_append PySem.F.type_list_append mt_append (pv 4) (pa_cons
      (pe_make (E := E0) M0 G0 hr3 (by rfl) g0 b0 .nil pass0 (pa_cons (pe_make0 (E := E0) MS gi hr4 (by rfl) gC bi0 (.cons (show RelV .non .none from rfl) .nil) pass0) pa_nil)) pa_nil))) ht), ?_⟩
  intro D H r N M lp ts ps ms n1 n2 n3 hR Nr Mr lpr lpM lpN hN h3 hM hz hl hdm hlp hd k
  have lps := Paired.length hd
  refine ⟨_, rfl, rd_row (.inl hlp) hd fun H1 R dx1 L1 S1 nR nL1 _ hL1 hx1 => ⟨rfl, ?_⟩⟩
  refine ⟨_, rfl, lp, _, rfl, .inl ⟨SqL.of (S1 _ _ hlp), fun q nq => ?_⟩⟩
  have Sq := fresh_upd (o := .tup (ps.map V.ref)) nq
  have hq : upd H1 q (.tup (ps.map V.ref)) q = some (.tup (ps.map V.ref)) := upd_same
  generalize upd H1 q (.tup (ps.map V.ref)) = H2 at Sq hq
  have S02 := S1.trans Sq
  refine rd_row (.inr (SqT.of hq)) (dgs_same hd S02) fun H3 S dx2 L2 S3 nS nL2 _ hL2 hx2 => ⟨rfl, ?_⟩
  have S03 := S02.trans S3
  have hR3 := hR.same S03
  refine ⟨_, rfl, _, rfl, r, N, n1, n2, n3, rfl, hR3, Nr, S03 _ _ hN, h3, fun H4 d1 l1 k1 c1 hR4 B4 nd1 hd1 l10 l11 k10 k11 c10 c11 => ?_⟩
  refine ⟨_, rfl, _, rfl, r, N, n1, n2, n3, rfl, hR4, Nr, B4 _ _ Nr (S03 _ _ hN), h3, fun H5 d2 l2 k2 c2 hR5 B5 nd2 hd2 l20 l21 k20 k21 c20 c21 => ?_⟩
  have d1r : d1 ≠ r := fun e => by
    obtain ⟨x, y, e2, _⟩ := hR4
    rw [e, e2] at hd1
    cases hd1
  have hd15 := B5 _ _ d1r hd1
  refine ⟨by rw [sizeLine_eq]; show 2 ≤ 16777216; decide, fun TA nTA => ⟨_, _, _, rfl, ?_⟩⟩
  have B05 : But r H H5 := (But.of S03).trans (B4.trans B5)
  have B35 : But r H3 H5 := B4.trans B5
  have S6 := fresh_upd (o := .lst [V.ref d1, V.ref d2]) nTA
  have hTA : upd H5 TA (.lst [V.ref d1, V.ref d2]) TA = some (.lst [V.ref d1, V.ref d2]) := upd_same
  have TAlp : TA ≠ lp := fun e => by
    rw [e, B05 _ _ lpr hlp] at nTA
    cases nTA
  have TAr : TA ≠ r := (hR5.ne nTA).symm
  generalize upd H5 TA (.lst [V.ref d1, V.ref d2]) = H6 at S6 hTA
  have hlp6 := S6 _ _ (B05 _ _ lpr hlp)
  refine ⟨_, rfl, .inl ⟨rfl, _, SqL.of hlp6⟩, ?_⟩
  refine rd_mk0 fun H7 q7 S7 z7 _ => ⟨rfl, ?_⟩
  refine rd_un1 z7 fun H8 u8 S8 n8 du8 => ⟨rfl, ?_⟩
  have S68 := S7.trans S8
  have hlp8 := S68 _ _ hlp6
  refine ⟨lp, _, _, rfl, rfl, hlp8, by rw [List.length_map, sizeLine_eq]; omega, ?_⟩
  have hR8 : Rg H8 r := (hR5.same S6).same S68
  have B08 : But r H H8 := B05.trans (But.of (S6.trans S68))
  have B38 : But r H3 H8 := B35.trans (But.of (S6.trans S68))
  have hl9 : upd H8 lp (.lst (ps.map V.ref ++ [V.ref u8])) lp = some (.lst ((ps ++ [u8]).map V.ref)) := by
    rw [upd_same, List.map_append]
    rfl
  have k8 : Nl H8 (upd H8 lp (.lst (ps.map V.ref ++ [V.ref u8]))) := fun b o n e => by
    rw [upd_ne (fun z => by rw [z, hlp8] at e; cases e; exact n _ rfl)]
    exact e
  have hR9 : Rg (upd H8 lp (.lst (ps.map V.ref ++ [V.ref u8]))) r := hR8.upd lpr
  have ne9 : ∀ b, b ≠ lp → upd H8 lp (.lst (ps.map V.ref ++ [V.ref u8])) b = H8 b := fun b hb => upd_ne hb
  generalize upd H8 lp (.lst (ps.map V.ref ++ [V.ref u8])) = H9 at hl9 k8 hR9 ne9
  have k9 : Nl H9 (strip r H9) := Nl.strip hR9.lst
  have k89 : Nl H8 (strip r H9) := k8.trans k9
  have k09 : Nl H (strip r H9) := (Nl.but B08 hR.lst).trans k89
  have g9 : ∀ b o, b ≠ r → b ≠ lp → H8 b = some o → strip r H9 b = some o := fun b o h1 h2 e => by
    rw [strip_ne h1, ne9 b h2]
    exact e
  have hdG := dgs_nl hd k09
  have L1r : L1 ≠ r := fun e => by
    obtain ⟨x, y, e2, _⟩ := hR
    rw [e, e2] at nL1
    cases nL1
  have L1lp : L1 ≠ lp := fun e => by
    rw [e, hlp] at nL1
    cases nL1
  have L2r : L2 ≠ r := fun e => by
    obtain ⟨x, y, e2, _⟩ := hR.same S02
    rw [e, e2] at nL2
    cases nL2
  have L2lp : L2 ≠ lp := fun e => by
    rw [e, S02 _ _ hlp] at nL2
    cases nL2
  have hL1' : H3 L1 = some (.lst (ps.map V.ref)) := S3 _ _ (Sq _ _ hL1)
  have hx1' := S3 _ _ (Sq _ _ hx1)
  have k38 : Nl H3 (strip r H9) := (Nl.but B38 hR3.lst).trans k89
  have hM8 := B08 _ _ Mr hM
  have nu : ∀ {d : Addr} {l k c : Int}, H8 d = some (.dK (kv (nuE n1 n2 n3 (l * k) l c))) → 1 ≤ l → l ≤ 4 → 1 ≤ k → k ≤ 3 → 1 ≤ c → c ≤ 5 →
      ∃ nu, NuOk (strip r H9) d nu ∧ (∃ n ∈ nu.map (·.1), n ∉ [n1, n2, n3]) ∧ ∀ m ∈ ms, InM nu m ∧ valS nu m.r ≤ 256 := fun {d l k c} hdd a1 a2 a3 a4 a5 a6 => by
    have p1 : 1 ≤ l * k := by
      have := Int.mul_le_mul a1 a3 (by decide) (by omega)
      omega
    have p2 : l * k ≤ 4 * 3 := Int.mul_le_mul a2 a4 (by omega) (by decide)
    exact ⟨_, (nuE_ok h3 hdd ⟨by omega, by omega⟩ ⟨by omega, by omega⟩ ⟨by omega, by omega⟩).nl k89, ⟨"spare", by simp [nuE], spare_out h3⟩, fun m hm => drn_in h3 (hdm m hm) a1 a2 a3 a4 a5 a6⟩
  refine k H9 (strip r H9) R S TA d1 d2 (fun b o h1 h2 e => (ne9 b h2).trans (B08 _ _ h1 e)) ⟨strip_r r H9, strip_self r H9, hR9, ?_, ?_, g9 _ _ Mr lpM.symm hM8, mats_nl hz k09, g9 _ _ TAr TAlp (S68 _ _ hTA), ⟨ps ++ [u8], ?_, Paired.snoc hdG (du8.nl k89)⟩, hl, h3.pool,
    fun m hm => drn_nice h3 (hdm m hm), fun d hh => ?_⟩
  · exact row_at (k38 _ _ (fun xs z => nomatch z) hx1') (g9 _ _ L1r L1lp (B38 _ _ L1r hL1')) hdG
  · exact row_at (k38 _ _ (fun xs z => nomatch z) hx2) (g9 _ _ L2r L2lp (B38 _ _ L2r hL2)) hdG
  · rw [strip_ne lpr]
    exact hl9
  · rcases hh with rfl | rfl
    · exact nu (S68 _ _ (S6 _ _ hd15)) l10 l11 k10 k11 c10 c11
    · exact nu (S68 _ _ (S6 _ _ hd2)) l20 l21 k20 k21 c20 c21
end
end K54
set_option maxHeartbeats 8000000
namespace K54
open PySem PySem.Spec PyProof.Rows L2

/-! ### _law_right: the row is told, its places -/
theorem Rst.mono {CR C : Addr} {cl : Nat → Addr} {r R S M TA lp d1 d2 : Addr} {ts : List Addr} {ms : List M3} {ns : List Str} {G G' H : Hp} (h : Rst CR C cl r R S M TA lp d1 d2 ts ms ns G H) (Z : Same G G') (g0 : G' r = none) (sg : Same G' H) :
    Rst CR C cl r R S M TA lp d1 d2 ts ms ns G' H := by
  obtain ⟨_, _, h2, h3, h4, h5, h6, h7, ⟨ps, h8, h9⟩, h10, h11, h12, h13⟩ := h
  exact ⟨g0, sg, h2, h3.same Z, h4.same Z, Z _ _ h5, mats_same h6 Z, Z _ _ h7, ⟨ps, Z _ _ h8, dgs_same h9 Z⟩, h10, h11, h12, fun d hd => by
    obtain ⟨nu, a, b⟩ := h13 d hd
    exact ⟨nu, a.same Z, b⟩⟩
theorem same_strip {G H : Hp} {r : Addr} (g0 : G r = none) (S : Same G H) : Same G (strip r H) := fun b o e => by
  have hb : b ≠ r := fun z => by
    rw [z, g0] at e
    cases e
  rw [strip_ne hb]
  exact S _ _ e
theorem Rst.up {CR C : Addr} {cl : Nat → Addr} {r R S M TA lp d1 d2 : Addr} {ts : List Addr} {ms : List M3} {ns : List Str} {G H : Hp} (h : Rst CR C cl r R S M TA lp d1 d2 ts ms ns G H) :
    Rst CR C cl r R S M TA lp d1 d2 ts ms ns (strip r H) H := h.mono (same_strip h.g0 h.sg) (strip_r r H) (strip_self r H)
/-- places_right(rng, row, models, the times at A) -/
theorem Rst.places {CR C : Addr} {cl : Nat → Addr} {r R S M TA lp d1 d2 A : Addr} {ts ds : List Addr} {ms : List M3} {ns : List Str} {G H : Hp} {Q : VK} (h : Rst CR C cl r R S M TA lp d1 d2 ts ms ns G H) (hA : G A = some (.lst (ds.map V.ref))) (hd : ∀ d ∈ ds, d = d1 ∨ d = d2) (hl : ds.length ≤ 1000)
    (k : ∀ H', Rg H' r → But r H H' → Q (.bl true) H') : spPlr CR C cl [.ref r, .ref R, .ref M, .ref A] H Q E0 :=
  ⟨r, R, M, A, G, ts, ds, ms, ns, rfl, h.g0, h.sg, h.rg, h.row, h.mod, h.mat, hA, hl, fun d hh => h.nus d (hd d hh), by have := h.len; omega, h.nic, h.pool, k⟩
/-- told_right(row, models) -/
theorem Rst.told {CR C : Addr} {cl : Nat → Addr} {r R S M TA lp d1 d2 : Addr} {ts : List Addr} {ms : List M3} {ns : List Str} {G H : Hp} {Q : VK} (h : Rst CR C cl r R S M TA lp d1 d2 ts ms ns G H) (k : ∀ H', Same H H' → Q (.bl true) H') : spTld CR C cl [.ref R, .ref M] H Q E0 :=
  ⟨R, M, ts, ms, ns, rfl, h.row.same h.sg, h.sg _ _ h.mod, mats_same h.mat h.sg, h.pool, h.nic, by have := h.len; omega, k⟩
section
variable {P : Program} {w : World} {K : PySem.W.Frag} {mg : Str → Option Value} {base : Heap} {C DD CR : Addr} {cl : Nat → Addr}
theorem ri_t5 {fr : Addr} {cdv : Value} {A : Around} {outer : List Env} {s : Shared} {H0 : Hp} (Kk : Kr P w K mg base C DD CR cl)
    (hgu : (A.deeper (envOfC "_law_right" (defScope sRi) s.heap.objs.size fr cdv)).guards = some []) (hr : Room 13 (A.deeper (envOfC "_law_right" (defScope sRi) s.heap.objs.size fr cdv))) {t8 : TS}
    (ht : PSs (cxOf CX0 P w K mg base NRi "_law_right" (defScope sRi) fr cdv A outer s H0 E0).nox ((defBody sRi).drop 8) t8) :
    ∃ t, PSs (cxOf CX0 P w K mg base NRi "_law_right" (defScope sRi) fr cdv A outer s H0 E0).nox ((defBody sRi).drop 5) t ∧
      ∀ (D : Ends) (G H : Hp) (r R S N M TA lp d1 d2 : Addr) (ts : List Addr) (ms : List M3) (ns : List Str), Rst CR C cl r R S M TA lp d1 d2 ts ms ns G H →
        (∀ H', But r H H' → Rg H' r → t8 D [some (.ref r), some (.ref N), some (.ref M), none, some (.ref lp), some (.ref R), some (.ref S), some (.ref TA), none, none, none, none, none] H') →
        t D [some (.ref r), some (.ref N), some (.ref M), none, some (.ref lp), some (.ref R), some (.ref S), some (.ref TA), none, none, none, none, none] H := by
  obtain ⟨⟨a, c, _, _, ⟨fg, fdg, mG, Gg, bg⟩, ⟨fc, fdc, mC, Gc, bc⟩, _, _, _, _, _, _, _, _, _, _, _, _, _, _⟩, T, _, _, _, _, _, ⟨fp, fdp, Gp, kp, bp, gp⟩, ⟨ft, fdt, Gt, kt, bt, gt⟩, _, _, _, _, _, _⟩ := Kk
  have Gp13 := Gp.mono (k := 13) (by decide)
  have Gg13 := Gg.mono (k := 13) (by decide)
  have Gc13 := Gc.mono (k := 13) (by decide)
  refine ⟨_, pss_cons (ps_if (PW.pt (pw_or (pt_not (pt_val (pe_callG Gt hgu hr (by rfl) gt kt bt (pa_cons (pv 5) (pa_cons (pv 2) pa_nil)))))
      (pw_or1 (pt_not (pt_val (pe_call (E := E0) Gp13 hr (by rfl) gp kp bp .nil pass0 (pa_cons (pv 0) (pa_cons (pv 5) (pa_cons (pv 2) (pa_cons (pe_op op_cat (pv 7) (pe_slice sl_list (pv 7) po_none (po_some pe_int))) pa_nil)))))))))) (pss_one ps_no) pss_nil)
    (pss_cons (ps_expr (pe_bm0 PySem.F.plainAttrs_list PySem.F.slot_list_clear PySem.F.type_list_clear mt_clear (pe_meth0 (E := E0) (pv 5) c.cl mG Gg13 hr bg .nil pass0)))
    (pss_cons (ps_expr (pe_bm0 PySem.F.plainAttrs_list PySem.F.slot_list_clear PySem.F.type_list_clear mt_clear (pe_meth0 (E := E0) (pv 5) c.cl mC Gc13 hr bc .nil pass0))) ht)), ?_⟩
  intro D G H r R S N M TA lp d1 d2 ts ms ns h k
  refine ⟨_, rfl, _, rfl, ?_⟩
  dsimp only [tNil]
  refine h.told fun H1 S1 => ⟨_, rfl, iteF ?_⟩
  have h1 := h.next (But.of S1) (h.rg.same S1)
  have hT1 := h1.sg _ _ h1.tim
  refine ⟨_, rfl, _, rfl, _, rfl, _, rfl, _, rfl, 1, rfl, TA, _, rfl, SqL.of hT1, fun p np => ?_⟩
  have S2 := fresh_upd (o := .lst (cutV [V.ref d1, V.ref d2] none (some 1))) np
  have hp2 : upd H1 p (.lst (cutV [V.ref d1, V.ref d2] none (some 1))) p = some (.lst [V.ref d1]) := upd_same
  generalize upd H1 p (.lst (cutV [V.ref d1, V.ref d2] none (some 1))) = H2 at S2 hp2
  refine ⟨TA, p, _, _, rfl, rfl, S2 _ _ hT1, hp2, by rw [sizeLine_eq]; show 3 ≤ 16777216; decide, fun X nX => ?_⟩
  have S3 := fresh_upd (o := .lst [V.ref d1, V.ref d2, V.ref d1]) nX
  have hX : upd H2 X (.lst [V.ref d1, V.ref d2, V.ref d1]) X = some (.lst [V.ref d1, V.ref d2, V.ref d1]) := upd_same
  dsimp only [tNil, List.cons_append, List.nil_append]
  generalize upd H2 X (.lst [V.ref d1, V.ref d2, V.ref d1]) = H3 at S3 hX
  have h3 := (h1.next (But.of (S2.trans S3)) (h1.rg.same (S2.trans S3))).up
  have Xr : X ≠ r := ((h1.rg.same S2).ne nX).symm
  refine h3.places (A := X) (ds := [d1, d2, d1]) ((strip_ne Xr).trans hX) (fun d hd => by
    simp only [List.mem_cons, List.not_mem_nil, or_false] at hd
    rcases hd with e | e | e
    · exact .inl e
    · exact .inr e
    · exact .inl e) (by show 3 ≤ 1000; decide) fun H4 hR4 B4 => ⟨_, rfl, iteF (next_ ?_)⟩
  have B04 : But r H H4 := (But.of (S1.trans (S2.trans S3))).trans B4
  have h4 := h.next B04 hR4
  have hrow4 := h4.row.same h4.sg
  obtain ⟨dx, L, ps, y1, y2, y3⟩ := id hrow4
  refine ⟨_, rfl, R, dx, _, rfl, y1, rfl, R, ms, rfl, hrow4, fun l ps hd nl => ?_⟩
  have S5 := fresh_upd (o := .lst (ps.map V.ref)) nl
  have hl5 : upd H4 l (.lst (ps.map V.ref)) l = some (.lst (ps.map V.ref)) := upd_same
  refine ⟨.inl ⟨rfl, _, SqL.of hl5⟩, l, _, rfl, rfl, hl5, ?_⟩
  rw [upd_upd]
  have S6 := fresh_upd (o := .lst []) nl
  generalize upd H4 l (.lst []) = H6 at S6
  have hrow6 := hrow4.same S6
  refine ⟨_, rfl, R, dx, _, rfl, S6 _ _ y1, rfl, R, ms, ns, rfl, hrow6, h.pool, fun m hm => (h.nic m hm).2, by have := h.len; omega, fun H7 l7 qs S7 nl7 hl7 _ _ => ?_⟩
  refine ⟨.inl ⟨rfl, _, SqL.of hl7⟩, l7, _, rfl, rfl, hl7, ?_⟩
  have S8 : Same H6 (upd H7 l7 (.lst [])) := fun b o e => by
    rw [upd_ne (ne_of_none e nl7)]
    exact S7 _ _ e
  exact k _ (B04.trans (But.of (S6.trans S8))) ((hR4.same S6).same S8)
end
end K54
set_option maxHeartbeats 8000000
namespace K54
open PySem PySem.Spec PyProof.Rows L2

/-! ### _law_right: one row more, rows compared -/
theorem TyX.lst' {K : PySem.W.Frag} {H : Hp} {l : Addr} {xs : List V} (h : H l = some (.lst xs)) : TyX K H (.ref l) (.type "list") := .base (.lst h)
section
variable {P : Program} {w : World} {K : PySem.W.Frag} {mg : Str → Option Value} {base : Heap} {C DD CR : Addr} {cl : Nat → Addr}
theorem ri_t8 {fr : Addr} {cdv : Value} {A : Around} {outer : List Env} {s : Shared} {H0 : Hp} (Kk : Kr P w K mg base C DD CR cl)
    (hgu : (A.deeper (envOfC "_law_right" (defScope sRi) s.heap.objs.size fr cdv)).guards = some []) (hr : Room 13 (A.deeper (envOfC "_law_right" (defScope sRi) s.heap.objs.size fr cdv))) {t10 : TS}
    (ht : PSs (cxOf CX0 P w K mg base NRi "_law_right" (defScope sRi) fr cdv A outer s H0 E0).nox ((defBody sRi).drop 10) t10) :
    ∃ t, PSs (cxOf CX0 P w K mg base NRi "_law_right" (defScope sRi) fr cdv A outer s H0 E0).nox ((defBody sRi).drop 8) t ∧
      ∀ (D : Ends) (G H : Hp) (r R S N M TA lp d1 d2 : Addr) (ts : List Addr) (ms : List M3) (ns : List Str), Rst CR C cl r R S M TA lp d1 d2 ts ms ns G H →
        (∀ (H' G' : Hp) (mo : Addr), But r H H' → Rst CR C cl r R S M TA lp d1 d2 ts ms ns G' H' → RowAt CR C cl G' mo (ms ++ [z0M]) →
          t10 D [some (.ref r), some (.ref N), some (.ref M), none, some (.ref lp), some (.ref R), some (.ref S), some (.ref TA), some (.ref mo), none, none, none, none] H') →
        t D [some (.ref r), some (.ref N), some (.ref M), none, some (.ref lp), some (.ref R), some (.ref S), some (.ref TA), none, none, none, none, none] H := by
  obtain ⟨⟨a, c, _, _, _, _, _, _, _, _, _, _, _, _, _, _, _, _, _, _⟩, T, _, _, _, _, _, _, ⟨ft, fdt, Gt, kt, bt, gt⟩, ⟨fr', fdr, MR, Gr, br⟩, ⟨fe, fde, Ge, hse, hfe, be⟩, rme, rne, rlk, _⟩ := Kk
  have hr5 : Room 5 (A.deeper (envOfC "_law_right" (defScope sRi) s.heap.objs.size fr cdv)) := hr.mono (by decide)
  have hr4 : Room 4 (A.deeper (envOfC "_law_right" (defScope sRi) s.heap.objs.size fr cdv)) := hr.mono (by decide)
  have hr3 : Room 3 (A.deeper (envOfC "_law_right" (defScope sRi) s.heap.objs.size fr cdv)) := hr.mono (by decide)
  refine ⟨_, pss_cons (ps_set (i := 8) scRi.nd rfl (.inl rfl) (pe_make (E := E0) MR Gr hr3 (by rfl) c.gR br .nil pass0 (pa_cons (pv 4) pa_nil)))
    (pss_cons (ps_if (PW.pt (pw_or (pt_cmpR (op_ownNeX Ge hr5 hse hfe rme rne be pass0 spRwE_mono) (pv 5) (pv 6) (nomark _))
      (pw_or (pt_cmpR (op_ownX Ge hr4 hse hfe be pass0 spRwE_mono) (pv 5) (pv 8) (nomark _))
      (pw_or (pt_cmpR (op_ownX Ge hr4 hse hfe be pass0 spRwE_mono) (pv 5) (pv 2) (nomark _))
      (pw_or1 (pt_not (pt_val (pe_callG Gt hgu hr (by rfl) gt kt bt (pa_cons (pv 5) (pa_cons (pv 2) pa_nil)))))))))) (pss_one ps_no) pss_nil) ht), ?_⟩
  intro D G H r R S N M TA lp d1 d2 ts ms ns h k
  obtain ⟨ps, hp, hd⟩ := h.pas
  refine ⟨_, rfl, rd_row (.inl (h.sg _ _ hp)) (dgs_same hd h.sg) fun H1 mo dx L S1 nmo nL Lmo hL hmo => ⟨rfl, ?_⟩⟩
  have h1 := (h.next (But.of S1) (h.rg.same S1)).up
  have mor : mo ≠ r := (h.rg.ne nmo).symm
  have Lr : L ≠ r := (h.rg.ne nL).symm
  have hdG : Paired (DgAt C cl (strip r H1)) ps (ms ++ [z0M]) := dgs_same hd (same_strip h.g0 (h.next (But.of S1) (h.rg.same S1)).sg)
  have hmoG : RowAt CR C cl (strip r H1) mo (ms ++ [z0M]) := row_at ((strip_ne mor).trans hmo) ((strip_ne Lr).trans hL) hdG
  have sd : decide (ms = ms ++ [z0M]) = false := decide_eq_false fun z => by
    have := congrArg List.length z
    rw [List.length_append] at this
    simp at this
  have hrow1 := h1.row.same h1.sg
  have hsam1 := h1.sam.same h1.sg
  have hmo1 := hmoG.same h1.sg
  obtain ⟨dx1, L1, ps1, y1, y2, y3⟩ := id hrow1
  obtain ⟨dx2, L2, ps2, z1, z2, z3⟩ := id hsam1
  obtain ⟨dx3, L3, ps3, w1, w2, w3⟩ := id hmo1
  refine ⟨_, rfl, _, rfl, R, dx1, _, _, rfl, y1, .base (.ins z1), R, ms, _, rfl, hrow1, .inl ⟨S, ms, rfl, hsam1, fun H2 S2 => ⟨_, rfl, _, rfl, ?_⟩⟩⟩
  rw [show (!decide (ms = ms)) = false by simp]
  refine iteF ?_
  refine ⟨_, rfl, _, rfl, R, dx1, _, _, rfl, S2 _ _ y1, .base (.ins (S2 _ _ w1)), R, ms, _, rfl, hrow1.same S2, .inl ⟨mo, ms ++ [z0M], rfl, hmo1.same S2, fun H3 S3 => ⟨_, rfl, _, rfl, ?_⟩⟩⟩
  rw [sd]
  refine iteF ?_
  have S13 := S2.trans S3
  have hM3 := S13 _ _ (h1.sg _ _ h1.mod)
  refine ⟨_, rfl, _, rfl, R, dx1, _, _, rfl, S13 _ _ y1, .lst hM3, R, ms, _, rfl, hrow1.same S13, .inr ⟨_, TyX.lst' hM3, rlk, ⟨_, rfl, _, rfl, iteF ?_⟩⟩⟩
  have h3 := h1.next (But.of S13) (h1.rg.same S13)
  refine ⟨_, rfl, _, rfl, ?_⟩
  dsimp only [tNil]
  refine h3.told fun H4 S4 => ⟨_, rfl, iteF (next_ ?_)⟩
  exact k H4 (strip r H1) mo (But.of (S1.trans (S13.trans S4))) (h3.next (But.of S4) (h3.rg.same S4)) hmoG
end
end K54
set_option maxHeartbeats 8000000
namespace K54
open PySem PySem.Spec PyProof.Rows L2

/-! ### _law_right: one digit the other way -/
theorem ite_nb {c : Bool} {A B : Prop} (hc : c = false) (h : B) : if c = true then A else B := by
  rw [hc, if_neg Bool.false_ne_true]
  exact h
theorem cut_take {xs : List V} {i : Nat} (h : i ≤ xs.length) : cutV xs none (some (i : Int)) = xs.take i := by
  unfold cutV
  rw [HT.sIx_none, HT.sIx_nat, Nat.min_eq_left h, List.drop_zero, Nat.sub_zero]
theorem cut_drop {xs : List V} {i : Nat} (h : i < xs.length) : cutV xs (some ((i : Int) + 1)) none = xs.drop (i + 1) := by
  unfold cutV
  rw [show (i : Int) + 1 = ((i + 1 : Nat) : Int) from rfl, HT.sIx_none, HT.sIx_nat, Nat.min_eq_left h]
  refine List.take_of_length_le ?_
  rw [List.length_drop]
  exact Nat.le_refl _
theorem paired_app {α β : Type} {R : α → β → Prop} : ∀ {xs : List α} {ys : List β} {xs' : List α} {ys' : List β}, Paired R xs ys → Paired R xs' ys' → Paired R (xs ++ xs') (ys ++ ys')
  | _, _, _, _, .nil, h => h
  | _, _, _, _, .cons a t, h => .cons a (paired_app t h)
theorem paired_take {α β : Type} {R : α → β → Prop} : ∀ (n : Nat) {xs : List α} {ys : List β}, Paired R xs ys → Paired R (xs.take n) (ys.take n)
  | 0, _, _, _ => .nil
  | _ + 1, _, _, .nil => .nil
  | n + 1, _, _, .cons a t => .cons a (paired_take n t)
theorem paired_drop {α β : Type} {R : α → β → Prop} : ∀ (n : Nat) {xs : List α} {ys : List β}, Paired R xs ys → Paired R (xs.drop n) (ys.drop n)
  | 0, _, _, h => h
  | _ + 1, _, _, .nil => .nil
  | n + 1, _, _, .cons _ t => paired_drop n t
theorem turn_eq {m : M3} (h : m.k < 3) : m = m.turn ↔ m.k = 0 := by
  unfold M3.turn
  obtain ⟨k, r, f⟩ := m
  dsimp only at *
  by_cases e : k = 0
  · subst e
    simp
  · rw [if_neg e]
    constructor
    · intro z
      injection z with z
      omega
    · intro z
      exact absurd z e
theorem swap_eq {ms : List M3} {i : Nat} {m : M3} (h : ms[i]? = some m) (hk : m.k < 3) : decide (ms = ms.take i ++ [m.turn] ++ ms.drop (i + 1)) = decide (V.str (wayD m.k) = V.str "unused") := by
  have hi : i < ms.length := (List.getElem?_eq_some_iff.mp h).1
  have e : ms = ms.take i ++ [m] ++ ms.drop (i + 1) := by
    have z : ms.take i ++ [m] = ms.take (i + 1) := (take_snoc h).symm
    rw [z, List.take_append_drop]
  have e1 : (ms = ms.take i ++ [m.turn] ++ ms.drop (i + 1)) ↔ m.k = 0 := by
    rw [← turn_eq hk]
    constructor
    · intro z
      have z2 : ms[i]? = (ms.take i ++ [m.turn] ++ ms.drop (i + 1))[i]? := by rw [← z]
      rw [h, List.append_assoc, List.getElem?_append_right (by rw [List.length_take]; omega)] at z2
      have z3 : i - (ms.take i).length = 0 := by rw [List.length_take]; omega
      rw [z3] at z2
      exact Option.some.inj z2
    · intro z
      rw [← z]
      exact e
  have e2 : (V.str (wayD m.k) = V.str "unused") ↔ m.k = 0 := by
    rw [← (way_eq hk).1]
    exact ⟨fun z => V.str.inj z, fun z => by rw [z]⟩
  exact decide_eq_decide.mpr (e1.trans e2.symm)
section
variable {P : Program} {w : World} {K : PySem.W.Frag} {mg : Str → Option Value} {base : Heap} {C DD CR : Addr} {cl : Nat → Addr}
theorem ri_t10 {fr : Addr} {cdv : Value} {A : Around} {outer : List Env} {s : Shared} {H0 : Hp} (Kk : Kr P w K mg base C DD CR cl)
    (hr : Room 13 (A.deeper (envOfC "_law_right" (defScope sRi) s.heap.objs.size fr cdv))) {t11 : TS}
    (ht : PSs (cxOf CX0 P w K mg base NRi "_law_right" (defScope sRi) fr cdv A outer s H0 E0).nox ((defBody sRi).drop 11) t11) :
    ∃ t, PSs (cxOf CX0 P w K mg base NRi "_law_right" (defScope sRi) fr cdv A outer s H0 E0).nox ((defBody sRi).drop 10) t ∧
      ∀ (D : Ends) (G H : Hp) (r R S N M TA lp d1 d2 mo : Addr) (ts : List Addr) (ms : List M3) (ns : List Str), Rst CR C cl r R S M TA lp d1 d2 ts ms ns G H →
        (∀ (H' : Hp) (o3 o9 o10 : Option V), Same H H' →
          t11 D [some (.ref r), some (.ref N), some (.ref M), o3, some (.ref lp), some (.ref R), some (.ref S), some (.ref TA), some (.ref mo), o9, o10, none, none] H') →
        t D [some (.ref r), some (.ref N), some (.ref M), none, some (.ref lp), some (.ref R), some (.ref S), some (.ref TA), some (.ref mo), none, none, none, none] H := by
  obtain ⟨⟨a, c, _, _, _, _, _, _, _, _, _, _, _, _, ⟨fo, fdo, Go, ko, bo, go⟩, _, _, _, _, _⟩, T, _, _, _, ⟨fm, fdm, Gm, km, bm, gm⟩, _, _, _, ⟨fr', fdr, MR, Gr, br⟩, ⟨fe, fde, Ge, hse, hfe, be⟩, rme, rne, rlk, _⟩ := Kk
  have Go13 := Go.mono (k := 13) (by decide)
  have Gm13 := Gm.mono (k := 13) (by decide)
  have hr4 : Room 4 (A.deeper (envOfC "_law_right" (defScope sRi) s.heap.objs.size fr cdv)) := hr.mono (by decide)
  have hr3 : Room 3 (A.deeper (envOfC "_law_right" (defScope sRi) s.heap.objs.size fr cdv)) := hr.mono (by decide)
  refine ⟨_, pss_cons (ps_for PassesOwn.never rfl (pi_enum (by rfl) T.enum (pa_cons (pv 2) pa_nil)) (pg_tup rfl (pgs_cons (pg_name (i := 9) scRi.nd rfl (Or.inl rfl)) (pgs_cons (pg_name (i := 3) scRi.nd rfl (Or.inl rfl)) pgs_nil)))
      (pss_cons (ps_set (i := 10) scRi.nd rfl (.inl rfl) (pe_make (E := E0) MR Gr hr3 (by rfl) c.gR br .nil pass0 (pa_cons
        (pe_lc (own := [("_law_one", 12)]) (g := gName 12) (tt := tYes) (te := tCall (spMdd C cl) [] E0 (tCons (tVar 12) tNil)) rfl scRi.nd
          (pi_list (pe_op op_cat (pe_op op_cat (pe_slice sl_list (pv 2) po_none (po_some (pv 9))) (pe_lst (pa_cons (pe_call (E := E0) Go13 hr (by rfl) go ko bo .nil pass0 (pa_cons (pv 3) pa_nil)) pa_nil)))
            (pe_slice sl_list (pv 2) (po_some (pe_op op_add (pv 9) pe_int)) po_none)))
          (blkOk_by (own := [("_law_one", 12)]) (N := NRi) (sc := defScope sRi) (by decide +kernel)) (fun _ _ _ _ _ => pg_name (i := 12) scRi.nd rfl (Or.inl rfl)) (fun _ _ _ _ _ => pts_nil)
          (fun _ _ _ _ _ => by exact pe_call (E := E0) Gm13 hr (by rfl) gm km bm .nil pass0 (pa_cons (pv 12) pa_nil))) pa_nil)))
      (pss_one (ps_if (pt_cmpR op_ne (pe_cmpR (op_ownX Ge hr4 hse hfe be pass0 spRwE_mono) (pv 5) (pv 10) (nomark _)) (pe_cmpR op_eq (pe_ix ix_tup (pv 3) pe_int (fun _ _ => rfl)) pe_str (nomark _)) (nomark _)) (pss_one ps_no) pss_nil)))) ht, ?_⟩
  intro D G H r R S N M TA lp d1 d2 mo ts ms ns h k
  have hM := h.sg _ _ h.mod
  have hz := mats_same h.mat h.sg
  have hlz := Paired.length hz
  have hl6 := h.len
  refine ⟨_, rfl, M, _, rfl, SqL.of hM, for_it (walk_enum (K := K) (a := M) (xs := ts.map V.ref)) (fun i σ H2 => (∃ o3 o9 o10, σ = [some (.ref r), some (.ref N), some (.ref M), o3, some (.ref lp), some (.ref R), some (.ref S), some (.ref TA), some (.ref mo), o9, o10, none, none]) ∧ Same H H2)
    ⟨⟨none, none, none, rfl⟩, Same.refl H⟩ (fun i σ H2 _ h => SqL.of (h.2 _ _ hM)) ?_ ?_⟩
  · rintro i v σ H9 H2 hi ⟨⟨o3, o9, o10, rfl⟩, S2⟩ ⟨U, y, z, rfl, nU, rfl, e1, e2⟩
    rw [List.length_map] at hi
    have ez : z = V.ref ts[i] := by
      dsimp only at e2
      rw [List.getElem?_map, List.getElem?_eq_getElem hi] at e2
      exact (Option.some.inj e2).symm
    have ey : y = V.int (i : Nat) := (Option.some.inj e1).symm
    subst ez ey
    obtain ⟨m, hm, dm⟩ := pairedLX hz hi
    have hNm := h.nic m (List.mem_of_getElem? hm)
    have S3 := fresh_upd (o := .tup [V.int (i : Nat), V.ref ts[i]]) nU
    refine ⟨U, _, rfl, SqT.of upd_same, rfl, _, _, rfl, _, _, rfl, rfl, ?_⟩
    generalize upd H9 U (.tup [V.int (i : Nat), V.ref ts[i]]) = HA at S3
    have S03 := S2.trans S3
    refine ⟨_, rfl, _, rfl, _, rfl, M, _, rfl, SqL.of (S03 _ _ hM), fun p1 np1 => ?_⟩
    rw [cut_take (by rw [List.length_map]; omega)]
    have S4 := fresh_upd (o := .lst ((ts.map V.ref).take i)) np1
    have e4 : upd HA p1 (.lst ((ts.map V.ref).take i)) p1 = some (.lst ((ts.map V.ref).take i)) := upd_same
    generalize upd HA p1 (.lst ((ts.map V.ref).take i)) = H4 at S4 e4
    have S04 := S03.trans S4
    refine ⟨_, rfl, ts[i], m, rfl, dm.same S04, fun H5 T2 S5 nT2 m2 => ⟨by rw [sizeLine_eq]; show 1 ≤ 16777216; decide, fun p2 np2 => ?_⟩⟩
    have S6 := fresh_upd (o := .lst [V.ref T2]) np2
    have e6 : upd H5 p2 (.lst [V.ref T2]) p2 = some (.lst [V.ref T2]) := upd_same
    generalize upd H5 p2 (.lst [V.ref T2]) = H6 at S6 e6
    have S46 := S5.trans S6
    refine ⟨p1, p2, _, _, rfl, rfl, S46 _ _ e4, e6, by rw [List.length_take, List.length_map, sizeLine_eq]; show min i ts.length + 1 ≤ 16777216; omega, fun p3 np3 => ?_⟩
    have S7 := fresh_upd (o := .lst ((ts.map V.ref).take i ++ [V.ref T2])) np3
    have e7 : upd H6 p3 (.lst ((ts.map V.ref).take i ++ [V.ref T2])) p3 = some (.lst ((ts.map V.ref).take i ++ [V.ref T2])) := upd_same
    generalize upd H6 p3 (.lst ((ts.map V.ref).take i ++ [V.ref T2])) = H7 at S7 e7
    have S07 := S04.trans (S46.trans S7)
    refine ⟨_, rfl, _, rfl, _, _, rfl, rfl, _, rfl, M, _, rfl, SqL.of (S07 _ _ hM), fun p4 np4 => ?_⟩
    rw [cut_drop (by rw [List.length_map]; omega)]
    have S8 := fresh_upd (o := .lst ((ts.map V.ref).drop (i + 1))) np4
    have e8 : upd H7 p4 (.lst ((ts.map V.ref).drop (i + 1))) p4 = some (.lst ((ts.map V.ref).drop (i + 1))) := upd_same
    generalize upd H7 p4 (.lst ((ts.map V.ref).drop (i + 1))) = H8 at S8 e8
    refine ⟨p3, p4, _, _, rfl, rfl, S8 _ _ e7, e8, by rw [List.length_append, List.length_take, List.length_drop, List.length_map, sizeLine_eq]; show min i ts.length + 1 + (ts.length - (i + 1)) ≤ 16777216; omega, fun p5 np5 => ?_⟩
    have eL : (ts.map V.ref).take i ++ [V.ref T2] ++ (ts.map V.ref).drop (i + 1) = (ts.take i ++ [T2] ++ ts.drop (i + 1)).map V.ref := by
      rw [List.map_append, List.map_append, List.map_take, List.map_drop]
      rfl
    rw [eL]
    have hz8 : Paired (MAt H8) (ts.take i ++ [T2] ++ ts.drop (i + 1)) (ms.take i ++ [m.turn] ++ ms.drop (i + 1)) := by
      have S08 := S07.trans S8
      have q := mats_same hz S08
      exact paired_app (paired_app (paired_take i q) (.cons (m2.same (S6.trans (S7.trans S8))) .nil)) (paired_drop (i + 1) q)
    have hN8 : ∀ x ∈ ms.take i ++ [m.turn] ++ ms.drop (i + 1), NiceM x := fun x hx => by
      rcases List.mem_append.mp hx with hx | hx
      · rcases List.mem_append.mp hx with hx | hx
        · exact (h.nic x (List.mem_of_mem_take hx)).1
        · rw [List.mem_singleton.mp hx]
          exact hNm.1.turn
      · exact (h.nic x (List.mem_of_mem_drop hx)).1
    have hl8 : (ms.take i ++ [m.turn] ++ ms.drop (i + 1)).length ≤ 8 := by
      rw [List.length_append, List.length_append, List.length_take, List.length_drop]
      show min i ms.length + 1 + (ms.length - (i + 1)) ≤ 8
      omega
    have hsw := swap_eq hm dm.choose_spec.choose_spec.2.2.2
    generalize ms.take i ++ [m.turn] ++ ms.drop (i + 1) = ms' at hz8 hN8 hl8 hsw
    generalize ts.take i ++ [T2] ++ ts.drop (i + 1) = ts' at hz8 eL
    have hlz8 := Paired.length hz8
    have S9 := fresh_upd (o := .lst (ts'.map V.ref)) np5
    have e9 : upd H8 p5 (.lst (ts'.map V.ref)) p5 = some (.lst (ts'.map V.ref)) := upd_same
    generalize upd H8 p5 (.lst (ts'.map V.ref)) = HB at S9 e9
    have hz9 := mats_same hz8 S9
    have S0B := S07.trans (S8.trans S9)
    refine ⟨p5, rfl, ⟨_, SqL.of e9⟩, fun Z nZ => ?_⟩
    refine lc_it (walk_list (K := K) (a := p5) (xs := ts'.map V.ref)) (fun j H5 => Same HB H5 ∧ ∃ ps, H5 Z = some (.lst (ps.map V.ref)) ∧ Paired (DgAt C cl H5) ps (ms'.take j)) ⟨fresh_upd nZ, [], upd_same, .nil⟩
      (fun j H5 _ h => SqL.of (h.1 _ _ e9)) ?_ ?_
    · rintro j y H5 H6 hj ⟨S5, ps, hp5, hd5⟩ ⟨rfl, hx⟩
      rw [List.length_map] at hj
      have ex : y = V.ref ts'[j] := by
        rw [List.getElem?_map, List.getElem?_eq_getElem hj] at hx
        exact (Option.some.inj hx).symm
      subst ex
      obtain ⟨m', hm', hd⟩ := pairedLX hz9 hj
      refine ⟨rfl, ?_⟩
      unfold tYes
      dsimp only
      rw [if_pos rfl]
      refine ⟨_, rfl, ts'[j], m', rfl, hd.same S5, hN8 m' (List.mem_of_getElem? hm'), fun H7 p S7 np hp => ⟨_, S7 _ _ hp5, ?_, fun b o eb => ?_, ps ++ [p], by rw [upd_same, List.map_append]; rfl, ?_⟩⟩
      · have := Paired.length hd5
        rw [List.length_take] at this
        rw [List.length_map, sizeLine_eq]
        omega
      · rw [upd_ne (ne_of_none eb nZ)]
        exact S7 _ _ (S5 _ _ eb)
      · have kl : Nl H7 (upd H7 Z (.lst (ps.map V.ref ++ [V.ref p]))) := fun b o n e => by
          rw [upd_ne (fun z => by rw [z, S7 _ _ hp5] at e; cases e; exact n _ rfl)]
          exact e
        rw [take_snoc hm']
        exact Paired.snoc (dgs_nl (dgs_same hd5 S7) kl) (hp.nl kl)
    · rintro H5 ⟨S5, ps, hp5, hd5⟩
      rw [List.length_map, List.take_of_length_le (by omega)] at hd5
      refine rd_row (.inl hp5) hd5 fun H6 ot dx L S6 nx nL Lx hL hx => ⟨rfl, ?_⟩
      have S06 := S0B.trans (S5.trans S6)
      have hot : RowAt CR C cl H6 ot ms' := row_at hx hL (dgs_same hd5 S6)
      have hrow := (h.row.same h.sg).same S06
      obtain ⟨dx1, L1, ps1, y1, y2, y3⟩ := id hrow
      refine ⟨_, rfl, _, rfl, R, dx1, _, _, rfl, y1, .base (.ins hx), R, ms, _, rfl, hrow, .inl ⟨ot, ms', rfl, hot, fun H7 S7 => ⟨_, rfl, ?_⟩⟩⟩
      obtain ⟨dr, vf, u1, u2, u3, u4⟩ := dm.same (S06.trans S7)
      refine ⟨_, rfl, ts[i], _, 0, _, rfl, rfl, SqT.of u1, rfl, rfl, rfl, _, rfl, ?_⟩
      exact ite_nb (by dsimp only [id]; rw [hsw]; simp) (next_ ⟨⟨_, _, _, rfl⟩, S06.trans S7⟩)
  · rintro σ H2 ⟨⟨o3, o9, o10, rfl⟩, S2⟩
    exact k H2 o3 o9 o10 S2
end
end K54
set_option maxHeartbeats 8000000
namespace K54
open PySem PySem.Spec PyProof.Rows L2

/-! ### _law_right -/
def spRi : Sp := fun vs H Q _ => ∃ (r : Addr), vs = [.ref r] ∧ Rg H r ∧ ∀ H', But r H H' → Rg H' r → Q (.bl true) H'
section
variable {P : Program} {w : World} {K : PySem.W.Frag} {mg : Str → Option Value} {base : Heap} {C DD CR : Addr} {cl : Nat → Addr}
theorem ri_t11 {fr : Addr} {cdv : Value} {A : Around} {outer : List Env} {s : Shared} {H0 : Hp} (Kk : Kr P w K mg base C DD CR cl)
    (hgu : (A.deeper (envOfC "_law_right" (defScope sRi) s.heap.objs.size fr cdv)).guards = some []) (hr : Room 13 (A.deeper (envOfC "_law_right" (defScope sRi) s.heap.objs.size fr cdv))) :
    ∃ t, PSs (cxOf CX0 P w K mg base NRi "_law_right" (defScope sRi) fr cdv A outer s H0 E0).nox ((defBody sRi).drop 11) t ∧
      ∀ (D : Ends) (G H : Hp) (r R S N M TA lp d1 d2 mo : Addr) (o3 o9 o10 : Option V) (ts : List Addr) (ms : List M3) (ns : List Str), Rst CR C cl r R S M TA lp d1 d2 ts ms ns G H → RowAt CR C cl G mo (ms ++ [z0M]) →
        (∀ (H' : Hp), But r H H' → Rg H' r → D.rt (.bl true) H') →
        t D [some (.ref r), some (.ref N), some (.ref M), o3, some (.ref lp), some (.ref R), some (.ref S), some (.ref TA), some (.ref mo), o9, o10, none, none] H := by
  obtain ⟨_, T, _, _, _, _, _, ⟨fp, fdp, Gp, kp, bp, gp⟩, ⟨ft, fdt, Gt, kt, bt, gt⟩, _, _, _, _, _, _⟩ := Kk
  have Gp13 := Gp.mono (k := 13) (by decide)
  refine ⟨_, pss_one (ps_ret (pe_and (pe_callG Gt hgu hr (by rfl) gt kt bt (pa_cons (pv 8) (pa_cons (pe_op op_cat (pv 2) (pe_lst (pa_cons (pe_tup (pa_cons pe_str (pa_cons pe_dnewK (pa_cons pe_non pa_nil)))) pa_nil))) pa_nil)))
    (pe_one (pe_call (E := E0) Gp13 hr (by rfl) gp kp bp .nil pass0 (pa_cons (pv 0) (pa_cons (pv 5) (pa_cons (pv 2) (pa_cons (pv 7) pa_nil)))))))), ?_⟩
  intro D G H r R S N M TA lp d1 d2 mo o3 o9 o10 ts ms ns h hmo k
  have hM := h.sg _ _ h.mod
  have hz := mats_same h.mat h.sg
  have hlz := Paired.length hz
  have hl6 := h.len
  refine ⟨_, rfl, _, rfl, fun q nq => ?_⟩
  have S1 := fresh_upd (o := .dK []) nq
  have e1 : upd H q (.dK []) q = some (.dK []) := upd_same
  generalize upd H q (.dK []) = H1 at S1 e1
  refine ⟨by rw [sizeLine_eq]; show 3 ≤ 16777216; decide, fun U nU => ?_⟩
  have S2 := fresh_upd (o := .tup [V.str "unused", V.ref q, V.non]) nU
  have e2 : upd H1 U (.tup [V.str "unused", V.ref q, V.non]) U = some (.tup [V.str "unused", V.ref q, V.non]) := upd_same
  generalize upd H1 U (.tup [V.str "unused", V.ref q, V.non]) = H2 at S2 e2
  refine ⟨by rw [sizeLine_eq]; show 1 ≤ 16777216; decide, fun X nX => ?_⟩
  have S3 := fresh_upd (o := .lst [V.ref U]) nX
  have e3 : upd H2 X (.lst [V.ref U]) X = some (.lst [V.ref U]) := upd_same
  generalize upd H2 X (.lst [V.ref U]) = H3 at S3 e3
  have S03 := S1.trans (S2.trans S3)
  refine ⟨M, X, _, _, rfl, rfl, S03 _ _ hM, e3, by rw [List.length_map, sizeLine_eq]; show ts.length + 1 ≤ 16777216; omega, fun Y nY => ?_⟩
  have S4 := fresh_upd (o := .lst (ts.map V.ref ++ [V.ref U])) nY
  have e4 : upd H3 Y (.lst (ts.map V.ref ++ [V.ref U])) Y = some (.lst ((ts ++ [U]).map V.ref)) := by
    rw [upd_same, List.map_append]
    rfl
  generalize upd H3 Y (.lst (ts.map V.ref ++ [V.ref U])) = H4 at S4 e4
  have S04 := S03.trans S4
  have hU : MAt H4 U z0M := ⟨q, .non, S4 _ _ (S3 _ _ e2), S4 _ _ (S3 _ _ (S2 _ _ e1)), .inl ⟨rfl, rfl, rfl⟩, by decide⟩
  refine ⟨mo, Y, ts ++ [U], ms ++ [z0M], ns, rfl, (hmo.same h.sg).same S04, e4, Paired.snoc (mats_same hz S04) hU, h.pool, fun m hm => ?_, by rw [List.length_append]; show ms.length + 1 ≤ 8; omega, fun H5 S5 => ⟨_, rfl, iteT' rfl ?_⟩⟩
  · rcases List.mem_append.mp hm with hm | hm
    · exact h.nic m hm
    · rw [List.mem_singleton.mp hm]
      exact z0_ok ns
  · have h5 := h.next (But.of (S04.trans S5)) (h.rg.same (S04.trans S5))
    refine ⟨_, rfl, _, rfl, _, rfl, _, rfl, ?_⟩
    dsimp only [tNil]
    exact h5.places (A := TA) (ds := [d1, d2]) h5.tim (fun d hd => by simpa using hd) (by show 2 ≤ 1000; decide) fun H6 hR6 B6 => k H6 ((But.of (S04.trans S5)).trans B6) hR6
theorem ok_ri {f : Addr} {fd : FuncData} (F : Fun K "_law_right" "_law_right" sRi f fd) (Kk : Kr P w K mg base C DD CR cl) :
    FnG P w K mg base 14 f fd ["_law_rng_here"] spRi := by
  refine F.okG scRi (fun vs H Q h => ?_) (fun cdv A outer s H vs Q hgu hr h => ?_)
  · obtain ⟨r, rfl, _⟩ := h
    rfl
  · obtain ⟨r, rfl, hR, k⟩ := h
    have hgu' : (A.deeper (envOfC "_law_right" (defScope sRi) s.heap.objs.size f cdv)).guards = some [] := hgu
    obtain ⟨t11, h11, k11⟩ := ri_t11 (outer := outer) (H0 := H) Kk hgu' hr
    obtain ⟨t10, h10, k10⟩ := ri_t10 Kk hr h11
    obtain ⟨t8, h8, k8⟩ := ri_t8 Kk hgu' hr h10
    obtain ⟨t5, h5, k5⟩ := ri_t5 Kk hgu' hr h8
    obtain ⟨t3, h3, k3⟩ := ri_t3 Kk hr h5
    obtain ⟨t0, h0, k0⟩ := ri_t0 Kk hr h3
    refine ⟨t0, h0, ?_⟩
    refine k0 _ H r hR fun H1 N M lp ts ps ms n1 n2 n3 B1 hR1 Nr Mr lpr lpM lpN nlp hN h3' hM hz hl hdm hlp hd => ?_
    refine k3 _ H1 r N M lp ts ps ms n1 n2 n3 hR1 Nr Mr lpr lpM lpN hN h3' hM hz hl hdm hlp hd fun H2 G2 R S TA d1 d2 B2 r2 => ?_
    refine k5 _ G2 H2 r R S N M TA lp d1 d2 ts ms [n1, n2, n3] r2 fun H3 B3 hR3 => ?_
    refine k8 _ G2 H3 r R S N M TA lp d1 d2 ts ms [n1, n2, n3] (r2.next B3 hR3) fun H4 G4 mo B4 r4 hmo => ?_
    refine k10 _ G4 H4 r R S N M TA lp d1 d2 mo ts ms [n1, n2, n3] r4 fun H5 o3 o9 o10 S5 => ?_
    refine k11 _ G4 H5 r R S N M TA lp d1 d2 mo o3 o9 o10 ts ms [n1, n2, n3] (r4.next (But.of S5) (r4.rg.same S5)) hmo fun H6 B6 hR6 => ?_
    refine k H6 (fun b o hb e => ?_) hR6
    have hbl : b ≠ lp := ne_of_none e nlp
    exact B6 _ _ hb (S5 _ _ (B4 _ _ hb (B3 _ _ hb (B2 _ _ hb hbl (B1 _ _ hb e)))))
end
end K54
set_option maxHeartbeats 8000000
namespace K54
open PySem PySem.Spec PyProof.Rows L2

/-! ### law -/
abbrev sLw : Stmt := top 81
def NLa : List Str := ["_law_script", "_law_k"]
def spLaw (K : PySem.W.Frag) : Sp := fun vs H Q _ => ∃ (a : Addr) (ns : List Int), vs = [.ref a] ∧ SqL K H a (ns.map V.int) ∧ ns.length ≤ 1000 ∧
  ∀ H', Q (.bl true) H'
theorem many_nat (n : Nat) : (if (if (n : Int) < 4 then (n : Int) else 4) > 1 then (if (n : Int) < 4 then (n : Int) else 4) else 1) = ((max 1 (min 4 n) : Nat) : Int) := by
  split <;> split <;> omega
theorem many_nat' (n : Nat) : (if (if (4 : Int) < (n : Int) then (4 : Int) else (n : Int)) > 1 then (if (4 : Int) < (n : Int) then (4 : Int) else (n : Int)) else 1) = ((max 1 (min 4 n) : Nat) : Int) := by
  split <;> split <;> omega
structure Kl (P : Program) (w : World) (K : PySem.W.Frag) (mg : Str → Option Value) (base : Heap) (C DD CR : Addr) (cl : Nat → Addr) : Prop where
  kr : Kr P w K mg base C DD CR cl
  pl : ∃ f fd, FnOk P w K mg base CX0 7 f fd ["self", "index", "numbers"] (spRwX CR C cl) ∧ Meth K CR "place" f ∧ Binds K fd ["self", "index", "numbers"] []
  mr : ∃ f fd E, Mk K CR f ∧ FnOk P w K mg base CX0 2 f fd ["self", "digits"] (spRwI K C CR cl) ∧ Binds K fd ["self", "digits"] [] ∧ Binds K fd ["self", "digits"] [.ref E] ∧ ∀ H, SqT K H E []
section
variable {P : Program} {w : World} {K : PySem.W.Frag} {mg : Str → Option Value} {base : Heap} {C DD CR : Addr} {cl : Nat → Addr}
theorem scLw : FnScope NLa ["_law_script"] (defScope sLw) :=
  ⟨rfl, rfl, rfl, by decide +kernel, rfl, by decide +kernel, by decide +kernel⟩
theorem rd_row0 {E : Addr} {H : Hp} {Qx : Addr → VK} (hE : ∀ H, SqT K H E []) (k : ∀ H' x dx L, Same H H' → H' x = some (.ins CR dx [("_digits", .ref L)]) → RowAt CR C cl H' x [] → Qx x .non H') :
    ∀ x dx, H x = none → H dx = none → dx ≠ x → spRwI K C CR cl (.ref x :: [.ref E]) (upd (upd H dx (.own x)) x (.ins CR dx [])) (Qx x) E0 :=
  rd_row (l := E) (ps := []) (ms := []) (.inr (hE H)) .nil fun H' x dx L S _ _ _ hL hx => k H' x dx L S hx (row_at hx hL .nil)
theorem law_t1 {fr : Addr} {cdv : Value} {A : Around} {outer : List Env} {s : Shared} {H0 : Hp} (Kk : Kl P w K mg base C DD CR cl)
    (hr : Room 14 (A.deeper (envOfC "law" (defScope sLw) s.heap.objs.size fr cdv))) {t1 : TS}
    (ht : PSs (cxOf CX0 P w K mg base NLa "law" (defScope sLw) fr cdv A outer s H0 E0).nox ((defBody sLw).drop 1) t1) :
    ∃ t, PSs (cxOf CX0 P w K mg base NLa "law" (defScope sLw) fr cdv A outer s H0 E0).nox (defBody sLw) t ∧
      ∀ (D : Ends) (H : Hp) (σ : L2.St), (∀ H', Same H H' → t1 D σ H') → t D σ H := by
  obtain ⟨⟨⟨a, c, ⟨gC, fi, fdi, MS, gi, bi, bi0⟩, _, _, _, ⟨pt, ft, fdt, hpt, Gt, bt⟩, ⟨fn, fdn, Gn, hsn, hfn, bn⟩, _, _, me, ne, _, _, _, _, lenN, _, _, _⟩, T, _, _, _, _, _, _, _, _, ⟨fe, fde, Ge, hse, hfe, be⟩, rme, rne, rlk, _⟩, ⟨fp, fdp, Gp, mP, bP⟩, ⟨fr', fdr, E, MR, Gr, br, br0, hE⟩⟩ := Kk
  obtain ⟨fE, fdE, GE, hs, hf, hb⟩ := a.sz.eq
  have Gp14 := Gp.mono (k := 14) (by decide)
  have hr8 : Room 8 (A.deeper (envOfC "law" (defScope sLw) s.heap.objs.size fr cdv)) := hr.mono (by decide)
  have hr5 : Room 5 (A.deeper (envOfC "law" (defScope sLw) s.heap.objs.size fr cdv)) := hr.mono (by decide)
  have hr4 : Room 4 (A.deeper (envOfC "law" (defScope sLw) s.heap.objs.size fr cdv)) := hr.mono (by decide)
  have hr3 : Room 3 (A.deeper (envOfC "law" (defScope sLw) s.heap.objs.size fr cdv)) := hr.mono (by decide)
  have hr2 : Room 2 (A.deeper (envOfC "law" (defScope sLw) s.heap.objs.size fr cdv)) := hr.mono (by decide)
  have rv : Vals [V.ref E] [Value.ref E] := .cons rfl .nil
  refine ⟨_, pss_cons (ps_if (PW.pt (pw_or (pt_cmpR op_ne (pe_callB (call_lenO (E := E0) Gn hr2 hsn hfn bn pass0) (by rfl) lenN PySem.boot_len (pa_cons (pe_make0 (E := E0) MR Gr hr3 (by rfl) c.gR br0 rv pass0) pa_nil)) pe_int (nomark _))
      (pw_or (pt_cmpR (op_ownNe GE hr2 hs hf me ne hb pass0 spEq_mono) (pe_prop (E := E0) (pe_make0 (E := E0) MR Gr hr3 (by rfl) c.gR br0 rv pass0) c.cl hpt Gt hr8 bt .nil pass0 rfl)
        (pe_make0 (E := E0) MS gi hr4 (by rfl) gC bi0 (.cons (show RelV .non .none from rfl) .nil) pass0) (nomark _))
      (pw_or (pt_cmpR op_ne (pe_meth (E := E0) (pe_make0 (E := E0) MR Gr hr3 (by rfl) c.gR br0 rv pass0) c.cl mP Gp14 hr bP .nil pass0 (pa_cons pe_int (pa_cons pe_dnewK pa_nil))) pe_int (nomark _))
      (pw_or1 (pt_cmpR (op_ownNeX Ge hr5 hse hfe rme rne be pass0 spRwE_mono) (pe_make0 (E := E0) MR Gr hr3 (by rfl) c.gR br0 rv pass0) (pe_make (E := E0) MR Gr hr3 (by rfl) c.gR br .nil pass0 (pa_cons (pe_lst pa_nil) pa_nil)) (nomark _))))))) (pss_one ps_no) pss_nil) ht, ?_⟩
  intro D H σ k
  refine rd_row0 hE fun H1 x1 dx1 L1 S1 hx1 hr1 => ⟨rfl, ?_⟩
  refine ⟨x1, dx1, _, rfl, hx1, x1, [], rfl, hr1, 0, rfl, by decide, by decide, rfl, _, rfl, iteF ?_⟩
  refine rd_row0 hE fun H2 x2 dx2 L2 S2 hx2 hr2 => ⟨rfl, ?_⟩
  refine ⟨x2, dx2, _, rfl, hx2, x2, [], [], rfl, hr2, ⟨List.Pairwise.nil, (fun n h => nomatch h), by decide⟩, (fun m h => nomatch h), by decide, fun H3 q es S3 z3 m3 => ?_⟩
  have ee : es = [] := by
    refine m3.sd.one (fs := []) List.Pairwise.nil fun n => ?_
    rw [m3.lk]
    show cz (cutF [] 0 n) = none
    rw [cutF_zero]
    rfl
  subst ee
  refine rd_mk0 fun H4 q4 S4 z4 _ => ⟨rfl, ?_⟩
  have z34 := z3.same S4
  obtain ⟨dq, Dq, v1, _⟩ := id z34
  obtain ⟨dr, Dr, v2, _⟩ := id z4
  refine ⟨q, dq, _, _, rfl, v1, .ins v2, q, [], _, rfl, z34, .inl ⟨q4, [], rfl, z4, _, rfl, _, rfl, ?_⟩⟩
  rw [show (!decide (([] : Es) = [])) = false by simp]
  refine iteF ?_
  refine rd_row0 hE fun H5 x5 dx5 L5 S5 hx5 hr5 => ⟨rfl, ?_⟩
  refine ⟨x5, dx5, _, rfl, hx5, rfl, fun d nd => ?_⟩
  have S6 := fresh_upd (o := .dK []) nd
  refine ⟨x5, d, 0, [], [], rfl, hr5.same S6, ⟨upd_same, by decide, List.Pairwise.nil, (fun p h => nomatch h), (fun p h => nomatch h), (fun p h => nomatch h)⟩, by decide, (fun m h => nomatch h), by decide, by decide, fun H7 S7 => ⟨rfl, _, rfl, ?_⟩⟩
  refine iteF ?_
  refine rd_row0 hE fun H8 x8 dx8 L8 S8 hx8 hr8 => ⟨rfl, ?_⟩
  refine ⟨by rw [sizeLine_eq]; show 0 ≤ 16777216; decide, fun Z nZ => ?_⟩
  have S9 := fresh_upd (o := .lst []) nZ
  refine rd_row (l := Z) (ps := []) (ms := []) (.inl upd_same) .nil fun H10 x10 dx10 L10 S10 _ _ _ hL10 hx10 => ⟨rfl, ?_⟩
  have hr10 : RowAt CR C cl H10 x10 [] := row_at hx10 hL10 .nil
  have S8a := S9.trans S10
  refine ⟨x8, dx8, _, _, rfl, S8a _ _ hx8, .base (.ins hx10), x8, [], _, rfl, hr8.same S8a, .inl ⟨x10, [], rfl, hr10, fun H11 S11 => ⟨_, rfl, _, rfl, ?_⟩⟩⟩
  rw [show (!decide (([] : List M3) = [])) = false by simp]
  refine iteF (next_ (k H11 ?_))
  exact S1.trans (S2.trans (S3.trans (S4.trans (S5.trans (S6.trans (S7.trans (S8.trans (S8a.trans S11))))))))
theorem ok_law {f fG fR : Addr} {fd fdG fdR : FuncData} (F : Fun K "law" "law" sLw f fd) (Kk : Kl P w K mg base C DD CR cl)
    (GG : FnOk P w K mg base CX0 1 fG fdG ["_law_script", "_law_k"] (spRng K)) (kG : PySem.W.keepIn K (.ref fG) = true)
    (bG : Binds K fdG ["_law_script", "_law_k"] []) (gG : mg "_law_rng" = some (.ref fG))
    (GR : FnG P w K mg base 14 fR fdR ["_law_rng_here"] spRi) (kR : PySem.W.keepIn K (.ref fR) = true)
    (bR : Binds K fdR ["_law_rng_here"] []) (gR : mg "_law_right" = some (.ref fR)) :
    FnG P w K mg base 15 f fd ["_law_script"] (spLaw K) := by
  have GG14 := GG.mono (k := 14) (by decide)
  have T := Kk.kr.T
  refine F.okG scLw (fun vs H Q h => ?_) (fun cdv A outer s H vs Q hgu hr h => ?_)
  · obtain ⟨a, ns, rfl, _⟩ := h
    rfl
  · obtain ⟨a, ns, rfl, hS, hn, q⟩ := h
    have hgu' : (A.deeper (envOfC "law" (defScope sLw) s.heap.objs.size f cdv)).guards = some [] := hgu
    obtain ⟨t, h1, k1⟩ := law_t1 (outer := outer) (H0 := H) Kk hr (pss_one (ps_ret (pe_callB (cr_all rfl) (by rfl) T.all (by decide +kernel) (pa_cons
      (pe_lc (own := [("_law_k", 1)]) (g := gName 1) (tt := tYes)
        (te := tCall spRi [] E0 (tCons (tCall (spRng K) [] E0 (tCons (tVar 0) (tCons (tVar 1) tNil))) tNil)) rfl scLw.nd
        (pi_range1 (by rfl) T.range (pa_cons (pe_callB (call_max2 rfl) (by rfl) T.max (by decide +kernel) (pa_cons pe_int (pa_cons
          (pe_callB (call_min2 rfl) (by rfl) T.min (by decide +kernel) (pa_cons
            (pe_callB call_len_seq (by rfl) T.len PySem.boot_len (pa_cons (pv 0) pa_nil)) (pa_cons pe_int pa_nil))) pa_nil))) pa_nil))
        (blkOk_by (own := [("_law_k", 1)]) (N := NLa) (sc := defScope sLw) (by decide +kernel)) (fun _ _ _ _ _ => pg_name (i := 1) scLw.nd rfl (Or.inl rfl))
        (fun _ _ _ _ _ => pts_nil) (fun _ _ _ _ _ => by
          exact pe_callG GR hgu' hr rfl gR kR bR (pa_cons (pe_call GG14 hr rfl gG kG bG .nil pass0 (pa_cons (pv 0) (pa_cons (pv 1) pa_nil))) pa_nil))) pa_nil))))
    refine ⟨t, h1, k1 _ H _ fun H1 S1 => ?_⟩
    refine ⟨_, rfl, a, _, rfl, .inl (S1.seq hS), _, _, rfl, _, _, rfl, ?_⟩
    first
      | rw [many_nat]
      | rw [many_nat']
    have hm4 : max 1 (min 4 (ns.map V.int).length) ≤ 4 := by omega
    generalize max 1 (min 4 (ns.map V.int).length) = m at hm4
    refine ⟨m, rfl, by omega, by omega, fun D hD => ?_⟩
    refine lc_range (lo := 0) (n := m) (fun i H2 => H2 D = some (.lst (List.replicate i (V.bl true))) ∧ Same H1 H2)
      ⟨upd_same, fresh_upd hD⟩ ?_ ?_
    · rintro i H2 hi ⟨hD2, S2'⟩
      refine ⟨rfl, ?_⟩
      unfold tYes
      dsimp only
      rw [if_pos rfl]
      refine ⟨_, rfl, _, rfl, a, ns, _, rfl, S2'.seq (S1.seq hS), by omega, by omega, hn, fun p x y hp h0 h1 h2 => ?_⟩
      refine ⟨p, rfl, ⟨x, y, upd_same, h0, h1, h2⟩, fun H3' hB _ => ?_⟩
      have S3' : Same H2 H3' := fun b o e => hB b o (ne_of_none e hp) ((upd_ne (ne_of_none e hp)).trans e)
      refine ⟨_, S3' _ _ hD2, by rw [List.length_replicate, sizeLine_eq]; omega, ?_, fun b o e => ?_⟩
      · rw [upd_same, List.replicate_succ']
      · rw [upd_ne (ne_of_none e hD)]
        exact S3' b o (S2' b o e)
    · rintro H2 ⟨hD2, S2'⟩
      refine ⟨D, List.replicate m true, rfl, SqL.of (by rw [List.map_replicate]; exact hD2), ?_⟩
      rw [all_trues]
      exact q _
end
end K54
set_option maxHeartbeats 8000000
namespace K54
open PySem PySem.Spec PyProof.Rows L2 He
theorem fun_of {K : PySem.W.Frag} {f : Addr} {x qual : Str} {st : Stmt} (e : fnX K f = fnT x qual st) (c : fnB K f qual = true) : ∃ fd, Fun K x qual st f fd := by
  unfold fnB at c
  obtain ⟨kp, c2⟩ := Bool.and_eq_true_iff.mp c
  unfold fnX at e
  cases q : K.lookup f with
  | none =>
    rw [q] at c2
    cases c2
  | some o =>
    obtain ⟨oc, od, dt, osl⟩ := o
    rw [q] at c2 e
    cases dt with
    | func fd =>
      obtain ⟨n1, n2, n3, n4, n5, n6, n7, n8, n9, n10, n11, n12, n13, n14, n15⟩ := fd
      have e2 : (some (n1, n2, n3, n4, n5, n6, n15) : FnX) = some (x, qual, defArgs st, .stmts (defBody st), defScope st, mainGlobals, builtinsNs) := e
      simp only [Option.some.injEq, Prod.mk.injEq] at e2
      obtain ⟨h1, h2, h3, h4, h5, h6, h7⟩ := e2
      subst h1 h2 h3 h4 h5 h6 h7
      dsimp only at c2
      split at c2
      · exact ⟨_, ⟨oc, od, n9, n10, n11, n12, n13, n14, osl, rfl, q, c2⟩, kp⟩
      · cases c2
    | _ => cases c2
theorem fund_of {K : PySem.W.Frag} {f : Addr} {x qual : Str} {st : Stmt} (e : fnX K f = fnT x qual st) (c : fnD K f qual = true) : ∃ fd, FnD K x qual st [.non] f fd := by
  unfold fnD at c
  obtain ⟨kp, c2⟩ := Bool.and_eq_true_iff.mp c
  unfold fnX at e
  cases q : K.lookup f with
  | none =>
    rw [q] at c2
    cases c2
  | some o =>
    obtain ⟨oc, od, dt, osl⟩ := o
    rw [q] at c2 e
    cases dt with
    | func fd =>
      obtain ⟨n1, n2, n3, n4, n5, n6, n7, n8, n9, n10, n11, n12, n13, n14, n15⟩ := fd
      have e2 : (some (n1, n2, n3, n4, n5, n6, n15) : FnX) = some (x, qual, defArgs st, .stmts (defBody st), defScope st, mainGlobals, builtinsNs) := e
      simp only [Option.some.injEq, Prod.mk.injEq] at e2
      obtain ⟨h1, h2, h3, h4, h5, h6, h7⟩ := e2
      subst h1 h2 h3 h4 h5 h6 h7
      dsimp only at c2
      split at c2
      · rename_i T
        obtain ⟨c3, c4⟩ := Bool.and_eq_true_iff.mp c2
        split at c4
        · rename_i a1 a2 its n a4 q2
          have ei := of_decide_eq_true c4
          subst ei
          exact ⟨_, ⟨⟨oc, od, .ref T, _, _, _, _, _, _, osl, rfl, q, c3, .inr ⟨(fun z => nomatch z), T, _, [.none], n, rfl, q2, rfl, .cons rfl .nil⟩, .inl rfl⟩, kp⟩⟩
        · cases c4
      · cases c2
    | _ => cases c2
theorem rec_ok {K : PySem.W.Frag} {p : Addr} {T : String} (h : rcB K p T = true) : ∃ rest, PySem.W.recIn K p T = some (.ref (rcF K p T) :: rest) := by
  unfold rcB at h
  unfold rcF
  split at h
  · rename_i g r e
    rw [e]
    exact ⟨r, rfl⟩
  · cases h
/-- what stands of an own class' __init__ -/
structure InX (file : Str) (K : PySem.W.Frag) (C fI : Addr) (cc cda : Addr) (qual : Str) (params : Arguments) (body : List Stmt) (scope : Scope) : Prop where
  fn : ∃ (oc : Value) (od : Option Addr) (kV doc pm ct : Value) (an : Option Addr) (osl : Array (Option Value)), K.lookup fI = some ⟨oc, od,
      .func (PySem.W.ksFn "__init__" qual params body scope .none kV doc pm an (.ref cda) ct cc), osl⟩
  cod : PySem.W.codeIn K (.ref cda) qual = true
  code : ∃ ccl cdd vs ccs fl tf, K.lookup cda = some ⟨ccl, cdd, .fields vs, ccs⟩ ∧ vs[2]? = some (.str fl tf) ∧ (file == fl) = true
  cell : ∃ cl cld csl, K.lookup cc = some ⟨cl, cld, .cell (some (.ref C)), csl⟩
theorem in_of {file : Str} {K : PySem.W.Frag} {C f : Addr} {qual : Str} {st : Stmt} (e : fnX K f = fnT "__init__" qual st) (c : inB K file C f qual = true) :
    ∃ cc cda, InX file K C f cc cda qual (defArgs st) (defBody st) (defScope st) := by
  unfold inB at c
  unfold fnX at e
  cases q : K.lookup f with
  | none =>
    rw [q] at c
    cases c
  | some o =>
    obtain ⟨oc, od, dt, osl⟩ := o
    rw [q] at c e
    cases dt with
    | func fd =>
      obtain ⟨n1, n2, n3, n4, n5, n6, n7, n8, n9, n10, n11, n12, n13, n14, n15⟩ := fd
      have e2 : (some (n1, n2, n3, n4, n5, n6, n15) : FnX) = some (("__init__" : Str), qual, defArgs st, .stmts (defBody st), defScope st, mainGlobals, builtinsNs) := e
      simp only [Option.some.injEq, Prod.mk.injEq] at e2
      obtain ⟨h1, h2, h3, h4, h5, h6, h7⟩ := e2
      subst h1 h2 h3 h4 h5 h6 h7
      dsimp only at c
      split at c
      · rename_i x cc cda
        rw [Bool.and_eq_true, Bool.and_eq_true, Bool.and_eq_true] at c
        obtain ⟨⟨⟨c1, c2⟩, c3⟩, c4⟩ := c
        have ex := of_decide_eq_true c1
        subst ex
        refine ⟨cc, cda, ⟨oc, od, n9, n10, n11, n14, n12, osl, q⟩, c3, ?_, ?_⟩
        · split at c4
          · rename_i a1 a2 vs a4 q2
            split at c4
            · rename_i fl tf q3
              exact ⟨_, _, vs, _, fl, tf, q2, q3, c4⟩
            · cases c4
          · cases c4
        · split at c2
          · rename_i a1 a2 D a4 q2
            have eD := of_decide_eq_true c2
            subst eD
            exact ⟨_, _, _, q2⟩
          · cases c2
      · cases c
    | _ => cases c
theorem fune_of {K : PySem.W.Frag} {f : Addr} {x qual : Str} {st : Stmt} (e : fnX K f = fnT x qual st) (c : fnE K f qual = true) : ∃ fd E, FnD K x qual st [.ref E] f fd ∧ ∀ H, SqT K H E [] := by
  unfold fnE at c
  obtain ⟨kp, c2⟩ := Bool.and_eq_true_iff.mp c
  unfold fnX at e
  cases q : K.lookup f with
  | none =>
    rw [q] at c2
    cases c2
  | some o =>
    obtain ⟨oc, od, dt, osl⟩ := o
    rw [q] at c2 e
    cases dt with
    | func fd =>
      obtain ⟨n1, n2, n3, n4, n5, n6, n7, n8, n9, n10, n11, n12, n13, n14, n15⟩ := fd
      have e2 : (some (n1, n2, n3, n4, n5, n6, n15) : FnX) = some (x, qual, defArgs st, .stmts (defBody st), defScope st, mainGlobals, builtinsNs) := e
      simp only [Option.some.injEq, Prod.mk.injEq] at e2
      obtain ⟨h1, h2, h3, h4, h5, h6, h7⟩ := e2
      subst h1 h2 h3 h4 h5 h6 h7
      dsimp only at c2
      split at c2
      · rename_i T
        obtain ⟨c3, c4⟩ := Bool.and_eq_true_iff.mp c2
        split at c4
        · rename_i a1 a2 its n a4 q2
          split at c4
          · rename_i E eL
            split at c4
            · rename_i cE dE itE nE sE qE
              obtain ⟨c5, c6⟩ := Bool.and_eq_true_iff.mp c4
              have hc := of_decide_eq_true c5
              have hi := of_decide_eq_true c6
              have ei : its = [Value.ref E].toArray := by rw [← eL]
              refine ⟨_, E, ⟨⟨oc, od, .ref T, _, _, _, _, _, _, osl, rfl, q, c3, .inr ⟨(fun z => nomatch z), T, _, [.ref E], n, rfl, q2, by rw [ei], .cons rfl .nil⟩, .inl rfl⟩, kp⟩, fun H => .inr ⟨_, itE, nE, qE, hc, rfl, ?_, ?_⟩⟩
              · have : itE.size = itE.toList.length := by simp
                rw [this, hi]
                exact Nat.zero_le _
              · rw [hi]
                exact .nil
            · cases c4
          · cases c4
        · cases c4
      · cases c2
    | _ => cases c2
theorem ob_eq (s : PySem.W.SharedT) : ob s = hk.obs s.abs := by
  have e : HandSHeadRun.getT s = s.abs.heap.get? := funext (HandSHeadRun.getT_eq s)
  show obK (KX (HandSHeadRun.getT s)) = obK (KX s.abs.heap.get?)
  rw [e]
end K54
set_option maxHeartbeats 8000000
namespace K54
open PySem PySem.Spec PyProof.Rows L2 He

/-! ### what the facts say -/
theorem foldr_map {α β : Type} (f : α → β) (t : List β) : ∀ l : List α, l.foldr (fun a r => f a :: r) t = l.map f ++ t
  | [] => rfl
  | a :: l => congrArg (f a :: ·) (foldr_map f t l)
theorem facts_of {K : PySem.W.Frag} (c : obK K = vaX) : allB K = true ∧ fnX K (meA K "__init__") = fnT "__init__" "Size.__init__" sInit ∧ fnX K (ma K (ga K "NotWhole") "__init__") = fnT "__init__" "NotWhole.__init__" sXNotWhole ∧ (∀ p ∈ meths, fnX K (faM K p.1) = fnT p.1 (quM p.1) (inClass sSize p.2)) ∧
    (∀ p ∈ fns, fnX K (ga K p.1) = fnT p.1 p.1 (top p.2)) ∧ (∀ p ∈ om, fnX K (ofa K (p.1, p.2.1)) = fnT p.2.1 p.2.2.1 (inClass (top p.2.2.2.1) p.2.2.2.2)) ∧ ∀ p ∈ oi, fnX K (oma K (p.1, "__init__")) = fnT "__init__" p.2.1 (inClass (top p.2.2.1) p.2.2.2) := by
  have c1 : allB K = true := congrArg (fun z : AlX => z.1) c
  have c2 : obF K = vaF := congrArg (fun z : AlX => z.2) c
  unfold obF vaF at c2
  rw [foldr_map, foldr_map, foldr_map, foldr_map, List.append_nil] at c2
  obtain ⟨h0, h⟩ := List.cons.inj c2
  obtain ⟨x0, h⟩ := List.cons.inj h
  obtain ⟨h1, h⟩ := List.append_inj h (by rw [List.length_map, List.length_map])
  obtain ⟨h2, h⟩ := List.append_inj h (by rw [List.length_map, List.length_map])
  obtain ⟨h3, h4⟩ := List.append_inj h (by rw [List.length_map, List.length_map])
  exact ⟨c1, h0, x0, List.map_inj_left.mp h1, List.map_inj_left.mp h2, List.map_inj_left.mp h3, List.map_inj_left.mp h4⟩
theorem eO_ok {a b : Option (Option Value)} (h : eO a b = true) : a = b := of_decide_eq_true h
theorem eB_ok {a b : Option Bool} (h : eB a b = true) : a = b := of_decide_eq_true h
theorem ba2 {a b : Bool} (h : (a && b) = true) : a = true ∧ b = true := Bool.and_eq_true_iff.mp h
structure CF (K : PySem.W.Frag) : Prop where
  glo : PySem.W.nsIn K mainGlobals "Size" = some (some (.ref (caK K)))
  pg : PySem.W.plainGet K (caK K) Str.empty = true
  hd : PySem.W.hasDictIn K (caK K) = true
  po : PySem.W.plainOver K (caK K) = true
  sa : PySem.W.findIn K (.ref (caK K)) "__setattr__" = some (some (.builtin "object.__setattr__"))
  nE : PySem.W.findIn K (.ref (caK K)) "_exponents" = some none
  cc : PySem.W.findIn K (.ref (caK K)) "__class__" = some (some (.builtin "object.__class__"))
  co : PySem.W.mroIn K (caK K) (.type "object") = some true
  mkI : PySem.W.makesIn K (caK K) = true
  kp : PySem.W.keepIn K (.ref (caK K)) = true
  s1 : PySem.W.selfFirst K (caK K) = true
  ne : PySem.W.findIn K (.ref (caK K)) "__ne__" = some (some (.builtin "object.__ne__"))
  rd : PySem.W.readsIn K (caK K) (.type "type") = true
  ga : PySem.W.specialIn K (.ref (caK K)) "__getattribute__" = some (some (.builtin "type.__getattribute__"))
  k1 : PySem.W.kitOne K (.ref (caK K)) (.type "str") = some false
  k2 : PySem.W.kitOne K (.type "int") (.ref (caK K)) = some false
  k3 : PySem.W.kitOne K (.type "str") (.ref (caK K)) = some false
  k4 : PySem.W.kitOne K (.type "dict") (.ref (caK K)) = some false
theorem cf_of {K : PySem.W.Frag} (h : clB K = true) : CF K := by
  unfold clB at h
  obtain ⟨h1, h⟩ := ba2 h
  obtain ⟨h2, h⟩ := ba2 h
  obtain ⟨h3, h⟩ := ba2 h
  obtain ⟨h4, h⟩ := ba2 h
  obtain ⟨h5, h⟩ := ba2 h
  obtain ⟨h6, h⟩ := ba2 h
  obtain ⟨h7, h⟩ := ba2 h
  obtain ⟨h8, h⟩ := ba2 h
  obtain ⟨h9, h⟩ := ba2 h
  obtain ⟨h10, h⟩ := ba2 h
  obtain ⟨h11, h⟩ := ba2 h
  obtain ⟨h12, h⟩ := ba2 h
  obtain ⟨h13, h⟩ := ba2 h
  obtain ⟨h14, h⟩ := ba2 h
  obtain ⟨h15, h⟩ := ba2 h
  obtain ⟨h16, h⟩ := ba2 h
  obtain ⟨h17, h⟩ := ba2 h
  exact ⟨eO_ok h1, h2, h3, h4, eO_ok h5, eO_ok h6, eO_ok h7, eB_ok h8, h9, h10, h11, eO_ok h12, h13, eO_ok h14, eB_ok h15, eB_ok h16, eB_ok h17, eB_ok h⟩
structure XF (K : PySem.W.Frag) (nm qu : Str) (B nw it : String) (fs : List Str) : Prop where
  glo : PySem.W.nsIn K mainGlobals nm = some (some (.ref (ga K nm)))
  ini : PySem.W.findIn K (.ref (ga K nm)) "__init__" = some (some (.ref (ma K (ga K nm) "__init__")))
  tyI : PySem.W.typeIn K (.ref (ma K (ga K nm) "__init__")) = some (.type "function")
  inb : inB K fileK (ga K nm) (ma K (ga K nm) "__init__") qu = true
  exI : PySem.W.excInitIn K (ga K nm) (bmL B) nw = true
  exO : PySem.W.excOver K (ga K nm) (bmL B) = true
  hd : PySem.W.hasDictIn K (ga K nm) = true
  sa : PySem.W.findIn K (.ref (ga K nm)) "__setattr__" = some (some (.builtin "object.__setattr__"))
  kp : PySem.W.keepIn K (.ref (ga K nm)) = true
  cls : (PySem.W.clsIn K (ga K nm)).isSome = true
  slf : PySem.W.mroIn K (ga K nm) (.ref (ga K nm)) = some true
  isB : PySem.W.subIn K (.ref (ga K nm)) (.type B) = some true
  sup : PySem.W.ks_superIn K (ga K nm) (ga K nm) "__init__" = some (some (.builtin it))
  gat : PySem.W.findIn K (.ref (ga K nm)) "__getattribute__" = some (some (.builtin "BaseException.__getattribute__"))
  gga : PySem.W.findIn K (.ref (ga K nm)) "__getattr__" = some none
  exb : PySem.W.subIn K (.ref (ga K nm)) (.type "BaseException") = some true
  cc : PySem.W.findIn K (.ref (ga K nm)) "__class__" = some (some (.builtin "object.__class__"))
  co : PySem.W.mroIn K (ga K nm) (.type "object") = some true
  tyC : PySem.W.typeIn K (.ref (ga K nm)) = some (.type "type")
  nf : ∀ f ∈ fs, PySem.W.findIn K (.ref (ga K nm)) f = some none
theorem xf_of {K : PySem.W.Frag} {nm qu : Str} {B nw it : String} {fs : List Str} (h : xB K nm qu B nw it fs = true) : XF K nm qu B nw it fs := by
  unfold xB at h
  obtain ⟨h1, h⟩ := ba2 h
  obtain ⟨h2, h⟩ := ba2 h
  obtain ⟨h3, h⟩ := ba2 h
  obtain ⟨h4, h⟩ := ba2 h
  obtain ⟨h5, h⟩ := ba2 h
  obtain ⟨h6, h⟩ := ba2 h
  obtain ⟨h7, h⟩ := ba2 h
  obtain ⟨h8, h⟩ := ba2 h
  obtain ⟨h9, h⟩ := ba2 h
  obtain ⟨h10, h⟩ := ba2 h
  obtain ⟨h11, h⟩ := ba2 h
  obtain ⟨h12, h⟩ := ba2 h
  obtain ⟨h13, h⟩ := ba2 h
  obtain ⟨h14, h⟩ := ba2 h
  obtain ⟨h15, h⟩ := ba2 h
  obtain ⟨h16, h⟩ := ba2 h
  obtain ⟨h17, h⟩ := ba2 h
  obtain ⟨h18, h⟩ := ba2 h
  obtain ⟨h19, h⟩ := ba2 h
  exact ⟨eO_ok h1, eO_ok h2, of_decide_eq_true h3, h4, h5, h6, h7, eO_ok h8, h9, h10, eB_ok h11, eB_ok h12, eO_ok h13, eO_ok h14, eO_ok h15, eB_ok h16, eO_ok h17, eB_ok h18, of_decide_eq_true h19, fun f hf => of_decide_eq_true (List.all_eq_true.mp h f hf)⟩
structure GF (K : PySem.W.Frag) : Prop where
  blt : ∀ x ∈ bltN, PySem.W.nsIn K mainGlobals x = some none
  fng : ∀ p ∈ fns, PySem.W.nsIn K mainGlobals p.1 = some (some (.ref (ga K p.1)))
  fnb : ∀ p ∈ fns, fnB K (ga K p.1) p.1 = true
  sys : (K.lookup sysModules).isSome = true
  cn : PySem.W.specialIn K (.builtin "object.__class__") "__get__" = some (some (.builtin "getset_descriptor.__get__"))
  ct : PySem.W.takesIn K (.builtin "object.__class__") = some true
  con : conB K = true
  ini : fnD K (meA K "__init__") "Size.__init__" = true
  mes : ∀ p ∈ meths, fnB K (faM K p.1) (quM p.1) = true
  pl : ∀ m ∈ plain, plB K m = true
  pr : ∀ m ∈ props, prB K m = true
  cm : ∀ m ∈ cms, cmmB K m = true
theorem gf_of {K : PySem.W.Frag} (h : gloB K = true) : GF K := by
  unfold gloB at h
  obtain ⟨h1, h⟩ := ba2 h
  obtain ⟨h2, h⟩ := ba2 h
  obtain ⟨h3, h⟩ := ba2 h
  obtain ⟨h4, h⟩ := ba2 h
  obtain ⟨h5, h⟩ := ba2 h
  obtain ⟨h6, h⟩ := ba2 h
  obtain ⟨h7, h⟩ := ba2 h
  obtain ⟨h8, h⟩ := ba2 h
  obtain ⟨h9, h⟩ := ba2 h
  obtain ⟨h10, h⟩ := ba2 h
  exact ⟨fun x hx => eO_ok (List.all_eq_true.mp h1 x hx), fun p hp => eO_ok (ba2 (List.all_eq_true.mp h2 p hp)).1, fun p hp => (ba2 (List.all_eq_true.mp h2 p hp)).2, h3, eO_ok h4, eB_ok h5, h6, h7,
    List.all_eq_true.mp h8, List.all_eq_true.mp h9, List.all_eq_true.mp h10, List.all_eq_true.mp h⟩
structure OF (K : PySem.W.Frag) (c : Str) (fs : List Str) : Prop where
  glo : PySem.W.nsIn K mainGlobals c = some (some (.ref (ga K c)))
  cl : Cls K (ga K c)
  cc : PySem.W.findIn K (.ref (ga K c)) "__class__" = some (some (.builtin "object.__class__"))
  co : PySem.W.mroIn K (ga K c) (.type "object") = some true
  mkI : PySem.W.makesIn K (ga K c) = true
  kp : PySem.W.keepIn K (.ref (ga K c)) = true
  ne : PySem.W.findIn K (.ref (ga K c)) "__ne__" = some (some (.builtin "object.__ne__"))
  ini : PySem.W.findIn K (.ref (ga K c)) "__init__" = some (some (.ref (oma K (c, "__init__"))))
  fnI : PySem.W.isFn K (.ref (oma K (c, "__init__"))) = true
  nf : ∀ f ∈ fs, PySem.W.findIn K (.ref (ga K c)) f = some none
theorem of_of {K : PySem.W.Frag} {c : Str} {fs : List Str} (h : oB K c fs = true) : OF K c fs := by
  unfold oB at h
  obtain ⟨h1, h⟩ := ba2 h
  obtain ⟨h2, h⟩ := ba2 h
  obtain ⟨h3, h⟩ := ba2 h
  obtain ⟨h4, h⟩ := ba2 h
  obtain ⟨h5, h⟩ := ba2 h
  obtain ⟨h6, h⟩ := ba2 h
  obtain ⟨h7, h⟩ := ba2 h
  obtain ⟨h8, h⟩ := ba2 h
  obtain ⟨h9, h⟩ := ba2 h
  obtain ⟨h10, h⟩ := ba2 h
  obtain ⟨h11, h⟩ := ba2 h
  obtain ⟨h12, h⟩ := ba2 h
  exact ⟨eO_ok h1, ⟨h2, h3, h4, eO_ok h5⟩, eO_ok h6, eB_ok h7, h8, h9, eO_ok h10, eO_ok h11, h12, fun f hf => of_decide_eq_true (List.all_eq_true.mp h f hf)⟩
theorem OF.mkk {K : PySem.W.Frag} {c : Str} {fs : List Str} (h : OF K c fs) : Mk K (ga K c) (oma K (c, "__init__")) := ⟨h.mkI, h.ini, h.fnI, h.kp⟩
structure GO (K : PySem.W.Frag) : Prop where
  om : ∀ p ∈ om, fnB K (ofa K (p.1, p.2.1)) p.2.2.1 = true
  pl : ∀ p ∈ opl, PySem.W.findIn K (.ref (ga K p.1)) p.2 = some (some (.ref (oma K p))) ∧ PySem.W.isFn K (.ref (oma K p)) = true
  pr : ∀ p ∈ opr, PropOf K (ga K p.1) p.2 (oma K p) (rcF K (oma K p) "property")
  cl : ∀ p ∈ ocl, OF K p.1 p.2
  sup : ∀ p ∈ osup, supB K p = true
  kit : ∀ p ∈ okit, PySem.W.kitOne K (.ref (ga K p.1)) (.ref (ga K p.2.1)) = some p.2.2
  nf : ∀ p ∈ onf, PySem.W.notFirst K (ga K p.1) (.ref (ga K p.2)) = true
  way : ∀ p ∈ oway, ∃ t, PySem.W.findIn K (.ref (ga K p.1)) p.2.1 = some (some (.str p.2.2 t)) ∧ PySem.W.specialIn K (.str p.2.2 t) "__get__" = some none
  df : ∀ c ∈ odf, fnE K (oma K (c, "__init__")) (c ++ (".__init__" : Str)) = true
theorem oth_of {K : PySem.W.Frag} (h : othB K = true) : GO K := by
  unfold othB at h
  obtain ⟨h1, h⟩ := ba2 h
  obtain ⟨h2, h⟩ := ba2 h
  obtain ⟨h3, h⟩ := ba2 h
  obtain ⟨h4, h⟩ := ba2 h
  obtain ⟨h5, h⟩ := ba2 h
  obtain ⟨h6, h⟩ := ba2 h
  obtain ⟨h7, h⟩ := ba2 h
  obtain ⟨h8, h⟩ := ba2 h
  refine ⟨List.all_eq_true.mp h1, fun p hp => ?_, fun p hp => ?_, fun p hp => of_of (List.all_eq_true.mp h4 p hp), List.all_eq_true.mp h5, fun p hp => eB_ok (List.all_eq_true.mp h6 p hp), List.all_eq_true.mp h7, fun p hp => ?_, List.all_eq_true.mp h⟩
  · obtain ⟨a, b⟩ := ba2 (List.all_eq_true.mp h2 p hp)
    exact ⟨eO_ok a, b⟩
  · obtain ⟨a, b⟩ := ba2 (List.all_eq_true.mp h3 p hp)
    obtain ⟨b, c⟩ := ba2 b
    obtain ⟨c, d⟩ := ba2 c
    exact ⟨eO_ok a, eO_ok b, eB_ok c, rec_ok d⟩
  · have z := List.all_eq_true.mp h8 p hp
    unfold wayB at z
    split at z
    · rename_i x t e
      obtain ⟨a, b⟩ := ba2 z
      have ea := of_decide_eq_true a
      rw [ea] at e b
      exact ⟨t, e, eO_ok b⟩
    · cases z
theorem con_ok {K : PySem.W.Frag} (h : conB K = true) : (∃ t, PySem.W.nsIn K mainGlobals "LETTERS" = some (some (.str abc t))) ∧ (∃ t, PySem.W.nsIn K mainGlobals "LONGEST_NAME" = some (some (.int (8) t))) ∧ (∃ t, PySem.W.nsIn K mainGlobals "CHUNK" = some (some (.int (10 ^ 60) t))) := by
  unfold conB at h
  obtain ⟨h1, h⟩ := ba2 h
  obtain ⟨h2, h⟩ := ba2 h
  refine ⟨?_, ?_, ?_⟩
  · split at h1
    · rename_i x t e
      exact ⟨t, by rw [e, of_decide_eq_true h1]⟩
    · cases h1
  · split at h2
    · rename_i x t e
      exact ⟨t, by rw [e, of_decide_eq_true h2]⟩
    · cases h2
  · split at h
    · rename_i x t e
      exact ⟨t, by rw [e, of_decide_eq_true h]⟩
    · cases h
abbrev PG : Program := PySem.Challenge.pw_anyshape_k54_rows_at_numbers
section
variable {w : World} {K : PySem.W.Frag} {mg : Str → Option Value} {h : Heap}
theorem plm_ok {m : Str} (h : plB K m = true) : PySem.W.findIn K (.ref (caK K)) m = some (some (.ref (meA K m))) ∧ PySem.W.isFn K (.ref (meA K m)) = true := ⟨eO_ok (ba2 h).1, (ba2 h).2⟩
theorem init_b {f : Addr} {fd : FuncData} (F : FnD K "__init__" "Size.__init__" sInit [.non] f fd) : Binds K fd ["self", "exponents"] [] ∧ Binds K fd ["self", "exponents"] [.none] := by
  obtain ⟨ds, r, b⟩ := FunD.binds1 (ps := ["self", "exponents"]) F 2 1 (fun z => nomatch z) rfl (fun T kV doc pm an cdv ct us its h1 h2 => match us, its, h1, h2 with
    | [_, _], [_], _, _ => ⟨_, rfl, rfl⟩)
  obtain ⟨ds2, r2, b2⟩ := FunD.binds1 (ps := ["self", "exponents"]) F 1 0 (fun z => nomatch z) rfl (fun T kV doc pm an cdv ct us its h1 h2 => match us, its, h1, h2 with
    | [_], [_], _, _ => ⟨_, rfl, rfl⟩)
  have e1 : ds = [] := by
    have := r.length
    exact List.length_eq_zero_iff.mp this.symm
  have r2' : Vals [V.non] ds2 := r2
  obtain ⟨u, e2, ru⟩ := vals1 r2'
  have e3 : u = Value.none := ru
  subst e1
  rw [e2, e3] at b2
  exact ⟨b, b2⟩
end
theorem tk_of {K : PySem.W.Frag} {C : Addr} {f : Str} (h : PySem.W.findIn K (.ref C) f = some none) : PySem.W.takerIn K C f = some none := by
  unfold PySem.W.takerIn
  rw [h]
  rfl
section
open Xc
variable {w : World} {K : PySem.W.Frag} {mg : Str → Option Value} {C fI cc cda : Addr} {B newId initId : String} {bmB : List Value}
variable {qual msg f1 f2 f3 : Str} {j : Nat} {p0 p1 p2 p3 p4 p5 a0 a1 a2 a3 q1 q2 q3 q4 r1 r2 r3 r4 u1 u2 u3 u4 : Pos} {ar : Arguments} {bo : List Stmt} {sc : Scope}
theorem fs1 {fs : List (Str × Value)} (h : fs.map (·.1) = [f1]) : ∃ v, fs = [(f1, v)] := by
  match fs, h with
  | [(a, v)], h =>
    injection h with h1 _
    exact ⟨v, by rw [show a = f1 from h1]⟩
theorem mkAll1 (hA : ar = iArgs [("self", a0), (f1, a1)]) (hB : bo = [supS msg j p0 p1 p2 p3 p4 p5, stS f1 q1 q2 q3 q4]) (hS : sc = iScope ["self", f1])
    (hln : (p2.endLine == p4.line) = true) (n1 : Nm f1)
    (T : XC K C B newId initId bmB) (iC : PySem.W.findIn K (.ref C) "__init__" = some (some (.ref fI))) (tI : PySem.W.typeIn K (.ref fI) = some (.type "function"))
    (S : XI PG K mg C fI cc cda qual ar bo sc B initId) (kp : PySem.W.keepIn K (.ref C) = true) (t1 : PySem.W.takerIn K C f1 = some none)
    (hp : ∀ v s x kV doc pm ct an, BindsTo s (PySem.W.ksFn "__init__" qual ar bo sc .none kV doc pm an (.ref cda) ct cc) ⟨[.ref x, v], []⟩ [("self", .ref x), (f1, v)])
    (hk : ∀ v s x kV doc pm ct an, BindsTo s (PySem.W.ksFn "__init__" qual ar bo sc .none kV doc pm an (.ref cda) ct cc) ⟨[.ref x], [(f1, v)]⟩ [("self", .ref x), (f1, v)]) :
    MkAll PG w K mg C [f1] := by
  subst hA hB hS
  refine ⟨fun fs h => ?_, fun fs h => ?_, kp⟩
  · obtain ⟨v, rfl⟩ := fs1 h
    exact mk1 n1 T iC tI S hln t1 (by show 1 ≤ sizeLine; decide) (hp v)
  · obtain ⟨v, rfl⟩ := fs1 h
    exact mk1 n1 T iC tI S hln t1 (Nat.zero_le _) (hk v)
end
theorem nmy {p : Str} (h1 : (p == ("self" : Str)) = false) (h2 : (p == ("super" : Str)) = false) (h3 : (p == ("__class__" : Str)) = false) (h4 : (p == ("__debug__" : Str)) = false) : Xc.Nm p :=
  ⟨Xc.ns_of _ _ h1, Xc.ns_of _ _ h2, Xc.ns_of _ _ h3, Xc.ns_of _ _ h4⟩
section
variable {K : PySem.W.Frag} {mg : Str → Option Value}
theorem sup_of {c b qual : Str} {st : Stmt} (ox : PySem.W.nsIn K cStatics "thirdparty.any" = some none) (ns : mg "super" = none) (e : fnX K (oma K (c, "__init__")) = fnT "__init__" qual st) (h : supB K (c, b) = true) (hq : qual = c ++ (".__init__" : Str)) (ht : (PG.main.scope.names.lookup ("super" : Str)).isSome = false) :
    ∃ cc cda fd, SupF PG K mg (ga K c) (oma K (c, "__init__")) (oma K (b, "__init__")) cc cda qual st fd ∧
      ∀ ps : List Str, (∀ (kV doc pm : Value) (an : Option Addr) (cda : Addr) (ct : Value) (cc : Addr) (us : List Value), us.length = ps.length → bindArgs (PySem.W.ksFn "__init__" qual (defArgs st) (defBody st) (defScope st) .none kV doc pm an (.ref cda) ct cc) ⟨us, []⟩ = pure (ps.zip us)) → Binds K fd ps [] := by
  subst hq
  unfold supB at h
  obtain ⟨h1, h⟩ := ba2 h
  obtain ⟨h2, h⟩ := ba2 h
  obtain ⟨h3, h⟩ := ba2 h
  obtain ⟨h4, h⟩ := ba2 h
  obtain ⟨h5, h6⟩ := ba2 h
  obtain ⟨cc, cda, Z⟩ := in_of e h1
  obtain ⟨oc, od, kV, doc, pm, ct, an, osl, lk⟩ := Z.fn
  exact ⟨cc, cda, _, ⟨⟨oc, od, kV, doc, pm, ct, an, osl, rfl, lk⟩, Z.cod, Z.code, Z.cell, h2, eB_ok h3, ns, ox, eO_ok h4, of_decide_eq_true h5, h6, ht⟩, fun ps hb => .all (hb kV doc pm an cda ct cc)⟩
end
section
variable {w : World} {K : PySem.W.Frag} {mg : Str → Option Value}
theorem mk_NotWhole (c : XF K "NotWhole" "NotWhole.__init__" "RuntimeError" "RuntimeError.__new__" "RuntimeError.__init__" ["size"]) (ox : PySem.W.nsIn K cStatics "thirdparty.any" = some none) (ns : mg "super" = none) (e : fnX K (ma K (ga K "NotWhole") "__init__") = fnT "__init__" "NotWhole.__init__" sXNotWhole) : MkAll PG w K mg (ga K "NotWhole") ["size"] := by
  obtain ⟨cc, cda, Z⟩ := in_of e c.inb
  exact mkAll1 rfl rfl rfl rfl (nmy (by decide) (by decide) (by decide) (by decide)) ⟨F.excBase_RuntimeError, F.store_RuntimeError, PySem.W.kxs_RuntimeError, c.exI, c.exO, c.hd, c.sa⟩ c.ini c.tyI ⟨Z.fn, Z.cod, Z.code, Z.cell, c.cls, c.slf, c.isB, c.sup, ox, ns, by decide +kernel⟩ c.kp (tk_of (c.nf "size" (by decide))) (fun _ _ _ _ _ _ _ _ => .of_eq rfl) (fun _ _ _ _ _ _ _ _ => .of_eq rfl)
end
section
variable {w : World} {K : PySem.W.Frag} {mg : Str → Option Value} {h : Heap}
theorem law_mk {fa : Addr} (X : K.In h) (G : h.Ns mainGlobals mg) (c : obK K = vaX) (hfa : mg "law" = some (.ref fa)) :
    ∃ fd : FuncData, (∀ (s : Shared) (u : Value), BindsTo s fd ⟨[u], []⟩ [("_law_script", u)]) ∧
      ∀ base : Heap, K.In base → base.Ns mainGlobals mg → FnG PG w K mg base 15 fa fd ["_law_script"] (spLaw K) := by
  obtain ⟨hB, hI, hX0, hM, hT, hO, hOI⟩ := facts_of c
  unfold allB at hB
  obtain ⟨h0, hB⟩ := ba2 hB
  have go := oth_of h0
  obtain ⟨h1, hB⟩ := ba2 hB
  obtain ⟨h2, h3⟩ := ba2 hB
  have g := gf_of h1
  have cf := cf_of h2
  unfold exB at h3
  obtain ⟨z0, h3⟩ := ba2 h3
  obtain ⟨z1, h3⟩ := ba2 h3
  obtain ⟨z2, h3⟩ := ba2 h3
  have ox := eO_ok h3
  have xf0 := xf_of z0
  have zx0 := eO_ok z1
  have zx1 := eB_ok z2
  have bn : ∀ x ∈ bltN, mg x = none := fun x hx => PySem.W.mg_none_of X G (g.blt x hx)
  obtain ⟨⟨t0, con0⟩, ⟨t1, con1⟩, ⟨t2, con2⟩⟩ := con_ok g.con
  have ns : mg "super" = none := bn "super" (by simp [bltN])
  have MX0 := mk_NotWhole (w := w) xf0 ox ns hX0
  have gX0 : mg "NotWhole" = some (.ref (ga K "NotWhole")) := PySem.W.mg_of X G xf0.glo
  have xg0 : XG K (ga K "NotWhole") := ⟨xf0.gat, xf0.gga, xf0.exb, xf0.hd, xf0.cls, xf0.cc, g.cn, g.ct, xf0.co⟩
  have NB : Nb mg := ⟨bn "len" (by simp [bltN]), bn "max" (by simp [bltN]), bn "min" (by simp [bltN]), bn "abs" (by simp [bltN]), bn "int" (by simp [bltN]), bn "divmod" (by simp [bltN]), bn "repr" (by simp [bltN]), bn "isinstance" (by simp [bltN]), bn "range" (by simp [bltN]), bn "enumerate" (by simp [bltN]), bn "all" (by simp [bltN])⟩
  have NK : Nk mg := ⟨bn "isinstance" (by simp [bltN]), bn "int" (by simp [bltN]), bn "bool" (by simp [bltN]), bn "str" (by simp [bltN]), bn "dict" (by simp [bltN]), bn "len" (by simp [bltN]), bn "all" (by simp [bltN])⟩
  have NA : Na mg := ⟨bn "sorted" (by simp [bltN])⟩
  have NT : Nt mg := ⟨bn "list" (by simp [bltN]), bn "dict" (by simp [bltN]), bn "len" (by simp [bltN])⟩
  have NN : Nn2 mg := ⟨⟨t1, PySem.W.mg_of X G con1⟩, ⟨t0, PySem.W.mg_of X G con0⟩⟩
  have gG : mg "gcd" = some (.builtin "math.gcd") := PySem.W.mg_of X G zx0
  have NS : Ns mg := ⟨bn "str" (by simp [bltN]), ⟨t2, PySem.W.mg_of X G con2⟩⟩
  obtain ⟨d0, F0⟩ := fun_of (K := K) (f := ga K "is_integer") (x := "is_integer") (qual := "is_integer") (st := top 15) (hT ("is_integer", 15) (by simp [fns, fns0, fns1, fns2])) (g.fnb ("is_integer", 15) (by simp [fns, fns0, fns1, fns2]))
  have m0 : mg "is_integer" = some (.ref (ga K "is_integer")) := PySem.W.mg_of X G (g.fng ("is_integer", 15) (by simp [fns, fns0, fns1, fns2]))
  have b0 := F0.binds (ps := ["value"]) fun _ _ _ _ _ _ us hl => match us, hl with | [_], _ => rfl
  obtain ⟨d1, F1⟩ := fun_of (K := K) (f := ga K "is_list") (x := "is_list") (qual := "is_list") (st := top 17) (hT ("is_list", 17) (by simp [fns, fns0, fns1, fns2])) (g.fnb ("is_list", 17) (by simp [fns, fns0, fns1, fns2]))
  have m1 : mg "is_list" = some (.ref (ga K "is_list")) := PySem.W.mg_of X G (g.fng ("is_list", 17) (by simp [fns, fns0, fns1, fns2]))
  have b1 := F1.binds (ps := ["value"]) fun _ _ _ _ _ _ us hl => match us, hl with | [_], _ => rfl
  obtain ⟨d2, F2⟩ := fun_of (K := K) (f := ga K "raised") (x := "raised") (qual := "raised") (st := top 19) (hT ("raised", 19) (by simp [fns, fns0, fns1, fns2])) (g.fnb ("raised", 19) (by simp [fns, fns0, fns1, fns2]))
  have m2 : mg "raised" = some (.ref (ga K "raised")) := PySem.W.mg_of X G (g.fng ("raised", 19) (by simp [fns, fns0, fns1, fns2]))
  have b2 := F2.binds (ps := ["base", "count"]) fun _ _ _ _ _ _ us hl => match us, hl with | [_, _], _ => rfl
  obtain ⟨d3, F3⟩ := fun_of (K := K) (f := ga K "orders") (x := "orders") (qual := "orders") (st := top 20) (hT ("orders", 20) (by simp [fns, fns0, fns1, fns2])) (g.fnb ("orders", 20) (by simp [fns, fns0, fns1, fns2]))
  have m3 : mg "orders" = some (.ref (ga K "orders")) := PySem.W.mg_of X G (g.fng ("orders", 20) (by simp [fns, fns0, fns1, fns2]))
  have b3 := F3.binds (ps := ["exponents", "numbers"]) fun _ _ _ _ _ _ us hl => match us, hl with | [_, _], _ => rfl
  obtain ⟨d4, F4⟩ := fun_of (K := K) (f := ga K "coprime_bases") (x := "coprime_bases") (qual := "coprime_bases") (st := top 21) (hT ("coprime_bases", 21) (by simp [fns, fns0, fns1, fns2])) (g.fnb ("coprime_bases", 21) (by simp [fns, fns0, fns1, fns2]))
  have m4 : mg "coprime_bases" = some (.ref (ga K "coprime_bases")) := PySem.W.mg_of X G (g.fng ("coprime_bases", 21) (by simp [fns, fns0, fns1, fns2]))
  have b4 := F4.binds (ps := ["numbers"]) fun _ _ _ _ _ _ us hl => match us, hl with | [_], _ => rfl
  obtain ⟨d5, F5⟩ := fun_of (K := K) (f := ga K "order_in") (x := "order_in") (qual := "order_in") (st := top 22) (hT ("order_in", 22) (by simp [fns, fns0, fns1, fns2])) (g.fnb ("order_in", 22) (by simp [fns, fns0, fns1, fns2]))
  have m5 : mg "order_in" = some (.ref (ga K "order_in")) := PySem.W.mg_of X G (g.fng ("order_in", 22) (by simp [fns, fns0, fns1, fns2]))
  have b5 := F5.binds (ps := ["number", "base"]) fun _ _ _ _ _ _ us hl => match us, hl with | [_, _], _ => rfl
  obtain ⟨d6, F6⟩ := fun_of (K := K) (f := ga K "_refined") (x := "_refined") (qual := "_refined") (st := top 23) (hT ("_refined", 23) (by simp [fns, fns0, fns1, fns2])) (g.fnb ("_refined", 23) (by simp [fns, fns0, fns1, fns2]))
  have m6 : mg "_refined" = some (.ref (ga K "_refined")) := PySem.W.mg_of X G (g.fng ("_refined", 23) (by simp [fns, fns0, fns1, fns2]))
  have b6 := F6.binds (ps := ["bases", "number"]) fun _ _ _ _ _ _ us hl => match us, hl with | [_, _], _ => rfl
  obtain ⟨d7, F7⟩ := fun_of (K := K) (f := ga K "_sharing") (x := "_sharing") (qual := "_sharing") (st := top 24) (hT ("_sharing", 24) (by simp [fns, fns0, fns1, fns2])) (g.fnb ("_sharing", 24) (by simp [fns, fns0, fns1, fns2]))
  have m7 : mg "_sharing" = some (.ref (ga K "_sharing")) := PySem.W.mg_of X G (g.fng ("_sharing", 24) (by simp [fns, fns0, fns1, fns2]))
  have b7 := F7.binds (ps := ["bases", "number"]) fun _ _ _ _ _ _ us hl => match us, hl with | [_, _], _ => rfl
  obtain ⟨d8, F8⟩ := fun_of (K := K) (f := ga K "is_name") (x := "is_name") (qual := "is_name") (st := top 28) (hT ("is_name", 28) (by simp [fns, fns0, fns1, fns2])) (g.fnb ("is_name", 28) (by simp [fns, fns0, fns1, fns2]))
  have m8 : mg "is_name" = some (.ref (ga K "is_name")) := PySem.W.mg_of X G (g.fng ("is_name", 28) (by simp [fns, fns0, fns1, fns2]))
  have b8 := F8.binds (ps := ["value"]) fun _ _ _ _ _ _ us hl => match us, hl with | [_], _ => rfl
  obtain ⟨d9, F9⟩ := fun_of (K := K) (f := ga K "is_numbers") (x := "is_numbers") (qual := "is_numbers") (st := top 29) (hT ("is_numbers", 29) (by simp [fns, fns0, fns1, fns2])) (g.fnb ("is_numbers", 29) (by simp [fns, fns0, fns1, fns2]))
  have m9 : mg "is_numbers" = some (.ref (ga K "is_numbers")) := PySem.W.mg_of X G (g.fng ("is_numbers", 29) (by simp [fns, fns0, fns1, fns2]))
  have b9 := F9.binds (ps := ["value"]) fun _ _ _ _ _ _ us hl => match us, hl with | [_], _ => rfl
  obtain ⟨d10, F10⟩ := fun_of (K := K) (f := ga K "check_numbers") (x := "check_numbers") (qual := "check_numbers") (st := top 30) (hT ("check_numbers", 30) (by simp [fns, fns0, fns1, fns2])) (g.fnb ("check_numbers", 30) (by simp [fns, fns0, fns1, fns2]))
  have m10 : mg "check_numbers" = some (.ref (ga K "check_numbers")) := PySem.W.mg_of X G (g.fng ("check_numbers", 30) (by simp [fns, fns0, fns1, fns2]))
  have b10 := F10.binds (ps := ["value", "names"]) fun _ _ _ _ _ _ us hl => match us, hl with | [_, _], _ => rfl
  obtain ⟨d11, F11⟩ := fun_of (K := K) (f := ga K "added") (x := "added") (qual := "added") (st := top 32) (hT ("added", 32) (by simp [fns, fns0, fns1, fns2])) (g.fnb ("added", 32) (by simp [fns, fns0, fns1, fns2]))
  have m11 : mg "added" = some (.ref (ga K "added")) := PySem.W.mg_of X G (g.fng ("added", 32) (by simp [fns, fns0, fns1, fns2]))
  have b11 := F11.binds (ps := ["tables"]) fun _ _ _ _ _ _ us hl => match us, hl with | [_], _ => rfl
  obtain ⟨d12, F12⟩ := fun_of (K := K) (f := ga K "decimal_text") (x := "decimal_text") (qual := "decimal_text") (st := top 37) (hT ("decimal_text", 37) (by simp [fns, fns0, fns1, fns2])) (g.fnb ("decimal_text", 37) (by simp [fns, fns0, fns1, fns2]))
  have m12 : mg "decimal_text" = some (.ref (ga K "decimal_text")) := PySem.W.mg_of X G (g.fng ("decimal_text", 37) (by simp [fns, fns0, fns1, fns2]))
  have b12 := F12.binds (ps := ["number"]) fun _ _ _ _ _ _ us hl => match us, hl with | [_], _ => rfl
  obtain ⟨d13, F13⟩ := fun_of (K := K) (f := ga K "exponents_text") (x := "exponents_text") (qual := "exponents_text") (st := top 40) (hT ("exponents_text", 40) (by simp [fns, fns0, fns1, fns2])) (g.fnb ("exponents_text", 40) (by simp [fns, fns0, fns1, fns2]))
  have m13 : mg "exponents_text" = some (.ref (ga K "exponents_text")) := PySem.W.mg_of X G (g.fng ("exponents_text", 40) (by simp [fns, fns0, fns1, fns2]))
  have b13 := F13.binds (ps := ["exponents"]) fun _ _ _ _ _ _ us hl => match us, hl with | [_], _ => rfl
  obtain ⟨d14, F14⟩ := fun_of (K := K) (f := ga K "_power_text") (x := "_power_text") (qual := "_power_text") (st := top 42) (hT ("_power_text", 42) (by simp [fns, fns0, fns1, fns2])) (g.fnb ("_power_text", 42) (by simp [fns, fns0, fns1, fns2]))
  have m14 : mg "_power_text" = some (.ref (ga K "_power_text")) := PySem.W.mg_of X G (g.fng ("_power_text", 42) (by simp [fns, fns0, fns1, fns2]))
  have b14 := F14.binds (ps := ["name", "exponent"]) fun _ _ _ _ _ _ us hl => match us, hl with | [_, _], _ => rfl
  obtain ⟨d15, F15⟩ := fun_of (K := K) (f := ga K "check_size") (x := "check_size") (qual := "check_size") (st := top 45) (hT ("check_size", 45) (by simp [fns, fns0, fns1, fns2])) (g.fnb ("check_size", 45) (by simp [fns, fns0, fns1, fns2]))
  have m15 : mg "check_size" = some (.ref (ga K "check_size")) := PySem.W.mg_of X G (g.fng ("check_size", 45) (by simp [fns, fns0, fns1, fns2]))
  have b15 := F15.binds (ps := ["value"]) fun _ _ _ _ _ _ us hl => match us, hl with | [_], _ => rfl
  obtain ⟨d16, F16⟩ := fun_of (K := K) (f := ga K "_is_exponents") (x := "_is_exponents") (qual := "_is_exponents") (st := top 47) (hT ("_is_exponents", 47) (by simp [fns, fns0, fns1, fns2])) (g.fnb ("_is_exponents", 47) (by simp [fns, fns0, fns1, fns2]))
  have m16 : mg "_is_exponents" = some (.ref (ga K "_is_exponents")) := PySem.W.mg_of X G (g.fng ("_is_exponents", 47) (by simp [fns, fns0, fns1, fns2]))
  have b16 := F16.binds (ps := ["value"]) fun _ _ _ _ _ _ us hl => match us, hl with | [_], _ => rfl
  obtain ⟨d17, F17⟩ := fun_of (K := K) (f := ga K "product_of") (x := "product_of") (qual := "product_of") (st := top 50) (hT ("product_of", 50) (by simp [fns, fns0, fns1, fns2])) (g.fnb ("product_of", 50) (by simp [fns, fns0, fns1, fns2]))
  have m17 : mg "product_of" = some (.ref (ga K "product_of")) := PySem.W.mg_of X G (g.fng ("product_of", 50) (by simp [fns, fns0, fns1, fns2]))
  have b17 := F17.binds (ps := ["numbers"]) fun _ _ _ _ _ _ us hl => match us, hl with | [_], _ => rfl
  obtain ⟨d18, F18⟩ := fun_of (K := K) (f := ga K "cuts_of") (x := "cuts_of") (qual := "cuts_of") (st := top 57) (hT ("cuts_of", 57) (by simp [fns, fns0, fns1, fns2])) (g.fnb ("cuts_of", 57) (by simp [fns, fns0, fns1, fns2]))
  have m18 : mg "cuts_of" = some (.ref (ga K "cuts_of")) := PySem.W.mg_of X G (g.fng ("cuts_of", 57) (by simp [fns, fns0, fns1, fns2]))
  have b18 := F18.binds (ps := ["digits"]) fun _ _ _ _ _ _ us hl => match us, hl with | [_], _ => rfl
  obtain ⟨d19, F19⟩ := fun_of (K := K) (f := ga K "digits_at") (x := "digits_at") (qual := "digits_at") (st := top 58) (hT ("digits_at", 58) (by simp [fns, fns0, fns1, fns2])) (g.fnb ("digits_at", 58) (by simp [fns, fns0, fns1, fns2]))
  have m19 : mg "digits_at" = some (.ref (ga K "digits_at")) := PySem.W.mg_of X G (g.fng ("digits_at", 58) (by simp [fns, fns0, fns1, fns2]))
  have b19 := F19.binds (ps := ["digits", "numbers"]) fun _ _ _ _ _ _ us hl => match us, hl with | [_, _], _ => rfl
  obtain ⟨d20, F20⟩ := fun_of (K := K) (f := ga K "place_at") (x := "place_at") (qual := "place_at") (st := top 59) (hT ("place_at", 59) (by simp [fns, fns0, fns1, fns2])) (g.fnb ("place_at", 59) (by simp [fns, fns0, fns1, fns2]))
  have m20 : mg "place_at" = some (.ref (ga K "place_at")) := PySem.W.mg_of X G (g.fng ("place_at", 59) (by simp [fns, fns0, fns1, fns2]))
  have b20 := F20.binds (ps := ["digits", "index"]) fun _ _ _ _ _ _ us hl => match us, hl with | [_, _], _ => rfl
  obtain ⟨d21, F21⟩ := fun_of (K := K) (f := ga K "_law_rng") (x := "_law_rng") (qual := "_law_rng") (st := top 61) (hT ("_law_rng", 61) (by simp [fns, fns0, fns1, fns2])) (g.fnb ("_law_rng", 61) (by simp [fns, fns0, fns1, fns2]))
  have m21 : mg "_law_rng" = some (.ref (ga K "_law_rng")) := PySem.W.mg_of X G (g.fng ("_law_rng", 61) (by simp [fns, fns0, fns1, fns2]))
  have b21 := F21.binds (ps := ["_law_script", "_law_k"]) fun _ _ _ _ _ _ us hl => match us, hl with | [_, _], _ => rfl
  obtain ⟨d22, F22⟩ := fun_of (K := K) (f := ga K "_law_draw") (x := "_law_draw") (qual := "_law_draw") (st := top 62) (hT ("_law_draw", 62) (by simp [fns, fns0, fns1, fns2])) (g.fnb ("_law_draw", 62) (by simp [fns, fns0, fns1, fns2]))
  have m22 : mg "_law_draw" = some (.ref (ga K "_law_draw")) := PySem.W.mg_of X G (g.fng ("_law_draw", 62) (by simp [fns, fns0, fns1, fns2]))
  have b22 := F22.binds (ps := ["_law_rng_here", "_law_many"]) fun _ _ _ _ _ _ us hl => match us, hl with | [_, _], _ => rfl
  obtain ⟨d23, F23⟩ := fun_of (K := K) (f := ga K "_law_choice") (x := "_law_choice") (qual := "_law_choice") (st := top 63) (hT ("_law_choice", 63) (by simp [fns, fns0, fns1, fns2])) (g.fnb ("_law_choice", 63) (by simp [fns, fns0, fns1, fns2]))
  have m23 : mg "_law_choice" = some (.ref (ga K "_law_choice")) := PySem.W.mg_of X G (g.fng ("_law_choice", 63) (by simp [fns, fns0, fns1, fns2]))
  have b23 := F23.binds (ps := ["_law_rng_here", "_law_some"]) fun _ _ _ _ _ _ us hl => match us, hl with | [_, _], _ => rfl
  obtain ⟨d24, F24⟩ := fun_of (K := K) (f := ga K "_law_names") (x := "_law_names") (qual := "_law_names") (st := top 64) (hT ("_law_names", 64) (by simp [fns, fns0, fns1, fns2])) (g.fnb ("_law_names", 64) (by simp [fns, fns0, fns1, fns2]))
  have m24 : mg "_law_names" = some (.ref (ga K "_law_names")) := PySem.W.mg_of X G (g.fng ("_law_names", 64) (by simp [fns, fns0, fns1, fns2]))
  have b24 := F24.binds (ps := ["_law_rng_here", "_law_many", "_law_taken"]) fun _ _ _ _ _ _ us hl => match us, hl with | [_, _, _], _ => rfl
  obtain ⟨d25, F25⟩ := fun_of (K := K) (f := ga K "_law_times") (x := "_law_times") (qual := "_law_times") (st := top 65) (hT ("_law_times", 65) (by simp [fns, fns0, fns1, fns2])) (g.fnb ("_law_times", 65) (by simp [fns, fns0, fns1, fns2]))
  have m25 : mg "_law_times" = some (.ref (ga K "_law_times")) := PySem.W.mg_of X G (g.fng ("_law_times", 65) (by simp [fns, fns0, fns1, fns2]))
  have b25 := F25.binds (ps := ["_law_one", "_law_other"]) fun _ _ _ _ _ _ us hl => match us, hl with | [_, _], _ => rfl
  obtain ⟨d26, F26⟩ := fun_of (K := K) (f := ga K "_law_numbers") (x := "_law_numbers") (qual := "_law_numbers") (st := top 66) (hT ("_law_numbers", 66) (by simp [fns, fns0, fns1, fns2])) (g.fnb ("_law_numbers", 66) (by simp [fns, fns0, fns1, fns2]))
  have m26 : mg "_law_numbers" = some (.ref (ga K "_law_numbers")) := PySem.W.mg_of X G (g.fng ("_law_numbers", 66) (by simp [fns, fns0, fns1, fns2]))
  have b26 := F26.binds (ps := ["_law_rng_here", "_law_names_here"]) fun _ _ _ _ _ _ us hl => match us, hl with | [_, _], _ => rfl
  obtain ⟨d27, F27⟩ := fun_of (K := K) (f := ga K "_law_size") (x := "_law_size") (qual := "_law_size") (st := top 67) (hT ("_law_size", 67) (by simp [fns, fns0, fns1, fns2])) (g.fnb ("_law_size", 67) (by simp [fns, fns0, fns1, fns2]))
  have m27 : mg "_law_size" = some (.ref (ga K "_law_size")) := PySem.W.mg_of X G (g.fng ("_law_size", 67) (by simp [fns, fns0, fns1, fns2]))
  have b27 := F27.binds (ps := ["_law_rng_here", "_law_names_here"]) fun _ _ _ _ _ _ us hl => match us, hl with | [_, _], _ => rfl
  obtain ⟨d28, F28⟩ := fun_of (K := K) (f := ga K "_law_value") (x := "_law_value") (qual := "_law_value") (st := top 68) (hT ("_law_value", 68) (by simp [fns, fns0, fns1, fns2])) (g.fnb ("_law_value", 68) (by simp [fns, fns0, fns1, fns2]))
  have m28 : mg "_law_value" = some (.ref (ga K "_law_value")) := PySem.W.mg_of X G (g.fng ("_law_value", 68) (by simp [fns, fns0, fns1, fns2]))
  have b28 := F28.binds (ps := ["_law_size_here", "_law_numbers_here"]) fun _ _ _ _ _ _ us hl => match us, hl with | [_, _], _ => rfl
  obtain ⟨d29, F29⟩ := fun_of (K := K) (f := ga K "_law_digit") (x := "_law_digit") (qual := "_law_digit") (st := top 69) (hT ("_law_digit", 69) (by simp [fns, fns0, fns1, fns2])) (g.fnb ("_law_digit", 69) (by simp [fns, fns0, fns1, fns2]))
  have m29 : mg "_law_digit" = some (.ref (ga K "_law_digit")) := PySem.W.mg_of X G (g.fng ("_law_digit", 69) (by simp [fns, fns0, fns1, fns2]))
  have b29 := F29.binds (ps := ["_law_rng_here", "_law_names_here"]) fun _ _ _ _ _ _ us hl => match us, hl with | [_, _], _ => rfl
  obtain ⟨d30, F30⟩ := fun_of (K := K) (f := ga K "_law_made") (x := "_law_made") (qual := "_law_made") (st := top 70) (hT ("_law_made", 70) (by simp [fns, fns0, fns1, fns2])) (g.fnb ("_law_made", 70) (by simp [fns, fns0, fns1, fns2]))
  have m30 : mg "_law_made" = some (.ref (ga K "_law_made")) := PySem.W.mg_of X G (g.fng ("_law_made", 70) (by simp [fns, fns0, fns1, fns2]))
  have b30 := F30.binds (ps := ["_law_model"]) fun _ _ _ _ _ _ us hl => match us, hl with | [_], _ => rfl
  obtain ⟨d31, F31⟩ := fun_of (K := K) (f := ga K "_law_size_text") (x := "_law_size_text") (qual := "_law_size_text") (st := top 71) (hT ("_law_size_text", 71) (by simp [fns, fns0, fns1, fns2])) (g.fnb ("_law_size_text", 71) (by simp [fns, fns0, fns1, fns2]))
  have m31 : mg "_law_size_text" = some (.ref (ga K "_law_size_text")) := PySem.W.mg_of X G (g.fng ("_law_size_text", 71) (by simp [fns, fns0, fns1, fns2]))
  have b31 := F31.binds (ps := ["_law_size_here"]) fun _ _ _ _ _ _ us hl => match us, hl with | [_], _ => rfl
  obtain ⟨d32, F32⟩ := fun_of (K := K) (f := ga K "_law_digit_text") (x := "_law_digit_text") (qual := "_law_digit_text") (st := top 72) (hT ("_law_digit_text", 72) (by simp [fns, fns0, fns1, fns2])) (g.fnb ("_law_digit_text", 72) (by simp [fns, fns0, fns1, fns2]))
  have m32 : mg "_law_digit_text" = some (.ref (ga K "_law_digit_text")) := PySem.W.mg_of X G (g.fng ("_law_digit_text", 72) (by simp [fns, fns0, fns1, fns2]))
  have b32 := F32.binds (ps := ["_law_model"]) fun _ _ _ _ _ _ us hl => match us, hl with | [_], _ => rfl
  obtain ⟨d33, F33⟩ := fun_of (K := K) (f := ga K "_law_is_digit") (x := "_law_is_digit") (qual := "_law_is_digit") (st := top 73) (hT ("_law_is_digit", 73) (by simp [fns, fns0, fns1, fns2])) (g.fnb ("_law_is_digit", 73) (by simp [fns, fns0, fns1, fns2]))
  have m33 : mg "_law_is_digit" = some (.ref (ga K "_law_is_digit")) := PySem.W.mg_of X G (g.fng ("_law_is_digit", 73) (by simp [fns, fns0, fns1, fns2]))
  have b33 := F33.binds (ps := ["_law_digit_here", "_law_model"]) fun _ _ _ _ _ _ us hl => match us, hl with | [_, _], _ => rfl
  obtain ⟨d34, F34⟩ := fun_of (K := K) (f := ga K "_law_other_way") (x := "_law_other_way") (qual := "_law_other_way") (st := top 74) (hT ("_law_other_way", 74) (by simp [fns, fns0, fns1, fns2])) (g.fnb ("_law_other_way", 74) (by simp [fns, fns0, fns1, fns2]))
  have m34 : mg "_law_other_way" = some (.ref (ga K "_law_other_way")) := PySem.W.mg_of X G (g.fng ("_law_other_way", 74) (by simp [fns, fns0, fns1, fns2]))
  have b34 := F34.binds (ps := ["_law_model"]) fun _ _ _ _ _ _ us hl => match us, hl with | [_], _ => rfl
  obtain ⟨d35, F35⟩ := fun_of (K := K) (f := ga K "_law_place") (x := "_law_place") (qual := "_law_place") (st := top 75) (hT ("_law_place", 75) (by simp [fns, fns0, fns1, fns2])) (g.fnb ("_law_place", 75) (by simp [fns, fns0, fns1, fns2]))
  have m35 : mg "_law_place" = some (.ref (ga K "_law_place")) := PySem.W.mg_of X G (g.fng ("_law_place", 75) (by simp [fns, fns0, fns1, fns2]))
  have b35 := F35.binds (ps := ["_law_models", "_law_index", "_law_numbers_here"]) fun _ _ _ _ _ _ us hl => match us, hl with | [_, _, _], _ => rfl
  obtain ⟨d36, F36⟩ := fun_of (K := K) (f := ga K "_law_cuts") (x := "_law_cuts") (qual := "_law_cuts") (st := top 76) (hT ("_law_cuts", 76) (by simp [fns, fns0, fns1, fns2])) (g.fnb ("_law_cuts", 76) (by simp [fns, fns0, fns1, fns2]))
  have m36 : mg "_law_cuts" = some (.ref (ga K "_law_cuts")) := PySem.W.mg_of X G (g.fng ("_law_cuts", 76) (by simp [fns, fns0, fns1, fns2]))
  have b36 := F36.binds (ps := ["_law_models"]) fun _ _ _ _ _ _ us hl => match us, hl with | [_], _ => rfl
  obtain ⟨d37, F37⟩ := fun_of (K := K) (f := ga K "_law_indexes") (x := "_law_indexes") (qual := "_law_indexes") (st := top 77) (hT ("_law_indexes", 77) (by simp [fns, fns0, fns1, fns2])) (g.fnb ("_law_indexes", 77) (by simp [fns, fns0, fns1, fns2]))
  have m37 : mg "_law_indexes" = some (.ref (ga K "_law_indexes")) := PySem.W.mg_of X G (g.fng ("_law_indexes", 77) (by simp [fns, fns0, fns1, fns2]))
  have b37 := F37.binds (ps := ["_law_rng_here", "_law_many"]) fun _ _ _ _ _ _ us hl => match us, hl with | [_, _], _ => rfl
  obtain ⟨d38, F38⟩ := fun_of (K := K) (f := ga K "_law_places_right") (x := "_law_places_right") (qual := "_law_places_right") (st := top 78) (hT ("_law_places_right", 78) (by simp [fns, fns0, fns1, fns2])) (g.fnb ("_law_places_right", 78) (by simp [fns, fns0, fns1, fns2]))
  have m38 : mg "_law_places_right" = some (.ref (ga K "_law_places_right")) := PySem.W.mg_of X G (g.fng ("_law_places_right", 78) (by simp [fns, fns0, fns1, fns2]))
  have b38 := F38.binds (ps := ["_law_rng_here", "_law_row", "_law_models", "_law_times_at"]) fun _ _ _ _ _ _ us hl => match us, hl with | [_, _, _, _], _ => rfl
  obtain ⟨d39, F39⟩ := fun_of (K := K) (f := ga K "_law_told_right") (x := "_law_told_right") (qual := "_law_told_right") (st := top 79) (hT ("_law_told_right", 79) (by simp [fns, fns0, fns1, fns2])) (g.fnb ("_law_told_right", 79) (by simp [fns, fns0, fns1, fns2]))
  have m39 : mg "_law_told_right" = some (.ref (ga K "_law_told_right")) := PySem.W.mg_of X G (g.fng ("_law_told_right", 79) (by simp [fns, fns0, fns1, fns2]))
  have b39 := F39.binds (ps := ["_law_row", "_law_models"]) fun _ _ _ _ _ _ us hl => match us, hl with | [_, _], _ => rfl
  obtain ⟨d40, F40⟩ := fun_of (K := K) (f := ga K "_law_right") (x := "_law_right") (qual := "_law_right") (st := top 80) (hT ("_law_right", 80) (by simp [fns, fns0, fns1, fns2])) (g.fnb ("_law_right", 80) (by simp [fns, fns0, fns1, fns2]))
  have m40 : mg "_law_right" = some (.ref (ga K "_law_right")) := PySem.W.mg_of X G (g.fng ("_law_right", 80) (by simp [fns, fns0, fns1, fns2]))
  have b40 := F40.binds (ps := ["_law_rng_here"]) fun _ _ _ _ _ _ us hl => match us, hl with | [_], _ => rfl
  obtain ⟨d41, F41⟩ := fun_of (K := K) (f := ga K "law") (x := "law") (qual := "law") (st := top 81) (hT ("law", 81) (by simp [fns, fns0, fns1, fns2])) (g.fnb ("law", 81) (by simp [fns, fns0, fns1, fns2]))
  have m41 : mg "law" = some (.ref (ga K "law")) := PySem.W.mg_of X G (g.fng ("law", 81) (by simp [fns, fns0, fns1, fns2]))
  have b41 := F41.binds (ps := ["_law_script"]) fun _ _ _ _ _ _ us hl => match us, hl with | [_], _ => rfl
  obtain ⟨e0, E0⟩ := fun_of (K := K) (f := faM K "names") (x := "names") (qual := "Size.names") (st := inClass sSize 7) (hM ("names", 7) (by simp [meths])) (g.mes ("names", 7) (by simp [meths]))
  have c0 := E0.binds (ps := ["self"]) fun _ _ _ _ _ _ us hl => match us, hl with | [_], _ => rfl
  obtain ⟨e1, E1⟩ := fun_of (K := K) (f := faM K "exponents") (x := "exponents") (qual := "Size.exponents") (st := inClass sSize 8) (hM ("exponents", 8) (by simp [meths])) (g.mes ("exponents", 8) (by simp [meths]))
  have c1 := E1.binds (ps := ["self"]) fun _ _ _ _ _ _ us hl => match us, hl with | [_], _ => rfl
  obtain ⟨e2, E2⟩ := fun_of (K := K) (f := faM K "at") (x := "at") (qual := "Size.at") (st := inClass sSize 12) (hM ("at", 12) (by simp [meths])) (g.mes ("at", 12) (by simp [meths]))
  have c2 := E2.binds (ps := ["self", "numbers"]) fun _ _ _ _ _ _ us hl => match us, hl with | [_, _], _ => rfl
  obtain ⟨e3, E3⟩ := fun_of (K := K) (f := faM K "__mul__") (x := "__mul__") (qual := "Size.__mul__") (st := inClass sSize 14) (hM ("__mul__", 14) (by simp [meths])) (g.mes ("__mul__", 14) (by simp [meths]))
  have c3 := E3.binds (ps := ["self", "other"]) fun _ _ _ _ _ _ us hl => match us, hl with | [_, _], _ => rfl
  obtain ⟨e4, E4⟩ := fun_of (K := K) (f := faM K "__eq__") (x := "__eq__") (qual := "Size.__eq__") (st := inClass sSize 17) (hM ("__eq__", 17) (by simp [meths])) (g.mes ("__eq__", 17) (by simp [meths]))
  have c4 := E4.binds (ps := ["self", "other"]) fun _ _ _ _ _ _ us hl => match us, hl with | [_, _], _ => rfl
  obtain ⟨e5, E5⟩ := fun_of (K := K) (f := faM K "__repr__") (x := "__repr__") (qual := "Size.__repr__") (st := inClass sSize 19) (hM ("__repr__", 19) (by simp [meths])) (g.mes ("__repr__", 19) (by simp [meths]))
  have c5 := E5.binds (ps := ["self"]) fun _ _ _ _ _ _ us hl => match us, hl with | [_], _ => rfl
  have oDigit : OF K "Digit" [] := go.cl ("Digit", []) (by simp [ocl])
  have gDigit : mg "Digit" = some (.ref (ga K "Digit")) := PySem.W.mg_of X G oDigit.glo
  have oUnused : OF K "Unused" ["_radix", "_factor"] := go.cl ("Unused", ["_radix", "_factor"]) (by simp [ocl])
  have gUnused : mg "Unused" = some (.ref (ga K "Unused")) := PySem.W.mg_of X G oUnused.glo
  have oStraight : OF K "Straight" ["_radix", "_factor"] := go.cl ("Straight", ["_radix", "_factor"]) (by simp [ocl])
  have gStraight : mg "Straight" = some (.ref (ga K "Straight")) := PySem.W.mg_of X G oStraight.glo
  have oTurned : OF K "Turned" ["_radix", "_factor"] := go.cl ("Turned", ["_radix", "_factor"]) (by simp [ocl])
  have gTurned : mg "Turned" = some (.ref (ga K "Turned")) := PySem.W.mg_of X G oTurned.glo
  have oRow : OF K "Row" ["_digits"] := go.cl ("Row", ["_digits"]) (by simp [ocl])
  have gRow : mg "Row" = some (.ref (ga K "Row")) := PySem.W.mg_of X G oRow.glo
  obtain ⟨u0, U0⟩ := fun_of (K := K) (f := oma K ("Digit", "__init__")) (x := "__init__") (qual := "Digit.__init__") (st := inClass (top 52) 0) (hO ("Digit", "__init__", "Digit.__init__", 52, 0) (by simp [om, om0, om1])) (go.om ("Digit", "__init__", "Digit.__init__", 52, 0) (by simp [om, om0, om1]))
  have v0 := U0.binds (ps := ["self", "radix", "factor"]) fun _ _ _ _ _ _ us hl => match us, hl with | [_, _, _], _ => rfl
  obtain ⟨u1, U1⟩ := fun_of (K := K) (f := oma K ("Unused", "turned")) (x := "turned") (qual := "Unused.turned") (st := inClass (top 53) 4) (hO ("Unused", "turned", "Unused.turned", 53, 4) (by simp [om, om0, om1])) (go.om ("Unused", "turned", "Unused.turned", 53, 4) (by simp [om, om0, om1]))
  have v1 := U1.binds (ps := ["self"]) fun _ _ _ _ _ _ us hl => match us, hl with | [_], _ => rfl
  obtain ⟨u2, U2⟩ := fun_of (K := K) (f := oma K ("Unused", "__eq__")) (x := "__eq__") (qual := "Unused.__eq__") (st := inClass (top 53) 5) (hO ("Unused", "__eq__", "Unused.__eq__", 53, 5) (by simp [om, om0, om1])) (go.om ("Unused", "__eq__", "Unused.__eq__", 53, 5) (by simp [om, om0, om1]))
  have v2 := U2.binds (ps := ["self", "other"]) fun _ _ _ _ _ _ us hl => match us, hl with | [_, _], _ => rfl
  obtain ⟨u3, U3⟩ := fun_of (K := K) (f := oma K ("Unused", "__repr__")) (x := "__repr__") (qual := "Unused.__repr__") (st := inClass (top 53) 6) (hO ("Unused", "__repr__", "Unused.__repr__", 53, 6) (by simp [om, om0, om1])) (go.om ("Unused", "__repr__", "Unused.__repr__", 53, 6) (by simp [om, om0, om1]))
  have v3 := U3.binds (ps := ["self"]) fun _ _ _ _ _ _ us hl => match us, hl with | [_], _ => rfl
  obtain ⟨u4, U4⟩ := fun_of (K := K) (f := rcF K (oma K ("Unused", "radix")) "property") (x := "radix") (qual := "Unused.radix") (st := inClass (top 53) 2) (hO ("Unused", "radix", "Unused.radix", 53, 2) (by simp [om, om0, om1])) (go.om ("Unused", "radix", "Unused.radix", 53, 2) (by simp [om, om0, om1]))
  have v4 := U4.binds (ps := ["self"]) fun _ _ _ _ _ _ us hl => match us, hl with | [_], _ => rfl
  obtain ⟨u5, U5⟩ := fun_of (K := K) (f := rcF K (oma K ("Unused", "factor")) "property") (x := "factor") (qual := "Unused.factor") (st := inClass (top 53) 3) (hO ("Unused", "factor", "Unused.factor", 53, 3) (by simp [om, om0, om1])) (go.om ("Unused", "factor", "Unused.factor", 53, 3) (by simp [om, om0, om1]))
  have v5 := U5.binds (ps := ["self"]) fun _ _ _ _ _ _ us hl => match us, hl with | [_], _ => rfl
  obtain ⟨u6, U6⟩ := fun_of (K := K) (f := oma K ("Straight", "turned")) (x := "turned") (qual := "Straight.turned") (st := inClass (top 54) 4) (hO ("Straight", "turned", "Straight.turned", 54, 4) (by simp [om, om0, om1])) (go.om ("Straight", "turned", "Straight.turned", 54, 4) (by simp [om, om0, om1]))
  have v6 := U6.binds (ps := ["self"]) fun _ _ _ _ _ _ us hl => match us, hl with | [_], _ => rfl
  obtain ⟨u7, U7⟩ := fun_of (K := K) (f := oma K ("Straight", "__eq__")) (x := "__eq__") (qual := "Straight.__eq__") (st := inClass (top 54) 5) (hO ("Straight", "__eq__", "Straight.__eq__", 54, 5) (by simp [om, om0, om1])) (go.om ("Straight", "__eq__", "Straight.__eq__", 54, 5) (by simp [om, om0, om1]))
  have v7 := U7.binds (ps := ["self", "other"]) fun _ _ _ _ _ _ us hl => match us, hl with | [_, _], _ => rfl
  obtain ⟨u8, U8⟩ := fun_of (K := K) (f := oma K ("Straight", "__repr__")) (x := "__repr__") (qual := "Straight.__repr__") (st := inClass (top 54) 6) (hO ("Straight", "__repr__", "Straight.__repr__", 54, 6) (by simp [om, om0, om1])) (go.om ("Straight", "__repr__", "Straight.__repr__", 54, 6) (by simp [om, om0, om1]))
  have v8 := U8.binds (ps := ["self"]) fun _ _ _ _ _ _ us hl => match us, hl with | [_], _ => rfl
  obtain ⟨u9, U9⟩ := fun_of (K := K) (f := rcF K (oma K ("Straight", "radix")) "property") (x := "radix") (qual := "Straight.radix") (st := inClass (top 54) 2) (hO ("Straight", "radix", "Straight.radix", 54, 2) (by simp [om, om0, om1])) (go.om ("Straight", "radix", "Straight.radix", 54, 2) (by simp [om, om0, om1]))
  have v9 := U9.binds (ps := ["self"]) fun _ _ _ _ _ _ us hl => match us, hl with | [_], _ => rfl
  obtain ⟨u10, U10⟩ := fun_of (K := K) (f := rcF K (oma K ("Straight", "factor")) "property") (x := "factor") (qual := "Straight.factor") (st := inClass (top 54) 3) (hO ("Straight", "factor", "Straight.factor", 54, 3) (by simp [om, om0, om1])) (go.om ("Straight", "factor", "Straight.factor", 54, 3) (by simp [om, om0, om1]))
  have v10 := U10.binds (ps := ["self"]) fun _ _ _ _ _ _ us hl => match us, hl with | [_], _ => rfl
  obtain ⟨u11, U11⟩ := fun_of (K := K) (f := oma K ("Turned", "turned")) (x := "turned") (qual := "Turned.turned") (st := inClass (top 55) 4) (hO ("Turned", "turned", "Turned.turned", 55, 4) (by simp [om, om0, om1])) (go.om ("Turned", "turned", "Turned.turned", 55, 4) (by simp [om, om0, om1]))
  have v11 := U11.binds (ps := ["self"]) fun _ _ _ _ _ _ us hl => match us, hl with | [_], _ => rfl
  obtain ⟨u12, U12⟩ := fun_of (K := K) (f := oma K ("Turned", "__eq__")) (x := "__eq__") (qual := "Turned.__eq__") (st := inClass (top 55) 5) (hO ("Turned", "__eq__", "Turned.__eq__", 55, 5) (by simp [om, om0, om1])) (go.om ("Turned", "__eq__", "Turned.__eq__", 55, 5) (by simp [om, om0, om1]))
  have v12 := U12.binds (ps := ["self", "other"]) fun _ _ _ _ _ _ us hl => match us, hl with | [_, _], _ => rfl
  obtain ⟨u13, U13⟩ := fun_of (K := K) (f := oma K ("Turned", "__repr__")) (x := "__repr__") (qual := "Turned.__repr__") (st := inClass (top 55) 6) (hO ("Turned", "__repr__", "Turned.__repr__", 55, 6) (by simp [om, om0, om1])) (go.om ("Turned", "__repr__", "Turned.__repr__", 55, 6) (by simp [om, om0, om1]))
  have v13 := U13.binds (ps := ["self"]) fun _ _ _ _ _ _ us hl => match us, hl with | [_], _ => rfl
  obtain ⟨u14, U14⟩ := fun_of (K := K) (f := rcF K (oma K ("Turned", "radix")) "property") (x := "radix") (qual := "Turned.radix") (st := inClass (top 55) 2) (hO ("Turned", "radix", "Turned.radix", 55, 2) (by simp [om, om0, om1])) (go.om ("Turned", "radix", "Turned.radix", 55, 2) (by simp [om, om0, om1]))
  have v14 := U14.binds (ps := ["self"]) fun _ _ _ _ _ _ us hl => match us, hl with | [_], _ => rfl
  obtain ⟨u15, U15⟩ := fun_of (K := K) (f := rcF K (oma K ("Turned", "factor")) "property") (x := "factor") (qual := "Turned.factor") (st := inClass (top 55) 3) (hO ("Turned", "factor", "Turned.factor", 55, 3) (by simp [om, om0, om1])) (go.om ("Turned", "factor", "Turned.factor", 55, 3) (by simp [om, om0, om1]))
  have v15 := U15.binds (ps := ["self"]) fun _ _ _ _ _ _ us hl => match us, hl with | [_], _ => rfl
  obtain ⟨u16, U16⟩ := fun_of (K := K) (f := oma K ("Row", "digits")) (x := "digits") (qual := "Row.digits") (st := inClass (top 56) 1) (hO ("Row", "digits", "Row.digits", 56, 1) (by simp [om, om0, om1])) (go.om ("Row", "digits", "Row.digits", 56, 1) (by simp [om, om0, om1]))
  have v16 := U16.binds (ps := ["self"]) fun _ _ _ _ _ _ us hl => match us, hl with | [_], _ => rfl
  obtain ⟨u17, U17⟩ := fun_of (K := K) (f := oma K ("Row", "cuts")) (x := "cuts") (qual := "Row.cuts") (st := inClass (top 56) 3) (hO ("Row", "cuts", "Row.cuts", 56, 3) (by simp [om, om0, om1])) (go.om ("Row", "cuts", "Row.cuts", 56, 3) (by simp [om, om0, om1]))
  have v17 := U17.binds (ps := ["self"]) fun _ _ _ _ _ _ us hl => match us, hl with | [_], _ => rfl
  obtain ⟨u18, U18⟩ := fun_of (K := K) (f := oma K ("Row", "place")) (x := "place") (qual := "Row.place") (st := inClass (top 56) 4) (hO ("Row", "place", "Row.place", 56, 4) (by simp [om, om0, om1])) (go.om ("Row", "place", "Row.place", 56, 4) (by simp [om, om0, om1]))
  have v18 := U18.binds (ps := ["self", "index", "numbers"]) fun _ _ _ _ _ _ us hl => match us, hl with | [_, _, _], _ => rfl
  obtain ⟨u19, U19⟩ := fun_of (K := K) (f := oma K ("Row", "__len__")) (x := "__len__") (qual := "Row.__len__") (st := inClass (top 56) 7) (hO ("Row", "__len__", "Row.__len__", 56, 7) (by simp [om, om0, om1])) (go.om ("Row", "__len__", "Row.__len__", 56, 7) (by simp [om, om0, om1]))
  have v19 := U19.binds (ps := ["self"]) fun _ _ _ _ _ _ us hl => match us, hl with | [_], _ => rfl
  obtain ⟨u20, U20⟩ := fun_of (K := K) (f := oma K ("Row", "__eq__")) (x := "__eq__") (qual := "Row.__eq__") (st := inClass (top 56) 9) (hO ("Row", "__eq__", "Row.__eq__", 56, 9) (by simp [om, om0, om1])) (go.om ("Row", "__eq__", "Row.__eq__", 56, 9) (by simp [om, om0, om1]))
  have v20 := U20.binds (ps := ["self", "other"]) fun _ _ _ _ _ _ us hl => match us, hl with | [_, _], _ => rfl
  obtain ⟨u21, U21⟩ := fun_of (K := K) (f := oma K ("Row", "__repr__")) (x := "__repr__") (qual := "Row.__repr__") (st := inClass (top 56) 10) (hO ("Row", "__repr__", "Row.__repr__", 56, 10) (by simp [om, om0, om1])) (go.om ("Row", "__repr__", "Row.__repr__", 56, 10) (by simp [om, om0, om1]))
  have v21 := U21.binds (ps := ["self"]) fun _ _ _ _ _ _ us hl => match us, hl with | [_], _ => rfl
  obtain ⟨u22, U22⟩ := fun_of (K := K) (f := rcF K (oma K ("Row", "total")) "property") (x := "total") (qual := "Row.total") (st := inClass (top 56) 2) (hO ("Row", "total", "Row.total", 56, 2) (by simp [om, om0, om1])) (go.om ("Row", "total", "Row.total", 56, 2) (by simp [om, om0, om1]))
  have v22 := U22.binds (ps := ["self"]) fun _ _ _ _ _ _ us hl => match us, hl with | [_], _ => rfl
  obtain ⟨ccUnused, cdaUnused, sUnused, SUnused, bbUnused⟩ := sup_of (mg := mg) (st := inClass (top 53) 1) ox ns (hOI ("Unused", "Unused.__init__", 53, 1) (by simp [oi])) (go.sup ("Unused", "Digit") (by simp [osup])) (by decide +kernel) (by decide +kernel)
  have bUnused := bbUnused ["self", "radix"] (fun _ _ _ _ _ _ _ us hl => match us, hl with | [_, _], _ => rfl)
  obtain ⟨ccStraight, cdaStraight, sStraight, SStraight, bbStraight⟩ := sup_of (mg := mg) (st := inClass (top 54) 1) ox ns (hOI ("Straight", "Straight.__init__", 54, 1) (by simp [oi])) (go.sup ("Straight", "Digit") (by simp [osup])) (by decide +kernel) (by decide +kernel)
  have bStraight := bbStraight ["self", "radix", "factor"] (fun _ _ _ _ _ _ _ us hl => match us, hl with | [_, _, _], _ => rfl)
  obtain ⟨ccTurned, cdaTurned, sTurned, STurned, bbTurned⟩ := sup_of (mg := mg) (st := inClass (top 55) 1) ox ns (hOI ("Turned", "Turned.__init__", 55, 1) (by simp [oi])) (go.sup ("Turned", "Digit") (by simp [osup])) (by decide +kernel) (by decide +kernel)
  have bTurned := bbTurned ["self", "radix", "factor"] (fun _ _ _ _ _ _ _ us hl => match us, hl with | [_, _, _], _ => rfl)
  obtain ⟨eRow, DRow, ERow, hERow⟩ := fune_of (K := K) (f := oma K ("Row", "__init__")) (x := "__init__") (qual := "Row.__init__") (st := inClass (top 56) 0) (hOI ("Row", "Row.__init__", 56, 0) (by simp [oi])) (go.df "Row" (by simp [odf]))
  obtain ⟨di, FI⟩ := fund_of (K := K) (f := meA K "__init__") (x := "__init__") (qual := "Size.__init__") (st := sInit) hI g.ini
  obtain ⟨bi1, bi0⟩ := init_b FI
  have mS : mg "Size" = some (.ref (caK K)) := PySem.W.mg_of X G cf.glo
  have CS : Cs K (caK K) := ⟨⟨cf.pg, cf.hd, cf.po, cf.sa⟩, cf.nE⟩
  have CK : Ck K mg (caK K) := ⟨CS, mS, cf.cc, g.cn, g.ct, cf.co⟩
  have pI := plm_ok (g.pl "__init__" (by simp [plain]))
  have MK : Mk K (caK K) (meA K "__init__") := ⟨cf.mkI, pI.1, pI.2, cf.kp⟩
  have e := hfa.symm.trans m41
  cases e
  obtain ⟨oc, od, kV, doc, pm, an, cdv, ct, osl, ef, lk, hcd⟩ := id F41.ex
  have pnames := plm_ok (g.pl "names" (by simp [plain]))
  have pexponents := plm_ok (g.pl "exponents" (by simp [plain]))
  have pat := plm_ok (g.pl "at" (by simp [plain]))
  have pXXmulXX := plm_ok (g.pl "__mul__" (by simp [plain]))
  have pXXeqXX := plm_ok (g.pl "__eq__" (by simp [plain]))
  have pXXreprXX := plm_ok (g.pl "__repr__" (by simp [plain]))
  refine ⟨d41, fun s u => ?_, fun base _ _ => ?_⟩
  · rw [ef]
    exact .of_eq rfl
  · have GInt := ok_isint (P := PG) (w := w) (base := base) F0 NK
    have GNm := ok_isname (P := PG) (w := w) (base := base) F8 NK NN
    have GAdd := ok_added (P := PG) (w := w) (base := base) F11 NA
    have GDec := ok_dec (P := PG) (w := w) (base := base) F12 NS b12 m12 F12.kp
    have GPw := ok_pw (P := PG) (w := w) (mg := mg) (base := base) F14 GDec F12.kp b12 m12
    have GTex := ok_tex (P := PG) (w := w) (base := base) F13 NA NT GPw F14.kp b14 m14
    have GEx := ok_isexp (P := PG) (w := w) (base := base) F16 NK GNm F8.kp b8 m8 GInt F0.kp b0 m0
    have GI := ok_init (P := PG) (w := w) (base := base) FI NA CS GEx F16.kp b16 m16
    have GCk := ok_check (P := PG) (w := w) (base := base) F15 NK CK
    have GRa := ok_rai (P := PG) (w := w) (mg := mg) (base := base) F2
    have GOd := ok_ord (P := PG) (w := w) (mg := mg) (base := base) F5
    have GSh := ok_sha (P := PG) (w := w) (base := base) F7 (bn "enumerate" (by simp [bltN])) gG
    have GRf := ok_ref (P := PG) (w := w) (base := base) F6 (bn "list" (by simp [bltN])) gG GSh F7.kp b7 m7
    have GCo := ok_cob (P := PG) (w := w) (base := base) F4 GRf F6.kp b6 m6
    have GOr := ok_ors (P := PG) (w := w) (base := base) F3 (bn "list" (by simp [bltN])) (bn "sum" (by simp [bltN])) GCo F4.kp b4 m4 GOd F5.kp b5 m5
    have GIn := ok_isnum (P := PG) (w := w) (base := base) F9 NK GNm F8.kp b8 m8 GInt F0.kp b0 m0
    have GCn := ok_chn (P := PG) (w := w) (base := base) F10 (bn "any" (by simp [bltN])) GIn F9.kp b9 m9
    have GIl := ok_isl (P := PG) (w := w) (base := base) F1 NK (bn "list" (by simp [bltN])) (bn "tuple" (by simp [bltN]))
    have gNames := ok_names (P := PG) (w := w) (base := base) E0 NT CK
    have gExpo := ok_expo (P := PG) (w := w) (base := base) E1 NT CK
    have gAt := ok_at (P := PG) (w := w) (base := base) E2 CK (bn "any" (by simp [bltN])) GCn F10.kp b10 m10 gNames (⟨pnames.1, pnames.2, E0.kp⟩ : Meth K (caK K) "names" (meA K "names")) c0 GOr F3.kp b3 m3 GRa F2.kp b2 m2 MX0 gX0 xf0.exb xf0.tyC
    have gMul := ok_mul (P := PG) (w := w) (base := base) E3 CK GCk F15.kp b15 m15 MK GI bi1 (⟨pexponents.1, pexponents.2, E1.kp⟩ : Meth K (caK K) "exponents" (meA K "exponents")) gExpo c1 GAdd F11.kp b11 m11
    have gEq := ok_eq (P := PG) (w := w) (base := base) E4 NK CK
    have gRep := ok_repr (P := PG) (w := w) (base := base) E5 CK GTex F13.kp b13 m13
    have SE : Se PG w K mg base (caK K) := ⟨⟨_, _, gEq, pXXeqXX.1, pXXeqXX.2, c4⟩, ⟨_, _, gRep, pXXreprXX.1, pXXreprXX.2, c5⟩⟩
    have GDi := ok_dgI (P := PG) (w := w) (mg := mg) (base := base) U0
    have fUnused : Df K (ga K "Unused") := ⟨oUnused.cl, oUnused.nf "_radix" (by simp), oUnused.nf "_factor" (by simp)⟩
    have qUnused : Dq K mg "Unused" (ga K "Unused") := ⟨fUnused, gUnused, oUnused.cc, g.cn, g.ct, oUnused.co⟩
    have fStraight : Df K (ga K "Straight") := ⟨oStraight.cl, oStraight.nf "_radix" (by simp), oStraight.nf "_factor" (by simp)⟩
    have qStraight : Dq K mg "Straight" (ga K "Straight") := ⟨fStraight, gStraight, oStraight.cc, g.cn, g.ct, oStraight.co⟩
    have fTurned : Df K (ga K "Turned") := ⟨oTurned.cl, oTurned.nf "_radix" (by simp), oTurned.nf "_factor" (by simp)⟩
    have qTurned : Dq K mg "Turned" (ga K "Turned") := ⟨fTurned, gTurned, oTurned.cc, g.cn, g.ct, oTurned.co⟩
    have iUnused := ok_uI (C := caK K) (w := w) (base := base) SUnused fUnused GDi v0 GCk F15.kp b15 m15
    have rUnused := ok_uR (P := PG) (w := w) (mg := mg) (base := base) U4
    have wUnused := ok_uF (P := PG) (w := w) (mg := mg) (base := base) U5
    have zUnused := ok_uE (P := PG) (w := w) (base := base) U2 NK qUnused SE
    have pUnused := ok_uP (P := PG) (w := w) (mg := mg) (base := base) U3 fUnused SE
    have iStraight := ok_sI (C := caK K) (w := w) (base := base) SStraight fStraight GDi v0 GCk F15.kp b15 m15
    have rStraight := ok_sR (P := PG) (w := w) (mg := mg) (base := base) U9
    have wStraight := ok_sF (P := PG) (w := w) (mg := mg) (base := base) U10
    have zStraight := ok_sE (P := PG) (w := w) (base := base) U7 NK qStraight SE
    have pStraight := ok_sP (P := PG) (w := w) (mg := mg) (base := base) U8 fStraight SE
    have iTurned := ok_tI (C := caK K) (w := w) (base := base) STurned fTurned GDi v0 GCk F15.kp b15 m15
    have rTurned := ok_tR (P := PG) (w := w) (mg := mg) (base := base) U14
    have wTurned := ok_tF (P := PG) (w := w) (mg := mg) (base := base) U15
    have zTurned := ok_tE (P := PG) (w := w) (base := base) U12 NK qTurned SE
    have pTurned := ok_tP (P := PG) (w := w) (mg := mg) (base := base) U13 fTurned SE
    have tUnused := ok_uT (P := PG) (w := w) (mg := mg) (base := base) U1
    have tStraight := ok_sT (P := PG) (w := w) (base := base) U6 fStraight oTurned.mkk iTurned bTurned gTurned
    have tTurned := ok_tT (P := PG) (w := w) (base := base) U11 fTurned oStraight.mkk iStraight bStraight gStraight
    have da : Dall PG w K mg base (caK K) (ga K "Digit") (fun i => ga K (nmD i)) := {
      sz := SE
      dq := fun i hi => match i, hi with | 0, _ => qUnused | 1, _ => qStraight | 2, _ => qTurned
      rad := fun i hi => match i, hi with | 0, _ => ⟨_, _, _, (go.pr ("Unused", "radix") (by simp [opr])), rUnused, v4⟩ | 1, _ => ⟨_, _, _, (go.pr ("Straight", "radix") (by simp [opr])), rStraight, v9⟩ | 2, _ => ⟨_, _, _, (go.pr ("Turned", "radix") (by simp [opr])), rTurned, v14⟩
      fac0 := ⟨_, _, _, (go.pr ("Unused", "factor") (by simp [opr])), wUnused, v5⟩
      fac := fun i hi => by rcases hi with rfl | rfl; exact ⟨_, _, _, (go.pr ("Straight", "factor") (by simp [opr])), wStraight, v10⟩; exact ⟨_, _, _, (go.pr ("Turned", "factor") (by simp [opr])), wTurned, v15⟩
      trn0 := ⟨_, _, (⟨(go.pl ("Unused", "turned") (by simp [opl])).1, (go.pl ("Unused", "turned") (by simp [opl])).2, U1.kp⟩ : Meth K (ga K "Unused") "turned" (oma K ("Unused", "turned"))), tUnused, v1⟩
      trn := fun i hi => by rcases hi with rfl | rfl; exact ⟨_, _, (⟨(go.pl ("Straight", "turned") (by simp [opl])).1, (go.pl ("Straight", "turned") (by simp [opl])).2, U6.kp⟩ : Meth K (ga K "Straight") "turned" (oma K ("Straight", "turned"))), tStraight, v6⟩; exact ⟨_, _, (⟨(go.pl ("Turned", "turned") (by simp [opl])).1, (go.pl ("Turned", "turned") (by simp [opl])).2, U11.kp⟩ : Meth K (ga K "Turned") "turned" (oma K ("Turned", "turned"))), tTurned, v11⟩
      eq0 := ⟨_, _, zUnused, (go.pl ("Unused", "__eq__") (by simp [opl])).1, (go.pl ("Unused", "__eq__") (by simp [opl])).2, v2⟩
      eq := fun i hi => by rcases hi with rfl | rfl; exact ⟨_, _, zStraight, (go.pl ("Straight", "__eq__") (by simp [opl])).1, (go.pl ("Straight", "__eq__") (by simp [opl])).2, v7⟩; exact ⟨_, _, zTurned, (go.pl ("Turned", "__eq__") (by simp [opl])).1, (go.pl ("Turned", "__eq__") (by simp [opl])).2, v12⟩
      rp0 := ⟨_, _, pUnused, (go.pl ("Unused", "__repr__") (by simp [opl])).1, (go.pl ("Unused", "__repr__") (by simp [opl])).2, v3⟩
      rp1 := ⟨_, _, pStraight, (go.pl ("Straight", "__repr__") (by simp [opl])).1, (go.pl ("Straight", "__repr__") (by simp [opl])).2, v8⟩
      rp2 := ⟨_, _, pTurned, (go.pl ("Turned", "__repr__") (by simp [opl])).1, (go.pl ("Turned", "__repr__") (by simp [opl])).2, v13⟩
      way := fun i hi => match i, hi with | 0, _ => (go.way ("Unused", "WAY", "unused") (by simp [oway])).elim fun t e => ⟨.str "unused" t, ⟨e.1, ⟨t, rfl⟩, e.2, by decide⟩⟩ | 1, _ => (go.way ("Straight", "WAY", "straight") (by simp [oway])).elim fun t e => ⟨.str "straight" t, ⟨e.1, ⟨t, rfl⟩, e.2, by decide⟩⟩ | 2, _ => (go.way ("Turned", "WAY", "turned") (by simp [oway])).elim fun t e => ⟨.str "turned" t, ⟨e.1, ⟨t, rfl⟩, e.2, by decide⟩⟩
      ne := fun i hi => match i, hi with | 0, _ => oUnused.ne | 1, _ => oStraight.ne | 2, _ => oTurned.ne
      nf := fun i j hi hj => match i, j, hi, hj with | 0, 0, _, _ => go.nf ("Unused", "Unused") (by simp [onf]) | 0, 1, _, _ => go.nf ("Unused", "Straight") (by simp [onf]) | 0, 2, _, _ => go.nf ("Unused", "Turned") (by simp [onf]) | 1, 0, _, _ => go.nf ("Straight", "Unused") (by simp [onf]) | 1, 1, _, _ => go.nf ("Straight", "Straight") (by simp [onf]) | 1, 2, _, _ => go.nf ("Straight", "Turned") (by simp [onf]) | 2, 0, _, _ => go.nf ("Turned", "Unused") (by simp [onf]) | 2, 1, _, _ => go.nf ("Turned", "Straight") (by simp [onf]) | 2, 2, _, _ => go.nf ("Turned", "Turned") (by simp [onf])
      kt := fun i j hi hj => match i, j, hi, hj with | 0, 0, _, _ => fun h => absurd rfl h | 0, 1, _, _ => fun h => go.kit ("Unused", "Straight", false) (by simp [okit]) | 0, 2, _, _ => fun h => go.kit ("Unused", "Turned", false) (by simp [okit]) | 1, 0, _, _ => fun h => go.kit ("Straight", "Unused", false) (by simp [okit]) | 1, 1, _, _ => fun h => absurd rfl h | 1, 2, _, _ => fun h => go.kit ("Straight", "Turned", false) (by simp [okit]) | 2, 0, _, _ => fun h => go.kit ("Turned", "Unused", false) (by simp [okit]) | 2, 1, _, _ => fun h => go.kit ("Turned", "Straight", false) (by simp [okit]) | 2, 2, _, _ => fun h => absurd rfl h
      kd := fun i hi => match i, hi with | 0, _ => go.kit ("Unused", "Digit", true) (by simp [okit]) | 1, _ => go.kit ("Straight", "Digit", true) (by simp [okit]) | 2, _ => go.kit ("Turned", "Digit", true) (by simp [okit])
      gD := gDigit
      new0 := ⟨_, _, oUnused.mkk, iUnused, bUnused⟩
      new := fun i hi => by rcases hi with rfl | rfl; exact ⟨_, _, oStraight.mkk, iStraight, bStraight⟩; exact ⟨_, _, oTurned.mkk, iTurned, bTurned⟩ }
    have rw : Rwf K (ga K "Row") := ⟨oRow.cl, oRow.nf "_digits" (by simp)⟩
    have rq : Rq K mg (ga K "Row") := ⟨rw, gRow, oRow.cc, g.cn, g.ct, oRow.co⟩
    have iRow := ok_rwI (P := PG) (w := w) (base := base) ERow NK (bn "enumerate" (by simp [bltN])) (bn "list" (by simp [bltN])) da rw GIl F1.kp b1 m1
    have bRow : Binds K eRow ["self", "digits"] [] := by
      obtain ⟨ds, r, b⟩ := FunD.binds1 (ps := ["self", "digits"]) ERow 2 1 (fun z => nomatch z) rfl (fun T kV doc pm an cdv ct us its h1 h2 => match us, its, h1, h2 with | [_, _], [_], _, _ => ⟨_, rfl, rfl⟩)
      have e1 : ds = [] := List.length_eq_zero_iff.mp r.length.symm
      rw [e1] at b
      exact b
    have bRow0 : Binds K eRow ["self", "digits"] [.ref DRow] := by
      obtain ⟨ds, r, b⟩ := FunD.binds1 (ps := ["self", "digits"]) ERow 1 0 (fun z => nomatch z) rfl (fun T kV doc pm an cdv ct us its h1 h2 => match us, its, h1, h2 with | [_], [_], _, _ => ⟨_, rfl, rfl⟩)
      have r2 : Vals [V.ref DRow] ds := r
      obtain ⟨u, e2, ru⟩ := vals1 r2
      have e3 : u = Value.ref DRow := ru
      rw [e2, e3] at b
      exact b
    have S2 : Sz2 PG w K mg base (caK K) := ⟨CK, ⟨_, _, gMul, cf.s1, pXXmulXX.1, pXXmulXX.2, c3⟩, ⟨_, _, MK, GI, bi1, bi0⟩⟩
    have GCut := ok_cut (P := PG) (w := w) (base := base) F18 da S2
    have rD := ok_rwD (C := caK K) (cl := fun i => ga K (nmD i)) (P := PG) (w := w) (base := base) U16 (bn "list" (by simp [bltN])) rw
    have rL := ok_rwL (C := caK K) (cl := fun i => ga K (nmD i)) (P := PG) (w := w) (base := base) U19 (bn "len" (by simp [bltN])) rw
    have rE := ok_rwE (P := PG) (w := w) (base := base) U20 NK da rq
    have rP := ok_rwP (P := PG) (w := w) (base := base) U21 da rw
    have rC := ok_rwC (P := PG) (w := w) (base := base) U17 rw GCut F18.kp b18 m18
    have rT := ok_rwT (P := PG) (w := w) (base := base) U22 rw GCut F18.kp b18 m18
    have GDa := ok_dga (P := PG) (w := w) (base := base) F19 da CK (bn "isinstance" (by simp [bltN])) (bn "list" (by simp [bltN])) (bn "zip" (by simp [bltN])) GCn F10.kp b10 m10 gNames (⟨pnames.1, pnames.2, E0.kp⟩ : Meth K (caK K) "names" (meA K "names")) c0 gAt (⟨pat.1, pat.2, E2.kp⟩ : Meth K (caK K) "at" (meA K "at")) c2
    have GPd := ok_prd (P := PG) (w := w) (mg := mg) (base := base) F17
    have GPl := ok_pla (P := PG) (w := w) (base := base) F20 (bn "divmod" (by simp [bltN]))
    have rX := ok_rwX (P := PG) (w := w) (base := base) U18 rw GDa F19.kp b19 m19 GInt F0.kp b0 m0 GPd F17.kp b17 m17 GPl F20.kp b20 m20
    have MS : MkS PG w K mg base (caK K) := ⟨mS, _, _, MK, GI, bi1, bi0⟩
    have GDr := ok_draw (P := PG) (w := w) (base := base) F22 NB
    have GDw := ok_drawW (P := PG) (w := w) (base := base) F22 NB
    have GCh := ok_choice (P := PG) (w := w) (base := base) F23 NB F22 b22 m22
    have GNa := ok_nm (P := PG) (w := w) (base := base) F24 NB F22 b22 m22 F23 b23 m23
    have GTl := ok_timesL (P := PG) (w := w) (base := base) F25 NA NT
    have GNu := ok_lnu (P := PG) (w := w) (base := base) F26 GDr F22.kp b22 m22
    have GSz := ok_lsz (P := PG) (w := w) (base := base) F27 GCh F23.kp b23 m23 GTl F25.kp b25 m25
    have GVa := ok_val (P := PG) (w := w) (base := base) F28 NB
    have GLd := ok_ldg (P := PG) (w := w) (base := base) F29 GCh F23.kp b23 m23 GSz F27.kp b27 m27
    have GMd := ok_mdd (P := PG) (w := w) (base := base) F30 da MS
    have GTx := ok_txL (P := PG) (w := w) (base := base) F31 NS
    have GDt := ok_dtx (P := PG) (w := w) (mg := mg) (base := base) F32 GTx F31.kp b31 m31
    have GIs := ok_isd (P := PG) (w := w) (base := base) F33 da MS (bn "repr" (by simp [bltN])) cf.co cf.ne GDt F32.kp b32 m32 GMd F30.kp b30 m30
    have GOt := ok_otw (P := PG) (w := w) (mg := mg) (base := base) F34
    have GLp := ok_lpl (P := PG) (w := w) (base := base) F35 (bn "int" (by simp [bltN])) GVa F28.kp b28 m28
    have GLc := ok_lcu (P := PG) (w := w) (mg := mg) (base := base) F36 GTl F25.kp b25 m25
    have GLi := ok_lin (P := PG) (w := w) (base := base) F37 NB (bn "list" (by simp [bltN])) GDw F22.kp b22 m22
    have GPr := ok_plr (P := PG) (w := w) (base := base) F38 (bn "repr" (by simp [bltN])) rw GVa F28.kp b28 m28 GLc F36.kp b36 m36 GLi F37.kp b37 m37 rX (⟨(go.pl ("Row", "place") (by simp [opl])).1, (go.pl ("Row", "place") (by simp [opl])).2, U18.kp⟩ : Meth K (ga K "Row") "place" (oma K ("Row", "place"))) v18 GLp F35.kp b35 m35
    have KT : Kt PG w K mg base (caK K) (ga K "Digit") (ga K "Row") (fun i => ga K (nmD i)) := ⟨da, rq, MS, CK, ⟨_, _, (⟨(go.pl ("Row", "digits") (by simp [opl])).1, (go.pl ("Row", "digits") (by simp [opl])).2, U16.kp⟩ : Meth K (ga K "Row") "digits" (oma K ("Row", "digits"))), rD, v16⟩, ⟨_, _, (⟨(go.pl ("Row", "cuts") (by simp [opl])).1, (go.pl ("Row", "cuts") (by simp [opl])).2, U17.kp⟩ : Meth K (ga K "Row") "cuts" (oma K ("Row", "cuts"))), rC, v17⟩, ⟨_, _, _, (go.pr ("Row", "total") (by simp [opr])), rT, v22⟩, ⟨_, _, rL, (go.pl ("Row", "__len__") (by simp [opl])).1, (go.pl ("Row", "__len__") (by simp [opl])).2, v19⟩, ⟨_, _, rP, (go.pl ("Row", "__repr__") (by simp [opl])).1, (go.pl ("Row", "__repr__") (by simp [opl])).2, v21⟩, ⟨_, _, (⟨pexponents.1, pexponents.2, E1.kp⟩ : Meth K (caK K) "exponents" (meA K "exponents")), gExpo, c1⟩, cf.co, cf.ne, ⟨_, _, GLc, F36.kp, b36, m36⟩, ⟨_, _, GIs, F33.kp, b33, m33⟩, ⟨_, _, GOt, F34.kp, b34, m34⟩, ⟨_, _, GDt, F32.kp, b32, m32⟩, bn "len" (by simp [bltN]), bn "all" (by simp [bltN]), bn "zip" (by simp [bltN]), bn "repr" (by simp [bltN])⟩
    have GTd := ok_tld (P := PG) (w := w) (base := base) F39 KT
    have KR : Kr PG w K mg base (caK K) (ga K "Digit") (ga K "Row") (fun i => ga K (nmD i)) := ⟨KT, NB, ⟨_, _, GDr, F22.kp, b22, m22⟩, ⟨_, _, GNa, F24.kp, b24, m24⟩, ⟨_, _, GLd, F29.kp, b29, m29⟩, ⟨_, _, GMd, F30.kp, b30, m30⟩, ⟨_, _, GNu, F26.kp, b26, m26⟩, ⟨_, _, GPr, F38.kp, b38, m38⟩, ⟨_, _, GTd, F39.kp, b39, m39⟩, ⟨_, _, oRow.mkk, iRow, bRow⟩, ⟨_, _, rE, (go.pl ("Row", "__eq__") (by simp [opl])).1, (go.pl ("Row", "__eq__") (by simp [opl])).2, v20⟩, oRow.co, oRow.ne, zx1, bn "tuple" (by simp [bltN])⟩
    have GRi := ok_ri (P := PG) (w := w) (base := base) F40 KR
    have KL : Kl PG w K mg base (caK K) (ga K "Digit") (ga K "Row") (fun i => ga K (nmD i)) := ⟨KR, ⟨_, _, rX, (⟨(go.pl ("Row", "place") (by simp [opl])).1, (go.pl ("Row", "place") (by simp [opl])).2, U18.kp⟩ : Meth K (ga K "Row") "place" (oma K ("Row", "place"))), v18⟩, ⟨_, _, DRow, oRow.mkk, iRow, bRow, bRow0, hERow⟩⟩
    exact ok_law (P := PG) (w := w) (base := base) F41 KL (ok_rng F21 NB) F21.kp b21 m21 GRi F40.kp b40 m40
end
end K54
set_option maxHeartbeats 8000000
namespace K54
open PySem PySem.Spec PyProof.Rows L2 He

theorem walk_ofX {l : PySem.W.OpenLaw} {n k : Nat} {q : Program} {loose : List Str}
    {XP : (Str → Option Value) → Heap → Prop} {YP : World → Heap → Prop} {d : DefRec} {x : Str}
    (hn : l.most = some n) (hn2 : n ≤ sizeLine) (hdf : d.params.defaults = []) (hr : Room k callerA)
    (F : ∀ (w : World) (mg : Str → Option Value) (fa : Addr) (h : Heap), YP w h → h.Ns mainGlobals mg →
      mg d.name = some (.ref fa) → ∃ (K : PySem.W.Frag) (fd : FuncData) (sp : Sp), K.In h ∧
        (∀ (s : Shared) (u : Value), BindsTo s fd ⟨[u], []⟩ [(x, u)]) ∧
        (∀ (H : Hp) (a : Addr) (ns : List Int), ns.length ≤ n → Only H → SqL K H a (ns.map V.int) →
          sp [.ref a] H (fun v _ => v = .bl true) E0) ∧
        ∀ base : Heap, K.In base → base.Ns mainGlobals mg → FnG l.prog w K mg base k fa fd [x] sp) :
    PySem.W.WalkO q loose XP YP l.row.toRowW d [] (fun f vs => PySem.call f vs) := by
  refine Att.attach_call hn hdf fun w s0 s1 mg mb fa o pm cd doc a vs ns G Y ho hd hcd hmg hobj hints hlen hg => ?_
  obtain ⟨K, fd, sp, KX, hb, hsp, hF⟩ := F w mg fa _ Y G.T.g hmg
  exact law_callG KX G.T.g G.T.b G.T.builtins G.T.nolimit hg hobj hints (Nat.le_trans hlen hn2) hr hF hb
    fun H hO hS => hsp H a ns hlen hO hS
end K54
open PySem PySem.W PySem.Calls PyProof.Rows
theorem PySem.Challenge.cw_anyshape_k54_rows_at_numbers_holds : PySem.Challenge.rw_anyshape_k54_rows_at_numbers.Holds := by
  w_on; o_law
  refine HandSHeadRun.head_imp (r := OpenLaw.row PySem.Challenge.rw_anyshape_k54_rows_at_numbers) (q := K54.qv) (H := K54.hk) (ob := K54.ob)
    (M := 12500) (loose := K54.names) (d := HandSHeadRun.topDef (OpenLaw.row PySem.Challenge.rw_anyshape_k54_rows_at_numbers).prog 81) (kwd := [])
    K54.ob_eq K54.run (by kernel_rfl) (by kernel_rfl) (by kernel_rfl) (by rfl)
    (by first | assumption | decide +kernel) (by decide +kernel) ⟨rfl, rfl, rfl, rfl, rfl, by decide +kernel⟩ ?hw ?hc
  case hw => w_witness2
  case hc =>
    refine K54.walk_ofX (l := PySem.Challenge.rw_anyshape_k54_rows_at_numbers) (n := 63) (k := 15) (x := "_law_script") rfl (by decide) (by kernel_rfl) ⟨rfl, by decide, by decide⟩ ?F
    intro w mg fa h Y G hmg0
    obtain ⟨K, KX, c⟩ := Y
    have hmg : mg ("law" : PySem.Str) = some (.ref fa) := by
      have e : (HandSHeadRun.topDef (OpenLaw.row PySem.Challenge.rw_anyshape_k54_rows_at_numbers).prog 81).name = ("law" : PySem.Str) := by kernel_rfl
      rw [← e]
      exact hmg0
    obtain ⟨fd, hb, hF⟩ := K54.law_mk (w := w) KX G c hmg
    exact ⟨K, fd, K54.spLaw K, KX, hb, fun H a ns hl _ hS => ⟨a, ns, rfl, hS, Nat.le_trans hl (by decide), fun _ => rfl⟩, hF⟩
#print axioms PySem.Challenge.cw_anyshape_k54_rows_at_numbers_holds
