import PyProof.Rows.All
import Wide.All
import OpenK.AllK
import Wide.FinOn
import HandS.ForMost
import HandS.Exc
import HandS.ExcInit
import KE.KExcSuper
import KE.KExcIs
import KE.KExcInit
import HandS.IsInst
import HandS.WideBits
import HandS.Walk
import HandS.Steps
import HandS.DictComp
import HandS.WordsDict
import HandS.Defaults
import HandS.Gcd
import HandS.Wide
import HandS.WordsExc
import HandS.TryOnly
import HandS.OwnEq
import KE.KEqDict
import HandS.Star
import HandS.ClsMeth
import HandS.Text
import HandS.Style
import KE.KCallOwn
import HandS.RaiseMore
import PyProof.Rows.StrDigitsNeg
import PyProof.Rows.StrJoinMade
import HandS.StrMore
import KE.IntTextLaws
import HandS.FStr
import OpenK.KOps
import HandS.GenYield
import HandS.GenList
import HandS.Property
import HandS.SetFor
import HandS.Strs
import HandS.MakeKw
import KE.KStateDown
import HandS.Head0
import HandS.Head1
import HandS.Head2
import HandS.Head3
import HandS.HeadHook1
import HandS.HeadEnd
import PySem.Challenge.RW_anyshape_k17_whole_sizes_by_points
set_option Elab.async false
set_option linter.all false
set_option maxRecDepth 100000
set_option maxHeartbeats 8000000
/-! own exceptions whose body says super().__init__('..') and then stores its fields -/
namespace Xc
open PySem PySem.W PySem.Calls PyProof.Rows

/-- what the written part says of an own exception class at C, over the built-in B -/
structure XC (K : Frag) (C : Addr) (B newId initId : String) (bmB : List Value) : Prop where
  FB : ExcBaseFacts B newId initId bmB
  SF : StoreFacts B bmB "object.__setattr__" "object"
  KF : KxsFacts B initId
  ini : excInitIn K C bmB newId = true
  ovr : excOver K C bmB = true
  hdc : hasDictIn K C = true
  sa : findIn K (.ref C) "__setattr__" = some (some (.builtin "object.__setattr__"))

section
open Builtin Builtin.ObjectAttr
variable {prog : Program} {w : World} {A : Around} {E : Value → Shared → Prop}
variable {hp : Heap} {g : Array GenState} {d : Drawn} {t : Nat} {os : OsState}
variable {K : Frag} {C x t0 : Addr} {B newId initId : String} {bmB : List Value}
variable {name : Str} {v : Value}

/-- the first field -/
theorem sto0 (T : XC K C B newId initId bmB) (X : K.In hp)
    (hx : hp.get? x = some (excObj C t0 none .none)) (ha : takerIn K C name = some none)
    {Q : Unit → Shared → Prop}
    (hq : ∀ h' tk dx, (∀ b o, b ≠ x → hp.get? b = some o → h'.get? b = some o) →
      hp.objs.size ≤ dx → dx ≠ x → h'.get? x = some (excObj C t0 (some dx) .none) →
      h'.Ns1 dx (fun y => if y = name then some v else none) → Q () ⟨h', g, d, tk, os⟩) :
    wpAny (model prog w) A (setAttr (.ref x) name v) Q E ⟨hp, g, d, t, os⟩ := by
  have hxs : x ≠ hp.objs.size := Nat.ne_of_lt (Heap.lt_size hx)
  have I : W.InstAt hp x (excObj C t0 none .none) C none := ⟨hx, rfl, rfl, trivial⟩
  refine set_plain X I T.sa ?_
  refine osa_openX (r := none) T.SF X I T.ovr ha fun b => ?_
  obtain ⟨cd, hc, hd⟩ := any_some T.hdc
  refine wpAny_bind (wpAny_pure (wpAny_bind
    (instanceDict_exc (s := ⟨hp, g, d, t + 1, os⟩) hx (looks_clsIn X hc) hd ?_)))
  refine HandSPX.store_in_new ?_ fun h' tk hn hs => ?_
  · refine ⟨_, #[], _, (Heap.get?_update_ne _ _ _ _ hxs.symm).trans (Heap.get?_push_at rfl rfl), rfl, ?_, fun _ => rfl⟩
    intro e he
    exact absurd he (by simp)
  · have hx1 : (hp.push (dictOf [] 0)).get? x = some (excObj C t0 none .none) :=
      Heap.get?_push_of_some _ hx
    refine hq h' tk hp.objs.size (fun b o hb ho => ?_) (Nat.le_refl _) hxs.symm ?_ hn
    · have e1 := Heap.get?_push_of_some (dictOf [] 0) ho
      have e2 := (Heap.get?_update_ne _ _ _ (fun o => { o with dict := some hp.objs.size }) hb).trans e1
      exact (hs.2 b (Nat.ne_of_lt (Heap.lt_size ho))).trans e2
    · exact (hs.2 x hxs).trans (Heap.get?_update_self _ hx1 rfl)

/-- a further field -/
theorem stoD (T : XC K C B newId initId bmB) (X : K.In hp) {dx : Addr} {m0 : Str → Option Value}
    {nl : List Str} (hx : hp.get? x = some (excObj C t0 (some dx) .none)) (hns : hp.Ns1 dx m0)
    (hw : Within m0 nl) (hz : nl.length ≤ 1000) (ha : takerIn K C name = some none)
    {Q : Unit → Shared → Prop}
    (hq : ∀ h' tk, (∀ b o, b ≠ dx → hp.get? b = some o → h'.get? b = some o) →
      h'.Ns1 dx (fun y => if y = name then some v else m0 y) → Q () ⟨h', g, d, tk, os⟩) :
    wpAny (model prog w) A (setAttr (.ref x) name v) Q E ⟨hp, g, d, t, os⟩ := by
  obtain ⟨oD, esD, epD, hoD, hdD, _⟩ := hns.count hw
  have I : W.InstAt hp x (excObj C t0 (some dx) .none) C (some oD) := ⟨hx, rfl, rfl, hoD⟩
  refine set_plain X I T.sa ?_
  refine osa_openX (r := none) T.SF X I T.ovr ha fun b => ?_
  have step : ∀ {Q1 : Option Addr → Shared → Prop} {A1 : Around} {E1 : Value → Shared → Prop},
      Q1 (some dx) ⟨hp, g, d, t + 1, os⟩ →
      wpAny (model prog w) A1 (instanceDict x true) Q1 E1 ⟨hp, g, d, t + 1, os⟩ := by
    intro Q1 A1 E1 h
    obtain ⟨cd, hc, hd⟩ := any_some T.hdc
    unfold instanceDict
    refine wpAny_bind (wpAny_loadPart hx ?_)
    dsimp only
    refine wpAny_bind ((looks_clsIn X hc).at ?_)
    rw [hd]
    exact wpAny_pure h
  refine wpAny_bind (wpAny_pure (wpAny_bind (step ?_)))
  refine PySem.OEX.store_in_old hns hw hz fun h' tk hn hs => ?_
  exact hq h' tk (fun b o hb ho => (hs.2 b hb).trans ho) hn
end
end Xc
set_option maxHeartbeats 8000000
namespace Xc
open PySem PySem.W PySem.Calls PyProof.Rows

section
variable {prog : Program} {w : World} {A : Around} {E : Value → Shared → Prop}
variable {hp : Heap} {g : Array GenState} {d : Drawn} {t : Nat} {os : OsState}
variable {K : Frag} {C x t0 : Addr} {B newId initId : String} {bmB : List Value}

/-- the bound built-in __init__ is called: the args are laid anew -/
theorem call_mw (T : XC K C B newId initId bmB) (X : K.In hp) {u : Addr} {rest : List Value}
    (hu : hp.get? u = some (kxs_mw initId x)) (hx : hp.get? x = some (excObj C t0 none .none))
    (hz : rest.length ≤ sizeLine) {Q : Value → Shared → Prop}
    (hq : ∀ h' t1, (∀ b o, b ≠ x → hp.get? b = some o → h'.get? b = some o) →
      h'.get? x = some (excObj C t1 none .none) → Q .none ⟨h', g, d, t, os⟩) :
    wpAny (model prog w) A (call (.ref u) rest) Q E ⟨hp, g, d, t, os⟩ := by
  obtain ⟨nm, N', qn, bs, bm, hdct, sn, sub, ab, col, dd, k0, k1, k2, k3, k5, hC, hT⟩ := excInit_of X T.ini
  refine wpAny_call (codeAny_of_tree ?_)
  show wpAny _ A.in1 (callAny (.ref u) ⟨rest, []⟩) _ _ _
  simp only [callAny]
  refine wpAny_bind (wpAny_load hu ?_)
  simp only [kxs_mw, show (Value.type "method-wrapper" == Value.type "method"
    || Value.type "method-wrapper" == Value.type "builtin_function_or_method"
    || Value.type "method-wrapper" == Value.type "method-wrapper") = true by decide, if_true]
  refine KFB.if_so (by decide) ?_
  refine wpAny_bind (check_bound_init T.FB.toExcCallFacts hC hx rfl ?_)
  refine wpAny_bind (wpAny_pure (wpAny_pure ?_))
  refine ⟨plainId_quiet T.FB.init.plain _, codeAny_builtin T.FB.initEntry ?_⟩
  refine exc_init_tree (cls := .ref C) (t0 := t0) (dv := none) (c2 := .none) (c3 := .none)
    (b4 := .bool false) hx hz fun h' k e1 _ => ?_
  exact hq h' hp.objs.size k e1

/-- what the written part says of an __init__ with super() in it -/
structure XI (prog : Program) (K : Frag) (mg : Str → Option Value) (C fI cc cda : Addr)
    (qual : Str) (params : Arguments) (body : List Stmt) (scope : Scope) (B initId : String) : Prop where
  fn : ∃ (oc : Value) (od : Option Addr) (kV doc pm ct : Value) (an : Option Addr)
    (osl : Array (Option Value)), K.lookup fI = some ⟨oc, od,
      .func (ksFn "__init__" qual params body scope .none kV doc pm an (.ref cda) ct cc), osl⟩
  cod : codeIn K (.ref cda) qual = true
  code : ∃ ccl cdd vs ccs file tf, K.lookup cda = some ⟨ccl, cdd, .fields vs, ccs⟩ ∧
    vs[2]? = some (.str file tf) ∧ ((prog.main.file : Str) == file) = true
  cell : ∃ cl cld csl, K.lookup cc = some ⟨cl, cld, .cell (some (.ref C)), csl⟩
  cls : (clsIn K C).isSome = true
  self : mroIn K C (.ref C) = some true
  isB : subIn K (.ref C) (.type B) = some true
  sup : ks_superIn K C C "__init__" = some (some (.builtin initId))
  opq : nsIn K cStatics "thirdparty.any" = some none
  nosup : mg "super" = none
  top : (prog.main.scope.names.lookup ("super" : Str)).isSome = false

/-- the module's facts at a heap -/
structure MH (K : Frag) (mg : Str → Option Value) (h : Heap) : Prop where
  kin : K.In h
  glob : h.Ns mainGlobals mg
  blt : ∃ mb, h.Ns builtinsNs mb ∧ ∀ y : Str, y ≠ "__name__" → mb y = bootBuiltins y
theorem MH.keeps {K : Frag} {mg : Str → Option Value} {h h' : Heap} (m : MH K mg h)
    (k : ∀ b o, h.get? b = some o → h'.get? b = some o) : MH K mg h' := by
  obtain ⟨mb, h1, h2⟩ := m.blt
  exact ⟨m.kin.keeps k, m.glob.keeps k, mb, h1.keeps k, h2⟩

abbrev supS (msg : Str) (j : Nat) (p0 p1 p2 p3 p4 p5 : Pos) : Stmt :=
  .Expr (.Call (.Attribute (.Call (.Name "super" p0) [] [] p1) "__init__" p2)
    [.Constant (.str msg) j p3] [] p4) p5

/-- super().__init__('..') -/
theorem sup_run {mg m : Str → Option Value} {fI cc cda L : Addr} {qual q : Str} {params : Arguments}
    {body body' : List Stmt} {scope : Scope} {ar : Arg} {msg : Str} {j : Nat} {p0 p1 p2 p3 p4 p5 : Pos}
    (T : XC K C B newId initId bmB) (S : XI prog K mg C fI cc cda qual params body scope B initId)
    (Mh : MH K mg hp) (hn : hp.Ns L m) (hx : hp.get? x = some (excObj C t0 none .none))
    (hp1 : (params.posonlyargs ++ params.args).head? = some ar) (hv : m ar.arg = some (.ref x))
    (hks : scope.names.lookup ("super" : Str) = some .globalImplicit)
    (hkc : scope.names.lookup ("__class__" : Str) = some .free)
    (hka : scope.names.lookup ar.arg = some .local) (hk : scope.kind = .function)
    {Q : Flow → Shared → Prop}
    (hq : ∀ h' tk t1, (∀ b o, b ≠ x → hp.get? b = some o → h'.get? b = some o) →
      h'.get? x = some (excObj C t1 none .none) → Q .next ⟨h', g, d, tk, os⟩)
    {pl : Sem Bool}
    (he : eval (.Call (.Attribute (.Call (.Name "super" p0) [] [] p1) "__init__" p2)
        [.Constant (.str msg) j p3] [] p4) (ksEnv q scope L fI (.ref cda) cc) = (do
      let ov ← attributeBase (.Call (.Name "super" p0) [] [] p1) "__init__" (ksEnv q scope L fI (.ref cda) cc)
        (eval (.Call (.Name "super" p0) [] [] p1) (ksEnv q scope L fI (.ref cda) cc))
      standAt p2.atName
      let (f, first) ← holding [ov] (getMethod ov "__init__" pl)
      callWith p4 f first (backTo p4 (starEach [.Constant (.str msg) j p3] (ksEnv q scope L fI (.ref cda) cc))) []))
    (hi : interactive (ksEnv q scope L fI (.ref cda) cc) = false := by rfl)
    (hs : swapsWith (.Call (.Attribute (.Call (.Name "super" p0) [] [] p1) "__init__" p2)
      [.Constant (.str msg) j p3] [] p4) none p5.line (ksEnv q scope L fI (.ref cda) cc) = pure false := by rfl) :
    PySem.wpAt (model prog w) A (.func body' (ksEnv q scope L fI (.ref cda) cc))
      (exec (supS msg j p0 p1 p2 p3 p4 p5) (ksEnv q scope L fI (.ref cda) cc)) Q E ⟨hp, g, d, t, os⟩ := by
  obtain ⟨oc, od, kV, doc, pm, ct, an, osl, hf⟩ := S.fn
  obtain ⟨ccl, cdd, vs, ccs, file, tf, hcode, hvs, hfile⟩ := S.code
  obtain ⟨cl, cld, csl, hcell⟩ := S.cell
  obtain ⟨cdD, hD⟩ := Option.isSome_iff_exists.mp S.cls
  obtain ⟨mb, hmb, hbt⟩ := Mh.blt
  have X := Mh.kin
  obtain ⟨oD, hD1, hD2⟩ : ∃ oD, hp.get? C = some oD ∧ oD.data = .cls cdD := by
    unfold clsIn at hD
    split at hD
    · rename_i c d cd' sl ho
      cases hD
      exact ⟨_, X _ _ ho, rfl⟩
    · cases hD
  have I : W.InstAt hp x (excObj C t0 none .none) C none := ⟨hx, rfl, rfl, trivial⟩
  refine ks_wpAt_Expr_any ?_ hi hs
  refine ks_wpAt_MethodCall (pl := pl) ?_ he
  refine ks_wpAt_super_base (env := ksEnv q scope L fI (.ref cda) cc) hks hkc rfl rfl (X _ _ hf) rfl hp1 rfl
    (X _ _ hcode) rfl hvs hfile S.top ?_
  refine ks_loadName_global hk hks (loadGlobal_builtin (env := ksEnv q scope L fI (.ref cda) cc)
    Mh.glob S.nosup hmb ((hbt _ (by decide +kernel)).trans (by first | rfl | kernel_rfl)) ⟨rfl, ?_⟩)
  refine wpAny_loadName_free hk hkc rfl ⟨_, X _ _ hcell, rfl⟩ ?_
  refine wpAny_loadName_local hk hka hn hv ?_
  refine ks_wpAny_isType_cls hD1 hD2 ⟨rfl, ?_⟩
  refine ks_wpAny_call_super hD1 hD2 hx rfl (fun c e => by cases e) (looks_mroIn X S.self) (fun h1 e1 k1 => ?_)
  have X1 : K.In h1 := X.keeps k1
  have I1 : W.InstAt h1 x (excObj C t0 none .none) C none := ⟨k1 _ _ hx, rfl, rfl, trivial⟩
  have hm := S.sup
  unfold ks_superIn at hm
  rw [hD] at hm
  have hxC : x ≠ C := ks_ne X I hD
  refine kxs_getMethod T.KF e1 (looks_opaque X1 S.opq) (l₀ := cdD.mro) ?_ rfl X1 hm
    (I1.type.andThen (looks_subIn X1 S.isB)) hxC rfl ?_
  · exact fun A Q E s k q => wpAny_bind ((looks_clsIn X1 hD) A _ E s k (wpAny_pure q))
  have hu : (h1.push (kxs_mw initId x)).get? h1.objs.size = some (kxs_mw initId x) := Heap.get?_push_at rfl rfl
  have hx2 : (h1.push (kxs_mw initId x)).get? x = some (excObj C t0 none .none) :=
    Heap.get?_push_of_some _ (k1 _ _ hx)
  have X2 : K.In (h1.push (kxs_mw initId x)) := X1.keeps fun b o e => Heap.get?_push_of_some _ e
  refine kxs_callWith (i := initId) (x := x) (by rfl) ?_
  refine evalArgs_plain ?_
  refine spliced_cons (Constant_str (k := j) (pos := p3) (spliced_nil ⟨hu, ?_⟩))
  refine call_mw T X2 hu hx2 (by rw [sizeLine_eq]; exact (by decide : 1 ≤ 16777216)) fun h' t1 k2 e2 => ?_
  exact hq h' _ t1 (fun b o hb ho => k2 b o hb (Heap.get?_push_of_some _ (k1 b o ho))) e2
end
end Xc
set_option maxHeartbeats 8000000
namespace Xc
open PySem PySem.W PySem.Calls PyProof.Rows

/-! the text of such an __init__ -/
def iArgs (ps : List (Str × Pos)) : Arguments :=
  { posonlyargs := [], args := ps.map fun p => { arg := p.1, annotation := none, pos := p.2 },
    vararg := none, kwonlyargs := [], kw_defaults := [], kwarg := none, defaults := [] }
def iScope (ps : List Str) : Scope :=
  { kind := .function, names := ps.map (fun p => (p, NameKind.local)) ++
      [(PySem.Str.ofString "__class__", .free), (PySem.Str.ofString "super", .globalImplicit)],
    isGenerator := false, isCoroutine := false, more := [] }
abbrev stS (p : Str) (q1 q2 q3 q4 : Pos) : Stmt :=
  .Assign [.Attribute (.Name "self" q1) p q2] (.Name p q3) q4

theorem ns_ne {h : Heap} {L x C t0 : Addr} {dd : Option Addr} {m : Str → Option Value} (hn : h.Ns L m)
    (hx : h.get? x = some (excObj C t0 dd .none)) : L ≠ x := by
  rintro rfl
  obtain ⟨o, es, ep, ho, hd, _⟩ := hn
  rw [hx] at ho
  cases ho
  cases hd
theorem ns_keep {h h' : Heap} {L x : Addr} {m : Str → Option Value} (hn : h.Ns L m) (ne : L ≠ x)
    (k : ∀ b o, b ≠ x → h.get? b = some o → h'.get? b = some o) : h'.Ns L m := by
  obtain ⟨o, es, ep, ho, r⟩ := hn
  exact ⟨o, es, ep, k _ _ ne ho, r⟩
theorem mh_keep {K : Frag} {mg : Str → Option Value} {h h' : Heap} {x : Addr} (Mh : MH K mg h)
    (hx : K.lookup x = none) (hg : x ≠ mainGlobals) (hb : x ≠ builtinsNs)
    (k : ∀ b o, b ≠ x → h.get? b = some o → h'.get? b = some o) : MH K mg h' := by
  obtain ⟨mb, h1, h2⟩ := Mh.blt
  exact ⟨fun a o e => k a o (fun z => by rw [z, hx] at e; cases e) (Mh.kin a o e),
    ns_keep Mh.glob (Ne.symm hg) k, mb, ns_keep h1 (Ne.symm hb) k, h2⟩

section
variable {prog : Program} {w : World} {A : Around} {E : Value → Shared → Prop}
variable {hp : Heap} {g : Array GenState} {d : Drawn} {t : Nat} {os : OsState}
variable {K : Frag} {C x t0 : Addr} {B newId initId : String} {bmB : List Value}

theorem ldN {s : Shared} {q : Str} {scope : Scope} {L fI cc : Addr} {cda : Value} {m : Str → Option Value}
    {y : Str} {p : Pos} {v : Value} {Q : Value → Shared → Prop} {M : Model} (hn : s.heap.Ns L m)
    (hv : m y = some v) (hk : scope.kind = .function) (hl : scope.names.lookup y = some .local)
    (hd : (y == ("__debug__" : Str)) = false) (h : Q v s) :
    wpAny M A (eval (.Name y p) (ksEnv q scope L fI cda cc)) Q E s :=
  wpAny_Name (wpAny_loadName_local hk hl hn hv h) hd

/-- self.f = f, the first one -/
theorem st0 {q : Str} {scope : Scope} {L fI cc : Addr} {cda : Value} {m : Str → Option Value}
    {f : Str} {q1 q2 q3 q4 : Pos} {v : Value} (T : XC K C B newId initId bmB) (X : K.In hp) (hn : hp.Ns L m)
    (hx : hp.get? x = some (excObj C t0 none .none)) (hs : m "self" = some (.ref x)) (hv : m f = some v)
    (hk : scope.kind = .function) (ls : scope.names.lookup ("self" : Str) = some .local)
    (lf : scope.names.lookup f = some .local) (hd : (f == ("__debug__" : Str)) = false)
    (ha : takerIn K C f = some none) {Q : Flow → Shared → Prop}
    (hq : ∀ h' tk dx, (∀ b o, b ≠ x → hp.get? b = some o → h'.get? b = some o) →
      hp.objs.size ≤ dx → dx ≠ x → h'.get? x = some (excObj C t0 (some dx) .none) →
      h'.Ns1 dx (fun y => if y = f then some v else none) → Q .next ⟨h', g, d, tk, os⟩)
    (hw : swapsWith (.Name f q3) (some (.Attribute (.Name "self" q1) f q2)) q4.line
      (ksEnv q scope L fI cda cc) = pure false) :
    wpAny (model prog w) A (exec (stS f q1 q2 q3 q4) (ksEnv q scope L fI cda cc)) Q E ⟨hp, g, d, t, os⟩ :=
  plainObj_wpAny_Assign_Attribute (ldN hn hv hk lf hd (ldN hn hs hk ls (by decide) (sto0 T X hx ha hq))) hw

/-- self.f = f, a further one -/
theorem stD {q : Str} {scope : Scope} {L fI cc dx : Addr} {cda : Value} {m m0 : Str → Option Value}
    {f : Str} {q1 q2 q3 q4 : Pos} {v : Value} {nl : List Str} (T : XC K C B newId initId bmB) (X : K.In hp)
    (hn : hp.Ns L m) (hx : hp.get? x = some (excObj C t0 (some dx) .none)) (hns : hp.Ns1 dx m0)
    (hwi : Within m0 nl) (hz : nl.length ≤ 1000)
    (hs : m "self" = some (.ref x)) (hv : m f = some v) (hk : scope.kind = .function)
    (ls : scope.names.lookup ("self" : Str) = some .local) (lf : scope.names.lookup f = some .local)
    (hd : (f == ("__debug__" : Str)) = false) (ha : takerIn K C f = some none) {Q : Flow → Shared → Prop}
    (hq : ∀ h' tk, (∀ b o, b ≠ dx → hp.get? b = some o → h'.get? b = some o) →
      h'.Ns1 dx (fun y => if y = f then some v else m0 y) → Q .next ⟨h', g, d, tk, os⟩)
    (hw : swapsWith (.Name f q3) (some (.Attribute (.Name "self" q1) f q2)) q4.line
      (ksEnv q scope L fI cda cc) = pure false) :
    wpAny (model prog w) A (exec (stS f q1 q2 q3 q4) (ksEnv q scope L fI cda cc)) Q E ⟨hp, g, d, t, os⟩ :=
  plainObj_wpAny_Assign_Attribute
    (ldN hn hv hk lf hd (ldN hn hs hk ls (by decide) (stoD T X hx hns hwi hz ha hq))) hw
end

/-- what an __init__ leaves of the fresh exception at x: the fields by fs -/
structure IEnd (h h' : Heap) (x C : Addr) (fs : List (Str × Value)) : Prop where
  keep : ∀ b o, b ≠ x → h.get? b = some o → h'.get? b = some o
  obj : match fs with
    | [] => ∃ t1, h'.get? x = some (excObj C t1 none .none)
    | _ :: _ => ∃ t1 dx, h'.get? x = some (excObj C t1 (some dx) .none) ∧ h.objs.size ≤ dx ∧ dx ≠ x ∧
        h'.Ns1 dx fun y => fs.lookup y

section
variable {prog : Program} {w : World} {A : Around} {R : Result → Shared → Prop} {s : Shared}
variable {K : Frag} {mg : Str → Option Value} {C x t0 fI cc cda : Addr} {B newId initId : String} {bmB : List Value}
variable {qual msg : Str} {j : Nat} {p0 p1 p2 p3 p4 p5 : Pos} {args : Args}

theorem he_of {env : Env} (h : (p2.endLine == p4.line) = true) :
    eval (.Call (.Attribute (.Call (.Name "super" p0) [] [] p1) "__init__" p2)
        [.Constant (.str msg) j p3] [] p4) env = (do
      let ov ← attributeBase (.Call (.Name "super" p0) [] [] p1) "__init__" env
        (eval (.Call (.Name "super" p0) [] [] p1) env)
      standAt p2.atName
      let (f, first) ← holding [ov] (getMethod ov "__init__" (do return (← importBound (.Call (.Name "super" p0) [] [] p1) env).getD true))
      callWith p4 f first (backTo p4 (starEach [.Constant (.str msg) j p3] env)) []) := by
  have e : ∀ b, methodCallPos b (.Call (.Name "super" p0) [] [] p1) env p2 p4 = pure p4 := fun b => by
    unfold methodCallPos
    rw [h, Bool.or_true]
    rfl
  show (do
    let ov ← attributeBase (.Call (.Name "super" p0) [] [] p1) "__init__" env
      (eval (.Call (.Name "super" p0) [] [] p1) env)
    standAt p2.atName
    methodCall (.Call (.Name "super" p0) [] [] p1) "__init__" p2 p4 env ov 1
      (backTo p4 (starEach [.Constant (.str msg) j p3] env)) []) = _
  unfold methodCall
  simp only [e, pure_bind]
  rfl

/-- into the body of such a def -/
theorem enter {params : Arguments} {body : List Stmt} {scope : Scope} {binds : List (Str × Value)}
    (S : XI prog K mg C fI cc cda qual params body scope B initId) (Mh : MH K mg s.heap)
    (hlim : s.heap.NoLimit) (hroom : A.depth < recursionLimit)
    (hbind : ∀ kV doc pm ct an, BindsTo s
      (ksFn "__init__" qual params body scope .none kV doc pm an (.ref cda) ct cc) args binds)
    (hcell : ∀ y ∈ scope.names, y.2 ≠ .cell) (hloc : ∀ y ∈ binds, scope.names.lookup y.1 = some .local)
    (hco : scope.isCoroutine = false) (hge : scope.isGenerator = false) (hk : scope.kind = .function)
    (h : ∀ h1 tk L, h1.Ns L (fun y => binds.reverse.lookup y) → s.heap.objs.size ≤ L →
      (∀ b o, s.heap.get? b = some o → h1.get? b = some o) →
      PySem.wpAt (model prog w) (A.deeper (ksEnv qual scope L fI (.ref cda) cc))
        (.func body (ksEnv qual scope L fI (.ref cda) cc)) (execs body (ksEnv qual scope L fI (.ref cda) cc))
        (fun f s' => R (.ok (.ret (match f with | .ret v => v | _ => .none))) s')
        (fun e s' => wpAny (model prog w) (A.deeper (ksEnv qual scope L fI (.ref cda) cc))
          (leaving (ksEnv qual scope L fI (.ref cda) cc) e) (fun _ s'' => R (.error e) s'')
          (fun e' s'' => R (.error e') s'') s') { s with heap := h1, toks := tk }) :
    codeAny (model prog w) A (.call (.ref fI) args) R s := by
  obtain ⟨oc, od, kV, doc, pm, ct, an, osl, hf⟩ := S.fn
  refine ks_codeAny_call_defAt (fd := ksFn "__init__" qual params body scope .none kV doc pm an (.ref cda) ct cc)
    (body := body) (binds := binds) hroom (Mh.kin _ _ hf) rfl hlim (codeRec_of Mh.kin S.cod) rfl
    (hbind kV doc pm ct an) hcell hloc (fun h1 hns k1 => ?_) hco hge hk
  exact h h1 _ _ hns (Nat.le_refl _) k1

/-- no field -/
theorem init0 {a0 : Pos} (T : XC K C B newId initId bmB)
    (S : XI prog K mg C fI cc cda qual (iArgs [("self", a0)]) [supS msg j p0 p1 p2 p3 p4 p5] (iScope ["self"]) B initId)
    (Mh : MH K mg s.heap) (hlim : s.heap.NoLimit) (hroom : A.depth < recursionLimit)
    (hln : (p2.endLine == p4.line) = true) (hx : s.heap.get? x = some (excObj C t0 none .none))
    (hq : ∀ h' tk, IEnd s.heap h' x C [] → R (.ok (.ret .none)) { s with heap := h', toks := tk }) :
    codeAny (model prog w) A (.call (.ref fI) ⟨[.ref x], []⟩) R s := by
  refine enter (binds := [("self", .ref x)]) S Mh hlim hroom (fun _ _ _ _ _ => BindsTo.of_eq rfl)
    (by decide) (by simp [iScope, List.lookup]) rfl rfl rfl fun h1 tk L hn hL k1 => ?_
  obtain ⟨hp, g, d, t, os⟩ := s
  refine ks_wpAt_execs_cons ?_
  refine sup_run T S (Mh.keeps k1) hn (k1 _ _ hx) (ar := ⟨"self", none, a0⟩) rfl (by rfl) (by rfl) (by rfl) (by rfl) rfl
    (fun h2 tk2 t1 k2 e2 => ?_) (he_of hln) (by rfl) (by rfl)
  refine wpAt_of_wpAny (wpAny_execs_nil ?_)
  exact hq h2 tk2 ⟨fun b o hb ho => k2 b o hb (k1 b o ho), t1, e2⟩
end
end Xc
set_option maxHeartbeats 8000000
namespace Xc
open PySem PySem.W PySem.Calls PyProof.Rows

/-- a name that may be a field -/
structure Nm (p : Str) : Prop where
  s : p ≠ "self"
  u : p ≠ "super"
  c : p ≠ "__class__"
  d : p ≠ "__debug__"
theorem bq {a b : Str} (h : a ≠ b) : (a == b) = false := by simpa using h
theorem lk1 {α : Type} {y p : Str} {v : α} {r : List (Str × α)} (h : y ≠ p) :
    List.lookup y ((p, v) :: r) = List.lookup y r := by
  show (match y == p with | true => some v | false => List.lookup y r) = _
  rw [bq h]
theorem lk0 {α : Type} {p : Str} {v : α} {r : List (Str × α)} : List.lookup p ((p, v) :: r) = some v := by
  unfold List.lookup
  simp
theorem ns_of (a b : Str) (h : (a == b) = false) : a ≠ b := by simpa using h

section
variable {prog : Program} {w : World} {A : Around} {R : Result → Shared → Prop} {s : Shared}
variable {K : Frag} {mg : Str → Option Value} {C x t0 fI cc cda : Addr} {B newId initId : String} {bmB : List Value}
variable {qual msg f1 f2 f3 : Str} {j : Nat} {p0 p1 p2 p3 p4 p5 : Pos} {args : Args} {v1 v2 v3 : Value}

theorem hself : ("self" : Str) ≠ "super" := ns_of _ _ (by decide)
theorem hself2 : ("self" : Str) ≠ "__class__" := ns_of _ _ (by decide)
theorem hcs : ("super" : Str) ≠ "__class__" := ns_of _ _ (by decide)

/-- one field -/
theorem init1 {a0 a1 q1 q2 q3 q4 : Pos} (n1 : Nm f1) (T : XC K C B newId initId bmB)
    (S : XI prog K mg C fI cc cda qual (iArgs [("self", a0), (f1, a1)])
      [supS msg j p0 p1 p2 p3 p4 p5, stS f1 q1 q2 q3 q4] (iScope ["self", f1]) B initId)
    (Mh : MH K mg s.heap) (hlim : s.heap.NoLimit) (hroom : A.depth < recursionLimit)
    (hln : (p2.endLine == p4.line) = true) (hx : s.heap.get? x = some (excObj C t0 none .none))
    (nx : K.lookup x = none) (ng : x ≠ mainGlobals) (nb : x ≠ builtinsNs) (ha : takerIn K C f1 = some none)
    (hb : ∀ kV doc pm ct an, BindsTo s (ksFn "__init__" qual (iArgs [("self", a0), (f1, a1)])
      [supS msg j p0 p1 p2 p3 p4 p5, stS f1 q1 q2 q3 q4] (iScope ["self", f1]) .none kV doc pm an (.ref cda) ct cc)
      args [("self", .ref x), (f1, v1)])
    (hq : ∀ h' tk, IEnd s.heap h' x C [(f1, v1)] → R (.ok (.ret .none)) { s with heap := h', toks := tk }) :
    codeAny (model prog w) A (.call (.ref fI) args) R s := by
  have l0 : (iScope ["self", f1]).names.lookup ("self" : Str) = some .local := lk0
  have l1 : (iScope ["self", f1]).names.lookup f1 = some .local := (lk1 n1.s).trans lk0
  have lc : (iScope ["self", f1]).names.lookup ("__class__" : Str) = some .free :=
    (lk1 hself2.symm).trans ((lk1 n1.c.symm).trans lk0)
  have lsu : (iScope ["self", f1]).names.lookup ("super" : Str) = some .globalImplicit :=
    (lk1 hself.symm).trans ((lk1 n1.u.symm).trans ((lk1 hcs).trans lk0))
  have m0 : List.lookup ("self" : Str) [(f1, v1), ("self", Value.ref x)] = some (.ref x) := (lk1 n1.s.symm).trans lk0
  have m1 : List.lookup f1 [(f1, v1), ("self", Value.ref x)] = some v1 := lk0
  refine enter (binds := [("self", .ref x), (f1, v1)]) S Mh hlim hroom hb
    (by simp [iScope]) (fun y hy => ?_) rfl rfl rfl fun h1 tk L hn hL k1 => ?_
  · rcases List.mem_cons.mp hy with rfl | hy
    · exact l0
    · rcases List.mem_cons.mp hy with rfl | hy
      · exact l1
      · cases hy
  obtain ⟨hp, g, d, t, os⟩ := s
  refine ks_wpAt_execs_cons ?_
  refine sup_run T S (Mh.keeps k1) hn (k1 _ _ hx) (ar := ⟨"self", none, a0⟩) rfl m0 lsu lc l0 rfl
    (fun h2 tk2 t1 k2 e2 => ?_) (he_of hln) (by rfl) (by rfl)
  have nL : L ≠ x := ns_ne hn (k1 _ _ hx)
  have M2 : MH K mg h2 := mh_keep (Mh.keeps k1) nx ng nb k2
  have hn2 := ns_keep hn nL k2
  refine wpAt_of_wpAny (wpAny_execs_cons ?_)
  refine st0 T M2.kin hn2 e2 m0 m1 rfl l0 l1 (bq n1.d) ha (fun h3 tk3 dx k3 hd ne e3 n3 => ?_) (by rfl)
  refine wpAny_execs_nil ?_
  have z : hp.objs.size ≤ dx := Nat.le_trans hL (Nat.le_trans (Nat.le_of_lt hn2.lt) hd)
  refine hq h3 tk3 ⟨fun b o hb ho => k3 b o hb (k2 b o hb (k1 b o ho)), t1, dx, e3, z, ne, ?_⟩
  have e : (fun y => List.lookup y [(f1, v1)]) = fun y => if y = f1 then some v1 else none := by
    funext y
    by_cases h : y = f1
    · rw [h, if_pos rfl, lk0]
    · rw [if_neg h, lk1 h]; rfl
  rw [e]
  exact n3
end
end Xc
set_option maxHeartbeats 8000000
namespace Xc
open PySem PySem.W PySem.Calls PyProof.Rows

theorem lkf {α : Type} (p : Str) (v : α) (r : List (Str × α)) :
    (fun y => List.lookup y ((p, v) :: r)) = fun y => if y = p then some v else List.lookup y r := by
  funext y
  by_cases h : y = p
  · rw [h, if_pos rfl, lk0]
  · rw [if_neg h, lk1 h]
theorem lkf1 (f1 : Str) (v1 : Value) : (fun y => List.lookup y [(f1, v1)]) = fun y => if y = f1 then some v1 else none := by
  rw [lkf]
  rfl
theorem lkf2 (f1 f2 : Str) (v1 v2 : Value) : (fun y => List.lookup y [(f2, v2), (f1, v1)]) =
    fun y => if y = f2 then some v2 else if y = f1 then some v1 else none := by
  funext y
  have e := congrFun (lkf1 f1 v1) y
  have e2 := congrFun (lkf f2 v2 [(f1, v1)]) y
  rw [e2, e]
theorem lkf3 (f1 f2 f3 : Str) (v1 v2 v3 : Value) : (fun y => List.lookup y [(f3, v3), (f2, v2), (f1, v1)]) =
    fun y => if y = f3 then some v3 else if y = f2 then some v2 else if y = f1 then some v1 else none := by
  funext y
  have e := congrFun (lkf2 f1 f2 v1 v2) y
  have e2 := congrFun (lkf f3 v3 [(f2, v2), (f1, v1)]) y
  rw [e2, e]
theorem wi1 {f : Str} {v : Value} : Within (fun y => if y = f then some v else none) [f] :=
  Within.cons f v Within.nil
theorem wi2 {f1 f2 : Str} {v1 v2 : Value} :
    Within (fun y => if y = f2 then some v2 else if y = f1 then some v1 else none) [f2, f1] :=
  Within.cons f2 v2 wi1

section
variable {prog : Program} {w : World} {A : Around} {R : Result → Shared → Prop} {s : Shared}
variable {K : Frag} {mg : Str → Option Value} {C x t0 fI cc cda : Addr} {B newId initId : String} {bmB : List Value}
variable {qual msg f1 f2 f3 : Str} {j : Nat} {p0 p1 p2 p3 p4 p5 : Pos} {args : Args} {v1 v2 v3 : Value}

/-- two fields -/
theorem init2 {a0 a1 a2 q1 q2 q3 q4 r1 r2 r3 r4 : Pos} (n1 : Nm f1) (n2 : Nm f2) (n12 : f1 ≠ f2)
    (T : XC K C B newId initId bmB)
    (S : XI prog K mg C fI cc cda qual (iArgs [("self", a0), (f1, a1), (f2, a2)])
      [supS msg j p0 p1 p2 p3 p4 p5, stS f1 q1 q2 q3 q4, stS f2 r1 r2 r3 r4] (iScope ["self", f1, f2]) B initId)
    (Mh : MH K mg s.heap) (hlim : s.heap.NoLimit) (hroom : A.depth < recursionLimit)
    (hln : (p2.endLine == p4.line) = true) (hx : s.heap.get? x = some (excObj C t0 none .none))
    (nx : K.lookup x = none) (ng : x ≠ mainGlobals) (nb : x ≠ builtinsNs) (ha : takerIn K C f1 = some none)
    (ha2 : takerIn K C f2 = some none)
    (hb : ∀ kV doc pm ct an, BindsTo s (ksFn "__init__" qual (iArgs [("self", a0), (f1, a1), (f2, a2)])
      [supS msg j p0 p1 p2 p3 p4 p5, stS f1 q1 q2 q3 q4, stS f2 r1 r2 r3 r4] (iScope ["self", f1, f2]) .none kV doc pm an (.ref cda) ct cc)
      args [("self", .ref x), (f1, v1), (f2, v2)])
    (hq : ∀ h' tk, IEnd s.heap h' x C [(f2, v2), (f1, v1)] → R (.ok (.ret .none)) { s with heap := h', toks := tk }) :
    codeAny (model prog w) A (.call (.ref fI) args) R s := by
  have l0 : (iScope ["self", f1, f2]).names.lookup ("self" : Str) = some .local := lk0
  have l1 : (iScope ["self", f1, f2]).names.lookup f1 = some .local := (lk1 n1.s).trans lk0
  have l2 : (iScope ["self", f1, f2]).names.lookup f2 = some .local := (lk1 n2.s).trans ((lk1 n12.symm).trans lk0)
  have lc : (iScope ["self", f1, f2]).names.lookup ("__class__" : Str) = some .free :=
    (lk1 hself2.symm).trans ((lk1 n1.c.symm).trans ((lk1 n2.c.symm).trans lk0))
  have lsu : (iScope ["self", f1, f2]).names.lookup ("super" : Str) = some .globalImplicit :=
    (lk1 hself.symm).trans ((lk1 n1.u.symm).trans ((lk1 n2.u.symm).trans ((lk1 hcs).trans lk0)))
  have m0 : List.lookup ("self" : Str) [(f2, v2), (f1, v1), ("self", Value.ref x)] = some (.ref x) :=
    (lk1 n2.s.symm).trans ((lk1 n1.s.symm).trans lk0)
  have m1 : List.lookup f1 [(f2, v2), (f1, v1), ("self", Value.ref x)] = some v1 := (lk1 n12).trans lk0
  have m2 : List.lookup f2 [(f2, v2), (f1, v1), ("self", Value.ref x)] = some v2 := lk0
  refine enter (binds := [("self", .ref x), (f1, v1), (f2, v2)]) S Mh hlim hroom hb
    (by simp [iScope]) (fun y hy => ?_) rfl rfl rfl fun h1 tk L hn hL k1 => ?_
  · rcases List.mem_cons.mp hy with rfl | hy
    · exact l0
    · rcases List.mem_cons.mp hy with rfl | hy
      · exact l1
      · rcases List.mem_cons.mp hy with rfl | hy
        · exact l2
        · cases hy
  obtain ⟨hp, g, d, t, os⟩ := s
  refine ks_wpAt_execs_cons ?_
  refine sup_run T S (Mh.keeps k1) hn (k1 _ _ hx) (ar := ⟨"self", none, a0⟩) rfl m0 lsu lc l0 rfl
    (fun h2 tk2 t1 k2 e2 => ?_) (he_of hln) (by rfl) (by rfl)
  have nL : L ≠ x := ns_ne hn (k1 _ _ hx)
  have M2 : MH K mg h2 := mh_keep (Mh.keeps k1) nx ng nb k2
  have hn2 := ns_keep hn nL k2
  refine wpAt_of_wpAny (wpAny_execs_cons ?_)
  refine st0 T M2.kin hn2 e2 m0 m1 rfl l0 l1 (bq n1.d) ha (fun h3 tk3 dx k3 hd ne e3 n3 => ?_) (by rfl)
  have M3 : MH K mg h3 := mh_keep M2 nx ng nb k3
  have hn3 := ns_keep hn2 nL k3
  have z : hp.objs.size ≤ dx := Nat.le_trans hL (Nat.le_trans (Nat.le_of_lt hn2.lt) hd)
  refine wpAny_execs_cons ?_
  refine stD T M3.kin hn3 e3 n3 wi1 (show 1 ≤ 1000 by decide) m0 m2 rfl l0 l2 (bq n2.d) ha2 (fun h4 tk4 k4 n4 => ?_) (by rfl)
  refine wpAny_execs_nil ?_
  have old : ∀ b o, hp.get? b = some o → b ≠ dx := fun b o ho => Nat.ne_of_lt (Nat.lt_of_lt_of_le (Heap.lt_size ho) z)
  refine hq h4 tk4 ⟨fun b o hb ho => k4 b o (old b o ho) (k3 b o hb (k2 b o hb (k1 b o ho))), t1, dx,
    k4 x _ (Ne.symm ne) e3, z, ne, ?_⟩
  rw [lkf2]
  exact n4

/-- three fields -/
theorem init3 {a0 a1 a2 a3 q1 q2 q3 q4 r1 r2 r3 r4 u1 u2 u3 u4 : Pos} (n1 : Nm f1) (n2 : Nm f2) (n3 : Nm f3)
    (n12 : f1 ≠ f2) (n13 : f1 ≠ f3) (n23 : f2 ≠ f3) (T : XC K C B newId initId bmB)
    (S : XI prog K mg C fI cc cda qual (iArgs [("self", a0), (f1, a1), (f2, a2), (f3, a3)])
      [supS msg j p0 p1 p2 p3 p4 p5, stS f1 q1 q2 q3 q4, stS f2 r1 r2 r3 r4, stS f3 u1 u2 u3 u4]
      (iScope ["self", f1, f2, f3]) B initId)
    (Mh : MH K mg s.heap) (hlim : s.heap.NoLimit) (hroom : A.depth < recursionLimit)
    (hln : (p2.endLine == p4.line) = true) (hx : s.heap.get? x = some (excObj C t0 none .none))
    (nx : K.lookup x = none) (ng : x ≠ mainGlobals) (nb : x ≠ builtinsNs) (ha : takerIn K C f1 = some none)
    (ha2 : takerIn K C f2 = some none) (ha3 : takerIn K C f3 = some none)
    (hb : ∀ kV doc pm ct an, BindsTo s (ksFn "__init__" qual (iArgs [("self", a0), (f1, a1), (f2, a2), (f3, a3)])
      [supS msg j p0 p1 p2 p3 p4 p5, stS f1 q1 q2 q3 q4, stS f2 r1 r2 r3 r4, stS f3 u1 u2 u3 u4]
      (iScope ["self", f1, f2, f3]) .none kV doc pm an (.ref cda) ct cc)
      args [("self", .ref x), (f1, v1), (f2, v2), (f3, v3)])
    (hq : ∀ h' tk, IEnd s.heap h' x C [(f3, v3), (f2, v2), (f1, v1)] → R (.ok (.ret .none)) { s with heap := h', toks := tk }) :
    codeAny (model prog w) A (.call (.ref fI) args) R s := by
  have l0 : (iScope ["self", f1, f2, f3]).names.lookup ("self" : Str) = some .local := lk0
  have l1 : (iScope ["self", f1, f2, f3]).names.lookup f1 = some .local := (lk1 n1.s).trans lk0
  have l2 : (iScope ["self", f1, f2, f3]).names.lookup f2 = some .local := (lk1 n2.s).trans ((lk1 n12.symm).trans lk0)
  have l3 : (iScope ["self", f1, f2, f3]).names.lookup f3 = some .local :=
    (lk1 n3.s).trans ((lk1 n13.symm).trans ((lk1 n23.symm).trans lk0))
  have lc : (iScope ["self", f1, f2, f3]).names.lookup ("__class__" : Str) = some .free :=
    (lk1 hself2.symm).trans ((lk1 n1.c.symm).trans ((lk1 n2.c.symm).trans ((lk1 n3.c.symm).trans lk0)))
  have lsu : (iScope ["self", f1, f2, f3]).names.lookup ("super" : Str) = some .globalImplicit :=
    (lk1 hself.symm).trans ((lk1 n1.u.symm).trans ((lk1 n2.u.symm).trans ((lk1 n3.u.symm).trans ((lk1 hcs).trans lk0))))
  have m0 : List.lookup ("self" : Str) [(f3, v3), (f2, v2), (f1, v1), ("self", Value.ref x)] = some (.ref x) :=
    (lk1 n3.s.symm).trans ((lk1 n2.s.symm).trans ((lk1 n1.s.symm).trans lk0))
  have m1 : List.lookup f1 [(f3, v3), (f2, v2), (f1, v1), ("self", Value.ref x)] = some v1 :=
    (lk1 n13).trans ((lk1 n12).trans lk0)
  have m2 : List.lookup f2 [(f3, v3), (f2, v2), (f1, v1), ("self", Value.ref x)] = some v2 := (lk1 n23).trans lk0
  have m3 : List.lookup f3 [(f3, v3), (f2, v2), (f1, v1), ("self", Value.ref x)] = some v3 := lk0
  refine enter (binds := [("self", .ref x), (f1, v1), (f2, v2), (f3, v3)]) S Mh hlim hroom hb
    (by simp [iScope]) (fun y hy => ?_) rfl rfl rfl fun h1 tk L hn hL k1 => ?_
  · rcases List.mem_cons.mp hy with rfl | hy
    · exact l0
    · rcases List.mem_cons.mp hy with rfl | hy
      · exact l1
      · rcases List.mem_cons.mp hy with rfl | hy
        · exact l2
        · rcases List.mem_cons.mp hy with rfl | hy
          · exact l3
          · cases hy
  obtain ⟨hp, g, d, t, os⟩ := s
  refine ks_wpAt_execs_cons ?_
  refine sup_run T S (Mh.keeps k1) hn (k1 _ _ hx) (ar := ⟨"self", none, a0⟩) rfl m0 lsu lc l0 rfl
    (fun h2 tk2 t1 k2 e2 => ?_) (he_of hln) (by rfl) (by rfl)
  have nL : L ≠ x := ns_ne hn (k1 _ _ hx)
  have M2 : MH K mg h2 := mh_keep (Mh.keeps k1) nx ng nb k2
  have hn2 := ns_keep hn nL k2
  refine wpAt_of_wpAny (wpAny_execs_cons ?_)
  refine st0 T M2.kin hn2 e2 m0 m1 rfl l0 l1 (bq n1.d) ha (fun h3 tk3 dx k3 hd ne e3 n3' => ?_) (by rfl)
  have M3 : MH K mg h3 := mh_keep M2 nx ng nb k3
  have hn3 := ns_keep hn2 nL k3
  have z : hp.objs.size ≤ dx := Nat.le_trans hL (Nat.le_trans (Nat.le_of_lt hn2.lt) hd)
  have old : ∀ b o, hp.get? b = some o → b ≠ dx := fun b o ho => Nat.ne_of_lt (Nat.lt_of_lt_of_le (Heap.lt_size ho) z)
  have Ldx : L ≠ dx := Nat.ne_of_lt (Nat.lt_of_lt_of_le hn2.lt hd)
  refine wpAny_execs_cons ?_
  refine stD T M3.kin hn3 e3 n3' wi1 (show 1 ≤ 1000 by decide) m0 m2 rfl l0 l2 (bq n2.d) ha2 (fun h4 tk4 k4 n4 => ?_) (by rfl)
  have X4 : K.In h4 := fun a o e => k4 a o (old a o (Mh.kin a o e)) (M3.kin a o e)
  refine wpAny_execs_cons ?_
  refine stD T X4 (ns_keep hn3 Ldx k4) (k4 x _ (Ne.symm ne) e3) n4 wi2 (show 2 ≤ 1000 by decide) m0 m3 rfl l0 l3 (bq n3.d) ha3
    (fun h5 tk5 k5 n5 => ?_) (by rfl)
  refine wpAny_execs_nil ?_
  refine hq h5 tk5 ⟨fun b o hb ho => k5 b o (old b o ho) (k4 b o (old b o ho) (k3 b o hb (k2 b o hb (k1 b o ho)))), t1, dx,
    k5 x _ (Ne.symm ne) (k4 x _ (Ne.symm ne) e3), z, ne, ?_⟩
  rw [lkf3]
  exact n5
end
end Xc
set_option maxHeartbeats 8000000
/-! an own exception class is called, with keywords too -/
namespace Xc
open PySem PySem.W PySem.Calls PyProof.Rows PySem.PX

section
variable {prog : Program} {w : World} {M : Model} {A : Around} {E : Value → Shared → Prop}
variable {R : Result → Shared → Prop} {hp : Heap} {g : Array GenState} {d : Drawn} {t : Nat} {os : OsState}
variable {K : Frag} {C x t0 fI : Addr} {B newId initId : String} {bmB : List Value}
variable {nm q : Str} {N : Addr} {bs bm : List Value} {hdct : Bool} {sn : List Str} {sub : List Value}
variable {ab : Bool} {col : Option Bool} {dd : Option Addr} {k0 k1 k2 k3 k5 : Option Value}
variable {rest : List Value} {kw : List (Str × Value)}

abbrev clsO (nm q : Str) (C N : Addr) (bs bm : List Value) (hdct : Bool) (sn : List Str) (sub : List Value)
    (ab : Bool) (col : Option Bool) (dd : Option Addr) (k0 k1 k2 k3 k5 : Option Value) (newId : String) : Obj :=
  excClassObj nm q C N bs bm hdct sn sub ab col dd k0 k1 k2 k3 k5 newId

theorem ckNewK (F : ExcBaseFacts B newId initId bmB)
    (hT : ∀ X : String, bm.contains (.type X) = bmB.contains (.type X)) {Q : Unit → Shared → Prop}
    (hC : hp.get? C = some (clsO nm q C N bs bm hdct sn sub ab col dd k0 k1 k2 k3 k5 newId))
    (hq : Q () ⟨hp, g, d, t, os⟩) :
    wpAny M A (checkBuiltinCall newId ⟨.ref C :: rest, kw⟩) Q E ⟨hp, g, d, t, os⟩ := by
  have hin : (Value.ref C :: bm).contains (.type B) = true := by
    rw [List.contains_cons, hT, F.hasB]
    exact Bool.or_true _
  have hstar := F.noStar
  simp only [checkBuiltinCall, F.newKind, F.newSplit, F.newRow]
  repeat (first
    | refine wpAny_loadPart_at hC ?_
    | (refine wpAny_isSubtype_exc hC ?_; rw [hin])
    | refine wpAny_staticBase_exc hC ?_
    | refine wpAny_madeBy_exc hC ?_
    | simp only [bne_self_eq_false, Bool.false_eq_true, if_false]
    | wp_step)
  exact hq

theorem newK (F : ExcBaseFacts B newId initId bmB)
    (hT : ∀ X : String, bm.contains (.type X) = bmB.contains (.type X))
    (hC : hp.get? C = some (clsO nm q C N bs bm hdct sn sub ab col dd k0 k1 k2 k3 k5 newId))
    (hz : rest.length ≤ sizeLine)
    (hq : R (.ok (.ret (.ref (hp.objs.size + 1))))
      ⟨(hp.push (excTup rest)).push (excObj C hp.objs.size none .none), g, d, t, os⟩) :
    codeAny (model prog w) A (.builtin newId ⟨.ref C :: rest, kw⟩) R ⟨hp, g, d, t, os⟩ := by
  have hends := F.ends
  have i1 : (Value.ref C :: bm).contains (.type B) = true := by
    rw [List.contains_cons, hT, F.hasB]
    exact Bool.or_true _
  have i2 : (Value.ref C :: bm).contains (.type "AttributeError") = false := by
    rw [List.contains_cons, hT, F.noAttr]
    rfl
  have i3 : (Value.ref C :: bm).contains (.type "NameError") = false := by
    rw [List.contains_cons, hT, F.noName]
    rfl
  refine codeAny_builtinAt F.entry ?_
  unfold Builtin.«BaseException.__new__»
  refine PySem.wpAt_bind ?_
  show PySem.wpAt _ _ _ (stack >>= _) _ _ _
  refine PySem.wpAt_bind (PySem.wpAt_stack fun p below => PySem.wpAt_of_wpAny ?_)
  wp_walk
  refine PySem.wpAt_of_wpAny ?_
  rw [F.owner]
  repeat (first
    | with_reducible refine wpAny_madeHere_exc F.canon hC ?_
    | with_reducible refine wpAny_loadPart_at hC ?_
    | (with_reducible refine wpAny_isSubtype_exc hC ?_; first | rw [i1] | rw [i2] | rw [i3])
    | wp_step)
  show R _ _
  rw [Heap.size_push]
  exact hq

theorem typeK (F : ExcBaseFacts B newId initId bmB)
    (hT : ∀ X : String, bm.contains (.type X) = bmB.contains (.type X)) {Q : Fin → Shared → Prop}
    (hC : hp.get? C = some (clsO nm q C N bs bm hdct sn sub ab col dd k0 k1 k2 k3 k5 newId))
    (hi : W.Looks (model prog w) hp (typeLookup (.ref C) "__init__") (some (.ref fI)))
    (hb : ∀ self, W.Looks (model prog w) hp (bindSpecial (.ref fI) self) (.ref fI, [self]))
    (hz : rest.length ≤ sizeLine)
    (hq : codeAny (model prog w) A (.call (.ref fI) ⟨.ref (hp.objs.size + 1) :: rest, kw⟩)
      (fun r s' => match r with
        | .ok (.ret v) => v = .none ∧ Q (.done (.ret (.ref (hp.objs.size + 1)))) s'
        | .ok _ => False
        | .error e => E e s')
      ⟨(hp.push (excTup rest)).push (excObj C hp.objs.size none .none), g, d, t, os⟩) :
    wpAny (model prog w) A (Builtin.«type.__call__» ⟨.ref C :: rest, kw⟩) Q E ⟨hp, g, d, t, os⟩ := by
  repeat (first
    | with_reducible refine wpAny_loadPart_at hC ?_
    | with_reducible refine wpAny_madeBy_exc hC ?_
    | wp_step)
  refine codeAny_call_builtin_code (Code.quiet_builtin _ F.quiet) (ckNewK F hT hC ?_)
  refine newK F hT hC hz ?_
  show wpAny _ _ _ _ _ _
  have k : ∀ b o, hp.get? b = some o →
      ((hp.push (excTup rest)).push (excObj C hp.objs.size none .none)).get? b = some o :=
    fun b o e => Heap.get?_push_of_some _ (Heap.get?_push_of_some _ e)
  have hC1 := k _ _ hC
  have hg : ((hp.push (excTup rest)).push (excObj C hp.objs.size none .none)).get? (hp.objs.size + 1)
      = some (excObj C hp.objs.size none .none) := by heap_get
  have hcC : (Value.ref C :: bm).contains (.ref C) = true := by simp
  have i1 := hi.keeps k
  have b1 := (hb (.ref (hp.objs.size + 1))).keeps k
  unfold isInstance
  repeat (first
    | with_reducible refine wpAny_loadPart_at hg ?_
    | (with_reducible refine wpAny_isSubtype_exc hC1 ?_; rw [hcC])
    | wp_step)
  show wpAny _ _ (typeLookup (.ref C) _) _ _ _
  refine i1.at ?_
  refine wpAny_holding (wpAny_bind (b1.at ?_))
  refine wpAny_bind (wpAny_call (codeAny_mono hq fun r s' z => ?_))
  rcases r with e | (v | _ | _ | _) <;> first
    | exact z
    | exact z.elim
    | (obtain ⟨rfl, z⟩ := z
       first
         | exact wpAny_pure (wpAny_pure z)
         | (wp_walk; exact z))

theorem callK (F : ExcBaseFacts B newId initId bmB)
    (hT : ∀ X : String, bm.contains (.type X) = bmB.contains (.type X))
    (hC : hp.get? C = some (clsO nm q C N bs bm hdct sn sub ab col dd k0 k1 k2 k3 k5 newId))
    (hi : W.Looks (model prog w) hp (typeLookup (.ref C) "__init__") (some (.ref fI)))
    (hb : ∀ self, W.Looks (model prog w) hp (bindSpecial (.ref fI) self) (.ref fI, [self]))
    (hz : rest.length ≤ sizeLine)
    (hq : codeAny (model prog w) (A.under (.builtin "type.__call__" ⟨.ref C :: rest, kw⟩))
      (.call (.ref fI) ⟨.ref (hp.objs.size + 1) :: rest, kw⟩) (W.InitBack (hp.objs.size + 1) R)
      ⟨(hp.push (excTup rest)).push (excObj C hp.objs.size none .none), g, d, t, os⟩) :
    codeAny (model prog w) A (.call (.ref C) ⟨rest, kw⟩) R ⟨hp, g, d, t, os⟩ := by
  have f1 := tc_lookup
  have f2 := tc_bind (.ref C)
  have hTy : (⟨hp, g, d, t, os⟩ : Shared).TypeIs (.ref C) "type" := ⟨_, hC, rfl⟩
  refine codeAny_of_tree ?_
  show wpAny _ _ (callAny (.ref C) _) _ _ _
  repeat (any_goals (first | assumption | with_reducible refine wpAny_loadPart_at hC ?_ | wp_step))
  refine ⟨rfl, ?_⟩
  refine codeAny_call_builtin_at (Code.quiet_builtin _ (by decide +kernel)) entry_typeCall
    (wpAny_check_type_call_sub hC (typeK F hT hC hi hb hz ?_))
  refine codeAny_mono hq fun r s' z => ?_
  rcases r with e | (v | _ | _ | _) <;> exact z
end
end Xc
set_option maxHeartbeats 8000000
namespace Xc
open PySem PySem.W PySem.Calls PyProof.Rows PySem.PX

/-- behind the call of the class: a new exception e, its fields fs -/
structure MkEnd (h h' : Heap) (e C : Addr) (fs : List (Str × Value)) : Prop where
  keep : ∀ b o, h.get? b = some o → h'.get? b = some o
  new : h.objs.size ≤ e
  obj : match fs with
    | [] => ∃ t1, h'.get? e = some (excObj C t1 none .none)
    | _ :: _ => ∃ t1 dx, h'.get? e = some (excObj C t1 (some dx) .none) ∧ h.objs.size ≤ dx ∧ dx ≠ e ∧
        h'.Ns1 dx fun y => fs.lookup y

/-- what calls of the class C do, for the fields fs bound from us and kw -/
def Mk (prog : Program) (w : World) (K : Frag) (mg : Str → Option Value) (C : Addr) (us : List Value)
    (kw : List (Str × Value)) (fs : List (Str × Value)) : Prop :=
  ∀ (A : Around) (R : Result → Shared → Prop) (s : Shared), MH K mg s.heap → s.heap.NoLimit →
    A.depth + 1 < recursionLimit →
    (∀ h' tk e, MkEnd s.heap h' e C fs → R (.ok (.ret (.ref e))) { s with heap := h', toks := tk }) →
    codeAny (model prog w) A (.call (.ref C) ⟨us, kw⟩) R s

section
variable {prog : Program} {w : World} {A : Around} {R : Result → Shared → Prop} {s : Shared}
variable {K : Frag} {mg : Str → Option Value} {C x t0 fI cc cda : Addr} {B newId initId : String} {bmB : List Value}
variable {qual msg f1 f2 f3 : Str} {j : Nat} {p0 p1 p2 p3 p4 p5 : Pos} {us : List Value} {kw : List (Str × Value)} {v1 v2 v3 : Value}

/-- the common way in -/
theorem mk_of (T : XC K C B newId initId bmB) (iC : findIn K (.ref C) "__init__" = some (some (.ref fI)))
    (tI : typeIn K (.ref fI) = some (.type "function")) (hz : us.length ≤ sizeLine) {fs : List (Str × Value)}
    (h : ∀ (A : Around) (R : Result → Shared → Prop) (s : Shared) (x t0 : Addr), MH K mg s.heap → s.heap.NoLimit →
      A.depth < recursionLimit → s.heap.get? x = some (excObj C t0 none .none) → K.lookup x = none →
      x ≠ mainGlobals → x ≠ builtinsNs →
      (∀ h' tk, IEnd s.heap h' x C fs → R (.ok (.ret .none)) { s with heap := h', toks := tk }) →
      codeAny (model prog w) A (.call (.ref fI) ⟨.ref x :: us, kw⟩) R s) : Mk prog w K mg C us kw fs := by
  intro A R s Mh hlim hroom hq
  have X := Mh.kin
  obtain ⟨nm, N', qn, bs, bm, hdct, sn, sub, ab, col, dd, k0, k1, k2, k3, k5, hC, hT⟩ := excInit_of X T.ini
  obtain ⟨hp, g, d, t, os⟩ := s
  have kk : ∀ b o, hp.get? b = some o →
      ((hp.push (excTup us)).push (excObj C hp.objs.size none .none)).get? b = some o :=
    fun b o e => Heap.get?_push_of_some _ (Heap.get?_push_of_some _ e)
  have hg : ((hp.push (excTup us)).push (excObj C hp.objs.size none .none)).get? (hp.objs.size + 1)
      = some (excObj C hp.objs.size none .none) := by heap_get
  have big : ∀ {b : Addr} {o : Obj}, hp.get? b = some o → hp.objs.size + 1 ≠ b := fun {b o} e z => by
    have q := Heap.lt_size e
    rw [← z] at q
    exact absurd (Nat.lt_of_succ_lt q) (Nat.lt_irrefl _)
  have hnx : K.lookup (hp.objs.size + 1) = none := by
    cases e : K.lookup (hp.objs.size + 1) with
    | none => rfl
    | some o => exact absurd rfl (big (X _ _ e))
  have hmg : hp.objs.size + 1 ≠ mainGlobals := by
    obtain ⟨o, _, _, e, _⟩ := Mh.glob
    exact big e
  have hbn : hp.objs.size + 1 ≠ builtinsNs := by
    obtain ⟨mb, ⟨o, _, _, e, _⟩, _⟩ := Mh.blt
    exact big e
  refine callK T.FB hT hC (looks_findIn X iC) (fun self => bind_fn X self tI) hz ?_
  refine h _ _ ⟨(hp.push (excTup us)).push (excObj C hp.objs.size none .none), g, d, t, os⟩ (hp.objs.size + 1) hp.objs.size
    (Mh.keeps kk) (hlim.keeps kk) hroom hg hnx hmg hbn fun h' tk Z => ?_
  refine ⟨rfl, hq h' tk (hp.objs.size + 1) ⟨fun b o e => Z.keep b o (Ne.symm (big e)) (kk b o e), Nat.le_succ _, ?_⟩⟩
  have zo := Z.obj
  cases fs with
  | nil => exact zo
  | cons f r =>
    obtain ⟨t1, dx, e1, e2, e3, e4⟩ := zo
    refine ⟨t1, dx, e1, ?_, e3, e4⟩
    rw [Heap.size_push, Heap.size_push] at e2
    exact Nat.le_trans (Nat.le_trans (Nat.le_succ _) (Nat.le_succ _)) e2

theorem mk0 {a0 : Pos} (T : XC K C B newId initId bmB)
    (iC : findIn K (.ref C) "__init__" = some (some (.ref fI))) (tI : typeIn K (.ref fI) = some (.type "function"))
    (S : XI prog K mg C fI cc cda qual (iArgs [("self", a0)]) [supS msg j p0 p1 p2 p3 p4 p5] (iScope ["self"]) B initId)
    (hln : (p2.endLine == p4.line) = true) : Mk prog w K mg C [] [] [] :=
  mk_of T iC tI (Nat.zero_le _) fun A R s x t0 Mh hlim hroom hx _ _ _ hq => init0 T S Mh hlim hroom hln hx hq

theorem mk1 {a0 a1 q1 q2 q3 q4 : Pos} (n1 : Nm f1) (T : XC K C B newId initId bmB)
    (iC : findIn K (.ref C) "__init__" = some (some (.ref fI))) (tI : typeIn K (.ref fI) = some (.type "function"))
    (S : XI prog K mg C fI cc cda qual (iArgs [("self", a0), (f1, a1)])
      [supS msg j p0 p1 p2 p3 p4 p5, stS f1 q1 q2 q3 q4] (iScope ["self", f1]) B initId)
    (hln : (p2.endLine == p4.line) = true) (ha : takerIn K C f1 = some none) (hz : us.length ≤ sizeLine)
    (hb : ∀ s x kV doc pm ct an, BindsTo s (ksFn "__init__" qual (iArgs [("self", a0), (f1, a1)])
      [supS msg j p0 p1 p2 p3 p4 p5, stS f1 q1 q2 q3 q4] (iScope ["self", f1]) .none kV doc pm an (.ref cda) ct cc)
      ⟨.ref x :: us, kw⟩ [("self", .ref x), (f1, v1)]) : Mk prog w K mg C us kw [(f1, v1)] :=
  mk_of T iC tI hz fun A R s x t0 Mh hlim hroom hx nx ng nb hq =>
    init1 n1 T S Mh hlim hroom hln hx nx ng nb ha (hb s x) hq

theorem mk2 {a0 a1 a2 q1 q2 q3 q4 r1 r2 r3 r4 : Pos} (n1 : Nm f1) (n2 : Nm f2) (n12 : f1 ≠ f2)
    (T : XC K C B newId initId bmB)
    (iC : findIn K (.ref C) "__init__" = some (some (.ref fI))) (tI : typeIn K (.ref fI) = some (.type "function"))
    (S : XI prog K mg C fI cc cda qual (iArgs [("self", a0), (f1, a1), (f2, a2)])
      [supS msg j p0 p1 p2 p3 p4 p5, stS f1 q1 q2 q3 q4, stS f2 r1 r2 r3 r4] (iScope ["self", f1, f2]) B initId)
    (hln : (p2.endLine == p4.line) = true) (ha : takerIn K C f1 = some none) (ha2 : takerIn K C f2 = some none)
    (hz : us.length ≤ sizeLine)
    (hb : ∀ s x kV doc pm ct an, BindsTo s (ksFn "__init__" qual (iArgs [("self", a0), (f1, a1), (f2, a2)])
      [supS msg j p0 p1 p2 p3 p4 p5, stS f1 q1 q2 q3 q4, stS f2 r1 r2 r3 r4] (iScope ["self", f1, f2]) .none kV doc pm an (.ref cda) ct cc)
      ⟨.ref x :: us, kw⟩ [("self", .ref x), (f1, v1), (f2, v2)]) : Mk prog w K mg C us kw [(f2, v2), (f1, v1)] :=
  mk_of T iC tI hz fun A R s x t0 Mh hlim hroom hx nx ng nb hq =>
    init2 n1 n2 n12 T S Mh hlim hroom hln hx nx ng nb ha ha2 (hb s x) hq

theorem mk3 {a0 a1 a2 a3 q1 q2 q3 q4 r1 r2 r3 r4 u1 u2 u3 u4 : Pos} (n1 : Nm f1) (n2 : Nm f2) (n3 : Nm f3)
    (n12 : f1 ≠ f2) (n13 : f1 ≠ f3) (n23 : f2 ≠ f3) (T : XC K C B newId initId bmB)
    (iC : findIn K (.ref C) "__init__" = some (some (.ref fI))) (tI : typeIn K (.ref fI) = some (.type "function"))
    (S : XI prog K mg C fI cc cda qual (iArgs [("self", a0), (f1, a1), (f2, a2), (f3, a3)])
      [supS msg j p0 p1 p2 p3 p4 p5, stS f1 q1 q2 q3 q4, stS f2 r1 r2 r3 r4, stS f3 u1 u2 u3 u4]
      (iScope ["self", f1, f2, f3]) B initId)
    (hln : (p2.endLine == p4.line) = true) (ha : takerIn K C f1 = some none) (ha2 : takerIn K C f2 = some none)
    (ha3 : takerIn K C f3 = some none) (hz : us.length ≤ sizeLine)
    (hb : ∀ s x kV doc pm ct an, BindsTo s (ksFn "__init__" qual (iArgs [("self", a0), (f1, a1), (f2, a2), (f3, a3)])
      [supS msg j p0 p1 p2 p3 p4 p5, stS f1 q1 q2 q3 q4, stS f2 r1 r2 r3 r4, stS f3 u1 u2 u3 u4]
      (iScope ["self", f1, f2, f3]) .none kV doc pm an (.ref cda) ct cc)
      ⟨.ref x :: us, kw⟩ [("self", .ref x), (f1, v1), (f2, v2), (f3, v3)]) :
    Mk prog w K mg C us kw [(f3, v3), (f2, v2), (f1, v1)] :=
  mk_of T iC tI hz fun A R s x t0 Mh hlim hroom hx nx ng nb hq =>
    init3 n1 n2 n3 n12 n13 n23 T S Mh hlim hroom hln hx nx ng nb ha ha2 ha3 (hb s x) hq
end
end Xc
set_option maxHeartbeats 8000000
/-! exceptions as values, over the abstract heap -/
namespace L2
open PySem PySem.Spec PyProof.Rows

/-- the abstract heap with a new exception of the class at C: the object at a, its dict at dx -/
def xH (H : Hp) (a dx C : Addr) : List (Str × V) → Hp
  | [] => upd H a (exo a C none)
  | f :: fs => upd (upd H dx (exd dx (f :: fs))) a (exo a C (some dx))

theorem kv_lookup : ∀ {fv : List (Str × V)} {fs : List (Str × Value)}, KV fv fs → ∀ y, RelO (fv.lookup y) (fs.lookup y)
  | _, _, .nil, _ => True.intro
  | (f, v) :: fv, (g, u) :: fs, .cons r t, y => by
    obtain ⟨e, rv⟩ := r
    have e' : f = g := e
    subst e'
    rw [lookup_put]
    by_cases h : y = f
    · subst h
      rw [if_pos rfl, Xc.lk0]
      exact rv
    · rw [if_neg h, Xc.lk1 h]
      exact kv_lookup t y

theorem paired_snoc {α β : Type} {R : α → β → Prop} : ∀ {xs : List α} {ys : List β} {x : α} {y : β},
    Paired R xs ys → R x y → Paired R (xs ++ [x]) (ys ++ [y])
  | _, _, _, _, .nil, r => .cons r .nil
  | _, _, _, _, .cons q t, r => .cons q (paired_snoc t r)
theorem vals_rev : ∀ {xs : List V} {us : List Value}, Vals xs us → Vals xs.reverse us.reverse
  | _, _, .nil => .nil
  | _ :: _, _ :: _, .cons r t => by
    rw [List.reverse_cons, List.reverse_cons]
    exact paired_snoc (vals_rev t) r
theorem zip_kv : ∀ (ps : List Str) {xs : List V} {us : List Value}, Vals xs us → KV (ps.zip xs) (ps.zip us)
  | [], _, _, _ => by simp only [List.zip_nil_left]; exact Paired.nil
  | _ :: _, _, _, .nil => .nil
  | p :: ps, _ :: _, _ :: _, .cons r t => .cons ⟨rfl, r⟩ (zip_kv ps t)

section
variable {X : Cx} {pins : List (Addr × Obj)} {σ : St} {H : Hp} {s : Shared} {e C : Addr}

theorem Inv.mh (I : Inv X pins σ H s) : Xc.MH X.K X.mg s.heap := by
  obtain ⟨mb, h1, h2⟩ := I.mod.blt
  exact ⟨I.kIn, I.mod.glob.keeps I.bk, mb, h1.keeps I.bk, h2⟩

theorem Inv.xmade {h' : Heap} {tk : Nat} {fs : List (Str × Value)} {fv : List (Str × V)} (I : Inv X pins σ H s)
    (M : Xc.MkEnd s.heap h' e C fs) (r : KV fv fs) : ∃ dx, H e = none ∧ H dx = none ∧ dx ≠ e ∧
      Inv X pins σ (xH H e dx C fv) { s with heap := h', toks := tk } := by
  have he : H e = none := I.hok.fresh M.new
  have zo := M.obj
  cases r with
  | nil =>
    obtain ⟨t1, e1⟩ := zo
    refine ⟨e + 1, he, I.hok.fresh (Nat.le_succ_of_le M.new), Nat.ne_of_gt (Nat.lt_succ_self e), ?_⟩
    exact I.laid (t' := tk) M.keep M.new (exo_ok e1)
  | @cons p q fv fs rp rt =>
    obtain ⟨t1, dx, e1, e2, e3, e4⟩ := zo
    have hd : H dx = none := I.hok.fresh e2
    refine ⟨dx, he, hd, e3, ?_⟩
    have nO : ∀ {b : Addr} {o : HO}, H b = some o → b ≠ e ∧ b ≠ dx := fun q => ⟨ne_of_none q he, ne_of_none q hd⟩
    have nH : ∀ {b : Addr} {o : Obj}, s.heap.get? b = some o → b ≠ e ∧ b ≠ dx := fun {b o} q =>
      ⟨Nat.ne_of_lt (Nat.lt_of_lt_of_le (Heap.lt_size q) M.new), Nat.ne_of_lt (Nat.lt_of_lt_of_le (Heap.lt_size q) e2)⟩
    have up : ∀ {b : Addr}, b ≠ e ∧ b ≠ dx → xH H e dx C (p :: fv) b = H b := fun {b} n => by
      show upd (upd H dx _) e _ b = _
      rw [upd_ne n.1, upd_ne n.2]
    refine I.un (t' := tk) (h' := h') {
      keep := fun b o q _ _ _ => M.keep b o q
      slot := fun b o q _ _ _ => ⟨o.slots, M.keep b o q⟩
      free := fun b o q n _ => (up (nH q)).trans n
      there := fun b o q _ => ⟨o, M.keep b o q⟩
      tups := fun b xs q => (up (nO q)).trans q
      frzs := fun b o v q => (up (nO q)).trans q
      tbls := fun b ps q => ⟨#[], by rw [up (nO q), q]; simp⟩ } fun b o q => ?_
    by_cases hb : b = e
    · subst hb
      rw [show xH H b dx C (p :: fv) b = some (exo b C (some dx)) from upd_same] at q
      cases q
      exact exo_ok e1
    · by_cases hbd : b = dx
      · subst hbd
        rw [show xH H e b C (p :: fv) b = some (exd b (p :: fv)) from (upd_ne hb).trans upd_same] at q
        cases q
        exact exd_ok e4 (kv_lookup (.cons rp rt))
      · rw [up ⟨hb, hbd⟩] at q
        refine (I.hok b o q).stay (fun c v _ z => M.keep c v z) (fun c z => ?_) fun c xs z => ?_
        · exact (up (nO z)).trans z
        · exact (up (nO z)).trans z
end

/-- what is known of calls of the class at C; ps: its fields, the last parameter first -/
structure MkAll (P : Program) (w : World) (K : PySem.W.Frag) (mg : Str → Option Value) (C : Addr) (ps : List Str) : Prop where
  pos : ∀ fs : List (Str × Value), fs.map (·.1) = ps → Xc.Mk P w K mg C (fs.reverse.map (·.2)) [] fs
  kws : ∀ fs : List (Str × Value), fs.map (·.1) = ps → Xc.Mk P w K mg C [] fs fs
  kp : PySem.W.keepIn K (.ref C) = true

theorem zip_rev {ps : List Str} {us : List Value} (h : us.length = ps.length) :
    ((ps.zip us.reverse).reverse.map (·.2)) = us := by
  have e : (ps.zip us.reverse).map (·.2) = us.reverse := by
    rw [List.map_snd_zip]
    rw [List.length_reverse]
    exact Nat.le_of_eq h
  rw [List.map_reverse, e, List.reverse_reverse]
theorem zip_fst {ps : List Str} {us : List Value} (h : us.length = ps.length) : (ps.zip us).map (·.1) = ps := by
  rw [List.map_fst_zip]
  exact Nat.le_of_eq h.symm

/-- C(e, ..) -/
def tX (C : Addr) (ps : List Str) (ta : TA) : TE := fun σ H Q => ta σ H fun vs H1 => vs.length = ps.length ∧
  ∀ a dx, H1 a = none → H1 dx = none → dx ≠ a → Q (.ref a) (xH H1 a dx C (ps.zip vs.reverse))
/-- C(k = e, ..) -/
def tXk (C : Addr) (ps : List Str) (ta : TA) : TE := fun σ H Q => ta σ H fun vs H1 => vs.length = ps.length ∧
  ∀ a dx, H1 a = none → H1 dx = none → dx ≠ a → Q (.ref a) (xH H1 a dx C (ps.zip vs))

section
variable {X : Cx} {C : Addr} {ps : List Str} {k : Nat} {x : Str} {p pos : Pos} {e : Expr} {es : List Expr}
variable {kws : List Keyword} {ta : TA}

theorem run_x {pins : List (Addr × Obj)} {σ : St} {H : Hp} {s : Shared} {Q : VK} {us : List Value}
    {kw fs : List (Str × Value)} {fv : List (Str × V)} (M : Xc.Mk X.prog X.w X.K X.mg C us kw fs) (hr : Room k X.A)
    (I : Inv X pins σ H s) (r : KV fv fs)
    (h : ∀ a dx, H a = none → H dx = none → dx ≠ a → Q (.ref a) (xH H a dx C fv)) :
    wpAny (model X.prog X.w) X.A (call (.ref C) us kw) (EP X pins σ Q) X.xe s := by
  have hd := hr.dp
  refine wpAny_call (M X.A _ s I.mh I.nolimit (by omega) fun h' tk a Z => ?_)
  obtain ⟨dx, n1, n2, ne, J⟩ := I.xmade (tk := tk) Z r
  exact ⟨.ref a, _, J, rfl, h a dx n1 n2 ne⟩

theorem pe_x (M : MkAll X.prog X.w X.K X.mg C ps) (hr : Room k X.A) (hg : Gl X x) (hm : X.mg x = some (.ref C))
    (ha : PA X (e :: es) ta) (hdb : (x == ("__debug__" : Str)) = false := by decide)
    (he : starEach (e :: es) X.env = (false, eval e X.env) :: starEach es X.env := by rfl)
    (hpl : (backTo pos (starEach es X.env)).any (·.1) = false := by rfl) :
    PE X (.Call (.Name x p) (e :: es) [] pos) (tX C ps ta) := by
  refine ⟨fun pins s σ H Q I h => ?_⟩
  refine wpAny_Call_Name_kw (ld_glob I hg hm ?_ hdb)
  refine PySem.W.callWith_K (h₀ := X.base) I.ok.mod.kin M.kp
    (thn (ha.run pos pins s σ H _ I h) fun us s1 ⟨vs, H1, I1, r, hl, q⟩ => ⟨I1.kIn, ?_⟩) he hpl
  have lu : us.length = ps.length := r.length.symm.trans hl
  have Z := M.pos (ps.zip us.reverse) (zip_fst (by rw [List.length_reverse]; exact lu))
  rw [zip_rev lu] at Z
  exact run_x Z hr I1 (zip_kv ps (vals_rev r)) q

theorem pe_x0 (M : MkAll X.prog X.w X.K X.mg C []) (hr : Room k X.A) (hg : Gl X x) (hm : X.mg x = some (.ref C))
    (hdb : (x == ("__debug__" : Str)) = false := by decide) :
    PE X (.Call (.Name x p) [] [] pos) (tX C [] tNil) := by
  refine ⟨fun pins s σ H Q I h => ?_⟩
  refine wpAny_Call_Name_kw (ld_glob I hg hm ?_ hdb)
  refine PySem.W.callWith_K0 I.kIn M.kp ?_
  have Z := M.pos [] rfl
  exact run_x (fv := []) Z hr I .nil h.2

theorem pe_xk (M : MkAll X.prog X.w X.K X.mg C ps) (hr : Room k X.A) (hg : Gl X x) (hm : X.mg x = some (.ref C))
    (hkw : PK X kws ta) (hall : (backToKw pos (keywordEach kws X.env)).all (·.1.isSome) = true := by rfl)
    (hks : (backToKw pos (keywordEach kws X.env)).filterMap (·.1) = ps := by rfl)
    (hdb : (x == ("__debug__" : Str)) = false := by decide)
    (hpl : ((backTo pos (starEach [] X.env)).any (·.1) ||
      (backToKw pos (keywordEach kws X.env)).any (·.1.isNone)) = false := by rfl) :
    PE X (.Call (.Name x p) [] kws pos) (tXk C ps ta) := by
  refine ⟨fun pins s σ H Q I h => ?_⟩
  refine wpAny_Call_Name_kw (ld_glob I hg hm ?_ hdb)
  refine PySem.W.callWith_KW0 (h₀ := X.base) I.ok.mod.kin M.kp hall ?_ hpl
  refine thn (hkw.run pos pins s σ H _ I h) fun ws s2 ⟨zs, H2, I2, rz, hl, q⟩ => ⟨I2.kIn, ?_⟩
  rw [hks]
  have lw : ws.length = ps.length := rz.length.symm.trans hl
  exact run_x (M.kws (ps.zip ws) (zip_fst lw)) hr I2 (zip_kv ps rz) q
end

/-- what the written part says of a field's reading, and of isinstance -/
structure XG (K : PySem.W.Frag) (C : Addr) : Prop where
  ga : PySem.W.findIn K (.ref C) "__getattribute__" = some (some (.builtin "BaseException.__getattribute__"))
  gg : PySem.W.findIn K (.ref C) "__getattr__" = some none
  ex : PySem.W.subIn K (.ref C) (.type "BaseException") = some true
  hd : PySem.W.hasDictIn K C = true
  cl : (PySem.W.clsIn K C).isSome = true
  cc : PySem.W.findIn K (.ref C) "__class__" = some (some (.builtin "object.__class__"))
  cn : PySem.W.specialIn K (.builtin "object.__class__") "__get__" = some (some (.builtin "getset_descriptor.__get__"))
  ct : PySem.W.takesIn K (.builtin "object.__class__") = some true
  co : PySem.W.mroIn K C (.type "object") = some true

/-- o.f, o an exception as a value -/
def tXf (K : PySem.W.Frag) (f : Str) (te : TE) : TE := fun σ H Q => te σ H fun x H1 => ∃ (a C dx : Addr) (fs : List (Str × V)) (v : V),
  x = .ref a ∧ H1 a = some (exo a C (some dx)) ∧ H1 dx = some (exd dx fs) ∧ fs.lookup f = some v ∧ XG K C ∧
  PySem.W.findIn K (.ref C) f = some none ∧ Q v H1
theorem pe_xf {X : Cx} {e : Expr} {te : TE} {f : Str} {pos : Pos} (he : PE X e te)
    (hb : attributeBase e f X.env (eval e X.env) = eval e X.env) : PE X (.Attribute e f pos) (tXf X.K f te) := by
  refine ⟨fun pins s σ H Q I h => ?_⟩
  refine attr_of hb (thn (he.run pins s σ H _ I h) fun u s1 ⟨x, H1, I1, rx, a, C, dx, fs, v, ex, ea, ed, el, G, hn, q⟩ => ?_)
  subst ex
  obtain rfl : u = Value.ref a := rx
  obtain ⟨t1, ho⟩ := exo_at I1.hok ea
  obtain ⟨mA, hns, rel⟩ := exd_at I1.hok ed
  obtain ⟨od, hod, hl⟩ := lookIn_ns hns
  obtain ⟨w, hw, rw⟩ := RelO.some_of (v := v) (o := mA f) (by rw [← el]; exact rel f)
  have J : PySem.W.InstAt s1.heap a _ C (some od) := ⟨ho, rfl, rfl, hod⟩
  exact PySem.PX.exc_get I1.kIn J G.ga G.gg G.ex (PySem.W.findObj_own G.hd hn rfl (by rw [hl, hw])) (handed_of rw)
    ⟨v, H1, I1.tok _, rw, q⟩

/-- isinstance(o, c), o an exception as a value -/
def rXi (K : PySem.W.Frag) : List V → Hp → VK → Prop := fun xs H Q => ∃ (a C : Addr) (d : Option Addr) (c : V) (u : Value) (b : Bool),
  xs = [.ref a, c] ∧ H a = some (exo a C d) ∧ (∀ dx, d = some dx → ∃ fs, H dx = some (exd dx fs)) ∧ XG K C ∧ ClsV c u ∧
  PySem.W.kitOne K (.ref C) u = some b ∧ Q (.bl b) H
theorem call_xi {X : Cx} : CallR X (.builtin "isinstance") (rXi X.K) := by
  intro pins s σ H xs us Q I r h
  obtain ⟨a, C, d, c, u, b, rfl, ea, hd, G, k, ek, q⟩ := h
  obtain ⟨u1, u2, rfl, r1, r2⟩ := vals2 r
  have e2 := k.eq r2
  subst e2
  obtain rfl : u1 = Value.ref a := r1
  obtain ⟨t1, ho⟩ := exo_at I.hok ea
  have fin : ∀ tk, EP X pins σ Q (.bool b) { s with toks := tk } := fun tk => ⟨.bl b, H, I.tok tk, rfl, q⟩
  cases d with
  | none =>
    have J : PySem.W.InstAt s.heap a _ C none := ⟨ho, rfl, rfl, trivial⟩
    exact PySem.W.kia_one (PySem.W.kitx_exc G.cl G.ga G.gg G.ex G.cc G.cn G.ct G.co) I.kIn J ek (fun z => nomatch z) fin
  | some dx =>
    obtain ⟨fs, ed⟩ := hd dx rfl
    obtain ⟨mA, hns, rel⟩ := exd_at I.hok ed
    obtain ⟨od, hod, hl⟩ := lookIn_ns hns
    have J : PySem.W.InstAt s.heap a _ C (some od) := ⟨ho, rfl, rfl, hod⟩
    exact PySem.W.kia_one (PySem.W.kitx_exc G.cl G.ga G.gg G.ex G.cc G.cn G.ct G.co) I.kIn J ek (fun z => nomatch z) fin
end L2
set_option maxHeartbeats 8000000
/-! defs that are known to run outside of any repr; repr of data -/
namespace L2
open PySem PySem.Spec PyProof.Rows

/-- as FnOk, for calls outside of any repr; nothing is raised -/
structure FnG (P : Program) (w : World) (K : PySem.W.Frag) (mg : Str → Option Value) (base : Heap) (k : Nat)
    (f : Addr) (fd : FuncData) (ps : List Str) (sp : Sp) : Prop where
  len : ∀ vs H Q, sp vs H Q E0 → vs.length = ps.length
  run : ∀ (A : Around) (outer : List Env) (s : Shared) (H : Hp) (args : Args) (us : List Value) (vs : List V) (Q : VK),
    A.guards = some [] → Room k A → Env0 P w K mg base A outer s H → BindsTo s fd args (ps.zip us) → Vals vs us →
    sp vs H Q E0 → codeAny (model P w) A (.call (.ref f) args) (CR CX0 outer P w H s Q E0) s

section
variable {P : Program} {w : World} {K : PySem.W.Frag} {mg : Str → Option Value} {base : Heap}

theorem fnG_of {k : Nat} {f : Addr} {name qual : Str} {params : Arguments} {body : List Stmt} {scope : Scope}
    {dV kV doc pm cdv ct oc : Value} {an od : Option Addr} {osl : Array (Option Value)} {N ps : List Str} {sp : Sp}
    (lk : K.lookup f = some ⟨oc, od, .func (PySem.W.fnOf name qual params body scope dV kV doc pm an cdv ct), osl⟩)
    (hcd : PySem.W.codeIn K cdv qual = true) (S : FnScope N ps scope)
    (len : ∀ vs H Q, sp vs H Q E0 → vs.length = ps.length)
    (hbody : ∀ (A : Around) (outer : List Env) (s : Shared) (H : Hp) (vs : List V) (Q : VK), A.guards = some [] →
      Room k (A.deeper (envOfC qual scope s.heap.objs.size f cdv)) → sp vs H Q E0 →
      ∃ t, PSs (cxOf CX0 P w K mg base N qual scope f cdv A outer s H E0) body t ∧
        t { nx := fun _ H' => Q .non H', rt := Q } (start N vs) H) :
    FnG P w K mg base (k + 1) f (PySem.W.fnOf name qual params body scope dV kV doc pm an cdv ct) ps sp := by
  refine ⟨len, fun A outer s H args us vs Q hgu hr e0 hb r hsp => ?_⟩
  have hl := len _ _ _ hsp
  have kb : ∀ b o, base.get? b = some o → s.heap.get? b = some o := fun b o e => (e0.bs b o e).1
  have KX := e0.mod.kin.keeps kb
  have lim := e0.mod.nolimit.keeps kb
  have hkind : ∀ y ∈ ps.zip us, scope.names.lookup y.1 = some .local ∨
      (scope.names.lookup y.1 = some .cell ∧
        ((cellsFrom (s.heap.objs.size + 1) scope.names []).lookup y.1).isSome = true) := by
    rintro ⟨n, v⟩ hy
    rcases S.par n (List.of_mem_zip hy).1 with q | q
    · exact Or.inl q
    · exact Or.inr ⟨q, PySem.W.cellsFrom_some _ _ _ (Or.inl q)⟩
  refine codeAny_call_function hr.depth (KX _ _ lk) rfl S.co S.gen rfl
    (PySem.W.codeRec_of KX hcd) (hb _ _ _ _ ?_)
  refine wpAny_newFunctionEnv_cells S.kind hkind fun env he s1 x => ?_
  cases he
  refine ⟨lim.keeps x.toInCall.keep, codeAny_func ?_⟩
  obtain ⟨t, ht, hq⟩ := hbody A outer s H vs Q hgu (hr.deeper _) hsp
  have I : Inv (cxOf CX0 P w K mg base N qual scope f cdv A outer s H E0) [] (start N vs) H s1 :=
    inv_start S hr.hd e0 hl r x
  refine wpAny_mono (ht.run [] s1 (start N vs) H _ I hq) (fun fl s' hs => ?_) fun e s' hs => hs
  cases fl with
  | ret u =>
    obtain ⟨v, σ', H', J, rv, q⟩ := hs
    exact ⟨v, H', J.os, J.bare, J.base, J.hok, rv, q⟩
  | next =>
    obtain ⟨σ', H', J, q⟩ := hs
    exact ⟨V.non, H', J.os, J.bare, J.base, J.hok, rfl, q⟩
  | brk => exact hs.choose_spec.choose_spec.2.elim
  | cont => exact hs.choose_spec.choose_spec.2.elim

theorem Fun.okG {x qual : Str} {st : Stmt} {f : Addr} {fd : FuncData} {N ps : List Str} {k : Nat} {sp : Sp}
    (F : Fun K x qual st f fd) (S : FnScope N ps (defScope st)) (len : ∀ vs H Q, sp vs H Q E0 → vs.length = ps.length)
    (hbody : ∀ (cdv : Value) (A : Around) (outer : List Env) (s : Shared) (H : Hp) (vs : List V) (Q : VK),
      A.guards = some [] → Room k (A.deeper (envOfC qual (defScope st) s.heap.objs.size f cdv)) → sp vs H Q E0 →
      ∃ t, PSs (cxOf CX0 P w K mg base N qual (defScope st) f cdv A outer s H E0).nox (defBody st) t ∧
        t { nx := fun _ H' => Q .non H', rt := Q } (start N vs) H) : FnG P w K mg base (k + 1) f fd ps sp := by
  obtain ⟨oc, od, kV, doc, pm, an, cdv, ct, osl, rfl, lk, hcd⟩ := F.ex
  refine fnG_of lk hcd S len fun A outer s H vs Q hgu hr hsp => ?_
  obtain ⟨t, h, q⟩ := hbody cdv A outer s H vs Q hgu hr hsp
  exact ⟨t, h.nox, q⟩
end

section
variable {X : Cx} {k : Nat} {f : Addr} {fd : FuncData} {ps : List Str} {sp : Sp} {x : Str} {p pos : Pos}
variable {e : Expr} {es : List Expr} {t : TA}

theorem run_fnG {pins : List (Addr × Obj)} {σ : St} {H : Hp} {s : Shared} {Q : VK} {us : List Value} {vs : List V}
    (F : FnG X.prog X.w X.K X.mg X.base k f fd ps sp) (hgu : X.A.guards = some []) (hr : Room k X.A)
    (hb : Binds X.K fd ps []) (I : Inv X pins σ H s) (r : Vals vs us) (h : sp vs H Q E0) :
    wpAny (model X.prog X.w) X.A (call (.ref f) us) (EP X pins σ Q) X.xe s := by
  have hl : (us ++ []).length = ps.length := by
    rw [List.append_nil, ← r.length]
    exact F.len _ _ _ h
  have hb' := hb s us I.kIn hl
  rw [List.append_nil] at hb'
  refine wpAny_call (codeAny_mono (F.run X.A X.stack s H ⟨us, []⟩ us vs Q hgu hr I.env0 hb' r h) fun r s' hq => ?_)
  cases r with
  | error e => exact False.elim hq
  | ok fl =>
    cases fl with
    | ret u => exact I.after hq
    | next => exact False.elim hq
    | brk => exact False.elim hq
    | cont => exact False.elim hq

theorem pe_callG (F : FnG X.prog X.w X.K X.mg X.base k f fd ps sp) (hgu : X.A.guards = some []) (hr : Room k X.A)
    (hg : Gl X x) (hm : X.mg x = some (.ref f)) (hk : PySem.W.keepIn X.K (.ref f) = true) (hb : Binds X.K fd ps [])
    (ha : PA X (e :: es) t) (hdb : (x == ("__debug__" : Str)) = false := by decide)
    (he : starEach (e :: es) X.env = (false, eval e X.env) :: starEach es X.env := by rfl)
    (hpl : (backTo pos (starEach es X.env)).any (·.1) = false := by rfl) :
    PE X (.Call (.Name x p) (e :: es) [] pos) (tCall sp [] E0 t) := by
  refine ⟨fun pins s σ H Q I h => ?_⟩
  refine wpAny_Call_Name_kw (ld_glob I hg hm ?_ hdb)
  refine PySem.W.callWith_K (h₀ := X.base) I.ok.mod.kin hk
    (thn (ha.run pos pins s σ H _ I h) fun us s1 ⟨vs, H1, I1, r, q⟩ => ⟨I1.kIn, ?_⟩) he hpl
  have q' : sp (vs ++ []) H1 Q E0 := q
  rw [List.append_nil] at q'
  exact run_fnG F hgu hr hb I1 r q'
end

/-! ### data, a dict among it -/
def kD : Key → PyData
  | .inl i => .int i
  | .inr x => .str x
mutual
inductive Dw (H : Hp) : V → PyData → Prop
  | non : Dw H .non .none
  | bl (b : Bool) : Dw H (.bl b) (.bool b)
  | int (i : Int) : Dw H (.int i) (.int i)
  | str (x : Str) : Dw H (.str x) (.str x)
  | lst {a : Addr} {xs : List V} {ds : List PyData} : H a = some (.lst xs) → DwAll H xs ds → Dw H (.ref a) (.list ds)
  | tup {a : Addr} {xs : List V} {ds : List PyData} : H a = some (.tup xs) → DwAll H xs ds → Dw H (.ref a) (.tuple ds)
  | dct {a : Addr} {kvs : List (Key × V)} {ds : List PyData} : H a = some (.dK kvs) → DwAll H (kvs.map (·.2)) ds →
      Dw H (.ref a) (.dict ((kvs.map fun p => kD p.1).zip ds))
inductive DwAll (H : Hp) : List V → List PyData → Prop
  | nil : DwAll H [] []
  | cons {v : V} {vs : List V} {d : PyData} {ds : List PyData} : Dw H v d → DwAll H vs ds → DwAll H (v :: vs) (d :: ds)
end
end L2
set_option maxHeartbeats 8000000
namespace L2
open PySem PySem.Spec PyProof.Rows

theorem keys_read {P : Program} {w : World} {h : Heap} : ∀ {es : List DictEntry} {kvs : List (Key × V)} {vs : List (Key × Value)},
    KV kvs vs → Pairs (mixKind P w) es vs → ReadsAll h (es.map (·.key)) (kvs.map fun p => kD p.1) []
  | _, _, _, .nil, .nil => .nil
  | _, p :: _, _ :: _, .cons r t, .cons hk _ hp => by
    have ih := keys_read (h := h) t hp
    have hk' := keyIs_shape (show keyIs _ _ = true from hk)
    have e1 := r.1
    refine ReadsAll.cons (as := []) (bs := []) ?_ ih
    rcases hk' with ⟨i, tk, e, e2⟩ | ⟨x, tk, e, e2⟩
    · show Reads h _ (kD p.1) []
      rw [e1, e]
      dsimp only
      rw [e2]
      exact Reads.int i tk
    · show Reads h _ (kD p.1) []
      rw [e1, e]
      dsimp only
      rw [e2]
      exact Reads.str x tk
theorem vals_of_kv {P : Program} {w : World} : ∀ {es : List DictEntry} {kvs : List (Key × V)} {vs : List (Key × Value)},
    KV kvs vs → Pairs (mixKind P w) es vs → Vals (kvs.map (·.2)) (es.map (·.val))
  | _, _, _, .nil, .nil => .nil
  | _, p :: _, q :: _, .cons r t, .cons _ hv hp => by
    have z := r.2
    rw [← hv] at z
    exact Paired.cons z (vals_of_kv t hp)
theorem zip_fs {α β : Type} : ∀ {as : List α} {bs : List β}, as.length = bs.length → (as.zip bs).map (·.1) = as := fun h => by
  rw [List.map_fst_zip]
  exact Nat.le_of_eq h
theorem zip_sd {α β : Type} : ∀ {as : List α} {bs : List β}, as.length = bs.length → (as.zip bs).map (·.2) = bs := fun h => by
  rw [List.map_snd_zip]
  exact Nat.le_of_eq h.symm
theorem DwAll.length {H : Hp} : ∀ {vs : List V} {ds : List PyData}, DwAll H vs ds → vs.length = ds.length
  | _, _, .nil => rfl
  | _ :: _, _ :: _, .cons _ t => congrArg (· + 1) (DwAll.length t)

section
variable {P : Program} {w : World} {H : Hp} {h : Heap}
mutual
theorem Dw.reads (ok : HOk P w H h) : ∀ {v : V} {d : PyData}, Dw H v d → ∀ {u : Value}, RelV v u →
    ∃ as, Reads h u d as ∧ ∀ a ∈ as, (H a).isSome = true
  | _, _, .non, _, r => by
    cases (show _ = Value.none from r)
    exact ⟨_, Reads.none, fun a z => absurd z (by simp)⟩
  | _, _, .bl b, _, r => by
    cases (show _ = Value.bool b from r)
    exact ⟨_, Reads.bool b, fun a z => absurd z (by simp)⟩
  | _, _, .int i, _, r => by
    obtain ⟨t, rfl⟩ := (show ∃ t, _ = Value.int i t from r)
    exact ⟨_, Reads.int i t, fun a z => absurd z (by simp)⟩
  | _, _, .str x, _, r => by
    obtain ⟨t, rfl⟩ := (show ∃ t, _ = Value.str x t from r)
    exact ⟨_, Reads.str x t, fun a z => absurd z (by simp)⟩
  | _, _, .lst (a := a) e hd, _, r => by
    cases (show _ = Value.ref a from r)
    obtain ⟨_, its, n, rv, ho⟩ := (show ObjOk P w H h a (.lst _) from ok a _ e)
    obtain ⟨as, q1, q2⟩ := DwAll.reads ok hd rv
    refine ⟨_, Reads.list ho rfl rfl q1, fun b z => ?_⟩
    rcases List.mem_cons.mp z with rfl | z
    · rw [e]
      rfl
    · exact q2 b z
  | _, _, .tup (a := a) e hd, _, r => by
    cases (show _ = Value.ref a from r)
    obtain ⟨_, its, rv, o, ho, hc, n, hdt⟩ := (show ObjOk P w H h a (.tup _) from ok a _ e)
    obtain ⟨as, q1, q2⟩ := DwAll.reads ok hd rv
    exact ⟨_, Reads.tuple ho hc hdt q1, q2⟩
  | _, _, .dct (a := a) e hd, _, r => by
    cases (show _ = Value.ref a from r)
    obtain ⟨_, _, vs, kv, o, es, ep, ho, hex, hdt, _, hp, _⟩ := (show ObjOk P w H h a (.dK _) from ok a _ e)
    obtain ⟨as, q1, q2⟩ := DwAll.reads ok hd (vals_of_kv kv hp)
    have hl := hd.length
    rw [List.length_map] at hl
    have k1 := keys_read (h := h) kv hp
    refine ⟨_, Reads.dict (as := []) (bs := as) ho hex.1 hdt ?_ ?_, fun b z => ?_⟩
    · rw [zip_fs (by rw [List.length_map]; exact hl)]
      exact k1
    · rw [zip_sd (by rw [List.length_map]; exact hl)]
      exact q1
    · rcases List.mem_cons.mp z with rfl | z
      · rw [e]
        rfl
      · exact q2 b z
theorem DwAll.reads (ok : HOk P w H h) : ∀ {vs : List V} {ds : List PyData}, DwAll H vs ds → ∀ {us : List Value}, Vals vs us →
    ∃ as, ReadsAll h us ds as ∧ ∀ a ∈ as, (H a).isSome = true
  | _, _, .nil, _, .nil => ⟨_, ReadsAll.nil, fun a z => absurd z (by simp)⟩
  | _, _, .cons hd ht, _, .cons r t => by
    obtain ⟨as, q1, q2⟩ := Dw.reads ok hd r
    obtain ⟨bs, q3, q4⟩ := DwAll.reads ok ht t
    refine ⟨_, ReadsAll.cons q1 q3, fun a z => ?_⟩
    rcases List.mem_append.mp z with z | z
    · exact q2 a z
    · exact q4 a z
end
end

mutual
theorem Dw.same {H H' : Hp} (S : Same H H') : ∀ {v : V} {d : PyData}, Dw H v d → Dw H' v d
  | _, _, .non => .non
  | _, _, .bl b => .bl b
  | _, _, .int i => .int i
  | _, _, .str x => .str x
  | _, _, .lst e hd => .lst (S _ _ e) (DwAll.same S hd)
  | _, _, .tup e hd => .tup (S _ _ e) (DwAll.same S hd)
  | _, _, .dct e hd => .dct (S _ _ e) (DwAll.same S hd)
theorem DwAll.same {H H' : Hp} (S : Same H H') : ∀ {vs : List V} {ds : List PyData}, DwAll H vs ds → DwAll H' vs ds
  | _, _, .nil => .nil
  | _, _, .cons hd ht => .cons (Dw.same S hd) (DwAll.same S ht)
end

/-- repr(x), x a list, tuple or dict of data -/
def rRepr : List V → Hp → VK → Prop := fun xs H Q => ∃ (a : Addr) (d : PyData), xs = [.ref a] ∧ Dw H (.ref a) d ∧
  d.showable = true ∧ d.depth ≤ 60 ∧ d.shown.length ≤ sizeLine ∧ Q (.str d.shown) H
theorem call_reprD {X : Cx} (hgu : X.A.guards = some []) (hu : X.A.units + 64 < cLine)
    (hsys : (X.K.lookup sysModules).isSome = true) : CallR X (.builtin "repr") rRepr := by
  intro pins s σ H xs us Q I r h
  obtain ⟨a, d, rfl, hd, h1, h2, h3, q⟩ := h
  obtain ⟨u, rfl, ru⟩ := vals1 r
  have ru' : u = Value.ref a := ru
  subst ru'
  obtain ⟨as, hr, hm⟩ := Dw.reads I.hok hd ru
  have hno : sysModules ∉ as := fun z => by
    have e := hm _ z
    obtain ⟨o, ho⟩ := Option.isSome_iff_exists.mp hsys
    rw [(I.bs _ _ (I.mod.kin _ _ ho)).2] at e
    cases e
  refine repr_of_reads' hr h1 (fun _ => hno) hgu (by omega) (fun b o e => e) (fun h' tk1 tk k => ?_) h3
  exact ⟨.str d.shown, H, I.kept k, ⟨_, rfl⟩, q⟩
end L2
set_option maxHeartbeats 8000000
/-! the law's own call, which is outside of any repr -/
namespace L2
open PySem PySem.Spec PyProof.Rows

theorem law_callG {P : Program} {w : World} {K : PySem.W.Frag} {mg mb : Str → Option Value} {k : Nat} {fa a : Addr}
    {fd : FuncData} {x : Str} {sp : Sp} {s1 : Shared} {vs : List Value} {ns : List Int}
    (KX : K.In s1.heap) (hns : s1.heap.Ns mainGlobals mg) (hb : s1.heap.Ns builtinsNs mb)
    (hbb : ∀ x : Str, x ≠ "__name__" → mb x = bootBuiltins x) (hlim : s1.heap.NoLimit) (hg : s1.gens = #[])
    (ha : s1.heap.get? a = some { cls := .type "list", data := .seq vs.toArray }) (hi : IntsAre vs ns)
    (hl : ns.length ≤ sizeLine) (hr : Room k callerA)
    (F : ∀ base : Heap, K.In base → base.Ns mainGlobals mg → FnG P w K mg base k fa fd [x] sp)
    (hbind : ∀ (s : Shared) (u : Value), BindsTo s fd ⟨[u], []⟩ [(x, u)])
    (hsp : ∀ H : Hp, Only H → SqL K H a (ns.map V.int) → sp [.ref a] H (fun v _ => v = .bl true) E0) :
    codeAny (model P w) callerA (.call (.ref fa) ⟨[.ref a], []⟩)
      (fun r s' => r = .ok (.ret (.bool true)) ∧ OldK s1.heap s'.heap ∧ s'.os = s1.os ∧ AllBare s'.gens) s1 := by
  have rv := vals_ints hi
  have lenV := hi.length
  have core : ∀ H : Hp, Only H → SqL K H a (ns.map V.int) → HOk P w H s1.heap →
      (∀ b, H b ≠ none → b = a) → (H a ≠ none → K.lookup a = none) →
      codeAny (model P w) callerA (.call (.ref fa) ⟨[.ref a], []⟩)
        (fun r s' => r = .ok (.ret (.bool true)) ∧ OldK s1.heap s'.heap ∧ s'.os = s1.os ∧ AllBare s'.gens) s1 := by
    intro H hO hS hok hA hK
    have nowhere : ∀ b, b ≠ a → H b = none := fun b ne => by
      cases q : H b with
      | none => rfl
      | some u => exact absurd (hA b (by rw [q]; simp)) ne
    have baseOf : ∀ {b : Addr} {o : Obj}, s1.heap.get? b = some o → H b = none →
        (hidT s1.heap H).get? b = some o := fun e n => hidT_get e n
    have noA : ∀ {b : Addr} {o : Obj} {es : Array DictEntry} {ep : Nat}, s1.heap.get? b = some o →
        o.data = .dict es ep → H b = none := fun {b o es ep} e d => by
      refine nowhere b fun z => ?_
      rw [z, ha] at e
      cases e
      exact nomatch (show Data.seq vs.toArray _ = Data.dict es ep from d)
    have nsK : ∀ {b : Addr} {m : Str → Option Value}, s1.heap.Ns b m → (hidT s1.heap H).Ns b m :=
      fun {b m} ⟨o, es, ep, e, d, r⟩ => ⟨o, es, ep, baseOf e (noA e d), d, r⟩
    have hKb : K.In (hidT s1.heap H) := fun b o e => baseOf (KX b o e) (by
      cases q : H b with
      | none => rfl
      | some u =>
        have e' : b = a := hA b (by rw [q]; simp)
        have n1 := hK (by rw [← e', q]; simp)
        rw [← e', e] at n1
        cases n1)
    have hM : Mod K mg (hidT s1.heap H) := by
      obtain ⟨mc, h1, h2⟩ := hlim
      exact ⟨hKb, nsK hns, ⟨mb, nsK hb, hbb⟩, ⟨mc, nsK h1, h2⟩⟩
    have e0 : Env0 P w K mg (hidT s1.heap H) callerA [] s1 H :=
      ⟨rfl, hM, fun b o e => of_hidT e, Nat.le_of_eq (hidT_size _ _), trivial,
        fun b hb => absurd (show b ∈ ([] : List Addr) from hb) (by simp), hok, .of_eq hg⟩
    have run := (F _ hKb (nsK hns)).run callerA [] s1 H ⟨[.ref a], []⟩ [.ref a] [.ref a] _ rfl hr e0
      (hbind s1 (.ref a)) (.cons rfl .nil) (hsp H hO hS)
    refine codeAny_mono run fun r s' h => ?_
    cases r with
    | error e => exact False.elim h
    | ok fl =>
      cases fl with
      | next => exact False.elim h
      | brk => exact False.elim h
      | cont => exact False.elim h
      | ret u =>
        obtain ⟨v, H', os, bare, un, hok', r', q⟩ := h
        have q' : v = .bl true := q
        subst q'
        have eu : u = Value.bool true := r'
        subst eu
        refine ⟨rfl, OldK.of_keep fun b o e => ?_, os, bare⟩
        cases q : H b with
        | none => exact un.keep b o e q (fun z => absurd (show b ∈ ([] : List Addr) from z) (by simp)) (by simp)
        | some u =>
          rcases hO b with z | ⟨ob, xs, z⟩
          · rw [q] at z
            cases z
          · obtain ⟨e1, _⟩ := hok b _ z
            obtain ⟨e2, _⟩ := hok' b _ (un.frzs b ob _ z)
            rw [e] at e1
            rw [Option.some.inj e1]
            exact e2
  cases hk : K.lookup a with
  | some o =>
    have e := KX a o hk
    rw [ha] at e
    cases e
    refine core (fun _ => none) (fun _ => .inl rfl) (.inr ⟨_, vs.toArray, _, hk, rfl, rfl, rfl, ?_, ?_⟩)
      (fun b u z => nomatch (show (none : Option HO) = some u from z)) (fun b z => absurd rfl z) fun z => absurd rfl z
    · rw [List.size_toArray, lenV]
      exact hl
    · simpa using rv
  | none =>
    let Hs : Hp := fun b => if b = a then
      some (.frz { cls := .type "list", data := .seq vs.toArray } (.lst (ns.map V.int))) else none
    have Hs1 : Hs a = some (.frz { cls := .type "list", data := .seq vs.toArray } (.lst (ns.map V.int))) := if_pos rfl
    have Hs2 : ∀ {b}, b ≠ a → Hs b = none := fun ne => if_neg ne
    refine core Hs (fun b => ?_) (.inl (.inr ⟨_, Hs1⟩)) (fun b u z => ?_) (fun b z => ?_) fun _ => hk
    · by_cases hb : b = a
      · subst hb
        exact .inr ⟨_, _, Hs1⟩
      · exact .inl (Hs2 hb)
    · by_cases hb : b = a
      · subst hb
        rw [Hs1] at z
        cases z
        refine ⟨ha, ?_, vs, _, rv, ha⟩
        rw [List.length_map]
        exact hl
      · rw [Hs2 hb] at z
        cases z
    · by_cases hb : b = a
      · exact hb
      · exact absurd (Hs2 hb) z

theorem walk_ofG {l : PySem.W.OpenLaw} {n k : Nat} {q : Program} {loose : List Str}
    {XP : (Str → Option Value) → Heap → Prop} {YP : World → Heap → Prop} {d : DefRec} {K : Params → PySem.W.Frag}
    {sp : World → Sp} {x : Str} (hn : l.most = some n) (hn2 : n ≤ sizeLine) (hdf : d.params.defaults = [])
    (hr : Room k callerA) (hY : ∀ (w : World) (h : Heap), YP w h → (K w.params).In h)
    (F : ∀ (w : World) (mg : Str → Option Value) (fa : Addr) (h : Heap), (K w.params).In h → h.Ns mainGlobals mg →
      mg d.name = some (.ref fa) → ∃ fd : FuncData, (∀ (s : Shared) (u : Value), BindsTo s fd ⟨[u], []⟩ [(x, u)]) ∧
        ∀ base : Heap, (K w.params).In base → base.Ns mainGlobals mg → FnG l.prog w (K w.params) mg base k fa fd [x] (sp w))
    (hsp : ∀ (w : World) (H : Hp) (a : Addr) (ns : List Int), ns.length ≤ n → Only H →
      SqL (K w.params) H a (ns.map V.int) → sp w [.ref a] H (fun v _ => v = .bl true) E0) :
    PySem.W.WalkO q loose XP YP l.row.toRowW d [] (fun f vs => PySem.call f vs) := by
  refine Att.attach_call hn hdf fun w s0 s1 mg mb fa o pm cd doc a vs ns G Y ho hd hcd hmg hobj hints hlen hg => ?_
  have KX := hY w _ Y
  obtain ⟨fd, hb, hF⟩ := F w mg fa _ KX G.T.g hmg
  exact law_callG KX G.T.g G.T.b G.T.builtins G.T.nolimit hg hobj hints (Nat.le_trans hlen hn2) hr hF hb
    fun H hO hS => hsp w H a ns hlen hO hS
end L2
set_option maxHeartbeats 8000000
namespace K17
open PySem PySem.Spec PyProof.Rows L2

def top (i : Nat) : Stmt := PySem.Challenge.pw_anyshape_k17_whole_sizes_by_points.main.body.getD i (.Pass ⟨0, 0, 0, 0⟩)
abbrev sRng : Stmt := top 61
abbrev sDraw : Stmt := top 62
abbrev sChoice : Stmt := top 63
abbrev sThing : Stmt := top 64
abbrev sPlaced : Stmt := top 54
abbrev sNamed : Stmt := top 63
abbrev sFields : Stmt := top 64
abbrev sTruths : Stmt := top 54
abbrev sMade : Stmt := top 55
abbrev sRight : Stmt := top 56
abbrev sLaw : Stmt := top 57

/-- the built-in names that are still built-in -/
structure Nb (mg : Str → Option Value) : Prop where
  len : mg "len" = none
  max : mg "max" = none
  min : mg "min" = none
  abs : mg "abs" = none
  int : mg "int" = none
  divmod : mg "divmod" = none
  repr : mg "repr" = none
  isi : mg "isinstance" = none
  range : mg "range" = none
  enum : mg "enumerate" = none
  all : mg "all" = none

/-! ### the promises -/
/-- _law_rng(script, k): a new list of two numbers -/
def spRng (K : PySem.W.Frag) : Sp := fun vs H Q _ => ∃ (a : Addr) (ns : List Int) (k : Int), vs = [.ref a, .int k] ∧
  SqL K H a (ns.map V.int) ∧ 0 ≤ k ∧ k ≤ 100 ∧ ns.length ≤ 1000 ∧
  ∀ (p : Addr) (x y : Int), H p = none → 0 ≤ x → 0 ≤ y → y < 4294967296 → Q (.ref p) (upd H p (.lst [.int x, .int y]))
/-- the numbers at r -/
def Rg (H : Hp) (r : Addr) : Prop := ∃ x y : Int, H r = some (.lst [.int x, .int y]) ∧ 0 ≤ x ∧ 0 ≤ y ∧ y < 4294967296
/-- all but what stands at r is kept -/
def But (r : Addr) (H H' : Hp) : Prop := ∀ b o, b ≠ r → H b = some o → H' b = some o
theorem But.trans {r : Addr} {H H1 H2 : Hp} (a : But r H H1) (b : But r H1 H2) : But r H H2 :=
  fun c o ne e => b c o ne (a c o ne e)
/-- _law_draw(rng, many) -/
def spDraw : Sp := fun vs H Q _ => ∃ (r : Addr) (m : Int), vs = [.ref r, .int m] ∧ Rg H r ∧ 0 < m ∧ m ≤ 1000000 ∧
  ∀ (H' : Hp) (d : Int), 0 ≤ d → d < m → Rg H' r → But r H H' → Q (.int d) H'
/-- _law_choice(rng, some), some a list -/
def spChoice : Sp := fun vs H Q _ => ∃ (r l : Addr) (xs : List V), vs = [.ref r, .ref l] ∧ Rg H r ∧ l ≠ r ∧
  H l = some (.lst xs) ∧ 0 < xs.length ∧ xs.length < 1000000 ∧
  ∀ (H' : Hp) (v : V), v ∈ xs → Rg H' r → But r H H' → Q v H'

section
variable {P : Program} {w : World} {K : PySem.W.Frag} {mg : Str → Option Value} {base : Heap}

theorem scRng : FnScope ["_law_script", "_law_k", "_law_cell"] ["_law_script", "_law_k"] (defScope sRng) :=
  ⟨rfl, rfl, rfl, by decide +kernel, rfl, by decide +kernel, by decide +kernel⟩

theorem rng_end {c k : Int} (hk : 0 ≤ k) (hk2 : k ≤ 100) :
    (0 ≤ (if (if c < 0 then -c else c) - 10 ^ 18 > 0 then (if c < 0 then -c else c) - 10 ^ 18 else (0 : Int))) ∧
    (∀ z : Int, 0 ≤ z → 0 ≤ z * (2 * k + 7) ^ 3 % 2147483489 + 1) ∧
    (∀ z : Int, z * (2 * k + 7) ^ 3 % 2147483489 + 1 < 4294967296) := by
  refine ⟨?_, fun z hz => ?_, fun z => ?_⟩
  · split <;> omega
  · have := Int.emod_nonneg (z * (2 * k + 7) ^ 3) (show (2147483489 : Int) ≠ 0 by decide)
    omega
  · have := Int.emod_lt_of_pos (z * (2 * k + 7) ^ 3) (show (0 : Int) < 2147483489 by decide)
    omega

theorem ok_rng {f : Addr} {fd : FuncData} (F : Fun K "_law_rng" "_law_rng" sRng f fd) (T : Nb mg) :
    FnOk P w K mg base CX0 1 f fd ["_law_script", "_law_k"] (spRng K) := by
  refine F.ok scRng (fun vs H Q E h => ?_) (fun cdv A outer s H vs Q E hr h => ?_)
  · obtain ⟨a, ns, k, rfl, _⟩ := h
    rfl
  · obtain ⟨a, ns, k, rfl, hS, hk, hk2, hn, q⟩ := h
    refine ⟨_, pss_cons (ps_set (i := 2) scRng.nd rfl (.inl rfl) (pe_op op_add (pe_op op_mul pe_int (pv 1)) pe_int))
      (pss_cons (ps_if (pt_cmpR op_lt (pv 1) (pe_callB call_len_seq (by rfl) T.len PySem.boot_len (pa_cons (pv 0) pa_nil)) (nomark _))
        (pss_one (ps_set (i := 2) scRng.nd rfl (.inl rfl) (pe_ix ix_list (pv 0) (pv 1) (fun _ _ => rfl)))) pss_nil)
      (pss_one (ps_ret (pe_lst (pa_cons
        (pe_callB (call_max2 rfl) (by rfl) T.max (by decide +kernel) (pa_cons pe_int (pa_cons
          (pe_op op_sub (pe_callB call_abs (by rfl) T.abs (by decide +kernel) (pa_cons (pv 2) pa_nil)) (pe_op op_pow pe_int pe_int)) pa_nil)))
        (pa_cons (pe_op op_add (pe_op op_mod (pe_op op_mul
          (pe_callTy call_int1 (by rfl) T.int (by decide +kernel) (pa_cons
            (pe_op op_add (pe_op op_mod (pe_callTy call_int1 (by rfl) T.int (by decide +kernel) (pa_cons
              (pe_callB call_abs (by rfl) T.abs (by decide +kernel) (pa_cons (pv 2) pa_nil)) pa_nil)) pe_int) pe_int) pa_nil))
          (pe_op op_pow (pe_op op_add (pe_op op_mul pe_int (pv 1)) pe_int) pe_int)) pe_int) pe_int) pa_nil)))))), ?_⟩
    have fin : ∀ c : Int, ∀ p : Addr, H p = none → Q (.ref p) (upd H p (.lst [
        .int (if (if c < 0 then -c else c) - 10 ^ 18 > 0 then (if c < 0 then -c else c) - 10 ^ 18 else 0),
        .int (((if c < 0 then -c else c) % 2147483549 + 1) * (2 * k + 7) ^ 3 % 2147483489 + 1)])) := fun c p hp => by
      obtain ⟨h1, h2, h3⟩ := rng_end (c := c) hk hk2
      refine q p _ _ hp h1 (h2 _ ?_) (h3 _)
      have := Int.emod_nonneg (if c < 0 then -c else c) (show (2147483549 : Int) ≠ 0 by decide)
      omega
    have ret : ∀ c : Int, ∀ σ : L2.St, σ = [some (.ref a), some (.int k), some (.int c)] →
        tRet (tLst (tCons
            (tCB (fun xs H Q => ∃ i j, xs = [V.int i, V.int j] ∧ Q (V.int (if j > i then j else i)) H)
              (tCons (tC (V.int 0)) (tCons (tOp (rI0 fun i j => V.int (i - j))
                (tCB (fun xs H Q => ∃ i, xs = [V.int i] ∧ Q (V.int (if i < 0 then -i else i)) H) (tCons (tVar 2) tNil))
                (tOp (rI CPow fun i j => V.int (i ^ j.toNat)) (tC (V.int 10)) (tC (V.int 18)))) tNil)))
            (tCons (tOp (rI0 fun i j => V.int (i + j)) (tOp (rI (fun x j => 0 < j) fun i j => V.int (i % j))
              (tOp (rI CMul fun i j => V.int (i * j))
                (tCB (fun xs H Q => (∃ i, xs = [V.int i] ∧ Q (V.int i) H) ∨ ∃ k, xs = [V.bl k] ∧ Q (V.int (if k = true then 1 else 0)) H)
                  (tCons (tOp (rI0 fun i j => V.int (i + j)) (tOp (rI (fun x j => 0 < j) fun i j => V.int (i % j))
                    (tCB (fun xs H Q => (∃ i, xs = [V.int i] ∧ Q (V.int i) H) ∨ ∃ k, xs = [V.bl k] ∧ Q (V.int (if k = true then 1 else 0)) H)
                      (tCons (tCB (fun xs H Q => ∃ i, xs = [V.int i] ∧ Q (V.int (if i < 0 then -i else i)) H) (tCons (tVar 2) tNil)) tNil))
                    (tC (V.int 2147483549))) (tC (V.int 1))) tNil))
                (tOp (rI CPow fun i j => V.int (i ^ j.toNat)) (tOp (rI0 fun i j => V.int (i + j))
                  (tOp (rI CMul fun i j => V.int (i * j)) (tC (V.int 2)) (tVar 1)) (tC (V.int 7))) (tC (V.int 3))))
              (tC (V.int 2147483489))) (tC (V.int 1))) tNil)))
          { nx := fun x H' => Q V.non H', rt := Q } σ H := by
      intro c σ hσ
      subst hσ
      have b1 := Int.emod_nonneg (if c < 0 then -c else c) (show (2147483549 : Int) ≠ 0 by decide)
      have b2 := Int.emod_lt_of_pos (if c < 0 then -c else c) (show (0 : Int) < 2147483549 by decide)
      refine ⟨_, rfl, _, rfl, _, _, rfl, rfl, ⟨by decide, by decide, by decide⟩, _, _, rfl, rfl, _, _, rfl, ?_⟩
      refine ⟨_, rfl, _, rfl, .inl ⟨_, rfl, ?_⟩⟩
      refine ⟨_, _, rfl, rfl, (by show (0 : Int) < 2147483549; decide), _, _, rfl, rfl, .inl ⟨_, rfl, ?_⟩⟩
      refine ⟨_, rfl, _, _, rfl, rfl, .inl ⟨by decide, by decide⟩, _, _, rfl, rfl, _, _, rfl, rfl, ⟨by decide, by decide, by omega⟩, ?_⟩
      refine ⟨_, _, rfl, rfl, .inl ⟨by omega, by omega⟩, _, _, rfl, rfl, (by show (0 : Int) < 2147483489; decide), _, _, rfl, rfl, ?_⟩
      refine ⟨by show 2 ≤ sizeLine; rw [sizeLine_eq]; decide, fun p hp => ?_⟩
      exact fin c p hp
    refine ⟨_, rfl, _, _, rfl, rfl, .inl ⟨by decide, by decide⟩, _, _, rfl, rfl, ?_⟩
    refine ⟨_, rfl, _, rfl, a, _, rfl, .inl hS, _, _, rfl, rfl, _, rfl, ?_⟩
    refine ite2 (fun hlt => ?_) fun _ => ?_
    · have hlt' := of_decide_eq_true hlt
      rw [List.length_map] at hlt'
      obtain ⟨j, rfl⟩ : ∃ j : Nat, k = (j : Int) := ⟨k.toNat, by omega⟩
      have hj : j < ns.length := by omega
      refine ⟨_, rfl, _, rfl, a, _, _, .int ns[j], rfl, rfl, hS, atI_nat ?_, ?_⟩
      · rw [List.getElem?_map, List.getElem?_eq_getElem hj]
        rfl
      · exact ret ns[j] _ rfl
    · exact ret (17 * k + 5) _ rfl
end
end K17
set_option maxHeartbeats 8000000
namespace K17
open PySem PySem.Spec PyProof.Rows L2
section
variable {P : Program} {w : World} {K : PySem.W.Frag} {mg : Str → Option Value} {base : Heap}

theorem scDraw : FnScope ["_law_rng_here", "_law_bound", "_law_digit"] ["_law_rng_here", "_law_bound"] (defScope sDraw) :=
  ⟨rfl, rfl, rfl, by decide +kernel, rfl, by decide +kernel, by decide +kernel⟩
theorem two_size : ([V.int 0, V.int 0] : List V).length ≤ sizeLine := by
  show 2 ≤ sizeLine
  rw [sizeLine_eq]
  decide
theorem at0 (x y : Int) : atI [V.int x, V.int y] 0 = some (.int x) := rfl
theorem at1 (x y : Int) : atI [V.int x, V.int y] 1 = some (.int y) := rfl

theorem ok_draw {f : Addr} {fd : FuncData} (F : Fun K "_law_draw" "_law_draw" sDraw f fd) (T : Nb mg) :
    FnOk P w K mg base CX0 1 f fd ["_law_rng_here", "_law_bound"] spDraw := by
  refine F.ok scDraw (fun vs H Q E h => ?_) (fun cdv A outer s H vs Q E hr h => ?_)
  · obtain ⟨r, m, rfl, _⟩ := h
    rfl
  · obtain ⟨r, m, rfl, ⟨x, y, hR, hx, hy, hy2⟩, hm, hm2, q⟩ := h
    refine ⟨_, pss_cons (ps_if (pt_cmpR op_gt (pe_ix ix_list (pv 0) pe_int (fun _ _ => rfl)) pe_int (nomark _))
        (pss_cons (ps_asg (pe_callB call_divmod (by rfl) T.divmod (by decide +kernel)
            (pa_cons (pe_ix ix_list (pv 0) pe_int (fun _ _ => rfl)) (pa_cons (pv 1) pa_nil)))
          (pg_tup rfl (pgs_cons (pg_sub (pv 0) pe_int set_list) (pgs_cons (pg_name (i := 2) scDraw.nd rfl (Or.inl rfl)) pgs_nil))))
        (pss_one (ps_ret (pv 2)))) pss_nil)
      (pss_cons (ps_asg (pe_op op_mod (pe_callTy call_int1 (by rfl) T.int (by decide +kernel) (pa_cons
          (pe_op op_add (pe_op op_mul (pe_ix ix_list (pv 0) pe_int (fun _ _ => rfl)) pe_int) pe_int) pa_nil)) pe_int)
          (pg_sub (pv 0) pe_int set_list))
      (pss_one (ps_ret (pe_op op_mod (pe_op op_fdiv (pe_op op_mod (pe_callTy call_int1 (by rfl) T.int (by decide +kernel)
        (pa_cons (pe_op op_mul (pe_ix ix_list (pv 0) pe_int (fun _ _ => rfl)) (pe_ix ix_list (pv 0) pe_int (fun _ _ => rfl))) pa_nil))
        pe_int) pe_int) (pv 1))))), ?_⟩
    refine ⟨_, rfl, r, _, _, _, rfl, rfl, SqL.of hR, at0 x y, _, _, rfl, rfl, _, rfl, ?_⟩
    refine ite2 (fun hgt => ?_) fun _ => ?_
    · refine ⟨_, rfl, r, _, _, _, rfl, rfl, SqL.of hR, at0 x y, _, rfl, _, _, rfl, ⟨hm, by omega⟩, fun p hp => ?_⟩
      have npr : p ≠ r := Ne.symm (ne_of_none hR hp)
      have hR1 : upd H p (.tup [.int (x / m), .int (x % m)]) r = some (.lst [.int x, .int y]) := by
        rw [upd_ne npr.symm]
        exact hR
      refine ⟨p, _, rfl, SqT.of upd_same, rfl, ?_⟩
      refine ⟨_, _, rfl, ⟨_, rfl, r, _, _, _, rfl, rfl, hR1, rfl, ?_⟩⟩
      refine ⟨_, _, rfl, rfl, ?_⟩
      refine ⟨_, rfl, ?_⟩
      refine q _ _ (Int.emod_nonneg _ (by omega)) (Int.emod_lt_of_pos _ hm) ⟨x / m, y, upd_same, Int.ediv_nonneg hx (by omega), hy, hy2⟩ ?_
      intro b o ne e
      rw [upd_ne ne, upd_ne (ne_of_none e hp)]
      exact e
    · have c1 := Int.emod_nonneg (y * 40693 + 27017) (show (2147483563 : Int) ≠ 0 by decide)
      have c2 := Int.emod_lt_of_pos (y * 40693 + 27017) (show (0 : Int) < 2147483563 by decide)
      refine ⟨_, rfl, r, _, _, _, rfl, rfl, SqL.of hR, at1 x y, _, _, rfl, rfl, .inl ⟨by omega, by omega⟩, _, _, rfl, rfl, .inl ⟨_, rfl, ?_⟩⟩
      refine ⟨_, _, rfl, rfl, (by show (0 : Int) < 2147483563; decide), ?_⟩
      refine ⟨_, rfl, r, _, _, _, rfl, rfl, hR, rfl, ?_⟩
      refine ⟨_, rfl, r, _, _, _, rfl, rfl, SqL.of upd_same, at1 x _, _, rfl, r, _, _, _, rfl, rfl, SqL.of upd_same, at1 x _, ?_⟩
      refine ⟨_, _, rfl, rfl, .inl ⟨by omega, by omega⟩, .inl ⟨_, rfl, ?_⟩⟩
      refine ⟨_, _, rfl, rfl, (by show (0 : Int) < 2147483477; decide), _, _, rfl, rfl, ⟨by decide, by decide⟩, _, rfl, _, _, rfl, rfl, hm, ?_⟩
      refine q _ _ (Int.emod_nonneg _ (by omega)) (Int.emod_lt_of_pos _ hm) ⟨x, _, upd_same, hx, c1, by omega⟩ ?_
      intro b o ne e
      rw [upd_ne ne]
      exact e

/-! ### _law_choice -/
theorem scChoice : FnScope ["_law_rng_here", "_law_some"] ["_law_rng_here", "_law_some"] (defScope sChoice) :=
  ⟨rfl, rfl, rfl, by decide +kernel, rfl, by decide +kernel, by decide +kernel⟩
theorem ok_choice {f fD : Addr} {fd fdD : FuncData} (F : Fun K "_law_choice" "_law_choice" sChoice f fd) (T : Nb mg)
    (FD : Fun K "_law_draw" "_law_draw" sDraw fD fdD) (bD : Binds K fdD ["_law_rng_here", "_law_bound"] [])
    (gD : mg "_law_draw" = some (.ref fD)) :
    FnOk P w K mg base CX0 2 f fd ["_law_rng_here", "_law_some"] spChoice := by
  have GD : FnOk P w K mg base CX0 1 fD fdD ["_law_rng_here", "_law_bound"] spDraw := ok_draw FD T
  refine F.ok scChoice (fun vs H Q E h => ?_) (fun cdv A outer s H vs Q E hr h => ?_)
  · obtain ⟨r, l, xs, rfl, _⟩ := h
    rfl
  · obtain ⟨r, l, xs, rfl, hR, hne, hl, h0, h1, q⟩ := h
    refine ⟨_, pss_one (ps_ret (pe_ix ix_list (pv 1) (pe_call GD hr rfl gD FD.kp bD .nil pass0
      (pa_cons (pv 0) (pa_cons (pe_callB call_len_seq (by rfl) T.len PySem.boot_len (pa_cons (pv 1) pa_nil)) pa_nil)))
      (fun _ _ => rfl))), ?_⟩
    refine ⟨_, rfl, _, rfl, _, rfl, l, _, rfl, .inl (SqL.of hl), ?_⟩
    refine ⟨r, _, rfl, hR, by omega, by omega, fun H' d d0 d1 hR' hB => ?_⟩
    obtain ⟨j, rfl⟩ : ∃ j : Nat, d = (j : Int) := ⟨d.toNat, by omega⟩
    have hj : j < xs.length := by omega
    refine ⟨l, xs, _, xs[j], rfl, rfl, SqL.of (hB _ _ hne hl), atI_nat (List.getElem?_eq_getElem hj), ?_⟩
    exact q H' _ (List.getElem_mem hj) hR' hB
end
end K17
set_option maxHeartbeats 8000000
namespace K17
open PySem PySem.Spec PyProof.Rows L2

abbrev sIsInt : Stmt := top 18
abbrev sIsCount : Stmt := top 19
abbrev sIsName : Stmt := top 34

/-- a statement that is never come to -/
theorem ps_no {X : Cx} {st : Stmt} : PS X st (fun _ _ _ => False) := ⟨fun _ _ _ _ _ _ h => h.elim⟩

/-- the built-in names of the kinds -/
structure Nk (mg : Str → Option Value) : Prop where
  isi : mg "isinstance" = none
  int : mg "int" = none
  bool : mg "bool" = none
  str : mg "str" = none
  dict : mg "dict" = none
  len : mg "len" = none
  all : mg "all" = none

/-- is_integer(i) -/
def spIsInt : Sp := fun vs H Q _ => ∃ i : Int, vs = [.int i] ∧ Q (.bl true) H
def spIsCount : Sp := fun vs H Q _ => ∃ i : Int, vs = [.int i] ∧ Q (.bl (decide (0 ≤ i))) H
def abc : Str := "abcdefghijklmnopqrstuvwxyz"
/-- one to eight letters -/
def isNm (x : Str) : Bool := decide (1 ≤ x.length) && (decide (x.length ≤ 8) && x.cps.toList.all fun c => decide (c ∈ abc.cps.toList))
def spIsName (K : PySem.W.Frag) : Sp := fun vs H Q _ => (∃ x : Str, vs = [.str x] ∧ x.length ≤ 1000000 ∧ ∀ H', Same H H' → Q (.bl (isNm x)) H') ∨
  (∃ (v : V) (t : Value), vs = [v] ∧ TyX K H v t ∧ PySem.W.kitOne K t (.type "str") = some false ∧ Q (.bl false) H)

section
variable {P : Program} {w : World} {K : PySem.W.Frag} {mg : Str → Option Value} {base : Heap}
theorem scInt : FnScope ["value"] ["value"] (defScope sIsInt) :=
  ⟨rfl, rfl, rfl, by decide +kernel, rfl, by decide +kernel, by decide +kernel⟩
theorem ok_isint {f : Addr} {fd : FuncData} (F : Fun K "is_integer" "is_integer" sIsInt f fd) (T : Nk mg) :
    FnOk P w K mg base CX0 1 f fd ["value"] spIsInt := by
  refine F.ok scInt (fun vs H Q E h => ?_) (fun cdv A outer s H vs Q E hr h => ?_)
  · obtain ⟨i, rfl, _⟩ := h
    rfl
  · obtain ⟨i, rfl, q⟩ := h
    refine ⟨_, pss_one (ps_ret (pe_and (pe_callB call_isi (by rfl) T.isi (by decide +kernel) (pa_cons (pv 0) (pa_cons (pe_bltn (v := .ty "int") (u := .type "int") (by rfl) T.int (by decide +kernel) rfl) pa_nil)))
      (pe_one (pe_not (pe_callB call_isi (by rfl) T.isi (by decide +kernel) (pa_cons (pv 0) (pa_cons (pe_bltn (v := .ty "bool") (u := .type "bool") (by rfl) T.bool (by decide +kernel) rfl) pa_nil))))))), ?_⟩
    refine ⟨_, rfl, _, _, _, _, true, rfl, .ty _, .base (.int i), kit_ty (by decide +kernel), _, rfl, ?_⟩
    rw [if_pos rfl]
    refine ⟨_, rfl, _, _, _, _, false, rfl, .ty _, .base (.int i), kit_ty (by decide +kernel), _, rfl, ?_⟩
    exact q
theorem scCount : FnScope ["value"] ["value"] (defScope sIsCount) :=
  ⟨rfl, rfl, rfl, by decide +kernel, rfl, by decide +kernel, by decide +kernel⟩
theorem ok_iscount {f fI : Addr} {fd fdI : FuncData} (F : Fun K "is_count" "is_count" sIsCount f fd) (T : Nk mg)
    (GI : FnOk P w K mg base CX0 1 fI fdI ["value"] spIsInt) (kI : PySem.W.keepIn K (.ref fI) = true) (bI : Binds K fdI ["value"] []) (gI : mg "is_integer" = some (.ref fI)) :
    FnOk P w K mg base CX0 2 f fd ["value"] spIsCount := by
  refine F.ok scCount (fun vs H Q E h => ?_) (fun cdv A outer s H vs Q E hr h => ?_)
  · obtain ⟨i, rfl, _⟩ := h
    rfl
  · obtain ⟨i, rfl, q⟩ := h
    refine ⟨_, pss_one (ps_ret (pe_and (pe_call GI hr rfl gI kI bI .nil pass0 (pa_cons (pv 0) pa_nil)) (pe_one (pe_cmpR op_ge (pv 0) pe_int (nomark _))))), ?_⟩
    refine ⟨_, rfl, i, rfl, _, rfl, ?_⟩
    rw [if_pos rfl]
    exact ⟨_, rfl, _, _, rfl, rfl, q⟩
theorem iteT' {c : Bool} {A B : Prop} (hc : c = true) (h : A) : if c = true then A else B := by
  rw [if_pos hc]
  exact h
theorem iteN' {c : Prop} [Decidable c] {A B : Prop} (hc : ¬ c) (h : B) : if decide c = true then A else B := by
  rw [decide_eq_false hc]
  exact iteF h
theorem fresh_upd {H : Hp} {p : Addr} {o : HO} (n : H p = none) : Same H (upd H p o) := fun b u e => by
  rw [upd_ne (ne_of_none e n)]
  exact e
structure Nn2 (mg : Str → Option Value) : Prop where
  lng : ∃ t, mg "LONGEST_NAME" = some (.int 8 t)
  let_ : ∃ t, mg "LETTERS" = some (.str abc t)
def NIn : List Str := ["value", "letter"]
theorem scName : FnScope NIn ["value"] (defScope sIsName) :=
  ⟨rfl, rfl, rfl, by decide +kernel, rfl, by decide +kernel, by decide +kernel⟩
theorem ok_isname {f : Addr} {fd : FuncData} (F : Fun K "is_name" "is_name" sIsName f fd) (T : Nk mg) (T2 : Nn2 mg) :
    FnOk P w K mg base CX0 1 f fd ["value"] (spIsName K) := by
  obtain ⟨tl, gl⟩ := T2.lng
  obtain ⟨ta, ga⟩ := T2.let_
  refine F.ok scName (fun vs H Q E h => ?_) (fun cdv A outer s H vs Q E hr h => ?_)
  · rcases h with ⟨x, rfl, _⟩ | ⟨v, t, rfl, _⟩
    · rfl
    · rfl
  · refine ⟨_, pss_cons (ps_if (PW.pt (pw_or (pt_not (pt_val (pe_callB call_isi (by rfl) T.isi (by decide +kernel) (pa_cons (pv 0) (pa_cons (pe_bltn (v := .ty "str") (u := .type "str") (by rfl) T.str (by decide +kernel) rfl) pa_nil)))))
        (pw_or (pt_cmpR op_lt (pe_callB call_len_str (by rfl) T.len PySem.boot_len (pa_cons (pv 0) pa_nil)) pe_int (nomark _))
          (pw_or1 (pt_cmpR op_gt (pe_callB call_len_str (by rfl) T.len PySem.boot_len (pa_cons (pv 0) pa_nil)) (pe_glob (v := .int 8) (by rfl) gl ⟨tl, rfl⟩) (nomark _))))))
        (pss_one (ps_ret pe_bl)) pss_nil)
      (pss_one (ps_ret (pe_callB (cr_all rfl) (by rfl) T.all (by decide +kernel) (pa_cons
        (pe_lc (own := [("letter", 1)]) (g := gName 1) (tt := tYes) (te := tOp rInS (tVar 1) (tC (.str abc))) rfl scName.nd (pi_str (pv 0))
          (blkOk_by (own := [("letter", 1)]) (N := NIn) (sc := defScope sIsName) (by decide +kernel)) (fun _ _ _ _ _ => pg_name (i := 1) scName.nd rfl (Or.inl rfl))
          (fun _ _ _ _ _ => pts_nil) (fun _ _ _ _ _ => by exact pe_cmpR op_inS (pv 1) (pe_glob (v := .str abc) (by rfl) ga ⟨ta, rfl⟩) rfl)) pa_nil)))), ?_⟩
    rcases h with ⟨x, rfl, hx, q⟩ | ⟨v, t, rfl, ht, hk, q⟩
    · refine ⟨_, rfl, _, _, _, _, true, rfl, .ty _, .base (.str x), kit_ty (by decide +kernel), _, rfl, ?_⟩
      refine iteF ?_
      refine ⟨_, rfl, _, rfl, by rw [sizeLine_eq]; omega, _, _, rfl, rfl, _, rfl, ?_⟩
      refine ite2 (fun h1 => ?_) fun h1 => ?_
      · have h1' := of_decide_eq_true h1
        refine iteT' rfl ?_
        have e : isNm x = false := by
          unfold isNm
          rw [decide_eq_false (by omega)]
          rfl
        rw [← e]
        exact q H (Same.refl H)
      · refine ⟨_, rfl, _, rfl, by rw [sizeLine_eq]; omega, _, _, rfl, rfl, _, rfl, ?_⟩
        have h1' : ¬ ((x.length : Nat) : Int) < 1 := fun z => h1 (decide_eq_true z)
        by_cases h2 : (8 : Int) < ((x.length : Nat) : Int)
        · have e : isNm x = false := by
            unfold isNm
            rw [decide_eq_false (show ¬ x.length ≤ 8 by omega), Bool.false_and, Bool.and_false]
          refine iteT' (decide_eq_true h2) ?_
          rw [← e]
          exact q H (Same.refl H)
        · refine iteN' h2 ?_
          refine ⟨_, rfl, x, rfl, fun D hD => ?_⟩
          refine lc_it walk_str (fun i H2 => H2 D = some (.lst (((x.cps.toList.take i).map fun c => decide (c ∈ abc.cps.toList)).map V.bl)) ∧ Same H H2)
            ⟨upd_same, fresh_upd hD⟩ (fun _ _ _ _ => trivial) ?_ ?_
          · rintro i v H2 H3 hi ⟨hD2, S2⟩ ⟨rfl, c, hc, rfl⟩
            refine ⟨rfl, ?_⟩
            unfold tYes
            dsimp only
            rw [if_pos rfl]
            refine ⟨_, rfl, c, abc, rfl, rfl, _, hD2, ?_, ?_, fun b o e => ?_⟩
            · rw [List.length_map, List.length_map, List.length_take, sizeLine_eq]
              have hl : x.length = x.cps.size := rfl
              have hm := Nat.min_le_left i x.cps.toList.length
              omega
            · have hc2 : x.cps.toList[i]? = some c := by rw [Array.getElem?_toList]; exact hc
              rw [upd_same, List.take_add_one, hc2]
              simp
            · rw [upd_ne (ne_of_none e hD)]
              exact S2 b o e
          · rintro H2 ⟨hD2, S2⟩
            refine ⟨D, _, rfl, SqL.of hD2, ?_⟩
            have e : ((x.cps.toList.take x.cps.size).map fun c => decide (c ∈ abc.cps.toList)).all id = isNm x := by
              unfold isNm
              rw [decide_eq_true (show 1 ≤ x.length by omega), decide_eq_true (show x.length ≤ 8 by omega), Bool.true_and, Bool.true_and,
                show x.cps.size = x.cps.toList.length from (Array.length_toList ..).symm, List.take_length, List.all_map]
              rfl
            rw [e]
            exact q H2 S2
    · refine ⟨_, rfl, _, _, _, _, false, rfl, .ty _, ht, hk, _, rfl, ?_⟩
      refine iteT' rfl ?_
      exact q
end
end K17
set_option maxHeartbeats 8000000
namespace K17
open PySem PySem.Spec PyProof.Rows L2

/-! ### dicts from names to integers -/
abbrev Es : Type := List (Str × Int)
def ky (n : Str) : Key := Sum.inr n
def kv (es : Es) : List (Key × V) := es.map fun p => (ky p.1, V.int p.2)
theorem kv_len (es : Es) : (kv es).length = es.length := List.length_map ..
theorem ky_inj {a b : Str} (h : ky a = ky b) : a = b := Sum.inr.inj h
theorem val_kv (n : Str) : ∀ es : Es, valV (kv es) (ky n) = (es.lookup n).map V.int
  | [] => rfl
  | (m, i) :: r => by
    show valV ((ky m, V.int i) :: kv r) (ky n) = _
    by_cases h : m = n
    · subst h
      rw [valV_pos rfl, List.lookup_cons_self]
      rfl
    · rw [valV_neg (show ¬ ky m = ky n from fun z => h (ky_inj z)), val_kv n r]
      have e : (n == m) = false := by simpa using fun z => h z.symm
      rw [List.lookup_cons, e]
theorem val_none {n : Str} {es : Es} (h : n ∉ es.map (·.1)) : valV (kv es) (ky n) = none := by
  rw [val_kv]
  have e : es.lookup n = none := by
    induction es with
    | nil => rfl
    | cons p r ih =>
      rw [List.map_cons, List.mem_cons, not_or] at h
      have e : (n == p.1) = false := by simpa using h.1
      rw [List.lookup_cons, e]
      exact ih h.2
  rw [e]
  rfl

/-- a dict comprehension over any walk -/
theorem dc_it {J : It} {n : Nat} {G : Hp → Prop} {Y : Nat → Hp → V → Hp → Prop} (w : Walk J n G Y) {g : TG} {tt : TT} {tk tv : TE} {vs : List Nat} {σ : L2.St} {H1 : Hp} {D : Addr} {Qd : Hp → Prop}
    (Pv : Nat → Hp → Prop) (h0 : Pv 0 (upd H1 D (.dK []))) (hG : ∀ i H, i ≤ n → Pv i H → G H)
    (hs : ∀ i x H H', i < n → Pv i H → Y i H x H' → g x (wipe σ vs) H' fun σ2 H2 => wipe σ2 vs = wipe σ vs ∧ tt σ2 H2 fun b H3 =>
      if b = true then tk σ2 H3 fun y H4 => tv σ2 H4 fun z H5 => ∃ kvs k, y = kV k ∧ H5 D = some (.dK kvs) ∧ kvs.length < sizeLine ∧ Pv (i + 1) (upd H5 D (.dK (putK kvs k z))) else Pv (i + 1) H3)
    (hd : ∀ H, Pv n H → Qd H) :
    ∃ W : Nat → Nat → Hp → Prop, (∃ m, W 0 m (upd H1 D (.dK []))) ∧ ∀ i m H, W i m H →
      (J.stop i H ∧ Qd H) ∨ (J.go i H ∧ ∃ Nx : Hp → Prop, (∀ H', Nx H' → ∃ m', m' < m ∧ W (i + 1) m' H') ∧ ∀ x H', J.yld i H x H' → g x (wipe σ vs) H' fun σ2 H2 => wipe σ2 vs = wipe σ vs ∧ tt σ2 H2 fun b H3 =>
        if b = true then tk σ2 H3 fun y H4 => tv σ2 H4 fun z H5 => ∃ kvs k, y = kV k ∧ H5 D = some (.dK kvs) ∧ kvs.length < sizeLine ∧ Nx (upd H5 D (.dK (putK kvs k z))) else Nx H3) := by
  refine ⟨fun i m H => m = n - i ∧ i ≤ n ∧ Pv i H, ⟨n, by simp, Nat.zero_le _, h0⟩, ?_⟩
  rintro i m H ⟨rfl, hi, p⟩
  have q := hG i H hi p
  by_cases hlt : i < n
  · refine .inr ⟨w.goes i H hlt q, Pv (i + 1), fun H' p' => ⟨n - (i + 1), by omega, rfl, hlt, p'⟩, fun x H' y => hs i x H H' hlt p (w.yields i H x H' hlt q y)⟩
  · have e : i = n := by omega
    subst e
    exact .inl ⟨w.stops H q, hd H p⟩

theorem new_key {es : Es} {g : Str × Int → Str × Int} (hn : (es.map (·.1)).Nodup) {i : Nat} (hi : i < es.length) (hg : ∀ p, (g p).1 = p.1) :
    es[i].1 ∉ ((es.take i).map g).map (·.1) := fun z => by
  rw [List.map_map] at z
  obtain ⟨p, hp, e⟩ := List.mem_map.mp z
  obtain ⟨j, hj, e2⟩ := List.mem_take_iff_getElem.mp hp
  have hj1 : j < es.length := by omega
  have h1 := List.pairwise_iff_getElem.mp hn j i (by rw [List.length_map]; exact hj1) (by rw [List.length_map]; exact hi) (by omega)
  rw [List.getElem_map, List.getElem_map, e2] at h1
  exact h1 ((hg p).symm.trans e)
theorem kv_step {es : Es} {g : Str × Int → Str × Int} {i : Nat} (hi : i < es.length) :
    kv ((es.take (i + 1)).map g) = kv ((es.take i).map g) ++ [(ky (g es[i]).1, V.int (g es[i]).2)] := by
  have e : es.take (i + 1) = es.take i ++ [es[i]] := by
    rw [List.take_add_one, List.getElem?_eq_getElem hi]
    rfl
  rw [e, List.map_append]
  unfold kv
  rw [List.map_append]
  rfl
abbrev sTimes : Stmt := top 59
def mulE (es : Es) (k : Int) : Es := es.map fun p => (p.1, p.2 * k)
def spTimes : Sp := fun vs H Q _ => ∃ (d : Addr) (es : Es) (k : Int), vs = [.ref d, .int k] ∧ H d = some (.dK (kv es)) ∧ (es.map (·.1)).Nodup ∧ es.length ≤ 1000 ∧
  -(2 ^ 64) < k ∧ k < 2 ^ 64 ∧ ∀ H' D, Same H H' → H D = none → H' D = some (.dK (kv (mulE es k))) → Q (.ref D) H'
def NTi : List Str := ["table", "factor", "name", "count"]
section
variable {P : Program} {w : World} {K : PySem.W.Frag} {mg : Str → Option Value} {base : Heap}
theorem scTimes : FnScope NTi ["table", "factor"] (defScope sTimes) :=
  ⟨rfl, rfl, rfl, by decide +kernel, rfl, by decide +kernel, by decide +kernel⟩
theorem ok_times {f : Addr} {fd : FuncData} (F : Fun K "_times" "_times" sTimes f fd) :
    FnOk P w K mg base CX0 1 f fd ["table", "factor"] spTimes := by
  refine F.ok scTimes (fun vs H Q E h => ?_) (fun cdv A outer s H vs Q E hr h => ?_)
  · obtain ⟨d, es, k, rfl, _⟩ := h
    rfl
  · obtain ⟨d, es, k, rfl, hd, hn, hl, hk1, hk2, q⟩ := h
    refine ⟨_, pss_one (ps_ret (pe_lock (pe_dc (own := [("name", 2), ("count", 3)]) (g := gTup K 2 (gCons (gName 2) (gCons (gName 3) gNil))) (tt := tYes) (tk := tVar 2)
        (tv := tOp (rI CMul fun i j => .int (i * j)) (tVar 3) (tVar 1)) rfl scTimes.nd
      (pi_items (pv 0)) (blkOk_by (own := [("name", 2), ("count", 3)]) (N := NTi) (sc := defScope sTimes) (by decide +kernel))
      (fun _ _ _ _ _ => pg_tup rfl (pgs_cons (pg_name (i := 2) scTimes.nd rfl (Or.inl rfl)) (pgs_cons (pg_name (i := 3) scTimes.nd rfl (Or.inl rfl)) pgs_nil)))
      (fun _ _ _ _ _ => pts_nil) (fun _ _ _ _ _ => by exact pv 2) (fun _ _ _ _ _ => by exact pe_op op_mul (pv 3) (pv 1))))), ?_⟩
    refine ⟨d, _, hd, trivial, fun od => ?_⟩
    refine ⟨_, rfl, d, od, kv es, rfl, upd_same, fun D hD => ?_⟩
    have Dd : D ≠ d := fun z => by
      rw [z, upd_same] at hD
      cases hD
    have hD0 : H D = none := by
      rw [upd_ne Dd] at hD
      exact hD
    refine dc_it walk_items (fun i H2 => H2 D = some (.dK (kv (mulE (es.take i) k))) ∧ H2 d = some (.frz od (.dK (kv es))) ∧ ∀ b o, b ≠ d → H b = some o → H2 b = some o)
      ⟨upd_same, (upd_ne Dd.symm).trans upd_same, fun b o e1 e2 => ?_⟩ (fun i H2 _ p => p.2.1) ?_ ?_
    · rw [upd_ne (ne_of_none e2 hD0), upd_ne e1]
      exact e2
    · rintro i v H2 H3 hi ⟨hD2, hd2, S2⟩ ⟨T, x, y, rfl, nT, rfl, e1, e2⟩
      rw [kv_len] at hi
      have ei : (kv es)[i]? = some (ky es[i].1, V.int es[i].2) := by
        unfold kv
        rw [List.getElem?_map, List.getElem?_eq_getElem hi]
        rfl
      dsimp only at e1 e2
      rw [ei] at e1 e2
      cases e1
      cases e2
      have TD : D ≠ T := ne_of_none hD2 nT
      have Td : d ≠ T := ne_of_none hd2 nT
      refine ⟨T, _, rfl, SqT.of upd_same, rfl, _, _, rfl, _, _, rfl, rfl, rfl, ?_⟩
      unfold tYes
      dsimp only
      rw [if_pos rfl]
      refine ⟨_, rfl, _, rfl, _, rfl, _, _, rfl, rfl, .inr ⟨hk1, hk2⟩, _, ky es[i].1, rfl, (upd_ne TD).trans hD2, ?_, ?_, ?_, fun b o hb e => ?_⟩
      · rw [kv_len]
        unfold mulE
        rw [List.length_map, List.length_take, sizeLine_eq]
        have := Nat.min_le_right i es.length
        omega
      · rw [upd_same]
        have en : es[i].1 ∉ (mulE (es.take i) k).map (·.1) := new_key hn hi fun p => rfl
        rw [putK_new _ (val_none en)]
        exact congrArg (fun z => some (HO.dK z)) (kv_step (g := fun p => (p.1, p.2 * k)) hi).symm
      · rw [upd_ne Dd.symm, upd_ne Td]
        exact hd2
      · rw [upd_ne (ne_of_none e hD0), upd_ne (ne_of_none (S2 b o hb e) nT)]
        exact S2 b o hb e
    · rintro H2 ⟨hD2, hd2, S2⟩
      rw [kv_len] at hD2
      refine ⟨hd2, q _ D (fun b o e => ?_) hD0 ((upd_ne Dd).trans (by rw [List.take_length] at hD2; exact hD2))⟩
      by_cases hb : b = d
      · subst hb
        rw [upd_same]
        exact hd.symm.trans e
      · rw [upd_ne hb]
        exact S2 b o hb e
end
end K17
set_option maxHeartbeats 8000000
namespace K17
open PySem PySem.Spec PyProof.Rows L2

/-! ### texts in sequence: one list alone has these names in sequence -/
theorem lt_irr : ∀ a : List Nat, ltCps a a = false
  | [] => rfl
  | a :: r => by
    show (decide (a < a) || (a == a && ltCps r r)) = false
    rw [lt_irr r]
    simp
theorem lt_tr : ∀ a b c : List Nat, ltCps a b = true → ltCps b c = true → ltCps a c = true
  | [], [], _, h, _ => by cases h
  | [], _ :: _, [], _, h => by cases h
  | [], _ :: _, _ :: _, _, _ => rfl
  | _ :: _, [], _, h, _ => by cases h
  | _ :: _, _ :: _, [], _, h => by cases h
  | a :: r, b :: s, c :: t, h1, h2 => by
    have h1' : (decide (a < b) || (a == b && ltCps r s)) = true := h1
    have h2' : (decide (b < c) || (b == c && ltCps s t)) = true := h2
    show (decide (a < c) || (a == c && ltCps r t)) = true
    simp only [Bool.or_eq_true, Bool.and_eq_true, decide_eq_true_eq, beq_iff_eq] at *
    rcases h1' with h | ⟨rfl, h⟩
    · rcases h2' with g | ⟨rfl, g⟩
      · exact .inl (by omega)
      · exact .inl h
    · rcases h2' with g | ⟨rfl, g⟩
      · exact .inl g
      · exact .inr ⟨rfl, lt_tr r s t h g⟩
theorem lt_tot : ∀ a b : List Nat, ltCps a b = false → ltCps b a = false → a = b
  | [], [], _, _ => rfl
  | [], _ :: _, h, _ => by cases h
  | _ :: _, [], _, h => by cases h
  | a :: r, b :: s, h1, h2 => by
    have h1' : (decide (a < b) || (a == b && ltCps r s)) = false := h1
    have h2' : (decide (b < a) || (b == a && ltCps s r)) = false := h2
    simp only [Bool.or_eq_false_iff, decide_eq_false_iff_not] at h1' h2'
    have e : a = b := by omega
    subst e
    have g1 := h1'.2
    have g2 := h2'.2
    simp only [beq_self_eq_true, Bool.true_and] at g1 g2
    rw [lt_tot r s g1 g2]
def lt (a b : Str) : Prop := ltCps a.cps.toList b.cps.toList = true
theorem str_eq {a b : Str} (h : a.cps.toList = b.cps.toList) : a = b := by
  cases a
  cases b
  congr
  exact Array.toList_inj.mp h
def Sd (l : List Str) : Prop := l.Pairwise lt
theorem rise_pw : ∀ (p : Str) (l : List Str), risingS p l = true → (p :: l).Pairwise fun a b => ltCps b.cps.toList a.cps.toList = false
  | p, [], _ => List.pairwise_singleton ..
  | p, x :: r, h => by
    have h' : (!ltCps x.cps.toList p.cps.toList && risingS x r) = true := h
    obtain ⟨h1, h2⟩ := Bool.and_eq_true_iff.mp h'
    have h1' : ltCps x.cps.toList p.cps.toList = false := by simpa using h1
    have ih := rise_pw x r h2
    refine List.pairwise_cons.mpr ⟨fun y hy => ?_, ih⟩
    rcases List.mem_cons.mp hy with rfl | hy
    · exact h1'
    · have h3 := (List.pairwise_cons.mp ih).1 y hy
      -- p ≤ x ≤ y
      cases e : ltCps y.cps.toList p.cps.toList with
      | false => rfl
      | true =>
        cases e2 : ltCps p.cps.toList x.cps.toList with
        | true =>
          have z := lt_tr _ _ _ e e2
          rw [z] at h3
          cases h3
        | false =>
          have q := lt_tot _ _ e2 h1'
          rw [q] at e
          rw [e] at h3
          cases h3
theorem sd_of {l : List Str} (h : sortedS l = true) (hn : l.Nodup) : Sd l := by
  cases l with
  | nil => exact List.Pairwise.nil
  | cons p r =>
    have z := rise_pw p r h
    refine List.Pairwise.imp₂ (fun a b h1 h2 => ?_) z hn
    cases e : ltCps a.cps.toList b.cps.toList with
    | true => exact e
    | false => exact absurd (str_eq (lt_tot _ _ e h1)) h2
theorem Sd.nodup {l : List Str} (h : Sd l) : l.Nodup := List.Pairwise.imp (fun {a b} q e => by
  subst e
  have q' : ltCps a.cps.toList a.cps.toList = true := q
  rw [lt_irr] at q'
  cases q') h
theorem sd_one : ∀ {l m : List Str}, Sd l → Sd m → (∀ x, x ∈ l ↔ x ∈ m) → l = m
  | [], [], _, _, _ => rfl
  | [], b :: s, _, _, h => by
    have := (h b).mpr (List.mem_cons_self ..)
    cases this
  | a :: r, [], _, _, h => by
    have := (h a).mp (List.mem_cons_self ..)
    cases this
  | a :: r, b :: s, h1, h2, h => by
    obtain ⟨p1, q1⟩ := List.pairwise_cons.mp h1
    obtain ⟨p2, q2⟩ := List.pairwise_cons.mp h2
    have nab : ∀ {x y : Str}, lt x y → lt y x → False := fun {x y} u v => by
      have z : ltCps x.cps.toList x.cps.toList = true := lt_tr _ _ _ u v
      rw [lt_irr] at z
      cases z
    have e : a = b := by
      rcases List.mem_cons.mp ((h a).mp (List.mem_cons_self ..)) with e | u
      · exact e
      · rcases List.mem_cons.mp ((h b).mpr (List.mem_cons_self ..)) with e | v
        · exact e.symm
        · exact (nab (p2 a u) (p1 b v)).elim
    subst e
    have e2 : r = s := sd_one q1 q2 fun x => by
      constructor
      · intro hx
        rcases List.mem_cons.mp ((h x).mp (List.mem_cons_of_mem _ hx)) with e | u
        · subst e
          exact (nab (p1 _ hx) (p1 _ hx)).elim
        · exact u
      · intro hx
        rcases List.mem_cons.mp ((h x).mpr (List.mem_cons_of_mem _ hx)) with e | u
        · subst e
          exact (nab (p2 _ hx) (p2 _ hx)).elim
        · exact u
    rw [e2]
/-- exponents in sequence -/
def SdE (es : Es) : Prop := Sd (es.map (·.1))
theorem look_mem {n : Str} : ∀ {es : Es}, (es.lookup n).isSome = true ↔ n ∈ es.map (·.1)
  | [] => by simp [List.lookup]
  | p :: r => by
    rw [List.map_cons, List.mem_cons]
    by_cases h : n = p.1
    · subst h
      constructor
      · intro _
        exact .inl rfl
      · intro _
        rw [show (p :: r : Es) = (p.1, p.2) :: r from rfl, List.lookup_cons_self]
        rfl
    · have e : (n == p.1) = false := by simpa using h
      rw [show (p :: r : Es) = (p.1, p.2) :: r from rfl, List.lookup_cons, e]
      constructor
      · intro z
        exact .inr (look_mem.mp z)
      · rintro (z | z)
        · exact absurd z h
        · exact look_mem.mpr z
theorem eq_of_keys : ∀ {es fs : Es}, (es.map (·.1)).Nodup → es.map (·.1) = fs.map (·.1) → (∀ n, es.lookup n = fs.lookup n) → es = fs
  | [], [], _, _, _ => rfl
  | [], _ :: _, _, h, _ => by cases h
  | _ :: _, [], _, h, _ => by cases h
  | (a, i) :: r, (b, j) :: s, hn, h, hl => by
    rw [List.map_cons, List.map_cons] at h
    injection h with h1 h2
    have h1' : a = b := h1
    subst h1'
    have e := hl a
    rw [List.lookup_cons_self, List.lookup_cons_self] at e
    injection e with e
    subst e
    rw [List.map_cons] at hn
    obtain ⟨n1, n2⟩ := List.pairwise_cons.mp hn
    have q : r = s := eq_of_keys n2 h2 fun n => by
      by_cases z : n = a
      · subst z
        have none_ : ∀ {es : Es}, n ∉ es.map (·.1) → es.lookup n = none := fun {es} q => by
          cases e : es.lookup n with
          | none => rfl
          | some v => exact absurd (look_mem.mp (by rw [e]; rfl)) q
        have nr : n ∉ r.map (·.1) := fun q => n1 n q rfl
        rw [none_ nr, none_ (by rw [← h2]; exact nr)]
      · have e := hl n
        have ne : (n == a) = false := by simpa using z
        rw [List.lookup_cons, List.lookup_cons, ne] at e
        exact e
    rw [q]
theorem SdE.one {es fs : Es} (h : SdE es) (g : SdE fs) (hl : ∀ n, es.lookup n = fs.lookup n) : es = fs :=
  eq_of_keys h.nodup (sd_one h g fun n => by rw [← look_mem, ← look_mem, hl]) hl
end K17
set_option maxHeartbeats 8000000
namespace K17
open PySem PySem.Spec PyProof.Rows L2

/-! ### sums, name by name -/
def g0 (es : Es) (n : Str) : Int := (es.lookup n).getD 0
def putE (t : Es) (n : Str) (v : Int) : Es :=
  if (t.any fun p => decide (p.1 = n)) = true then t.map (fun p => if p.1 = n then (p.1, v) else p) else t ++ [(n, v)]
theorem kv_put (t : Es) (n : Str) (v : Int) : kv (putE t n v) = putK (kv t) (ky n) (.int v) := by
  have e1 : ((kv t).any fun p => decide (p.1 = ky n)) = t.any fun p => decide (p.1 = n) := by
    unfold kv
    rw [List.any_map]
    congr
    funext p
    show decide (ky p.1 = ky n) = decide (p.1 = n)
    exact decide_eq_decide.mpr ⟨ky_inj, fun h => by rw [h]⟩
  unfold putE putK
  rw [e1]
  split
  · unfold kv
    rw [List.map_map, List.map_map]
    refine List.map_congr_left fun p _ => ?_
    show (ky (if p.1 = n then (p.1, v) else p).1, V.int (if p.1 = n then (p.1, v) else p).2) = if ky p.1 = ky n then (ky p.1, V.int v) else (ky p.1, V.int p.2)
    by_cases h : p.1 = n
    · rw [if_pos h, if_pos (by rw [h])]
    · rw [if_neg h, if_neg fun z => h (ky_inj z)]
  · unfold kv
    rw [List.map_append]
    rfl
theorem look_put (t : Es) (n m : Str) (v : Int) : (putE t n v).lookup m = if m = n then some v else t.lookup m := by
  have z := valV_put (kv t) (ky n) (ky m) (V.int v)
  rw [← kv_put, val_kv, val_kv] at z
  by_cases h : m = n
  · subst h
    rw [if_pos rfl] at z ⊢
    cases e : (putE t m v).lookup m with
    | none =>
      rw [e] at z
      cases z
    | some u =>
      rw [e] at z
      injection z with z
      injection z with z
      rw [z]
  · rw [if_neg fun q => h (ky_inj q)] at z
    rw [if_neg h]
    cases e : (putE t n v).lookup m with
    | none =>
      rw [e] at z
      cases e2 : t.lookup m with
      | none => rfl
      | some u =>
        rw [e2] at z
        cases z
    | some u =>
      rw [e] at z
      cases e2 : t.lookup m with
      | none =>
        rw [e2] at z
        cases z
      | some u2 =>
        rw [e2] at z
        injection z with z
        injection z with z
        rw [z]
theorem nod_put {t : Es} (h : (t.map (·.1)).Nodup) (n : Str) (v : Int) : ((putE t n v).map (·.1)).Nodup := by
  unfold putE
  split
  · rw [List.map_map]
    have e : ((fun p : Str × Int => p.1) ∘ fun p => if p.1 = n then (p.1, v) else p) = fun p => p.1 := by
      funext p
      show (if p.1 = n then (p.1, v) else p).1 = p.1
      split <;> rfl
    rw [e]
    exact h
  · rename_i hn
    rw [List.map_append, List.nodup_append]
    refine ⟨h, List.pairwise_singleton .., fun a ha b hb e => ?_⟩
    rw [List.map_cons, List.map_nil, List.mem_singleton] at hb
    subst hb
    subst e
    obtain ⟨p, hp, e⟩ := List.mem_map.mp ha
    exact hn (List.any_eq_true.mpr ⟨p, hp, decide_eq_true e⟩)
theorem len_put (t : Es) (n : Str) (v : Int) : (putE t n v).length ≤ t.length + 1 := by
  unfold putE
  split
  · rw [List.length_map]
    omega
  · rw [List.length_append]
    exact Nat.le_refl _
def addE (t es : Es) : Es := es.foldl (fun t p => putE t p.1 (g0 t p.1 + p.2)) t
theorem addE_snoc (t es : Es) (p : Str × Int) : addE t (es ++ [p]) = putE (addE t es) p.1 (g0 (addE t es) p.1 + p.2) := by
  unfold addE
  rw [List.foldl_append]
  rfl
theorem nod_add : ∀ {es t : Es}, (t.map (·.1)).Nodup → ((addE t es).map (·.1)).Nodup
  | [], _, h => h
  | p :: r, _, h => nod_add (es := r) (nod_put h p.1 _)
theorem len_add : ∀ (es t : Es), (addE t es).length ≤ t.length + es.length
  | [], t => Nat.le_refl _
  | p :: r, t => by
    have h1 := len_add r (putE t p.1 (g0 t p.1 + p.2))
    have h2 := len_put t p.1 (g0 t p.1 + p.2)
    show (addE (putE t p.1 (g0 t p.1 + p.2)) r).length ≤ t.length + (r.length + 1)
    omega
theorem g0_none {es : Es} {n : Str} (h : n ∉ es.map (·.1)) : es.lookup n = none := by
  cases e : es.lookup n with
  | none => rfl
  | some v => exact absurd (look_mem.mp (by rw [e]; rfl)) h
theorem look_add : ∀ {es : Es} (t : Es) (n : Str), (es.map (·.1)).Nodup →
    (addE t es).lookup n = if n ∈ es.map (·.1) then some (g0 t n + g0 es n) else t.lookup n
  | [], t, n, _ => by
    rw [if_neg (by simp)]
    rfl
  | (m, c) :: r, t, n, h => by
    rw [List.map_cons] at h
    obtain ⟨h1, h2⟩ := List.pairwise_cons.mp h
    have ih := look_add (es := r) (putE t m (g0 t m + c)) n h2
    show (addE (putE t m (g0 t m + c)) r).lookup n = _
    rw [ih]
    by_cases e : n = m
    · subst e
      have nr : n ∉ r.map (·.1) := fun q => h1 n q rfl
      rw [if_neg nr, if_pos (by simp), look_put, if_pos rfl]
      unfold g0
      rw [List.lookup_cons_self]
      rfl
    · have eb : (n == m) = false := by simpa using e
      have g1 : g0 (putE t m (g0 t m + c)) n = g0 t n := by
        unfold g0
        rw [look_put, if_neg e]
      have g2 : g0 ((m, c) :: r) n = g0 r n := by
        unfold g0
        rw [List.lookup_cons, eb]
      rw [g1, g2, look_put, if_neg e]
      by_cases q : n ∈ r.map (·.1)
      · rw [if_pos q, if_pos (by rw [List.map_cons]; exact List.mem_cons_of_mem _ q)]
      · rw [if_neg q, if_neg]
        rw [List.map_cons, List.mem_cons]
        rintro (z | z)
        · exact e z
        · exact q z
end K17
set_option maxHeartbeats 8000000
namespace K17
open PySem PySem.Spec PyProof.Rows L2

abbrev sAdded : Stmt := top 2
/-- the tables at these places -/
inductive Tabs (H : Hp) : List V → List Es → Prop
  | nil : Tabs H [] []
  | cons {d : Addr} {es : Es} {vs : List V} {ts : List Es} : H d = some (.dK (kv es)) → (es.map (·.1)).Nodup → Tabs H vs ts → Tabs H (.ref d :: vs) (es :: ts)
def sumE (ts : List Es) : Es := ts.foldl addE []
def lenT (ts : List Es) : Nat := (ts.map List.length).sum
def spAdded (K : PySem.W.Frag) : Sp := fun vs H Q _ => ∃ (a : Addr) (xs : List V) (ts : List Es), vs = [.ref a] ∧ SqL K H a xs ∧ Tabs H xs ts ∧ xs.length ≤ 1000 ∧ lenT ts < 64 ∧
  ∀ H' D es, Same H H' → H D = none → H' D = some (.dK (kv es)) → SdE es → (∀ n, es.lookup n = (sumE ts).lookup n) → es.length ≤ lenT ts → Q (.ref D) H'
def NAd : List Str := ["tables", "total", "table", "name", "count"]
structure Na (mg : Str → Option Value) : Prop where
  sorted : mg "sorted" = none
theorem Tabs.len {H : Hp} : ∀ {vs : List V} {ts : List Es}, Tabs H vs ts → vs.length = ts.length
  | _, _, .nil => rfl
  | _, _, .cons _ _ t => congrArg (· + 1) t.len
theorem Tabs.get {H : Hp} : ∀ {vs : List V} {ts : List Es} {i : Nat} {x : V}, Tabs H vs ts → vs[i]? = some x →
    ∃ d es, x = .ref d ∧ ts[i]? = some es ∧ H d = some (.dK (kv es)) ∧ (es.map (·.1)).Nodup
  | _, _, _, _, .nil, e => by simp at e
  | _, _, 0, _, .cons h n t, e => by
    simp at e
    exact ⟨_, _, e.symm, rfl, h, n⟩
  | _, _, i + 1, _, .cons h n t, e => by
    obtain ⟨d, es, h1, h2, h3⟩ := t.get (i := i) (by simpa using e)
    exact ⟨d, es, h1, by simpa using h2, h3⟩
theorem sumE_snoc (ts : List Es) (es : Es) : sumE (ts ++ [es]) = addE (sumE ts) es := by
  unfold sumE
  rw [List.foldl_append]
  rfl
theorem len_sum : ∀ (ts : List Es) (t : Es), (ts.foldl addE t).length ≤ t.length + lenT ts
  | [], t => Nat.le_refl _
  | e :: r, t => by
    have h1 := len_sum r (addE t e)
    have h2 := len_add e t
    show (r.foldl addE (addE t e)).length ≤ t.length + (e.length + lenT r)
    omega
theorem nod_sum : ∀ (ts : List Es) {t : Es}, (t.map (·.1)).Nodup → ((ts.foldl addE t).map (·.1)).Nodup
  | [], _, h => h
  | _ :: r, _, h => nod_sum r (nod_add h)
theorem lenT_take : ∀ (ts : List Es) (i : Nat), lenT (ts.take i) ≤ lenT ts
  | [], i => by rw [List.take_nil]; exact Nat.le_refl _
  | e :: r, 0 => Nat.zero_le _
  | e :: r, i + 1 => by
    have := lenT_take r i
    show e.length + lenT (r.take i) ≤ e.length + lenT r
    omega
theorem lenT_get {ts : List Es} {i : Nat} {es : Es} (h : ts[i]? = some es) : lenT (ts.take i) + es.length ≤ lenT ts := by
  have e : ts.take (i + 1) = ts.take i ++ [es] := by
    rw [List.take_add_one, h]
    rfl
  have z := lenT_take ts (i + 1)
  rw [e] at z
  unfold lenT at z ⊢
  rw [List.map_append, List.sum_append] at z
  simpa using z
theorem get_int (t : Es) (n : Str) : (valV (kv t) (ky n)).getD (V.int 0) = V.int (g0 t n) := by
  rw [val_kv]
  unfold g0
  cases t.lookup n <;> rfl
section
variable {P : Program} {w : World} {K : PySem.W.Frag} {mg : Str → Option Value} {base : Heap}
theorem scAdded : FnScope NAd ["tables"] (defScope sAdded) :=
  ⟨rfl, rfl, rfl, by decide +kernel, rfl, by decide +kernel, by decide +kernel⟩
theorem ok_added {f : Addr} {fd : FuncData} (F : Fun K "added" "added" sAdded f fd) (T : Na mg) :
    FnOk P w K mg base CX0 1 f fd ["tables"] (spAdded K) := by
  refine F.ok scAdded (fun vs H Q E h => ?_) (fun cdv A outer s H vs Q E hr h => ?_)
  · obtain ⟨a, xs, ts, rfl, _⟩ := h
    rfl
  · obtain ⟨a, xs, ts, rfl, hS, hT, hl, hl2, q⟩ := h
    have hu : (A.deeper (envOfC "added" (defScope sAdded) s.heap.objs.size f cdv)).units + 1 < cLine := by have := hr.units; omega
    refine ⟨_, pss_cons (ps_set (i := 1) scAdded.nd rfl (.inr rfl) pe_dnewK)
      (pss_cons (ps_for PassesOwn.never rfl (pi_list (pv 0)) (pg_name (i := 2) scAdded.nd rfl (Or.inl rfl))
        (pss_one (ps_lock (ps_for PassesOwn.never rfl (pi_items (pv 2)) (pg_tup rfl (pgs_cons (pg_name (i := 3) scAdded.nd rfl (Or.inl rfl)) (pgs_cons (pg_name (i := 4) scAdded.nd rfl (Or.inl rfl)) pgs_nil)))
          (pss_one (ps_dput hu (pv 1) (pv 3) (pe_op op_add (pe_dget2 hu (pv 1) (pv 3) pe_int ⟨rfl, rfl, rfl, rfl⟩) (pv 4)) rfl))))))
      (pss_one (ps_ret (pe_dc (own := [("name", 3)]) (g := gName 3) (tt := tYes) (tk := tVar 3) (tv := tDGet (tVar 1) (tVar 3)) rfl scAdded.nd
        (pi_list (pe_callB (call_sortedD rfl) (by rfl) T.sorted (by decide +kernel) (pa_cons (pv 1) pa_nil)))
        (blkOk_by (own := [("name", 3)]) (N := NAd) (sc := defScope sAdded) (by decide +kernel)) (fun _ _ _ _ _ => pg_name (i := 3) scAdded.nd rfl (Or.inl rfl))
        (fun _ _ _ _ _ => pts_nil) (fun _ _ _ _ _ => by exact pv 3) (fun _ _ _ _ _ => by exact pe_dget hu (pv 1) (pv 3) (fun _ _ => rfl)))))), ?_⟩
    intro p np
    have S0 : Same H (upd H p (.dK [])) := fresh_upd np
    refine ⟨_, rfl, a, rfl, ⟨_, S0.seq hS⟩, for_list (K := K) (a := a) (xs := xs) (fun i σ H2 => (∃ o2 o3 o4, σ = [some (.ref a), some (.ref p), o2, o3, o4]) ∧
      H2 p = some (.dK (kv (sumE (ts.take i)))) ∧ Same H H2) ⟨⟨none, none, none, rfl⟩, upd_same, S0⟩ (fun i σ H2 _ h => h.2.2.seq hS) ?_ ?_⟩
    · rintro i x σ H2 hi ⟨⟨o2, o3, o4, rfl⟩, hp, S2⟩
      obtain ⟨d, es, rfl, ht, hd, hn⟩ := hT.get hi
      have pd : p ≠ d := fun z => by
        rw [z, hd] at np
        cases np
      have hd2 := S2 _ _ hd
      refine ⟨d, _, hd2, trivial, fun od => ?_⟩
      refine ⟨_, rfl, d, od, kv es, rfl, upd_same, for_it walk_items (fun j σ H3 => (∃ o3 o4, σ = [some (.ref a), some (.ref p), some (.ref d), o3, o4]) ∧
        H3 p = some (.dK (kv (addE (sumE (ts.take i)) (es.take j)))) ∧ H3 d = some (.frz od (.dK (kv es))) ∧ ∀ b o, b ≠ d → H b = some o → H3 b = some o)
        ⟨⟨o3, o4, rfl⟩, (upd_ne pd).trans hp, upd_same, fun b o hb e => (upd_ne hb).trans (S2 b o e)⟩ (fun j σ H3 _ h => h.2.2.1) ?_ ?_⟩
      · rintro j v σ H3 H4 hj ⟨⟨o3, o4, rfl⟩, hp3, hd3, S3⟩ ⟨T', y, z, rfl, nT, rfl, e1, e2⟩
        rw [kv_len] at hj
        have ej : (kv es)[j]? = some (ky es[j].1, V.int es[j].2) := by
          unfold kv
          rw [List.getElem?_map, List.getElem?_eq_getElem hj]
          rfl
        dsimp only at e1 e2
        rw [ej] at e1 e2
        cases e1
        cases e2
        have pT : p ≠ T' := ne_of_none hp3 nT
        have dT : d ≠ T' := ne_of_none hd3 nT
        have hp4 : (upd H3 T' (.tup [kV (ky es[j].1), V.int es[j].2])) p = some (.dK (kv (addE (sumE (ts.take i)) (es.take j)))) := (upd_ne pT).trans hp3
        refine ⟨T', _, rfl, SqT.of upd_same, rfl, _, _, rfl, _, _, rfl, rfl, ?_⟩
        refine ⟨_, rfl, p, rfl, .inl ⟨_, .inl hp4⟩, _, rfl, _, DGet.k (k := ky es[j].1) hp4, _, rfl, _, _, get_int _ _, rfl, ?_⟩
        have hlen : (addE (sumE (ts.take i)) (es.take j)).length < 64 := by
          have h1 := len_add (es.take j) (sumE (ts.take i))
          have h2 : (sumE (ts.take i)).length ≤ 0 + lenT (ts.take i) := len_sum (ts.take i) []
          have h3 := lenT_get ht
          have h4 : (es.take j).length ≤ es.length := by rw [List.length_take]; exact Nat.min_le_right ..
          omega
        refine ⟨_, rfl, _, rfl, p, _, rfl, .inl ⟨_, ky es[j].1, hp4, rfl, by rw [kv_len, sizeLine_eq]; omega, rfl⟩, ⟨_, _, rfl⟩, ?_, ?_, fun b o hb e => ?_⟩
        · have et : es.take (j + 1) = es.take j ++ [es[j]] := by
            rw [List.take_add_one, List.getElem?_eq_getElem hj]
            rfl
          rw [upd_same, et, addE_snoc, kv_put]
        · rw [upd_ne pd.symm, upd_ne dT]
          exact hd3
        · rw [upd_ne (ne_of_none e np), upd_ne (ne_of_none (S3 b o hb e) nT)]
          exact S3 b o hb e
      · rintro σ H3 ⟨⟨o3, o4, rfl⟩, hp3, hd3, S3⟩
        refine ⟨hd3, ⟨_, o3, o4, rfl⟩, ?_, fun b o e => ?_⟩
        · rw [upd_ne pd, hp3, kv_len, List.take_length]
          have et : ts.take (i + 1) = ts.take i ++ [es] := by
            rw [List.take_add_one, ht]
            rfl
          rw [et, sumE_snoc]
        · by_cases hb : b = d
          · subst hb
            rw [upd_same]
            exact hd.symm.trans e
          · exact (upd_ne hb).trans (S3 b o hb e)
    · rintro σ H2 ⟨⟨o2, o3, o4, rfl⟩, hp, S2⟩
      rw [hT.len, List.take_length] at hp
      have hnd : ((sumE ts).map (·.1)).Nodup := nod_sum ts List.Pairwise.nil
      have hl3 : (sumE ts).length ≤ 0 + lenT ts := len_sum ts []
      refine ⟨_, rfl, p, _, (sumE ts).map (·.1), rfl, .inl hp, ?_, by rw [List.length_map]; omega, fun ys r perm srt nr => ?_⟩
      · unfold kv
        rw [List.map_map, List.map_map]
        rfl
      have S3 := fresh_upd (o := .lst (ys.map V.str)) nr
      refine ⟨r, rfl, ⟨_, SqL.of upd_same⟩, fun D hD => ?_⟩
      have hD0 : H D = none := by
        cases e : H D with
        | none => rfl
        | some o =>
          have z := S3 _ _ (S2 _ _ e)
          rw [hD] at z
          cases z
      have hyl : ys.length = (sumE ts).length := by rw [perm.length_eq, List.length_map]
      have hLf : ∀ n, n ∈ ys ↔ n ∈ (sumE ts).map (·.1) := fun n => perm.mem_iff
      have hp3 := S3 _ _ hp
      refine dc_it (walk_list (K := K) (a := r) (xs := ys.map V.str)) (fun i H3 => H3 D = some (.dK (kv ((ys.map fun n => (n, g0 (sumE ts) n)).take i))) ∧
        Same (upd H2 r (.lst (ys.map V.str))) H3) ⟨upd_same, fresh_upd hD⟩ (fun i H3 _ h => SqL.of (h.2 _ _ upd_same)) ?_ ?_
      · rintro i x H3 H4 hi ⟨hD3, S4⟩ ⟨rfl, hx⟩
        rw [List.length_map] at hi
        have ex : x = .str ys[i] := by
          rw [List.getElem?_map, List.getElem?_eq_getElem hi] at hx
          exact (Option.some.inj hx).symm
        subst ex
        have hin : ys[i] ∈ (sumE ts).map (·.1) := (hLf _).mp (List.getElem_mem hi)
        obtain ⟨v, hv⟩ := Option.isSome_iff_exists.mp (look_mem.mpr hin)
        have hg : g0 (sumE ts) ys[i] = v := by
          unfold g0
          rw [hv]
          rfl
        refine ⟨rfl, ?_⟩
        unfold tYes
        dsimp only
        rw [if_pos rfl]
        refine ⟨_, rfl, _, rfl, _, rfl, p, .int v, rfl, .inl ⟨_, ky ys[i], .inl (S4 _ _ hp3), rfl, ?_⟩, ?_⟩
        · rw [val_kv, hv]
          rfl
        · refine ⟨_, ky ys[i], rfl, hD3, ?_, ?_, fun b o e => ?_⟩
          · rw [kv_len, List.length_take, sizeLine_eq]
            have := Nat.min_le_left i (ys.map fun n => (n, g0 (sumE ts) n)).length
            omega
          · have hi' : i < (ys.map fun n => (n, g0 (sumE ts) n)).length := by rw [List.length_map]; exact hi
            have ek : (ys.map fun n => (n, g0 (sumE ts) n)).map (·.1) = ys := by
              rw [List.map_map]
              exact List.map_id'' (fun _ => rfl) ys
            have en := new_key (es := ys.map fun n => (n, g0 (sumE ts) n)) (g := id) (by rw [ek]; exact perm.nodup_iff.mpr hnd) hi' fun _ => rfl
            rw [List.getElem_map, List.map_id] at en
            have st := kv_step (es := ys.map fun n => (n, g0 (sumE ts) n)) (g := id) hi'
            rw [List.map_id, List.map_id] at st
            rw [upd_same, putK_new _ (val_none en), st, List.getElem_map, ← hg]
            rfl
          · rw [upd_ne (ne_of_none e hD)]
            exact S4 b o e
      · rintro H3 ⟨hD3, S4⟩
        have ek : (ys.map fun n => (n, g0 (sumE ts) n)).map (·.1) = ys := by
          rw [List.map_map]
          exact List.map_id'' (fun _ => rfl) ys
        rw [show (ys.map V.str).length = (ys.map fun n => (n, g0 (sumE ts) n)).length by rw [List.length_map, List.length_map], List.take_length] at hD3
        refine q H3 D _ (S2.trans (S3.trans S4)) hD0 hD3 ?_ (fun n => ?_) (by rw [List.length_map, hyl]; omega)
        · unfold SdE
          rw [ek]
          exact sd_of srt (perm.nodup_iff.mpr hnd)
        · have lk : ∀ zs : List Str, (zs.map fun n => (n, g0 (sumE ts) n)).lookup n = if n ∈ zs then some (g0 (sumE ts) n) else none := by
            intro zs
            induction zs with
            | nil => rfl
            | cons z r ih =>
              rw [List.map_cons]
              by_cases e : n = z
              · subst e
                rw [List.lookup_cons_self, if_pos (List.mem_cons_self ..)]
              · have eb : (n == z) = false := by simpa using e
                rw [List.lookup_cons, eb]
                show (r.map fun n => (n, g0 (sumE ts) n)).lookup n = _
                rw [ih]
                by_cases q : n ∈ r
                · rw [if_pos q, if_pos (List.mem_cons_of_mem _ q)]
                · rw [if_neg q, if_neg]
                  rw [List.mem_cons]
                  rintro (u | u)
                  · exact e u
                  · exact q u
          rw [lk]
          by_cases hin : n ∈ ys
          · rw [if_pos hin]
            obtain ⟨v, hv⟩ := Option.isSome_iff_exists.mp (look_mem.mpr ((hLf n).mp hin))
            unfold g0
            rw [hv]
            rfl
          · rw [if_neg hin]
            exact (g0_none fun z => hin ((hLf n).mpr z)).symm
end
end K17
set_option maxHeartbeats 8000000
namespace K17
open PySem PySem.Spec PyProof.Rows L2

abbrev sIsExp : Stmt := top 58
def spIsExp : Sp := fun vs H Q _ => ∃ (d : Addr) (es : Es), vs = [.ref d] ∧ H d = some (.dK (kv es)) ∧ es.length ≤ 1000 ∧ (es.map (·.1)).Nodup ∧ (∀ p ∈ es, isNm p.1 = true) ∧
  ∀ H', Same H H' → Q (.bl true) H'
def NIe : List Str := ["value", "name"]
theorem nm_len {x : Str} (h : isNm x = true) : x.length ≤ 8 := by
  unfold isNm at h
  rw [Bool.and_eq_true, Bool.and_eq_true, decide_eq_true_eq, decide_eq_true_eq] at h
  exact h.2.1
theorem val_at {es : Es} (hn : (es.map (·.1)).Nodup) {i : Nat} (hi : i < es.length) : valV (kv es) (ky es[i].1) = some (.int es[i].2) := by
  rw [val_kv]
  have z : ∀ {es : Es} (hn : (es.map (·.1)).Nodup) {i : Nat} (hi : i < es.length), es.lookup es[i].1 = some es[i].2 := by
    intro es
    induction es with
    | nil => intro _ i hi; exact absurd hi (Nat.not_lt_zero _)
    | cons p r ih =>
      intro hn i hi
      rw [List.map_cons] at hn
      obtain ⟨n1, n2⟩ := List.pairwise_cons.mp hn
      cases i with
      | zero =>
        show List.lookup p.1 ((p.1, p.2) :: r) = some p.2
        rw [List.lookup_cons_self]
      | succ i =>
        have hi' : i < r.length := by
          rw [List.length_cons] at hi
          omega
        have ne : (r[i].1 == p.1) = false := by
          have q := n1 r[i].1 (List.mem_map.mpr ⟨r[i], List.getElem_mem hi', rfl⟩)
          simpa using fun e => q e.symm
        show List.lookup r[i].1 ((p.1, p.2) :: r) = some r[i].2
        rw [List.lookup_cons, ne]
        exact ih n2 hi'
  rw [z hn hi]
  rfl
section
variable {P : Program} {w : World} {K : PySem.W.Frag} {mg : Str → Option Value} {base : Heap}
theorem scIsExp : FnScope NIe ["value"] (defScope sIsExp) :=
  ⟨rfl, rfl, rfl, by decide +kernel, rfl, by decide +kernel, by decide +kernel⟩
theorem ok_isexp {f fN fI : Addr} {fd fdN fdI : FuncData} (F : Fun K "_is_exponents" "_is_exponents" sIsExp f fd) (T : Nk mg)
    (GN : FnOk P w K mg base CX0 1 fN fdN ["value"] (spIsName K)) (kN : PySem.W.keepIn K (.ref fN) = true) (bN : Binds K fdN ["value"] []) (gN : mg "is_name" = some (.ref fN))
    (GI : FnOk P w K mg base CX0 1 fI fdI ["value"] spIsInt) (kI : PySem.W.keepIn K (.ref fI) = true) (bI : Binds K fdI ["value"] []) (gI : mg "is_integer" = some (.ref fI)) :
    FnOk P w K mg base CX0 2 f fd ["value"] spIsExp := by
  refine F.ok scIsExp (fun vs H Q E h => ?_) (fun cdv A outer s H vs Q E hr h => ?_)
  · obtain ⟨d, es, rfl, _⟩ := h
    rfl
  · obtain ⟨d, es, rfl, hd, hl, hn, hnm, q⟩ := h
    have hu : (A.deeper (envOfC "_is_exponents" (defScope sIsExp) s.heap.objs.size f cdv)).units + 1 < cLine := by have := hr.units; omega
    refine ⟨_, pss_cons (ps_if (pt_not (pt_val (pe_callB call_isi (by rfl) T.isi (by decide +kernel) (pa_cons (pv 0) (pa_cons (pe_bltn (v := .ty "dict") (u := .type "dict") (by rfl) T.dict (by decide +kernel) rfl) pa_nil)))))
        (pss_one (ps_ret pe_bl)) pss_nil)
      (pss_one (ps_ret (pe_lock (pe_callB (cr_all rfl) (by rfl) T.all (by decide +kernel) (pa_cons
        (pe_lc (own := [("name", 1)]) (g := gName 1) (tt := tYes)
          (te := tAndV (tCall (spIsName K) [] E0 (tCons (tVar 1) tNil)) (tCall spIsInt [] E0 (tCons (tDGet (tVar 0) (tVar 1)) tNil))) rfl scIsExp.nd (pi_keys (pv 0))
          (blkOk_by (own := [("name", 1)]) (N := NIe) (sc := defScope sIsExp) (by decide +kernel)) (fun _ _ _ _ _ => pg_name (i := 1) scIsExp.nd rfl (Or.inl rfl))
          (fun _ _ _ _ _ => pts_nil) (fun _ _ _ _ _ => by
            exact pe_and (pe_call GN hr rfl gN kN bN .nil pass0 (pa_cons (pv 1) pa_nil))
              (pe_one (pe_call GI hr rfl gI kI bI .nil pass0 (pa_cons (pe_dget hu (pv 0) (pv 1) (fun _ _ => rfl)) pa_nil))))) pa_nil))))), ?_⟩
    refine ⟨_, rfl, _, _, _, _, true, rfl, .ty _, .base (.dK hd), kit_ty (by decide +kernel), _, rfl, iteF ?_⟩
    refine ⟨d, _, hd, trivial, fun od => ?_⟩
    refine ⟨_, rfl, d, od, rfl, .inl ⟨kv es, upd_same, fun D hD => ?_⟩⟩
    have Dd : D ≠ d := fun z => by
      rw [z, upd_same] at hD
      cases hD
    have hD0 : H D = none := by
      rw [upd_ne Dd] at hD
      exact hD
    refine lc_it walk_keys (fun i H2 => H2 D = some (.lst ((List.replicate i true).map V.bl)) ∧ H2 d = some (.frz od (.dK (kv es))) ∧ ∀ b o, b ≠ d → H b = some o → H2 b = some o)
      ⟨upd_same, (upd_ne Dd.symm).trans upd_same, fun b o e1 e2 => ?_⟩ (fun i H2 _ p => p.2.1) ?_ ?_
    · rw [upd_ne (ne_of_none e2 hD0), upd_ne e1]
      exact e2
    · rintro i v H2 H3 hi ⟨hD2, hd2, S2⟩ ⟨rfl, k', v', e1, rfl⟩
      rw [kv_len] at hi
      have ei : (kv es)[i]? = some (ky es[i].1, V.int es[i].2) := by
        unfold kv
        rw [List.getElem?_map, List.getElem?_eq_getElem hi]
        rfl
      rw [ei] at e1
      cases e1
      have hnmi := hnm es[i] (List.getElem_mem hi)
      refine ⟨rfl, ?_⟩
      unfold tYes
      dsimp only
      rw [if_pos rfl]
      refine ⟨_, rfl, .inl ⟨es[i].1, rfl, by have := nm_len hnmi; omega, fun H4 S4 => ?_⟩⟩
      rw [hnmi]
      refine ⟨_, rfl, iteT' rfl ?_⟩
      refine ⟨_, rfl, _, rfl, d, .int es[i].2, rfl, .inl ⟨_, ky es[i].1, .inr ⟨od, S4 _ _ hd2⟩, rfl, (val_at hn hi).symm⟩, es[i].2, rfl, ?_⟩
      refine ⟨_, S4 _ _ hD2, by rw [List.length_map, List.length_replicate, sizeLine_eq]; omega, ?_, ?_, fun b o hb e => ?_⟩
      · rw [upd_same, List.replicate_succ', List.map_append]
        rfl
      · rw [upd_ne Dd.symm]
        exact S4 _ _ hd2
      · rw [upd_ne (ne_of_none e hD0)]
        exact S4 b o (S2 b o hb e)
    · rintro H2 ⟨hD2, hd2, S2⟩
      refine ⟨D, _, rfl, SqL.of hD2, hd2, ?_⟩
      have e : (List.replicate (kv es).length true).all id = true := by
        rw [List.all_eq_true]
        intro x hx
        exact List.eq_of_mem_replicate hx
      rw [e]
      refine q _ fun b o eb => ?_
      by_cases hb : b = d
      · subst hb
        rw [upd_same]
        exact hd.symm.trans eb
      · exact (upd_ne hb).trans (S2 b o hb eb)
end
end K17
set_option maxHeartbeats 8000000
namespace K17
open PySem PySem.Spec PyProof.Rows L2

abbrev sSize : Stmt := top 55
abbrev sInit : Stmt := inClass sSize 0
abbrev FnD (K : PySem.W.Frag) (x qual : Str) (st : Stmt) (dvs : List V) (f : Addr) (fd : FuncData) : Prop := FunD K x qual (defArgs st) (defBody st) (defScope st) dvs [] f fd
/-- without the names whose exponent is 0 -/
def nzE (es : Es) (n : Str) : Option Int := match es.lookup n with
  | some v => if v = 0 then none else some v
  | none => none
/-- a Size with these exponents stands at p -/
def SizeAt (C : Addr) (H : Hp) (p : Addr) (es : Es) : Prop := ∃ dx D, H p = some (.ins C dx [("_exponents", .ref D)]) ∧ H D = some (.dK (kv es)) ∧ SdE es ∧ (∀ q ∈ es, q.2 ≠ 0) ∧ (∀ q ∈ es, isNm q.1 = true) ∧ es.length < 64
def spInit (C : Addr) : Sp := fun vs H Q _ => ∃ (p dx : Addr) (v : V) (es : Es), vs = [.ref p, v] ∧ H p = some (.ins C dx []) ∧
  ((v = .non ∧ es = []) ∨ ∃ d, v = .ref d ∧ d ≠ p ∧ H d = some (.dK (kv es))) ∧ (es.map (·.1)).Nodup ∧ es.length < 64 ∧ (∀ q ∈ es, isNm q.1 = true) ∧
  ∀ H' D R, (∀ b o, b ≠ p → H b = some o → H' b = some o) → H' p = some (.ins C dx [("_exponents", .ref D)]) → H D = none → H' D = some (.dK (kv R)) →
    SdE R → (∀ n, R.lookup n = nzE es n) → R.length ≤ es.length → Q .non H'
structure Cs (K : PySem.W.Frag) (C : Addr) : Prop where
  cl : Cls K C
  nE : NoAttr K C "_exponents"
def flE (es : Es) (ys : List Str) : Es := (ys.map fun n => (n, g0 es n)).filter fun p => decide (p.2 ≠ 0)
theorem fl_keys (es : Es) (ys : List Str) : ((flE es ys).map (·.1)).Sublist ys := by
  have z : ((flE es ys).map (·.1)).Sublist ((ys.map fun n => (n, g0 es n)).map (·.1)) := List.Sublist.map _ List.filter_sublist
  have ek : (ys.map fun n => (n, g0 es n)).map (·.1) = ys := by
    rw [List.map_map]
    exact List.map_id'' (fun _ => rfl) ys
  rw [ek] at z
  exact z
theorem fl_step {es : Es} {ys : List Str} {i : Nat} (hi : i < ys.length) :
    flE es (ys.take (i + 1)) = if g0 es ys[i] ≠ 0 then flE es (ys.take i) ++ [(ys[i], g0 es ys[i])] else flE es (ys.take i) := by
  have e : ys.take (i + 1) = ys.take i ++ [ys[i]] := by
    rw [List.take_add_one, List.getElem?_eq_getElem hi]
    rfl
  unfold flE
  rw [e, List.map_append, List.filter_append]
  by_cases h : g0 es ys[i] = 0
  · rw [if_neg (fun z => z h)]
    simp [h]
  · rw [if_pos h]
    simp [h]
theorem fl_look (es : Es) (n : Str) : ∀ zs : List Str, (flE es zs).lookup n = if n ∈ zs ∧ g0 es n ≠ 0 then some (g0 es n) else none
  | [] => by simp [flE]
  | z :: r => by
    have ih := fl_look es n r
    have e : flE es (z :: r) = if g0 es z ≠ 0 then (z, g0 es z) :: flE es r else flE es r := by
      unfold flE
      rw [List.map_cons, List.filter_cons]
      by_cases h : g0 es z = 0
      · simp [h]
      · simp [h]
    rw [e]
    by_cases h : g0 es z = 0
    · rw [if_neg (fun q => q h), ih]
      by_cases hz : n = z
      · subst hz
        rw [if_neg (fun q => q.2 h), if_neg (fun q => q.2 h)]
      · simp [hz]
    · rw [if_pos h]
      by_cases hz : n = z
      · subst hz
        rw [List.lookup_cons_self, if_pos ⟨List.mem_cons_self .., h⟩]
      · have eb : (n == z) = false := by simpa using hz
        rw [List.lookup_cons, eb]
        show (flE es r).lookup n = _
        rw [ih]
        simp [hz]
theorem fl_nz {es : Es} {ys : List Str} (h : ∀ n, n ∈ ys ↔ n ∈ es.map (·.1)) (n : Str) : (flE es ys).lookup n = nzE es n := by
  rw [fl_look]
  unfold nzE
  by_cases hin : n ∈ ys
  · obtain ⟨v, hv⟩ := Option.isSome_iff_exists.mp (look_mem.mpr ((h n).mp hin))
    have hg : g0 es n = v := by
      unfold g0
      rw [hv]
      rfl
    rw [hv, hg]
    by_cases z : v = 0
    · rw [if_neg (fun q => q.2 z)]
      show none = if v = 0 then none else some v
      rw [if_pos z]
    · rw [if_pos ⟨hin, z⟩]
      show some v = if v = 0 then none else some v
      rw [if_neg z]
  · rw [if_neg (fun q => hin q.1), g0_none fun z => hin ((h n).mpr z)]
def NIi : List Str := ["self", "exponents", "given", "name"]
section
variable {P : Program} {w : World} {K : PySem.W.Frag} {mg : Str → Option Value} {base : Heap} {C : Addr}
theorem scIni : FnScope NIi ["self", "exponents"] (defScope sInit) :=
  ⟨rfl, rfl, rfl, by decide +kernel, rfl, by decide +kernel, by decide +kernel⟩
theorem rd_ini {p dx g : Addr} {v : V} {es : Es} {H1 : Hp} {DD : Ends} (Tc : Cs K C) (hg : H1 g = some (.dK (kv es))) (hp : H1 p = some (.ins C dx [])) (hn : (es.map (·.1)).Nodup)
    (hl : es.length < 64) (hnm : ∀ q ∈ es, isNm q.1 = true)
    (k : ∀ H2 D R, Same H1 H2 → H1 D = none → H2 D = some (.dK (kv R)) → SdE R → (∀ n, R.lookup n = nzE es n) → R.length ≤ es.length →
      DD.nx [some (.ref p), some v, some (.ref g), none] (upd H2 p (.ins C dx [("_exponents", .ref D)]))) :
    tSeq (tIfS (tNot (tB (tCall spIsExp [] E0 (tCons (tVar 2) tNil)))) (fun _ _ _ => False) tNext)
      (sFld K (tVar 0) (tDc (iList K (tCB (fun xs H Q => ∃ (a : Addr) (kvs : List (Key × V)) (ks : List Str), xs = [.ref a] ∧ Rd H a (.dK kvs) ∧ kvs.map (·.1) = ks.map Sum.inr ∧ ks.length < 64 ∧
          ∀ ys p, ys.Perm ks → sortedS ys = true → H p = none → Q (.ref p) (upd H p (.lst (ys.map V.str)))) (tCons (tVar 2) tNil)))
        (gName 3) (tTest (tOp rNe (tDGet (tVar 2) (tVar 3)) (tC (.int 0)))) (tVar 3) (tDGet (tVar 2) (tVar 3)) [3]) "_exponents") DD
      [some (.ref p), some v, some (.ref g), none] H1 := by
  refine ⟨_, rfl, g, es, rfl, hg, by omega, hn, hnm, fun H2 S2 => ?_⟩
  refine ⟨_, rfl, iteF ?_⟩
  have hg2 := S2 _ _ hg
  refine ⟨_, rfl, g, _, es.map (·.1), rfl, .inl hg2, ?_, by rw [List.length_map]; exact hl, fun ys r perm srt nr => ?_⟩
  · unfold kv
    rw [List.map_map, List.map_map]
    rfl
  have S3 := fresh_upd (o := .lst (ys.map V.str)) nr
  refine ⟨r, rfl, ⟨_, SqL.of upd_same⟩, fun D hD => ?_⟩
  have hD0 : H1 D = none := by
    cases e : H1 D with
    | none => rfl
    | some o =>
      have z := S3 _ _ (S2 _ _ e)
      rw [hD] at z
      cases z
  have hys : ys.Nodup := perm.nodup_iff.mpr hn
  have hyl : ys.length = es.length := by rw [perm.length_eq, List.length_map]
  have hg3 := S3 _ _ hg2
  refine dc_it (walk_list (K := K) (a := r) (xs := ys.map V.str)) (fun i H3 => H3 D = some (.dK (kv (flE es (ys.take i)))) ∧
    Same (upd H2 r (.lst (ys.map V.str))) H3) ⟨upd_same, fresh_upd hD⟩ (fun i H3 _ h => SqL.of (h.2 _ _ upd_same)) ?_ ?_
  · rintro i x H3 H4 hi ⟨hD3, S4⟩ ⟨rfl, hx⟩
    rw [List.length_map] at hi
    have ex : x = .str ys[i] := by
      rw [List.getElem?_map, List.getElem?_eq_getElem hi] at hx
      exact (Option.some.inj hx).symm
    subst ex
    have hin : ys[i] ∈ es.map (·.1) := perm.mem_iff.mp (List.getElem_mem hi)
    obtain ⟨u, hu⟩ := Option.isSome_iff_exists.mp (look_mem.mpr hin)
    have hgu : g0 es ys[i] = u := by
      unfold g0
      rw [hu]
      rfl
    have dg : DGet H4 g (kV (ky ys[i])) (some (.int u)) := .inl ⟨_, ky ys[i], .inl (S4 _ _ hg3), rfl, by rw [val_kv, hu]; rfl⟩
    refine ⟨rfl, ?_⟩
    refine ⟨_, rfl, _, rfl, g, .int u, rfl, dg, rfl, _, rfl, ?_⟩
    by_cases h0 : u = 0
    · subst h0
      rw [decide_eq_true rfl]
      refine iteF ⟨?_, S4⟩
      rw [fl_step hi, hgu, if_neg (fun z => z rfl)]
      exact hD3
    · rw [decide_eq_false (show ¬ V.int u = V.int 0 from fun z => h0 (V.int.inj z))]
      refine iteT' rfl ?_
      refine ⟨_, rfl, _, rfl, _, rfl, g, .int u, rfl, dg, ?_⟩
      refine ⟨_, ky ys[i], rfl, hD3, ?_, ?_, fun b o e => ?_⟩
      · rw [kv_len, sizeLine_eq]
        have h1 : (flE es (ys.take i)).length ≤ (ys.take i).length := by
          unfold flE
          refine Nat.le_trans (List.length_filter_le _ _) ?_
          rw [List.length_map]
          exact Nat.le_refl _
        have h2 : (ys.take i).length ≤ i := by rw [List.length_take]; exact Nat.min_le_left ..
        omega
      · have en : ys[i] ∉ (flE es (ys.take i)).map (·.1) := fun z => by
          have z2 := (fl_keys es (ys.take i)).subset z
          obtain ⟨j, hj, e2⟩ := List.mem_take_iff_getElem.mp z2
          exact List.pairwise_iff_getElem.mp hys j i (by omega) hi (by omega) e2
        rw [upd_same, putK_new _ (val_none en), fl_step hi, hgu, if_pos h0]
        unfold kv
        rw [List.map_append]
        rfl
      · rw [upd_ne (ne_of_none e hD)]
        exact S4 b o e
  · rintro H3 ⟨hD3, S4⟩
    rw [List.length_map, List.take_length] at hD3
    refine ⟨_, rfl, p, C, dx, [], rfl, S4 _ _ (S3 _ _ (S2 _ _ hp)), Tc.cl, Tc.nE, by decide, ?_⟩
    exact k _ D _ (S2.trans (S3.trans S4)) hD0 hD3 (List.Pairwise.sublist (fl_keys es ys) (sd_of srt hys)) (fl_nz fun n => perm.mem_iff)
      (by
        unfold flE
        refine Nat.le_trans (List.length_filter_le _ _) ?_
        rw [List.length_map, hyl]
        exact Nat.le_refl _)
theorem ok_init {f fE : Addr} {fd fdE : FuncData} (F : FnD K "__init__" "Size.__init__" sInit [.non] f fd) (T : Na mg) (Tc : Cs K C)
    (GE : FnOk P w K mg base CX0 2 fE fdE ["value"] spIsExp) (kE : PySem.W.keepIn K (.ref fE) = true) (bE : Binds K fdE ["value"] []) (gE : mg "_is_exponents" = some (.ref fE)) :
    FnOk P w K mg base CX0 3 f fd ["self", "exponents"] (spInit C) := by
  refine F.ok scIni (fun vs H Q E h => ?_) (fun cdv A outer s H vs Q E hr h => ?_)
  · obtain ⟨p, dx, v, es, rfl, _⟩ := h
    rfl
  · obtain ⟨p, dx, v, es, rfl, hp, hv, hn, hl, hnm, q⟩ := h
    have hu : (A.deeper (envOfC "Size.__init__" (defScope sInit) s.heap.objs.size f cdv)).units + 1 < cLine := by have := hr.units; omega
    refine ⟨_, PSs.nox (pss_cons (ps_set (i := 2) scIni.nd rfl (.inr rfl) (pe_ifExp (pt_cmpR op_isN (pv 1) pe_non rfl) pe_dnewK (pv 1)))
      (pss_cons (ps_if (pt_not (pt_val (pe_call GE hr rfl gE kE bE .nil pass0 (pa_cons (pv 2) pa_nil)))) (pss_one ps_no) pss_nil)
      (pss_one (ps_fld (pv 0) (pe_dc (own := [("name", 3)]) (g := gName 3) (tt := tTest (tOp rNe (tDGet (tVar 2) (tVar 3)) (tC (.int 0)))) (tk := tVar 3) (tv := tDGet (tVar 2) (tVar 3)) rfl scIni.nd
        (pi_list (pe_callB (call_sortedD rfl) (by rfl) T.sorted (by decide +kernel) (pa_cons (pv 2) pa_nil)))
        (blkOk_by (own := [("name", 3)]) (N := NIi) (sc := defScope sInit) (by decide +kernel)) (fun _ _ _ _ _ => pg_name (i := 3) scIni.nd rfl (Or.inl rfl))
        (fun _ _ _ _ _ => pts_one (by exact pt_cmpR op_ne (pe_dget hu (pv 2) (pv 3) (fun _ _ => rfl)) pe_int (nomark _)))
        (fun _ _ _ _ _ => by exact pv 3) (fun _ _ _ _ _ => by exact pe_dget hu (pv 2) (pv 3) (fun _ _ => rfl))) rfl)))), ?_⟩
    rcases hv with ⟨rfl, rfl⟩ | ⟨d, rfl, dp, hd⟩
    · refine ⟨_, rfl, rfl, _, rfl, iteT' rfl ?_⟩
      intro g ng
      have gp : g ≠ p := fun z => by
        rw [z, hp] at ng
        cases ng
      refine rd_ini Tc (es := []) upd_same ((upd_ne gp.symm).trans hp) hn hl hnm fun H2 D R S2 nD hD sR lR zR => ?_
      have nD0 : H D = none := by
        cases e : H D with
        | none => rfl
        | some o =>
          have z := fresh_upd (o := .dK []) ng _ _ e
          rw [nD] at z
          cases z
      have Dp : D ≠ p := fun z => by
        rw [z, hp] at nD0
        cases nD0
      exact q _ D R (fun b o hb e => (upd_ne hb).trans (S2 _ _ (fresh_upd ng _ _ e))) upd_same nD0 ((upd_ne Dp).trans hD) sR lR zR
    · refine ⟨_, rfl, rfl, _, rfl, iteF ?_⟩
      refine ⟨_, rfl, ?_⟩
      refine rd_ini Tc hd hp hn hl hnm fun H2 D R S2 nD hD sR lR zR => ?_
      have Dp : D ≠ p := fun z => by
        rw [z, hp] at nD
        cases nD
      exact q _ D R (fun b o hb e => (upd_ne hb).trans (S2 _ _ e)) upd_same nD ((upd_ne Dp).trans hD) sR lR zR
end
end K17
set_option maxHeartbeats 8000000
namespace K17
open PySem PySem.Spec PyProof.Rows L2

abbrev sCheck : Stmt := top 56
/-- the class as a value and as a kind -/
structure Ck (K : PySem.W.Frag) (mg : Str → Option Value) (C : Addr) : Prop extends Cs K C where
  gC : mg "Size" = some (.ref C)
  cc : PySem.W.findIn K (.ref C) "__class__" = some (some (.builtin "object.__class__"))
  cn : PySem.W.specialIn K (.builtin "object.__class__") "__get__" = some (some (.builtin "getset_descriptor.__get__"))
  ct : PySem.W.takesIn K (.builtin "object.__class__") = some true
  co : PySem.W.mroIn K C (.type "object") = some true
def spCheck (C : Addr) : Sp := fun vs H Q _ => ∃ (p dx : Addr) (fs : List (Str × V)), vs = [.ref p] ∧ H p = some (.ins C dx fs) ∧ Q .non H
section
variable {P : Program} {w : World} {K : PySem.W.Frag} {mg : Str → Option Value} {base : Heap} {C : Addr}
theorem scCheck : FnScope ["value"] ["value"] (defScope sCheck) :=
  ⟨rfl, rfl, rfl, by decide +kernel, rfl, by decide +kernel, by decide +kernel⟩
theorem ok_check {f : Addr} {fd : FuncData} (F : Fun K "check_size" "check_size" sCheck f fd) (T : Nk mg) (Tc : Ck K mg C) :
    FnOk P w K mg base CX0 1 f fd ["value"] (spCheck C) := by
  refine F.ok scCheck (fun vs H Q E h => ?_) (fun cdv A outer s H vs Q E hr h => ?_)
  · obtain ⟨p, dx, fs, rfl, _⟩ := h
    rfl
  · obtain ⟨p, dx, fs, rfl, hp, q⟩ := h
    refine ⟨_, pss_one (ps_if (pt_not (pt_val (pe_callB call_isi (by rfl) T.isi (by decide +kernel) (pa_cons (pv 0) (pa_cons (pe_glob (v := .ref C) (by rfl) Tc.gC rfl) pa_nil)))))
      (pss_one ps_no) pss_nil), ?_⟩
    refine ⟨_, rfl, _, _, _, _, true, rfl, .own _, .base (.ins hp Tc.cl Tc.cc Tc.cn Tc.ct Tc.co), ?_, _, rfl, iteF q⟩
    unfold PySem.W.kitOne
    rw [if_pos (by simp)]
end
end K17
set_option maxHeartbeats 8000000
namespace K17
open PySem PySem.Spec PyProof.Rows L2

/-! ### numbers as exponents -/
def cz (v : Int) : Option Int := if v = 0 then none else some v
theorem nz_cz (es : Es) (n : Str) : nzE es n = cz (g0 es n) := by
  unfold nzE cz g0
  cases es.lookup n with
  | none => rfl
  | some v => rfl
theorem g0_cz {R : Es} {n : Str} {v : Int} (h : R.lookup n = cz v) : g0 R n = v := by
  unfold g0
  rw [h]
  unfold cz
  by_cases z : v = 0
  · rw [if_pos z, z]
    rfl
  · rw [if_neg z]
    rfl
theorem g0_add {es t : Es} (h : (es.map (·.1)).Nodup) (n : Str) : g0 (addE t es) n = g0 t n + g0 es n := by
  unfold g0
  rw [look_add t n h]
  by_cases hin : n ∈ es.map (·.1)
  · rw [if_pos hin]
    rfl
  · rw [if_neg hin, g0_none hin]
    show _ = (t.lookup n).getD 0 + 0
    rw [Int.add_zero]
theorem g0_sum2 {es fs : Es} (h : (es.map (·.1)).Nodup) (g : (fs.map (·.1)).Nodup) (n : Str) : g0 (sumE [es, fs]) n = g0 es n + g0 fs n := by
  show g0 (addE (addE [] es) fs) n = _
  rw [g0_add g, g0_add h]
  show 0 + g0 es n + g0 fs n = _
  rw [Int.zero_add]
theorem mem_add {es t : Es} {n : Str} (h : (es.map (·.1)).Nodup) (hn : n ∈ (addE t es).map (·.1)) : n ∈ t.map (·.1) ∨ n ∈ es.map (·.1) := by
  have z := look_mem.mpr hn
  rw [look_add t n h] at z
  by_cases hin : n ∈ es.map (·.1)
  · exact .inr hin
  · rw [if_neg hin] at z
    exact .inl (look_mem.mp z)
/-- what a new Size of es holds -/
theorem size_of {C p dx D : Addr} {es R : Es} {H : Hp} (h1 : H p = some (.ins C dx [("_exponents", .ref D)])) (h2 : H D = some (.dK (kv R))) (sR : SdE R)
    (lR : ∀ n, R.lookup n = nzE es n) (zR : R.length ≤ es.length) (hl : es.length < 64) (hnm : ∀ q ∈ es, isNm q.1 = true) : SizeAt C H p R := by
  have at_ : ∀ q ∈ R, R.lookup q.1 = some q.2 := fun q hq => by
    obtain ⟨i, hi, e⟩ := List.getElem_of_mem hq
    have z := val_at sR.nodup hi
    rw [val_kv, e] at z
    cases e2 : R.lookup q.1 with
    | none =>
      rw [e2] at z
      cases z
    | some v =>
      rw [e2] at z
      injection z with z
      injection z with z
      rw [z]
  refine ⟨dx, D, h1, h2, sR, fun q hq e => ?_, fun q hq => ?_, by omega⟩
  · have z := at_ q hq
    rw [lR, nz_cz] at z
    unfold cz at z
    by_cases h0 : g0 es q.1 = 0
    · rw [if_pos h0] at z
      cases z
    · rw [if_neg h0] at z
      injection z with z
      exact h0 (z.trans e)
  · have z := at_ q hq
    rw [lR] at z
    have hin : q.1 ∈ es.map (·.1) := by
      unfold nzE at z
      cases e : es.lookup q.1 with
      | none =>
        rw [e] at z
        cases z
      | some v => exact look_mem.mp (by rw [e]; rfl)
    obtain ⟨r, hr, e⟩ := List.mem_map.mp hin
    rw [← e]
    exact hnm r hr

abbrev sNames : Stmt := inClass sSize 7
abbrev sExpo : Stmt := inClass sSize 8
abbrev sMul : Stmt := inClass sSize 14
abbrev sLen : Stmt := inClass sSize 16
def spNames (C : Addr) : Sp := fun vs H Q _ => ∃ (p : Addr) (es : Es), vs = [.ref p] ∧ SizeAt C H p es ∧ ∀ l, H l = none → Q (.ref l) (upd H l (.lst (es.map fun q => V.str q.1)))
def spExpo (C : Addr) : Sp := fun vs H Q _ => ∃ (p : Addr) (es : Es), vs = [.ref p] ∧ SizeAt C H p es ∧ ∀ l, H l = none → Q (.ref l) (upd H l (.dK (kv es)))
def spLen (C : Addr) : Sp := fun vs H Q _ => ∃ (p : Addr) (es : Es), vs = [.ref p] ∧ SizeAt C H p es ∧ Q (.int es.length) H
/-- r is new, and what it holds -/
def Nw (C : Addr) (H H' : Hp) (r : Addr) : Prop := ∃ dx D, H' r = some (.ins C dx [("_exponents", .ref D)]) ∧ H r = none ∧ H D = none
theorem none_pre {H H' : Hp} (S : Same H H') {a : Addr} (n : H' a = none) : H a = none := by
  cases e : H a with
  | none => rfl
  | some o =>
    have z := S _ _ e
    rw [n] at z
    cases z
theorem Nw.pre {C r : Addr} {H0 H H' : Hp} (S : Same H0 H) (h : Nw C H H' r) : Nw C H0 H' r := by
  obtain ⟨dx, D, e, n1, n2⟩ := h
  exact ⟨dx, D, e, none_pre S n1, none_pre S n2⟩
theorem Nw.post {C r : Addr} {H H' H'' : Hp} (h : Nw C H H' r) (S : Same H' H'') : Nw C H H'' r := by
  obtain ⟨dx, D, e, n1, n2⟩ := h
  exact ⟨dx, D, S _ _ e, n1, n2⟩
def spMul (C : Addr) : Sp := fun vs H Q _ => ∃ (p q : Addr) (es fs : Es), vs = [.ref p, .ref q] ∧ SizeAt C H p es ∧ SizeAt C H q fs ∧ es.length + fs.length < 64 ∧
  ∀ H' r rs, Same H H' → SizeAt C H' r rs → Nw C H H' r → (∀ n, rs.lookup n = cz (g0 es n + g0 fs n)) → Q (.ref r) H'
theorem SizeAt.same {C p : Addr} {es : Es} {H H' : Hp} (h : SizeAt C H p es) (S : Same H H') : SizeAt C H' p es := by
  obtain ⟨dx, D, h1, h2, h3⟩ := h
  exact ⟨dx, D, S _ _ h1, S _ _ h2, h3⟩
structure Nt (mg : Str → Option Value) : Prop where
  list : mg "list" = none
  dict : mg "dict" = none
  len : mg "len" = none
section
variable {P : Program} {w : World} {K : PySem.W.Frag} {mg : Str → Option Value} {base : Heap} {C : Addr}
theorem scNames : FnScope ["self"] ["self"] (defScope sNames) :=
  ⟨rfl, rfl, rfl, by decide +kernel, rfl, by decide +kernel, by decide +kernel⟩
theorem ok_names {f : Addr} {fd : FuncData} (F : Fun K "names" "Size.names" sNames f fd) (T : Nt mg) (Tc : Ck K mg C) : FnOk P w K mg base CX0 1 f fd ["self"] (spNames C) := by
  refine F.ok scNames (fun vs H Q E h => ?_) (fun cdv A outer s H vs Q E hr h => ?_)
  · obtain ⟨p, es, rfl, _⟩ := h
    rfl
  · obtain ⟨p, es, rfl, ⟨dx, D, h1, h2, _⟩, q⟩ := h
    refine ⟨_, pss_one (ps_ret (pe_callTy (call_listD rfl) (by rfl) T.list (by decide +kernel) (pa_cons (pe_fld (pv 0) rfl) pa_nil))), ?_⟩
    refine ⟨_, rfl, p, C, dx, _, _, rfl, h1, Tc.cl, Tc.nE, rfl, D, _, rfl, .inl h2, fun l nl => ?_⟩
    have z := q l nl
    have e : (kv es).map (fun kv => kV kv.1) = es.map fun q => V.str q.1 := by
      unfold kv
      rw [List.map_map]
      rfl
    rw [e]
    exact z
theorem scExpo : FnScope ["self"] ["self"] (defScope sExpo) :=
  ⟨rfl, rfl, rfl, by decide +kernel, rfl, by decide +kernel, by decide +kernel⟩
theorem ok_expo {f : Addr} {fd : FuncData} (F : Fun K "exponents" "Size.exponents" sExpo f fd) (T : Nt mg) (Tc : Ck K mg C) : FnOk P w K mg base CX0 1 f fd ["self"] (spExpo C) := by
  refine F.ok scExpo (fun vs H Q E h => ?_) (fun cdv A outer s H vs Q E hr h => ?_)
  · obtain ⟨p, es, rfl, _⟩ := h
    rfl
  · obtain ⟨p, es, rfl, ⟨dx, D, h1, h2, _⟩, q⟩ := h
    refine ⟨_, pss_one (ps_ret (pe_callTy call_dictD (by rfl) T.dict (by decide +kernel) (pa_cons (pe_fld (pv 0) rfl) pa_nil))), ?_⟩
    exact ⟨_, rfl, p, C, dx, _, _, rfl, h1, Tc.cl, Tc.nE, rfl, D, _, rfl, .inl h2, q⟩
theorem scLen : FnScope ["self"] ["self"] (defScope sLen) :=
  ⟨rfl, rfl, rfl, by decide +kernel, rfl, by decide +kernel, by decide +kernel⟩
theorem ok_len {f : Addr} {fd : FuncData} (F : Fun K "__len__" "Size.__len__" sLen f fd) (T : Nt mg) (Tc : Ck K mg C) : FnOk P w K mg base CX0 1 f fd ["self"] (spLen C) := by
  refine F.ok scLen (fun vs H Q E h => ?_) (fun cdv A outer s H vs Q E hr h => ?_)
  · obtain ⟨p, es, rfl, _⟩ := h
    rfl
  · obtain ⟨p, es, rfl, ⟨dx, D, h1, h2, _⟩, q⟩ := h
    refine ⟨_, pss_one (ps_ret (pe_callB call_lenD (by rfl) T.len PySem.boot_len (pa_cons (pe_fld (pv 0) rfl) pa_nil))), ?_⟩
    refine ⟨_, rfl, p, C, dx, _, _, rfl, h1, Tc.cl, Tc.nE, rfl, D, kv es, rfl, h2, ?_⟩
    rw [kv_len]
    exact q
end
end K17
set_option maxHeartbeats 8000000
namespace K17
open PySem PySem.Spec PyProof.Rows L2
section
variable {P : Program} {w : World} {K : PySem.W.Frag} {mg : Str → Option Value} {base : Heap} {C : Addr}
theorem scMul : FnScope ["self", "other"] ["self", "other"] (defScope sMul) :=
  ⟨rfl, rfl, rfl, by decide +kernel, rfl, by decide +kernel, by decide +kernel⟩
theorem ok_mul {f fC fI fX fA : Addr} {fd fdC fdI fdX fdA : FuncData} (F : Fun K "__mul__" "Size.__mul__" sMul f fd) (Tc : Ck K mg C)
    (GC : FnOk P w K mg base CX0 1 fC fdC ["value"] (spCheck C)) (kC : PySem.W.keepIn K (.ref fC) = true) (bC : Binds K fdC ["value"] []) (gC : mg "check_size" = some (.ref fC))
    (M : Mk K C fI) (GI : FnOk P w K mg base CX0 3 fI fdI ["self", "exponents"] (spInit C)) (bI : Binds K fdI ["self", "exponents"] [])
    (mX : Meth K C "exponents" fX) (GX : FnOk P w K mg base CX0 1 fX fdX ["self"] (spExpo C)) (bX : Binds K fdX ["self"] [])
    (GA : FnOk P w K mg base CX0 1 fA fdA ["tables"] (spAdded K)) (kA : PySem.W.keepIn K (.ref fA) = true) (bA : Binds K fdA ["tables"] []) (gA : mg "added" = some (.ref fA)) :
    FnOk P w K mg base CX0 5 f fd ["self", "other"] (spMul C) := by
  have GC4 := GC.mono (k := 4) (by decide)
  have GA4 := GA.mono (k := 4) (by decide)
  have GX4 := GX.mono (k := 4) (by decide)
  refine F.ok scMul (fun vs H Q E h => ?_) (fun cdv A outer s H vs Q E hr h => ?_)
  · obtain ⟨p, q, es, fs, rfl, _⟩ := h
    rfl
  · obtain ⟨p, q, es, fs, rfl, h1, h2, hl, k⟩ := h
    refine ⟨_, pss_cons (ps_expr (pe_call GC4 hr rfl gC kC bC .nil pass0 (pa_cons (pv 1) pa_nil)))
      (pss_one (ps_ret (pe_make M GI hr rfl Tc.gC bI .nil pass0 (pa_cons (pe_call GA4 hr rfl gA kA bA .nil pass0 (pa_cons (pe_lst (pa_cons (pe_fld (pv 0) rfl)
        (pa_cons (pe_meth0 (pv 1) Tc.cl mX GX4 hr bX .nil pass0) pa_nil))) pa_nil)) pa_nil)))), ?_⟩
    obtain ⟨dx, D, p1, p2, p3, p4, p5, p6⟩ := id h1
    obtain ⟨dy, D', q1, q2, q3, q4, q5, q6⟩ := id h2
    refine ⟨_, rfl, q, dy, _, rfl, q1, ?_⟩
    refine ⟨_, rfl, p, C, dx, _, _, rfl, p1, Tc.cl, Tc.nE, rfl, _, rfl, q, dy, _, rfl, q1, rfl, q, fs, rfl, h2, fun l nl => ?_⟩
    have S1 := fresh_upd (o := .dK (kv fs)) nl
    refine ⟨(by rw [sizeLine_eq]; show 2 ≤ 16777216; decide), fun a na => ?_⟩
    have S2 := fresh_upd (o := .lst [.ref D, .ref l]) na
    refine ⟨a, _, [es, fs], rfl, SqL.of upd_same, .cons (S2 _ _ (S1 _ _ p2)) p3.nodup (.cons (S2 _ _ upd_same) q3.nodup .nil), (by show 2 ≤ 1000; decide), ?_, fun H3 G R S3 nG hG sR lR zR => ?_⟩
    · show es.length + (fs.length + 0) < 64
      omega
    have hlen : R.length < 64 := by
      have z : R.length ≤ es.length + (fs.length + 0) := zR
      omega
    have gR : ∀ n, g0 R n = g0 es n + g0 fs n := fun n => by
      unfold g0
      rw [lR n]
      exact g0_sum2 p3.nodup q3.nodup n
    have nmR : ∀ q ∈ R, isNm q.1 = true := fun q hq => by
      have hin : q.1 ∈ R.map (·.1) := List.mem_map.mpr ⟨q, hq, rfl⟩
      have h3 : q.1 ∈ (sumE [es, fs]).map (·.1) := look_mem.mp (by rw [← lR]; exact look_mem.mpr hin)
      have h4 : q.1 ∈ (addE [] es).map (·.1) ∨ q.1 ∈ fs.map (·.1) := mem_add q3.nodup h3
      rcases h4 with h4 | h4
      · rcases mem_add p3.nodup h4 with h5 | h5
        · cases h5
        · obtain ⟨r, hr, e⟩ := List.mem_map.mp h5
          rw [← e]
          exact p5 r hr
      · obtain ⟨r, hr, e⟩ := List.mem_map.mp h4
        rw [← e]
        exact q5 r hr
    intro x ex nx ndx nex
    have Gx : G ≠ x := ne_of_none hG nx
    have Gex : G ≠ ex := ne_of_none hG ndx
    have Sx : Same H3 (upd (upd H3 ex (.own x)) x (.ins C ex [])) := fun b o e => by
      rw [upd_ne (ne_of_none e nx), upd_ne (ne_of_none e ndx)]
      exact e
    refine ⟨x, ex, .ref G, R, rfl, upd_same, .inr ⟨G, rfl, Gx, Sx _ _ hG⟩, sR.nodup, hlen, nmR, fun H4 D4 R4 S4 hx4 nD4 hD4 sR4 lR4 zR4 => ⟨rfl, ?_⟩⟩
    refine k H4 x R4 (fun b o e => ?_) (size_of hx4 hD4 sR4 lR4 zR4 hlen nmR) ⟨ex, D4, hx4, none_pre (S1.trans (S2.trans S3)) nx, none_pre (S1.trans (S2.trans (S3.trans Sx))) nD4⟩ fun n => by rw [lR4, nz_cz, gR]
    have e3 := S3 _ _ (S2 _ _ (S1 _ _ e))
    exact S4 b o (ne_of_none e3 nx) (Sx _ _ e3)
end
end K17
set_option maxHeartbeats 8000000
namespace K17
open PySem PySem.Spec PyProof.Rows L2

/-- Size(d), d a dict of names -/
theorem rd_make {C G : Addr} {R : Es} {H : Hp} {Q : VK} (hG : H G = some (.dK (kv R))) (hn : (R.map (·.1)).Nodup) (hl : R.length < 64) (nmR : ∀ q ∈ R, isNm q.1 = true)
    (k : ∀ H' r rs, Same H H' → SizeAt C H' r rs → Nw C H H' r → (∀ n, rs.lookup n = cz (g0 R n)) → Q (.ref r) H') :
    ∀ x dx, H x = none → H dx = none → dx ≠ x → spInit C (.ref x :: ([.ref G] ++ [])) (upd (upd H dx (.own x)) x (.ins C dx [])) (fun v H2 => v = .non ∧ Q (.ref x) H2) E0 := by
  intro x ex nx ndx nex
  have Gx : G ≠ x := ne_of_none hG nx
  have Sx : Same H (upd (upd H ex (.own x)) x (.ins C ex [])) := fun b o e => by
    rw [upd_ne (ne_of_none e nx), upd_ne (ne_of_none e ndx)]
    exact e
  refine ⟨x, ex, .ref G, R, rfl, upd_same, .inr ⟨G, rfl, Gx, Sx _ _ hG⟩, hn, hl, nmR, fun H4 D4 R4 S4 hx4 nD4 hD4 sR4 lR4 zR4 => ⟨rfl, ?_⟩⟩
  refine k H4 x R4 (fun b o e => S4 b o (ne_of_none e nx) (Sx _ _ e)) (size_of hx4 hD4 sR4 lR4 zR4 hl nmR) ⟨ex, D4, hx4, nx, none_pre Sx nD4⟩ fun n => by rw [lR4, nz_cz]
theorem mulE_keys (es : Es) (k : Int) : (mulE es k).map (·.1) = es.map (·.1) := by
  unfold mulE
  rw [List.map_map]
  rfl
theorem mulE_nm {es : Es} {k : Int} (h : ∀ q ∈ es, isNm q.1 = true) : ∀ q ∈ mulE es k, isNm q.1 = true := fun q hq => by
  unfold mulE at hq
  obtain ⟨p, hp, rfl⟩ := List.mem_map.mp hq
  exact h p hp
theorem mulE_g0 (k : Int) (n : Str) : ∀ es : Es, g0 (mulE es k) n = g0 es n * k
  | [] => by
    show (0 : Int) = 0 * k
    rw [Int.zero_mul]
  | (m, i) :: r => by
    have ih := mulE_g0 k n r
    unfold g0 at ih ⊢
    show (List.lookup n ((m, i * k) :: mulE r k)).getD 0 = _
    by_cases h : n = m
    · subst h
      rw [List.lookup_cons_self, List.lookup_cons_self]
      rfl
    · have e : (n == m) = false := by simpa using h
      rw [List.lookup_cons, List.lookup_cons, e]
      exact ih
theorem mulE_len (es : Es) (k : Int) : (mulE es k).length = es.length := by
  unfold mulE
  rw [List.length_map]
/-- the names of a sum of two -/
theorem nm_sum2 {es fs R : Es} (p3 : (es.map (·.1)).Nodup) (q3 : (fs.map (·.1)).Nodup) (p5 : ∀ q ∈ es, isNm q.1 = true) (q5 : ∀ q ∈ fs, isNm q.1 = true)
    (lR : ∀ n, R.lookup n = (sumE [es, fs]).lookup n) : ∀ q ∈ R, isNm q.1 = true := fun q hq => by
  have hin : q.1 ∈ R.map (·.1) := List.mem_map.mpr ⟨q, hq, rfl⟩
  have h3 : q.1 ∈ (sumE [es, fs]).map (·.1) := look_mem.mp (by rw [← lR]; exact look_mem.mpr hin)
  have h4 : q.1 ∈ (addE [] es).map (·.1) ∨ q.1 ∈ fs.map (·.1) := mem_add q3 h3
  rcases h4 with h4 | h4
  · rcases mem_add p3 h4 with h5 | h5
    · cases h5
    · obtain ⟨r, hr, e⟩ := List.mem_map.mp h5
      rw [← e]
      exact p5 r hr
  · obtain ⟨r, hr, e⟩ := List.mem_map.mp h4
    rw [← e]
    exact q5 r hr

abbrev sOver : Stmt := inClass sSize 10
abbrev sPower : Stmt := inClass sSize 11
def spOver (C : Addr) : Sp := fun vs H Q _ => ∃ (p q : Addr) (es fs : Es), vs = [.ref p, .ref q] ∧ SizeAt C H p es ∧ SizeAt C H q fs ∧ es.length + fs.length < 64 ∧
  ∀ H' r rs, Same H H' → SizeAt C H' r rs → Nw C H H' r → (∀ n, rs.lookup n = cz (g0 es n - g0 fs n)) → Q (.ref r) H'
def spPower (C : Addr) : Sp := fun vs H Q _ => ∃ (p : Addr) (es : Es) (m : Int), vs = [.ref p, .int m] ∧ SizeAt C H p es ∧ 0 ≤ m ∧ m < 2 ^ 64 ∧
  ∀ H' r rs, Same H H' → SizeAt C H' r rs → Nw C H H' r → (∀ n, rs.lookup n = cz (g0 es n * m)) → Q (.ref r) H'
section
variable {P : Program} {w : World} {K : PySem.W.Frag} {mg : Str → Option Value} {base : Heap} {C : Addr}
theorem scOver : FnScope ["self", "other"] ["self", "other"] (defScope sOver) :=
  ⟨rfl, rfl, rfl, by decide +kernel, rfl, by decide +kernel, by decide +kernel⟩
theorem ok_over {f fC fI fX fA fT : Addr} {fd fdC fdI fdX fdA fdT : FuncData} (F : Fun K "over" "Size.over" sOver f fd) (Tc : Ck K mg C)
    (GC : FnOk P w K mg base CX0 1 fC fdC ["value"] (spCheck C)) (kC : PySem.W.keepIn K (.ref fC) = true) (bC : Binds K fdC ["value"] []) (gC : mg "check_size" = some (.ref fC))
    (M : Mk K C fI) (GI : FnOk P w K mg base CX0 3 fI fdI ["self", "exponents"] (spInit C)) (bI : Binds K fdI ["self", "exponents"] [])
    (mX : Meth K C "exponents" fX) (GX : FnOk P w K mg base CX0 1 fX fdX ["self"] (spExpo C)) (bX : Binds K fdX ["self"] [])
    (GT : FnOk P w K mg base CX0 1 fT fdT ["table", "factor"] spTimes) (kT : PySem.W.keepIn K (.ref fT) = true) (bT : Binds K fdT ["table", "factor"] []) (gT : mg "_times" = some (.ref fT))
    (GA : FnOk P w K mg base CX0 1 fA fdA ["tables"] (spAdded K)) (kA : PySem.W.keepIn K (.ref fA) = true) (bA : Binds K fdA ["tables"] []) (gA : mg "added" = some (.ref fA)) :
    FnOk P w K mg base CX0 5 f fd ["self", "other"] (spOver C) := by
  have GC4 := GC.mono (k := 4) (by decide)
  have GA4 := GA.mono (k := 4) (by decide)
  have GX4 := GX.mono (k := 4) (by decide)
  have GT4 := GT.mono (k := 4) (by decide)
  refine F.ok scOver (fun vs H Q E h => ?_) (fun cdv A outer s H vs Q E hr h => ?_)
  · obtain ⟨p, q, es, fs, rfl, _⟩ := h
    rfl
  · obtain ⟨p, q, es, fs, rfl, h1, h2, hl, k⟩ := h
    refine ⟨_, pss_cons (ps_expr (pe_call GC4 hr rfl gC kC bC .nil pass0 (pa_cons (pv 1) pa_nil)))
      (pss_one (ps_ret (pe_make M GI hr rfl Tc.gC bI .nil pass0 (pa_cons (pe_call GA4 hr rfl gA kA bA .nil pass0 (pa_cons (pe_lst (pa_cons (pe_fld (pv 0) rfl)
        (pa_cons (pe_call GT4 hr rfl gT kT bT .nil pass0 (pa_cons (pe_meth0 (pv 1) Tc.cl mX GX4 hr bX .nil pass0) (pa_cons (pe_un un_neg pe_int) pa_nil))) pa_nil))) pa_nil)) pa_nil)))), ?_⟩
    obtain ⟨dx, D, p1, p2, p3, p4, p5, p6⟩ := id h1
    obtain ⟨dy, D', q1, q2, q3, q4, q5, q6⟩ := id h2
    refine ⟨_, rfl, q, dy, _, rfl, q1, ?_⟩
    refine ⟨_, rfl, p, C, dx, _, _, rfl, p1, Tc.cl, Tc.nE, rfl, _, rfl, q, dy, _, rfl, q1, rfl, q, fs, rfl, h2, fun l nl => ?_⟩
    have S1 := fresh_upd (o := .dK (kv fs)) nl
    refine ⟨_, rfl, l, fs, -1, rfl, upd_same, q3.nodup, by omega, by decide, by decide, fun H2 L S2 nL hL => ?_⟩
    refine ⟨by rw [sizeLine_eq]; show 2 ≤ 16777216; decide, fun a na => ?_⟩
    have S3 := fresh_upd (o := .lst [.ref D, .ref L]) na
    have m3 : ((mulE fs (-1)).map (·.1)).Nodup := by rw [mulE_keys]; exact q3.nodup
    refine ⟨a, _, [es, mulE fs (-1)], rfl, SqL.of upd_same, .cons (S3 _ _ (S2 _ _ (S1 _ _ p2))) p3.nodup (.cons (S3 _ _ hL) m3 .nil), (by show 2 ≤ 1000; decide), ?_, fun H4 G R S4 nG hG sR lR zR => ?_⟩
    · show es.length + ((mulE fs (-1)).length + 0) < 64
      rw [mulE_len]
      omega
    have hlen : R.length < 64 := by
      have z : R.length ≤ es.length + ((mulE fs (-1)).length + 0) := zR
      rw [mulE_len] at z
      omega
    refine rd_make hG sR.nodup hlen (nm_sum2 p3.nodup m3 p5 (mulE_nm q5) lR) fun H' r rs S5 sz nw ls => k H' r rs (S1.trans (S2.trans (S3.trans (S4.trans S5)))) sz (nw.pre (S1.trans (S2.trans (S3.trans S4)))) fun n => ?_
    have gR : g0 R n = g0 es n - g0 fs n := by
      have z : g0 R n = g0 (sumE [es, mulE fs (-1)]) n := by
        unfold g0
        rw [lR n]
      rw [z, g0_sum2 p3.nodup m3, mulE_g0]
      omega
    rw [ls, gR]
theorem scPower : FnScope ["self", "count"] ["self", "count"] (defScope sPower) :=
  ⟨rfl, rfl, rfl, by decide +kernel, rfl, by decide +kernel, by decide +kernel⟩
theorem ok_power {f fC fI fT : Addr} {fd fdC fdI fdT : FuncData} (F : Fun K "power" "Size.power" sPower f fd) (Tc : Ck K mg C)
    (GC : FnOk P w K mg base CX0 2 fC fdC ["value"] spIsCount) (kC : PySem.W.keepIn K (.ref fC) = true) (bC : Binds K fdC ["value"] []) (gC : mg "is_count" = some (.ref fC))
    (M : Mk K C fI) (GI : FnOk P w K mg base CX0 3 fI fdI ["self", "exponents"] (spInit C)) (bI : Binds K fdI ["self", "exponents"] [])
    (GT : FnOk P w K mg base CX0 1 fT fdT ["table", "factor"] spTimes) (kT : PySem.W.keepIn K (.ref fT) = true) (bT : Binds K fdT ["table", "factor"] []) (gT : mg "_times" = some (.ref fT)) :
    FnOk P w K mg base CX0 5 f fd ["self", "count"] (spPower C) := by
  have GC4 := GC.mono (k := 4) (by decide)
  have GT4 := GT.mono (k := 4) (by decide)
  refine F.ok scPower (fun vs H Q E h => ?_) (fun cdv A outer s H vs Q E hr h => ?_)
  · obtain ⟨p, es, m, rfl, _⟩ := h
    rfl
  · obtain ⟨p, es, m, rfl, h1, hm, hm2, k⟩ := h
    refine ⟨_, pss_cons (ps_if (pt_not (pt_val (pe_call GC4 hr rfl gC kC bC .nil pass0 (pa_cons (pv 1) pa_nil)))) (pss_one ps_no) pss_nil)
      (pss_one (ps_ret (pe_make M GI hr rfl Tc.gC bI .nil pass0 (pa_cons (pe_call GT4 hr rfl gT kT bT .nil pass0 (pa_cons (pe_fld (pv 0) rfl) (pa_cons (pv 1) pa_nil))) pa_nil)))), ?_⟩
    obtain ⟨dx, D, p1, p2, p3, p4, p5, p6⟩ := id h1
    refine ⟨_, rfl, m, rfl, _, rfl, ?_⟩
    rw [decide_eq_true hm]
    refine iteF ?_
    refine ⟨_, rfl, p, C, dx, _, _, rfl, p1, Tc.cl, Tc.nE, rfl, _, rfl, D, es, m, rfl, p2, p3.nodup, by omega, by omega, hm2, fun H2 L S2 nL hL => ?_⟩
    refine rd_make hL (by rw [mulE_keys]; exact p3.nodup) (by rw [mulE_len]; exact p6) (mulE_nm p5) fun H' r rs S5 sz nw ls => k H' r rs (S2.trans S5) sz (nw.pre S2) fun n => ?_
    rw [ls, mulE_g0]
end
end K17
set_option maxHeartbeats 8000000
namespace K17
open PySem

/-! ### numbers by coprime bases -/
/-- products of members -/
inductive G (l : List Nat) : Nat → Prop
  | one : G l 1
  | mul {x n : Nat} : x ∈ l → G l n → G l (x * n)
theorem G.mulG {l : List Nat} {m n : Nat} (h : G l m) (k : G l n) : G l (m * n) := by
  induction h with
  | one => rw [Nat.one_mul]; exact k
  | mul hx _ ih => rw [Nat.mul_assoc]; exact .mul hx ih
theorem G.mem {l : List Nat} {x : Nat} (h : x ∈ l) : G l x := by
  have z := G.mul h (G.one (l := l))
  rw [Nat.mul_one] at z
  exact z
theorem G.trans {l m : List Nat} {n : Nat} (h : G l n) (k : ∀ x ∈ l, G m x) : G m n := by
  induction h with
  | one => exact .one
  | mul hx _ ih => exact (k _ hx).mulG ih
def Cop (bs : List Nat) : Prop := bs.Pairwise Nat.Coprime ∧ ∀ b ∈ bs, 1 < b
theorem not_cop_self {b : Nat} (h : 1 < b) : ¬ Nat.Coprime b b := fun z => by
  unfold Nat.Coprime at z
  rw [Nat.gcd_self] at z
  omega
theorem Cop.nodup {bs : List Nat} (h : Cop bs) : bs.Nodup := by
  obtain ⟨h1, h2⟩ := h
  induction h1 with
  | nil => exact List.Pairwise.nil
  | @cons a l ha _ ih =>
    refine List.Pairwise.cons (fun b hb e => ?_) (ih fun b hb => h2 b (List.mem_cons_of_mem _ hb))
    have z := ha b hb
    rw [← e] at z
    exact not_cop_self (h2 a (List.mem_cons_self ..)) z
def pw (f : Nat → Nat) : List Nat → Nat
  | [] => 1
  | b :: r => b ^ f b * pw f r
theorem pw_congr {f g : Nat → Nat} : ∀ {bs : List Nat}, (∀ b ∈ bs, f b = g b) → pw f bs = pw g bs
  | [], _ => rfl
  | b :: r, h => by
    show b ^ f b * pw f r = b ^ g b * pw g r
    rw [h b (List.mem_cons_self ..), pw_congr fun c hc => h c (List.mem_cons_of_mem _ hc)]
theorem pw_zero : ∀ bs : List Nat, pw (fun _ => 0) bs = 1
  | [] => rfl
  | b :: r => by
    show b ^ 0 * pw (fun _ => 0) r = 1
    rw [pw_zero r, Nat.pow_zero]
theorem pw_add (f g : Nat → Nat) : ∀ bs : List Nat, pw (fun b => f b + g b) bs = pw f bs * pw g bs
  | [] => rfl
  | b :: r => by
    show b ^ (f b + g b) * pw (fun b => f b + g b) r = b ^ f b * pw f r * (b ^ g b * pw g r)
    rw [pw_add f g r, Nat.pow_add, Nat.mul_mul_mul_comm]
theorem pw_mul (k : Nat) (f : Nat → Nat) : ∀ bs : List Nat, pw (fun b => k * f b) bs = pw f bs ^ k
  | [] => by
    show 1 = 1 ^ k
    rw [Nat.one_pow]
  | b :: r => by
    show b ^ (k * f b) * pw (fun b => k * f b) r = (b ^ f b * pw f r) ^ k
    rw [pw_mul k f r, Nat.mul_pow, ← Nat.pow_mul, Nat.mul_comm k]
theorem pw_one {x : Nat} : ∀ {bs : List Nat}, bs.Nodup → x ∈ bs → pw (fun b => if b = x then 1 else 0) bs = x
  | [], _, h => by cases h
  | b :: r, hn, h => by
    obtain ⟨n1, n2⟩ := List.pairwise_cons.mp hn
    show b ^ (if b = x then 1 else 0) * pw (fun b => if b = x then 1 else 0) r = x
    by_cases e : b = x
    · rw [if_pos e, Nat.pow_one, pw_congr (g := fun _ => 0) (fun c hc => if_neg fun z => n1 c hc (by rw [e, z])), pw_zero, Nat.mul_one, e]
    · rw [if_neg e, Nat.pow_zero, Nat.one_mul]
      rcases List.mem_cons.mp h with z | z
      · exact absurd z.symm e
      · exact pw_one n2 z
theorem G.pw {bs : List Nat} {n : Nat} (h : G bs n) (hn : bs.Nodup) : ∃ f, n = K17.pw f bs := by
  induction h with
  | one => exact ⟨fun _ => 0, (pw_zero bs).symm⟩
  | @mul x m hx _ ih =>
    obtain ⟨f, rfl⟩ := ih
    exact ⟨fun b => (if b = x then 1 else 0) + f b, by rw [pw_add, pw_one hn hx]⟩
theorem cop_pw {c : Nat} (f : Nat → Nat) : ∀ {bs : List Nat}, (∀ b ∈ bs, Nat.Coprime c b) → Nat.Coprime c (pw f bs)
  | [], _ => Nat.coprime_one_right c
  | b :: r, h => Nat.Coprime.mul_right (Nat.Coprime.pow_right _ (h b (List.mem_cons_self ..))) (cop_pw f fun d hd => h d (List.mem_cons_of_mem _ hd))
/-- a base's own part -/
theorem pw_split {b : Nat} (f : Nat → Nat) : ∀ {bs : List Nat}, Cop bs → b ∈ bs → ∃ r, pw f bs = b ^ f b * r ∧ Nat.Coprime b r
  | [], _, h => by cases h
  | c :: r, hc, h => by
    obtain ⟨h1, h2⟩ := hc
    obtain ⟨n1, n2⟩ := List.pairwise_cons.mp h1
    have hr : Cop r := ⟨n2, fun d hd => h2 d (List.mem_cons_of_mem _ hd)⟩
    by_cases e : b = c
    · subst e
      exact ⟨pw f r, rfl, cop_pw f n1⟩
    · have hb : b ∈ r := by
        rcases List.mem_cons.mp h with z | z
        · exact absurd z e
        · exact z
      obtain ⟨q, e2, hq⟩ := pw_split f hr hb
      refine ⟨c ^ f c * q, ?_, Nat.Coprime.mul_right (Nat.Coprime.pow_right _ (n1 b hb).symm) hq⟩
      show c ^ f c * pw f r = _
      rw [e2, Nat.mul_left_comm]
/-- below divides above just if it does so base by base -/
theorem pw_dvd {f g : Nat → Nat} {bs : List Nat} (hc : Cop bs) : pw f bs ∣ pw g bs ↔ ∀ b ∈ bs, f b ≤ g b := by
  constructor
  · intro h b hb
    obtain ⟨r, e1, h1⟩ := pw_split f hc hb
    obtain ⟨q, e2, h2⟩ := pw_split g hc hb
    have h3 : b ^ f b ∣ b ^ g b * q := by
      rw [← e2]
      exact Nat.dvd_trans ⟨r, e1⟩ h
    have h4 : b ^ f b ∣ b ^ g b := (Nat.Coprime.pow_left _ h2).dvd_of_dvd_mul_right h3
    exact (Nat.pow_dvd_pow_iff_le_right (hc.2 b hb)).mp h4
  · intro h
    refine ⟨pw (fun b => g b - f b) bs, ?_⟩
    rw [← pw_add]
    exact pw_congr fun b hb => by have := h b hb; omega
theorem pw_pos {f : Nat → Nat} : ∀ {bs : List Nat}, (∀ b ∈ bs, 1 < b) → 0 < pw f bs
  | [], _ => Nat.one_pos
  | b :: r, h => Nat.mul_pos (Nat.pow_pos (by have := h b (List.mem_cons_self ..); omega)) (pw_pos fun c hc => h c (List.mem_cons_of_mem _ hc))
end K17
set_option maxHeartbeats 8000000
namespace K17
open PySem

/-- how often b goes into n -/
def IsOrd (n b k : Nat) : Prop := ∃ r, n = b ^ k * r ∧ ¬ b ∣ r
theorem IsOrd.zero {n b : Nat} (h : ¬ b ∣ n) : IsOrd n b 0 := ⟨n, by rw [Nat.pow_zero, Nat.one_mul], h⟩
theorem IsOrd.succ {n b k : Nat} (h : b ∣ n) (hk : IsOrd (n / b) b k) : IsOrd n b (k + 1) := by
  obtain ⟨r, e, hr⟩ := hk
  refine ⟨r, ?_, hr⟩
  rw [Nat.pow_succ', Nat.mul_assoc, ← e, Nat.mul_div_cancel' h]
theorem IsOrd.le {b k j r s : Nat} (hb : 1 < b) (e : b ^ k * r = b ^ j * s) (hr : ¬ b ∣ r) : j ≤ k := by
  refine Nat.le_of_not_lt fun h => hr ?_
  obtain ⟨d, rfl⟩ := Nat.exists_eq_add_of_lt h
  have e2 : b ^ k * r = b ^ k * (b * (b ^ d * s)) := by
    rw [e, Nat.add_right_comm, show k + 1 + d = k + (d + 1) by omega, Nat.pow_add, Nat.pow_succ', Nat.mul_assoc, Nat.mul_assoc]
  exact ⟨_, Nat.eq_of_mul_eq_mul_left (Nat.pow_pos (by omega)) e2⟩
theorem IsOrd.one {n b k j : Nat} (hb : 1 < b) (h : IsOrd n b k) (g : IsOrd n b j) : k = j := by
  obtain ⟨r, e1, hr⟩ := h
  obtain ⟨s, e2, hs⟩ := g
  exact Nat.le_antisymm (IsOrd.le hb (e2.symm.trans e1) hs) (IsOrd.le hb (e1.symm.trans e2) hr)
theorem ord_pw {f : Nat → Nat} {bs : List Nat} {b k : Nat} (hc : Cop bs) (hb : b ∈ bs) (h : IsOrd (pw f bs) b k) : k = f b := by
  obtain ⟨r, e, hr⟩ := pw_split f hc hb
  have h1 := hc.2 b hb
  refine IsOrd.one h1 h ⟨r, e, fun z => ?_⟩
  have z2 := Nat.Coprime.eq_one_of_dvd hr z
  omega
/-- a number that the bases make is the product of their powers, by these orders -/
theorem G.by_ord {bs : List Nat} {n : Nat} (h : G bs n) (hc : Cop bs) {f : Nat → Nat} (hf : ∀ b ∈ bs, IsOrd n b (f b)) : n = K17.pw f bs := by
  obtain ⟨g, rfl⟩ := h.pw hc.nodup
  exact pw_congr fun b hb => (ord_pw hc hb (hf b hb)).symm

/-! ### the bases, refined -/
def pr : List Nat → Nat
  | [] => 1
  | x :: r => x * pr r
theorem pr_app : ∀ a b : List Nat, pr (a ++ b) = pr a * pr b
  | [], b => (Nat.one_mul _).symm
  | x :: r, b => by
    show x * pr (r ++ b) = x * pr r * pr b
    rw [pr_app r b, Nat.mul_assoc]
theorem pr_pos : ∀ {a : List Nat}, (∀ x ∈ a, 0 < x) → 0 < pr a
  | [], _ => Nat.one_pos
  | x :: r, h => Nat.mul_pos (h x (List.mem_cons_self ..)) (pr_pos fun y hy => h y (List.mem_cons_of_mem _ hy))
structure Rf (ts found pending : List Nat) : Prop where
  cop : Cop found
  pos : ∀ p ∈ pending, 0 < p
  gen : ∀ x ∈ ts, G (found ++ pending) x
def mu (found pending : List Nat) : Nat := 3 * (pr found * pr pending) + pending.length
theorem Rf.fpos {ts found pending : List Nat} (h : Rf ts found pending) : ∀ x ∈ found, 0 < x := fun x hx => by
  have := h.cop.2 x hx
  omega
/-- a part that shares nothing -/
theorem Rf.add {ts found ps : List Nat} {p : Nat} (h : Rf ts found (ps ++ [p])) (hs : ∀ b ∈ found, Nat.gcd b p ≤ 1) (h1 : 1 < p) : Rf ts (found ++ [p]) ps ∧ mu (found ++ [p]) ps < mu found (ps ++ [p]) := by
  refine ⟨⟨⟨?_, fun b hb => ?_⟩, fun x hx => h.pos x (List.mem_append_left _ hx), fun x hx => (h.gen x hx).trans fun y hy => .mem ?_⟩, ?_⟩
  · refine List.pairwise_append.mpr ⟨h.cop.1, List.pairwise_singleton .., fun a ha b hb => ?_⟩
    rw [List.mem_singleton.mp hb]
    have h2 := hs a ha
    have h3 := Nat.gcd_pos_of_pos_right a (show 0 < p by omega)
    show Nat.gcd a p = 1
    omega
  · rcases List.mem_append.mp hb with z | z
    · exact h.cop.2 b z
    · rw [List.mem_singleton.mp z]
      exact h1
  · rcases List.mem_append.mp hy with z | z
    · exact List.mem_append_left _ (List.mem_append_left _ z)
    · rcases List.mem_append.mp z with z | z
      · exact List.mem_append_right _ z
      · exact List.mem_append_left _ (List.mem_append_right _ z)
  · unfold mu
    rw [pr_app, pr_app, List.length_append]
    have e : pr found * pr [p] * pr ps = pr found * (pr ps * pr [p]) := by rw [Nat.mul_assoc, Nat.mul_comm (pr [p])]
    rw [e]
    show _ < _ + (ps.length + 1)
    omega
theorem Rf.drop {ts found ps : List Nat} {p : Nat} (h : Rf ts found (ps ++ [p])) (h1 : ¬ 1 < p) : Rf ts found ps ∧ mu found ps < mu found (ps ++ [p]) := by
  have e1 : p = 1 := by
    have := h.pos p (List.mem_append_right _ (List.mem_singleton.mpr rfl))
    omega
  subst e1
  refine ⟨⟨h.cop, fun x hx => h.pos x (List.mem_append_left _ hx), fun x hx => (h.gen x hx).trans fun y hy => ?_⟩, ?_⟩
  · rcases List.mem_append.mp hy with z | z
    · exact .mem (List.mem_append_left _ z)
    · rcases List.mem_append.mp z with z | z
      · exact .mem (List.mem_append_right _ z)
      · rw [List.mem_singleton.mp z]
        exact .one
  · unfold mu
    rw [pr_app, List.length_append]
    show 3 * (pr found * pr ps) + ps.length < 3 * (pr found * (pr ps * (1 * 1))) + (ps.length + 1)
    rw [Nat.mul_one]
    omega
theorem Rf.split {ts l1 l2 ps : List Nat} {b p : Nat} (h : Rf ts (l1 ++ b :: l2) (ps ++ [p])) (hs : 1 < Nat.gcd b p) :
    Rf ts (l1 ++ l2) (ps ++ [b / Nat.gcd b p, Nat.gcd b p, p / Nat.gcd b p]) ∧ mu (l1 ++ l2) (ps ++ [b / Nat.gcd b p, Nat.gcd b p, p / Nat.gcd b p]) < mu (l1 ++ b :: l2) (ps ++ [p]) := by
  have hb : 0 < b := h.fpos b (List.mem_append_right _ (List.mem_cons_self ..))
  have hp : 0 < p := h.pos p (List.mem_append_right _ (List.mem_singleton.mpr rfl))
  have d1 : Nat.gcd b p ∣ b := Nat.gcd_dvd_left b p
  have d2 : Nat.gcd b p ∣ p := Nat.gcd_dvd_right b p
  generalize Nat.gcd b p = c at hs d1 d2
  obtain ⟨x, rfl⟩ := d1
  obtain ⟨y, rfl⟩ := d2
  rw [Nat.mul_div_cancel_left x (by omega), Nat.mul_div_cancel_left y (by omega)]
  have hx : 0 < x := Nat.pos_of_mul_pos_left hb
  have hy : 0 < y := Nat.pos_of_mul_pos_left hp
  have hsub : (l1 ++ l2).Sublist (l1 ++ c * x :: l2) := List.Sublist.append_left (List.sublist_cons_self ..) l1
  refine ⟨⟨⟨List.Pairwise.sublist hsub h.cop.1, fun d hd => h.cop.2 d (hsub.subset hd)⟩, fun z hz => ?_, fun z hz => (h.gen z hz).trans fun w hw => ?_⟩, ?_⟩
  · rcases List.mem_append.mp hz with q | q
    · exact h.pos z (List.mem_append_left _ q)
    · simp only [List.mem_cons, List.not_mem_nil, or_false] at q
      rcases q with rfl | rfl | rfl <;> omega
  · have mem1 : ∀ v, v ∈ [x, c, y] → G (l1 ++ l2 ++ (ps ++ [x, c, y])) v := fun v hv => .mem (List.mem_append_right _ (List.mem_append_right _ hv))
    rcases List.mem_append.mp hw with q | q
    · rcases List.mem_append.mp q with q | q
      · exact .mem (List.mem_append_left _ (List.mem_append_left _ q))
      · rcases List.mem_cons.mp q with q | q
        · rw [q]
          exact (mem1 c (by simp)).mulG (mem1 x (by simp))
        · exact .mem (List.mem_append_left _ (List.mem_append_right _ q))
    · rcases List.mem_append.mp q with q | q
      · exact .mem (List.mem_append_right _ (List.mem_append_left _ q))
      · rw [List.mem_singleton.mp q]
        exact (mem1 c (by simp)).mulG (mem1 y (by simp))
  · unfold mu
    rw [pr_app, pr_app, pr_app, pr_app, List.length_append, List.length_append]
    show 3 * (pr l1 * pr l2 * (pr ps * (x * (c * (y * 1))))) + (ps.length + 3) < 3 * (pr l1 * (c * x * pr l2) * (pr ps * (c * y * 1))) + (ps.length + 1)
    have e1 : pr l1 * (c * x * pr l2) * (pr ps * (c * y * 1)) = c * (pr l1 * pr l2 * (pr ps * (x * (c * (y * 1))))) := by
      simp only [Nat.mul_one, Nat.mul_assoc, Nat.mul_left_comm, Nat.mul_comm]
    rw [e1]
    have hl : 0 < pr l1 * pr l2 * (pr ps * (x * (c * (y * 1)))) := by
      refine Nat.mul_pos (Nat.mul_pos (pr_pos fun d hd => h.fpos d (List.mem_append_left _ hd)) (pr_pos fun d hd => h.fpos d (List.mem_append_right _ (List.mem_cons_of_mem _ hd)))) (Nat.mul_pos (pr_pos fun d hd => h.pos d (List.mem_append_left _ hd)) ?_)
      exact Nat.mul_pos hx (Nat.mul_pos (by omega) (by omega))
    generalize pr l1 * pr l2 * (pr ps * (x * (c * (y * 1)))) = P at hl
    have h2 : 2 * P ≤ c * P := Nat.mul_le_mul_right P (by omega)
    omega
end K17
set_option maxHeartbeats 8000000
namespace K17
open PySem

/-! ### a size's value by orders -/
/-- exponents, each with the orders of its number -/
abbrev Ls : Type := List (Int × (Nat → Nat))
def upE : Ls → Nat → Nat
  | [], _ => 0
  | (e, f) :: r, b => (if 0 < e then e.toNat else 0) * f b + upE r b
def dnE : Ls → Nat → Nat
  | [], _ => 0
  | (e, f) :: r, b => (if e < 0 then (-e).toNat else 0) * f b + dnE r b
def sm : Ls → Nat → Int
  | [], _ => 0
  | (e, f) :: r, b => e * (f b : Nat) + sm r b
/-- the values above and below -/
def above (bs : List Nat) : Ls → Nat
  | [] => 1
  | (e, f) :: r => (if 0 < e then pw f bs ^ e.toNat else 1) * above bs r
def below (bs : List Nat) : Ls → Nat
  | [] => 1
  | (e, f) :: r => (if e < 0 then pw f bs ^ (-e).toNat else 1) * below bs r
theorem above_eq (bs : List Nat) : ∀ l : Ls, above bs l = pw (upE l) bs
  | [] => (pw_zero bs).symm
  | (e, f) :: r => by
    show (if 0 < e then pw f bs ^ e.toNat else 1) * above bs r = pw (fun b => (if 0 < e then e.toNat else 0) * f b + upE r b) bs
    rw [above_eq bs r, pw_add, pw_mul]
    split
    · rfl
    · rw [Nat.pow_zero]
theorem below_eq (bs : List Nat) : ∀ l : Ls, below bs l = pw (dnE l) bs
  | [] => (pw_zero bs).symm
  | (e, f) :: r => by
    show (if e < 0 then pw f bs ^ (-e).toNat else 1) * below bs r = pw (fun b => (if e < 0 then (-e).toNat else 0) * f b + dnE r b) bs
    rw [below_eq bs r, pw_add, pw_mul]
    split
    · rfl
    · rw [Nat.pow_zero]
theorem sm_eq (b : Nat) : ∀ l : Ls, sm l b = (upE l b : Int) - (dnE l b : Int)
  | [] => rfl
  | (e, f) :: r => by
    show e * (f b : Nat) + sm r b = (((if 0 < e then e.toNat else 0) * f b + upE r b : Nat) : Int) - (((if e < 0 then (-e).toNat else 0) * f b + dnE r b : Nat) : Int)
    rw [sm_eq b r]
    by_cases h1 : 0 < e
    · have h2 : ¬ e < 0 := by omega
      rw [if_pos h1, if_neg h2, Nat.zero_mul, Nat.zero_add]
      have e1 : ((e.toNat * f b + upE r b : Nat) : Int) = e * (f b : Nat) + (upE r b : Nat) := by
        rw [Int.natCast_add, Int.natCast_mul, Int.toNat_of_nonneg (by omega)]
      rw [e1]
      omega
    · by_cases h2 : e < 0
      · rw [if_neg h1, if_pos h2, Nat.zero_mul, Nat.zero_add]
        have e1 : (((-e).toNat * f b + dnE r b : Nat) : Int) = -e * (f b : Nat) + (dnE r b : Nat) := by
          rw [Int.natCast_add, Int.natCast_mul, Int.toNat_of_nonneg (by omega)]
        rw [e1, Int.neg_mul]
        omega
      · have : e = 0 := by omega
        subst this
        simp
theorem above_pos {bs : List Nat} (hc : Cop bs) (l : Ls) : 0 < above bs l := by
  rw [above_eq]
  exact pw_pos hc.2
theorem below_pos {bs : List Nat} (hc : Cop bs) (l : Ls) : 0 < below bs l := by
  rw [below_eq]
  exact pw_pos hc.2
/-- whole: all sums are at least 0, and the value is the product of the bases' powers -/
theorem value_whole {bs : List Nat} (l : Ls) (h : ∀ b ∈ bs, 0 ≤ sm l b) : above bs l = below bs l * pw (fun b => (sm l b).toNat) bs := by
  rw [above_eq, below_eq, ← pw_add]
  exact pw_congr fun b hb => by
    have h1 := h b hb
    rw [sm_eq] at h1 ⊢
    omega
theorem value_not {bs : List Nat} (hc : Cop bs) (l : Ls) {b : Nat} (hb : b ∈ bs) (h : sm l b < 0) : ¬ below bs l ∣ above bs l := fun z => by
  rw [above_eq, below_eq] at z
  have h1 := (pw_dvd hc).mp z b hb
  rw [sm_eq] at h
  omega
theorem value_dvd {bs : List Nat} (hc : Cop bs) (l : Ls) : below bs l ∣ above bs l ↔ ∀ b ∈ bs, 0 ≤ sm l b := by
  constructor
  · intro z b hb
    refine Int.not_lt.mp fun h => value_not hc l hb h z
  · intro h
    exact ⟨_, value_whole l h⟩
end K17
set_option maxHeartbeats 8000000
namespace K17
open PySem PySem.Spec PyProof.Rows L2

/-! ### order_in -/
abbrev sOrd : Stmt := top 25
def spOrd : Sp := fun vs H Q _ => ∃ n b : Nat, vs = [.int n, .int b] ∧ 0 < n ∧ 1 < b ∧ b < 1073741824 ∧ ∀ k : Nat, IsOrd n b k → Q (.int k) H
section
variable {P : Program} {w : World} {K : PySem.W.Frag} {mg : Str → Option Value} {base : Heap}
theorem scOrd : FnScope ["number", "base", "order"] ["number", "base"] (defScope sOrd) :=
  ⟨rfl, rfl, rfl, by decide +kernel, rfl, by decide +kernel, by decide +kernel⟩
theorem ok_ord {f : Addr} {fd : FuncData} (F : Fun K "order_in" "order_in" sOrd f fd) : FnOk P w K mg base CX0 1 f fd ["number", "base"] spOrd := by
  refine F.ok scOrd (fun vs H Q E h => ?_) (fun cdv A outer s H vs Q E hr h => ?_)
  · obtain ⟨n, b, rfl, _⟩ := h
    rfl
  · obtain ⟨n, b, rfl, n0, b1, b2, k⟩ := h
    refine ⟨_, pss_cons (ps_set (i := 2) scOrd.nd rfl (.inl rfl) pe_int)
      (pss_cons (ps_while PassesOwn.never (pt_cmpR op_eq (pe_op op_mod (pv 0) (pv 1)) pe_int (nomark _))
        (pss_cons (ps_set (i := 0) scOrd.nd rfl (.inl rfl) (pe_op op_fdiv (pv 0) (pv 1))) (pss_one (ps_set (i := 2) scOrd.nd rfl (.inl rfl) (pe_op op_add (pv 2) pe_int)))))
      (pss_one (ps_ret (pv 2)))), ?_⟩
    refine ⟨fun μ σ H2 => H2 = H ∧ ∃ m j : Nat, σ = [some (.int m), some (.int b), some (.int j)] ∧ 0 < m ∧ μ = m ∧ ∀ i, IsOrd m b i → IsOrd n b (j + i), ⟨n, rfl, n, 0, rfl, n0, rfl, fun i h => by rw [Nat.zero_add]; exact h⟩, ?_⟩
    rintro μ σ H2 ⟨rfl, m, j, rfl, m0, rfl, hj⟩
    refine ⟨_, rfl, _, rfl, _, _, rfl, rfl, (by show (0 : Int) < (b : Int); omega), ?_⟩
    refine ⟨rfl, _, rfl, ?_⟩
    have em : ((μ : Nat) : Int) % (b : Int) = ((μ % b : Nat) : Int) := by omega
    by_cases hd : b ∣ μ
    · have h0 : μ % b = 0 := Nat.mod_eq_zero_of_dvd hd
      refine iteT' (decide_eq_true (show V.int (((μ : Nat) : Int) % (b : Int)) = V.int 0 by rw [em, h0]; rfl)) ?_
      refine ⟨fun σ' H' => H' = H2 ∧ σ' = [some (.int ((μ / b : Nat) : Int)), some (.int b), some (.int ((j + 1 : Nat) : Int))], ?_, ?_⟩
      · rintro σ' H' ⟨rfl, rfl⟩
        refine ⟨μ / b, Nat.div_lt_self m0 b1, rfl, μ / b, j + 1, rfl, Nat.div_pos (Nat.le_of_dvd m0 hd) (by omega), rfl, fun i h => ?_⟩
        rw [Nat.add_assoc, Nat.add_comm 1]
        exact hj _ (.succ hd h)
      · refine ⟨_, rfl, _, rfl, _, _, rfl, rfl, ⟨by show (0 : Int) < (b : Int); omega, by show (b : Int) < 1073741824; omega⟩, ?_⟩
        refine ⟨_, rfl, _, _, rfl, rfl, rfl, ?_⟩
        have e1 : ((μ : Nat) : Int) / (b : Int) = ((μ / b : Nat) : Int) := by omega
        show [some (V.int (((μ : Nat) : Int) / (b : Int))), some (V.int b), some (V.int ((j : Nat) + 1))] = _
        rw [e1]
        rfl
    · have h0 : μ % b ≠ 0 := fun z => hd (Nat.dvd_of_mod_eq_zero z)
      refine iteN' (fun z => h0 (by have z2 : ((μ : Nat) : Int) % (b : Int) = 0 := V.int.inj z; omega)) ?_
      exact ⟨_, rfl, k j (hj 0 (.zero hd))⟩
end
end K17
set_option maxHeartbeats 8000000
namespace K17
open PySem PySem.Spec PyProof.Rows L2

/-! ### _sharing -/
abbrev sSha : Stmt := top 27
/-- the numbers of a list -/
def nv (bs : List Nat) : List V := bs.map fun (b : Nat) => V.int (Int.ofNat b)
def spSha : Sp := fun vs H Q _ => ∃ (l : Addr) (bs : List Nat) (p : Nat), vs = [.ref l, .int p] ∧ H l = some (.lst (nv bs)) ∧
  ((∀ b ∈ bs, Nat.gcd b p ≤ 1) → ∀ H', Same H H' → Q .non H') ∧ (∀ l1 b l2, bs = l1 ++ b :: l2 → (∀ c ∈ l1, Nat.gcd c p ≤ 1) → 1 < Nat.gcd b p → ∀ H', Same H H' → Q (.int (l1.length : Nat)) H')
section
variable {P : Program} {w : World} {K : PySem.W.Frag} {mg : Str → Option Value} {base : Heap}
def NSh : List Str := ["bases", "number", "at", "base"]
theorem scSha : FnScope NSh ["bases", "number"] (defScope sSha) :=
  ⟨rfl, rfl, rfl, by decide +kernel, rfl, by decide +kernel, by decide +kernel⟩
theorem ok_sha {f : Addr} {fd : FuncData} (F : Fun K "_sharing" "_sharing" sSha f fd) (eN : mg "enumerate" = none) (gG : mg "gcd" = some (.builtin "math.gcd")) : FnOk P w K mg base CX0 1 f fd ["bases", "number"] spSha := by
  refine F.ok scSha (fun vs H Q E h => ?_) (fun cdv A outer s H vs Q E hr h => ?_)
  · obtain ⟨l, bs, p, rfl, _⟩ := h
    rfl
  · obtain ⟨l, bs, p, rfl, hl, k0, k1⟩ := h
    refine ⟨_, pss_cons (ps_for PassesOwn.never rfl (pi_enum (by rfl) eN (pa_cons (pv 0) pa_nil)) (pg_tup rfl (pgs_cons (pg_name (i := 2) scSha.nd rfl (Or.inl rfl)) (pgs_cons (pg_name (i := 3) scSha.nd rfl (Or.inl rfl)) pgs_nil)))
        (pss_one (ps_if (pt_cmpR op_gt (pe_callBfun cr_gcd (by rfl) gG (pa_cons (pv 3) (pa_cons (pv 1) pa_nil))) pe_int (nomark _)) (pss_one (ps_ret (pv 2))) pss_nil)))
      (pss_one (ps_ret pe_non)), ?_⟩
    refine ⟨_, rfl, l, _, rfl, SqL.of hl, for_it (walk_enum (K := K) (a := l) (xs := nv bs)) (fun i σ H2 => (∃ o2 o3, σ = [some (.ref l), some (.int p), o2, o3]) ∧ Same H H2 ∧ ∀ c ∈ bs.take i, Nat.gcd c p ≤ 1)
      ⟨⟨none, none, rfl⟩, Same.refl H, fun c hc => by simp at hc⟩ (fun i σ H2 _ h => SqL.of (h.2.1 _ _ hl)) ?_ ?_⟩
    · rintro i v σ H2 H3 hi ⟨⟨o2, o3, rfl⟩, S2, hc⟩ ⟨T, y, z, rfl, nT, rfl, e1, e2⟩
      unfold nv at hi e2
      rw [List.length_map] at hi
      have ez : z = V.int (Int.ofNat bs[i]) := by
        dsimp only at e2
        rw [List.getElem?_map, List.getElem?_eq_getElem hi] at e2
        exact (Option.some.inj e2).symm
      have ey : y = V.int (i : Nat) := (Option.some.inj e1).symm
      subst ez
      subst ey
      have S3 : Same H2 (upd H2 T (.tup [V.int (i : Nat), V.int (Int.ofNat bs[i])])) := fresh_upd nT
      refine ⟨T, _, rfl, SqT.of upd_same, rfl, _, _, rfl, _, _, rfl, rfl, ?_⟩
      refine ⟨_, rfl, _, rfl, _, _, rfl, ?_⟩
      refine ⟨_, _, rfl, rfl, _, rfl, ?_⟩
      have eg : ((Int.ofNat bs[i]).natAbs).gcd ((p : Int).natAbs) = Nat.gcd bs[i] p := rfl
      rw [eg]
      refine ite2 (fun h => ?_) fun h => ?_
      · have h' : 1 < Nat.gcd bs[i] p := by
          have := of_decide_eq_true h
          omega
        refine ⟨_, rfl, ?_⟩
        have e3 : bs = bs.take i ++ bs[i] :: bs.drop (i + 1) := by
          rw [← List.drop_eq_getElem_cons hi, List.take_append_drop]
        have z := k1 (bs.take i) bs[i] (bs.drop (i + 1)) e3 hc h' _ (S2.trans S3)
        rw [List.length_take, Nat.min_eq_left (Nat.le_of_lt hi)] at z
        exact z
      · have h' : Nat.gcd bs[i] p ≤ 1 := by
          have := of_decide_eq_false (Bool.eq_false_iff.mpr h)
          omega
        refine ⟨⟨_, _, rfl⟩, S2.trans S3, fun c hc2 => ?_⟩
        rw [List.take_add_one, List.getElem?_eq_getElem hi] at hc2
        rcases List.mem_append.mp hc2 with q | q
        · exact hc c q
        · rw [List.mem_singleton.mp q]
          exact h'
    · rintro σ H2 ⟨⟨o2, o3, rfl⟩, S2, hc⟩
      unfold nv at hc
      rw [List.length_map, List.take_length] at hc
      exact k0 hc H2 S2
end
end K17
set_option maxHeartbeats 8000000
namespace K17
open PySem PySem.Spec PyProof.Rows L2

/-! ### _refined: the state's bounds -/
structure Lg (m P0 : Nat) (found pending : List Nat) : Prop where
  ex : ∃ e, pr found * pr pending < 2 ^ e ∧ 3 * e + pending.length ≤ m
  le : pr found * pr pending ≤ P0
  small : ∀ x ∈ found ++ pending, x < 1073741824
theorem len_pr : ∀ {a : List Nat}, (∀ x ∈ a, 1 < x) → 2 ^ a.length ≤ pr a
  | [], _ => Nat.le_refl _
  | x :: r, h => by
    show 2 ^ (r.length + 1) ≤ x * pr r
    rw [Nat.pow_succ, Nat.mul_comm]
    exact Nat.mul_le_mul (h x (List.mem_cons_self ..)) (len_pr fun y hy => h y (List.mem_cons_of_mem _ hy))
theorem Lg.flen {ts : List Nat} {m P0 : Nat} {found pending : List Nat} (h : Lg m P0 found pending) (r : Rf ts found pending) : found.length ≤ m := by
  obtain ⟨e, h1, h2⟩ := h.ex
  have h3 := len_pr r.cop.2
  have h4 := pr_pos r.pos
  have h5 : 2 ^ found.length < 2 ^ e := Nat.lt_of_le_of_lt (Nat.le_trans h3 (Nat.le_mul_of_pos_right _ h4)) h1
  have h6 := (Nat.pow_lt_pow_iff_right (show 1 < 2 by decide)).mp h5
  omega
theorem Lg.plen {m P0 : Nat} {found pending : List Nat} (h : Lg m P0 found pending) : pending.length ≤ m := by
  obtain ⟨e, h1, h2⟩ := h.ex
  omega
theorem Lg.add {m P0 : Nat} {found ps : List Nat} {p : Nat} (h : Lg m P0 found (ps ++ [p])) : Lg (m - 1) P0 (found ++ [p]) ps ∧ 0 < m := by
  obtain ⟨⟨e, h1, h2⟩, h3, h4⟩ := h
  have ee : pr (found ++ [p]) * pr ps = pr found * pr (ps ++ [p]) := by
    rw [pr_app, pr_app, Nat.mul_assoc, Nat.mul_comm (pr [p])]
  rw [List.length_append] at h2
  have h2' : 3 * e + (ps.length + 1) ≤ m := h2
  refine ⟨⟨⟨e, by rw [ee]; exact h1, by omega⟩, by rw [ee]; exact h3, fun x hx => h4 x ?_⟩, by omega⟩
  simp only [List.mem_append] at hx ⊢
  rcases hx with (z | z) | z
  · exact .inl z
  · exact .inr (.inr z)
  · exact .inr (.inl z)
theorem Lg.drop {m P0 : Nat} {found ps : List Nat} (h : Lg m P0 found (ps ++ [1])) : Lg (m - 1) P0 found ps ∧ 0 < m := by
  obtain ⟨⟨e, h1, h2⟩, h3, h4⟩ := h
  have ee : pr (ps ++ [1]) = pr ps := by
    rw [pr_app]
    exact Nat.mul_one _
  rw [ee] at h1 h3
  rw [List.length_append] at h2
  have h2' : 3 * e + (ps.length + 1) ≤ m := h2
  exact ⟨⟨⟨e, h1, by omega⟩, h3, fun x hx => h4 x (by
    simp only [List.mem_append] at hx ⊢
    rcases hx with z | z
    · exact .inl z
    · exact .inr (.inl z))⟩, by omega⟩
theorem Lg.split {ts : List Nat} {m P0 : Nat} {l1 l2 ps : List Nat} {b p : Nat} (h : Lg m P0 (l1 ++ b :: l2) (ps ++ [p])) (r : Rf ts (l1 ++ b :: l2) (ps ++ [p])) (hs : 1 < Nat.gcd b p) :
    Lg (m - 1) P0 (l1 ++ l2) (ps ++ [b / Nat.gcd b p, Nat.gcd b p, p / Nat.gcd b p]) ∧ 0 < m := by
  obtain ⟨⟨e, h1, h2⟩, h3, h4⟩ := h
  have hb : 0 < b := r.fpos b (List.mem_append_right _ (List.mem_cons_self ..))
  have hp : 0 < p := r.pos p (List.mem_append_right _ (List.mem_singleton.mpr rfl))
  have sb := h4 b (by simp)
  have sp := h4 p (by simp)
  have d1 : Nat.gcd b p ∣ b := Nat.gcd_dvd_left b p
  have d2 : Nat.gcd b p ∣ p := Nat.gcd_dvd_right b p
  have hl : 0 < pr (l1 ++ b :: l2) * pr (ps ++ [p]) := Nat.mul_pos (pr_pos r.fpos) (pr_pos r.pos)
  generalize Nat.gcd b p = c at hs d1 d2
  obtain ⟨x, rfl⟩ := d1
  obtain ⟨y, rfl⟩ := d2
  rw [Nat.mul_div_cancel_left x (by omega), Nat.mul_div_cancel_left y (by omega)]
  have e1 : pr (l1 ++ c * x :: l2) * pr (ps ++ [c * y]) = c * (pr (l1 ++ l2) * pr (ps ++ [x, c, y])) := by
    rw [pr_app, pr_app, pr_app, pr_app]
    show pr l1 * (c * x * pr l2) * (pr ps * (c * y * 1)) = c * (pr l1 * pr l2 * (pr ps * (x * (c * (y * 1)))))
    simp only [Nat.mul_one, Nat.mul_assoc, Nat.mul_left_comm, Nat.mul_comm]
  rw [e1] at h1 h3 hl
  have q1 : pr (l1 ++ l2) * pr (ps ++ [x, c, y]) ≤ c * (pr (l1 ++ l2) * pr (ps ++ [x, c, y])) := Nat.le_mul_of_pos_left _ (by omega)
  have q2 : 2 * (pr (l1 ++ l2) * pr (ps ++ [x, c, y])) ≤ c * (pr (l1 ++ l2) * pr (ps ++ [x, c, y])) := Nat.mul_le_mul_right _ hs
  have q0 : 0 < pr (l1 ++ l2) * pr (ps ++ [x, c, y]) := Nat.pos_of_mul_pos_left hl
  have he : 0 < e := by
    refine Nat.pos_of_ne_zero fun z => ?_
    subst z
    rw [Nat.pow_zero] at h1
    omega
  obtain ⟨d, rfl⟩ : ∃ d, e = d + 1 := ⟨e - 1, by omega⟩
  rw [Nat.pow_succ] at h1
  rw [List.length_append] at h2
  have h2' : 3 * (d + 1) + (ps.length + 1) ≤ m := h2
  refine ⟨⟨⟨d, by omega, by rw [List.length_append]; show _ + (_ + 3) ≤ _; omega⟩, by omega, fun z hz => ?_⟩, by omega⟩
  have sx : x < 1073741824 := Nat.lt_of_le_of_lt (Nat.le_mul_of_pos_left x (by omega)) sb
  have sy : y < 1073741824 := Nat.lt_of_le_of_lt (Nat.le_mul_of_pos_left y (by omega)) sp
  have sc : c < 1073741824 := Nat.lt_of_le_of_lt (Nat.le_mul_of_pos_right c (Nat.pos_of_mul_pos_left hb)) sb
  simp only [List.mem_append, List.mem_cons, List.not_mem_nil, or_false] at hz
  rcases hz with (z1 | z1) | z1 | z1
  · exact h4 z (by simp [z1])
  · exact h4 z (by simp [z1])
  · exact h4 z (by simp [z1])
  · rcases z1 with rfl | rfl | rfl <;> assumption
end K17
set_option maxHeartbeats 8000000
namespace K17
open PySem PySem.Spec PyProof.Rows L2

/-! ### _refined -/
abbrev sRef : Stmt := top 26
def spRef : Sp := fun vs H Q _ => ∃ (l : Addr) (bs : List Nat) (n : Nat) (ts : List Nat), vs = [.ref l, .int n] ∧ H l = some (.lst (nv bs)) ∧ Rf ts bs [n] ∧ Lg 300000 (pr bs * n) bs [n] ∧
  ∀ H' r bs', Same H H' → H r = none → H' r = some (.lst (nv bs')) → Rf ts bs' [] → (∀ x ∈ bs', x < 1073741824) → pr bs' ≤ pr bs * n → Q (.ref r) H'
def NRe : List Str := ["bases", "number", "found", "pending", "part", "at", "base", "common"]
section
variable {P : Program} {w : World} {K : PySem.W.Frag} {mg : Str → Option Value} {base : Heap}
theorem scRef : FnScope NRe ["bases", "number"] (defScope sRef) :=
  ⟨rfl, rfl, rfl, by decide +kernel, rfl, by decide +kernel, by decide +kernel⟩
theorem nv_app (a b : List Nat) : nv (a ++ b) = nv a ++ nv b := List.map_append
theorem nv_len (a : List Nat) : (nv a).length = a.length := List.length_map ..
theorem ok_ref {f fS : Addr} {fd fdS : FuncData} (F : Fun K "_refined" "_refined" sRef f fd) (lN : mg "list" = none) (gG : mg "gcd" = some (.builtin "math.gcd"))
    (GS : FnOk P w K mg base CX0 1 fS fdS ["bases", "number"] spSha) (kS : PySem.W.keepIn K (.ref fS) = true) (bS : Binds K fdS ["bases", "number"] []) (gS : mg "_sharing" = some (.ref fS)) :
    FnOk P w K mg base CX0 2 f fd ["bases", "number"] spRef := by
  refine F.ok scRef (fun vs H Q E h => ?_) (fun cdv A outer s H vs Q E hr h => ?_)
  · obtain ⟨l, bs, n, ts, rfl, _⟩ := h
    rfl
  · obtain ⟨l, bs, n, ts, rfl, hl, hR, hL, k⟩ := h
    refine ⟨_, pss_cons (ps_set (i := 2) scRef.nd rfl (.inl rfl) (pe_callTy call_list_of (by rfl) lN (by decide +kernel) (pa_cons (pv 0) pa_nil)))
      (pss_cons (ps_set (i := 3) scRef.nd rfl (.inl rfl) (pe_lst (pa_cons (pv 1) pa_nil)))
      (pss_cons (ps_while PassesOwn.never (pt_truth (pv 3) (by intro _; rfl))
        (pss_cons (ps_set (i := 4) scRef.nd rfl (.inl rfl) (pe_bm0 PySem.F.plainAttrs_list PySem.F.slot_list_pop PySem.F.type_list_pop mt_pop (pv 3)))
        (pss_cons (ps_set (i := 5) scRef.nd rfl (.inl rfl) (pe_call GS hr rfl gS kS bS .nil pass0 (pa_cons (pv 2) (pa_cons (pv 4) pa_nil))))
        (pss_one (ps_if (pt_cmpR op_isN (pv 5) pe_non (nomark _))
          (pss_one (ps_if (pt_cmpR op_gt (pv 4) pe_int (nomark _)) (pss_one (ps_expr (pe_bm PySem.F.plainAttrs_list PySem.F.slot_list_append PySem.F.type_list_append mt_append (pv 2) (pa_cons (pv 4) pa_nil)))) pss_nil))
          (pss_cons (ps_set (i := 6) scRef.nd rfl (.inl rfl) (pe_bm PySem.F.plainAttrs_list PySem.F.slot_list_pop PySem.F.type_list_pop mt_popAt (pv 2) (pa_cons (pv 5) pa_nil)))
          (pss_cons (ps_set (i := 7) scRef.nd rfl (.inl rfl) (pe_callBfun cr_gcd (by rfl) gG (pa_cons (pv 6) (pa_cons (pv 4) pa_nil))))
          (pss_one (ps_expr (pe_bm PySem.F.plainAttrs_list PySem.F.slot_list_extend PySem.F.type_list_extend mt_extend (pv 3) (pa_cons (pe_lst (pa_cons (pe_op op_fdiv (pv 6) (pv 7)) (pa_cons (pv 7) (pa_cons (pe_op op_fdiv (pv 4) (pv 7)) pa_nil)))) pa_nil)))))))))))
      (pss_one (ps_ret (pv 2))))), ?_⟩
    refine ⟨_, rfl, l, _, rfl, .inl (SqL.of hl), fun a1 n1 => ?_⟩
    have S1 := fresh_upd (o := .lst (nv bs)) n1
    have e1 : upd H a1 (.lst (nv bs)) a1 = some (.lst (nv bs)) := upd_same
    generalize upd H a1 (.lst (nv bs)) = H1 at S1 e1
    refine ⟨_, rfl, by rw [sizeLine_eq]; show 1 ≤ 16777216; decide, fun a2 n2 => ?_⟩
    have S2 := fresh_upd (o := .lst [V.int (n : Int)]) n2
    have e2 : upd H1 a2 (.lst [V.int (n : Int)]) a2 = some (.lst (nv [n])) := upd_same
    have e12 := S2 _ _ e1
    have a12 : a1 ≠ a2 := ne_of_none e1 n2
    have n20 : H a2 = none := by
      cases e : H a2 with
      | none => rfl
      | some o =>
        have z := S1 _ _ e
        rw [n2] at z
        cases z
    have S02 := S1.trans S2
    generalize upd H1 a2 (.lst [V.int (n : Int)]) = H2 at S2 e2 e12 S02
    refine ⟨fun m σ H3 => m ≤ 300000 ∧ Same H H3 ∧ ∃ found pending : List Nat, (∃ o4 o5 o6 o7, σ = [some (.ref l), some (.int n), some (.ref a1), some (.ref a2), o4, o5, o6, o7]) ∧ H3 a1 = some (.lst (nv found)) ∧ H3 a2 = some (.lst (nv pending)) ∧
      Rf ts found pending ∧ Lg m (pr bs * n) found pending, ⟨300000, Nat.le_refl _, S02, bs, [n], ⟨none, none, none, none, rfl⟩, e12, e2, hR, hL⟩, ?_⟩
    rintro m σ H3 ⟨hm, S3, found, pending, ⟨o4, o5, o6, o7, rfl⟩, h1, h2, R, L⟩
    by_cases hp : pending = []
    · subst hp
      refine ⟨_, rfl, _, .inl ⟨_, SqL.of h2, rfl⟩, iteF ?_⟩
      exact ⟨_, rfl, k H3 a1 found S3 n1 h1 R (fun x hx => L.small x (List.mem_append_left _ hx)) (by
        have z := L.le
        have e : pr ([] : List Nat) = 1 := rfl
        rw [e, Nat.mul_one] at z
        exact z)⟩
    · obtain ⟨ps, p, rfl⟩ : ∃ ps p, pending = ps ++ [p] := by
        rcases List.eq_nil_or_concat pending with z | ⟨a, b, z⟩
        · exact absurd z hp
        · exact ⟨a, b, by rw [z, List.concat_eq_append]⟩
      have hpl := L.plen
      have hfl := L.flen R
      rw [List.length_append] at hpl
      have hpl' : ps.length + 1 ≤ m := hpl
      have en : nv (ps ++ [p]) = nv ps ++ [V.int (Int.ofNat p)] := nv_app ps [p]
      have ee : (!(nv (ps ++ [p])).isEmpty) = true := by
        rw [en]
        simp
      refine ⟨_, rfl, _, .inl ⟨_, SqL.of h2, rfl⟩, ?_⟩
      refine iteT' ee ?_
      refine ⟨fun σ' H' => Same H H' ∧ ∃ found' pending' : List Nat, (∃ o4 o5 o6 o7, σ' = [some (.ref l), some (.int n), some (.ref a1), some (.ref a2), o4, o5, o6, o7]) ∧ H' a1 = some (.lst (nv found')) ∧ H' a2 = some (.lst (nv pending')) ∧
        Rf ts found' pending' ∧ Lg (m - 1) (pr bs * n) found' pending', fun σ' H' hN => ⟨m - 1, by omega, by omega, hN⟩, ?_⟩
      have hlast : (nv (ps ++ [p]))[(nv (ps ++ [p])).length - 1]? = some (V.int (Int.ofNat p)) := by
        rw [en, List.length_append, nv_len]
        show (nv ps ++ [V.int (Int.ofNat p)])[ps.length + 1 - 1]? = _
        rw [Nat.add_sub_cancel, List.getElem?_append_right (by rw [nv_len]; exact Nat.le_refl _), nv_len, Nat.sub_self]
        rfl
      have hdrop : (nv (ps ++ [p])).dropLast = nv ps := by
        rw [en, List.dropLast_concat]
      refine ⟨_, rfl, .inl ⟨rfl, _, SqL.of h2⟩, a2, _, _, rfl, rfl, h2, hlast, ?_⟩
      rw [hdrop]
      have h1' : upd H3 a2 (.lst (nv ps)) a1 = some (.lst (nv found)) := (upd_ne a12).trans h1
      have h2' : upd H3 a2 (.lst (nv ps)) a2 = some (.lst (nv ps)) := upd_same
      have S3' : Same H (upd H3 a2 (.lst (nv ps))) := fun b o e => by
        rw [upd_ne (ne_of_none e n20)]
        exact S3 _ _ e
      generalize upd H3 a2 (.lst (nv ps)) = H4 at h1' h2' S3'
      refine ⟨_, rfl, _, rfl, a1, found, p, rfl, h1', fun hno H5 S5 => ?_, fun l1 b l2 ef hc hg H5 S5 => ?_⟩
      · refine ⟨_, rfl, rfl, _, rfl, iteT' (decide_eq_true rfl) ?_⟩
        refine ⟨_, rfl, _, _, rfl, rfl, _, rfl, ?_⟩
        refine ite2 (fun h => ?_) fun h => ?_
        · have hp1 : 1 < p := by
            have h' : (1 : Int) < (p : Int) := of_decide_eq_true h
            omega
          obtain ⟨R', _⟩ := R.add hno hp1
          obtain ⟨L', _⟩ := L.add
          refine ⟨_, rfl, .inl ⟨rfl, _, SqL.of (S5 _ _ h1')⟩, _, rfl, a1, _, _, rfl, rfl, S5 _ _ h1', by rw [nv_len, sizeLine_eq]; omega, ?_⟩
          refine ⟨fun b o e => ?_, found ++ [p], ps, ⟨_, _, _, _, rfl⟩, ?_, ?_, R', L'⟩
          · rw [upd_ne (ne_of_none e n1)]
            exact S5 _ _ (S3' _ _ e)
          · rw [upd_same, nv_app]
            rfl
          · rw [upd_ne a12.symm]
            exact S5 _ _ h2'
        · have hp1 : ¬ 1 < p := fun z => h (decide_eq_true (show (1 : Int) < (p : Int) by omega))
          have e1 : p = 1 := by
            have := R.pos p (by simp)
            omega
          subst e1
          obtain ⟨R', _⟩ := R.drop hp1
          obtain ⟨L', _⟩ := L.drop
          exact ⟨S3'.trans S5, found, ps, ⟨_, _, _, _, rfl⟩, S5 _ _ h1', S5 _ _ h2', R', L'⟩
      · subst ef
        obtain ⟨R', _⟩ := R.split hg
        obtain ⟨L', _⟩ := L.split R hg
        have hll : (l1 ++ b :: l2).length = l1.length + (l2.length + 1) := by rw [List.length_append]; rfl
        refine ⟨_, rfl, rfl, _, rfl, iteN' (fun z => nomatch z) ?_⟩
        have e3 : nv (l1 ++ b :: l2) = nv l1 ++ V.int (Int.ofNat b) :: nv l2 := nv_app l1 (b :: l2)
        have hat : (nv (l1 ++ b :: l2))[l1.length]? = some (V.int (Int.ofNat b)) := by
          rw [e3, List.getElem?_append_right (by rw [nv_len]; exact Nat.le_refl _), nv_len, Nat.sub_self]
          rfl
        have her : (nv (l1 ++ b :: l2)).eraseIdx l1.length = nv (l1 ++ l2) := by
          rw [e3, nv_app, List.eraseIdx_append_of_length_le (by rw [nv_len]; exact Nat.le_refl _), nv_len, Nat.sub_self]
          rfl
        have hsi : seqIndex? ((l1.length : Nat) : Int) (nv (l1 ++ b :: l2)).length = some l1.length := by
          have z := seqIndex_of (k := ((l1.length : Nat) : Int)) (n := (nv (l1 ++ b :: l2)).length) (by omega) (by rw [nv_len, hll]; omega)
          rw [z]
          rfl
        refine ⟨_, rfl, .inl ⟨rfl, _, SqL.of (S5 _ _ h1')⟩, _, rfl, a1, _, _, l1.length, _, rfl, rfl, S5 _ _ h1', by omega, by omega, hsi, hat, ?_⟩
        rw [her]
        have g1 : upd H5 a1 (.lst (nv (l1 ++ l2))) a1 = some (.lst (nv (l1 ++ l2))) := upd_same
        have g2 : upd H5 a1 (.lst (nv (l1 ++ l2))) a2 = some (.lst (nv ps)) := (upd_ne a12.symm).trans (S5 _ _ h2')
        have S6 : Same H (upd H5 a1 (.lst (nv (l1 ++ l2)))) := fun b o e => by
          rw [upd_ne (ne_of_none e n1)]
          exact S5 _ _ (S3' _ _ e)
        generalize upd H5 a1 (.lst (nv (l1 ++ l2))) = H6 at g1 g2 S6
        refine ⟨_, rfl, _, rfl, _, _, rfl, ?_⟩
        have eg : ((Int.ofNat b).natAbs).gcd ((Int.ofNat p).natAbs) = Nat.gcd b p := rfl
        rw [eg]
        have cs : Nat.gcd b p < 1073741824 := L'.small _ (by simp)
        have d1 : (Int.ofNat b) / ((Nat.gcd b p : Nat) : Int) = Int.ofNat (b / Nat.gcd b p) := (Int.natCast_ediv b (Nat.gcd b p)).symm
        have d2 : (Int.ofNat p) / ((Nat.gcd b p : Nat) : Int) = Int.ofNat (p / Nat.gcd b p) := (Int.natCast_ediv p (Nat.gcd b p)).symm
        refine ⟨_, rfl, .inl ⟨rfl, _, SqL.of g2⟩, ?_⟩
        refine ⟨_, rfl, _, rfl, _, _, rfl, rfl, ⟨by omega, by omega⟩, _, rfl, _, rfl, _, rfl, _, _, rfl, rfl, ⟨by omega, by omega⟩, ?_⟩
        have el : [V.int (Int.ofNat b / ((Nat.gcd b p : Nat) : Int)), V.int ((Nat.gcd b p : Nat) : Int), V.int (Int.ofNat p / ((Nat.gcd b p : Nat) : Int))] = nv [b / Nat.gcd b p, Nat.gcd b p, p / Nat.gcd b p] := by
          rw [d1, d2]
          rfl
        refine ⟨by rw [sizeLine_eq]; show 3 ≤ 16777216; decide, fun q nq => ?_⟩
        have S7 := fresh_upd (o := .lst [V.int (Int.ofNat b / ((Nat.gcd b p : Nat) : Int)), V.int ((Nat.gcd b p : Nat) : Int), V.int (Int.ofNat p / ((Nat.gcd b p : Nat) : Int))]) nq
        have gq : upd H6 q (.lst [V.int (Int.ofNat b / ((Nat.gcd b p : Nat) : Int)), V.int ((Nat.gcd b p : Nat) : Int), V.int (Int.ofNat p / ((Nat.gcd b p : Nat) : Int))]) q = some (.lst (nv [b / Nat.gcd b p, Nat.gcd b p, p / Nat.gcd b p])) := by rw [upd_same, el]
        have qa1 : a1 ≠ q := ne_of_none g1 nq
        have qa2 : a2 ≠ q := ne_of_none g2 nq
        refine ⟨a2, q, nv ps, nv [b / Nat.gcd b p, Nat.gcd b p, p / Nat.gcd b p], rfl, rfl, S7 _ _ g2, gq, by rw [nv_len, nv_len, sizeLine_eq]; show _ + 3 ≤ _; omega, ?_⟩
        refine ⟨fun b' o e => ?_, l1 ++ l2, ps ++ [b / Nat.gcd b p, Nat.gcd b p, p / Nat.gcd b p], ⟨_, _, _, _, rfl⟩, ?_, ?_, R', L'⟩
        · rw [upd_ne (ne_of_none e n20)]
          exact S7 _ _ (S6 _ _ e)
        · rw [upd_ne a12]
          exact S7 _ _ g1
        · rw [upd_same, nv_app]
end
end K17
set_option maxHeartbeats 8000000
namespace K17
open PySem PySem.Spec PyProof.Rows L2

/-! ### coprime_bases -/
abbrev sCob : Stmt := top 24
theorem pr_le : ∀ {a : List Nat}, (∀ x ∈ a, x < 1073741824) → pr a ≤ 2 ^ (30 * a.length)
  | [], _ => Nat.le_refl _
  | x :: r, h => by
    show x * pr r ≤ 2 ^ (30 * (r.length + 1))
    rw [Nat.mul_add, Nat.pow_add, Nat.mul_comm]
    exact Nat.mul_le_mul (pr_le fun y hy => h y (List.mem_cons_of_mem _ hy)) (by have := h x (List.mem_cons_self ..); show x ≤ 1073741824; omega)
def spCob (K : PySem.W.Frag) : Sp := fun vs H Q _ => ∃ (l : Addr) (ns : List Nat), vs = [.ref l] ∧ H l = some (.lst (nv ns)) ∧ ns.length ≤ 64 ∧ (∀ n ∈ ns, 0 < n ∧ n < 1073741824) ∧
  ∀ H' r bs, Same H H' → H r = none → H' r = some (.lst (nv bs)) → Cop bs → (∀ n ∈ ns, G bs n) → (∀ x ∈ bs, x < 1073741824) → bs.length ≤ 2000 → Q (.ref r) H'
def NCo : List Str := ["numbers", "bases", "number"]
section
variable {P : Program} {w : World} {K : PySem.W.Frag} {mg : Str → Option Value} {base : Heap}
theorem scCob : FnScope NCo ["numbers"] (defScope sCob) :=
  ⟨rfl, rfl, rfl, by decide +kernel, rfl, by decide +kernel, by decide +kernel⟩
theorem ok_cob {f fR : Addr} {fd fdR : FuncData} (F : Fun K "coprime_bases" "coprime_bases" sCob f fd)
    (GR : FnOk P w K mg base CX0 2 fR fdR ["bases", "number"] spRef) (kR : PySem.W.keepIn K (.ref fR) = true) (bR : Binds K fdR ["bases", "number"] []) (gR : mg "_refined" = some (.ref fR)) :
    FnOk P w K mg base CX0 3 f fd ["numbers"] (spCob K) := by
  refine F.ok scCob (fun vs H Q E h => ?_) (fun cdv A outer s H vs Q E hr h => ?_)
  · obtain ⟨l, ns, rfl, _⟩ := h
    rfl
  · obtain ⟨l, ns, rfl, hl, hz, hn, k⟩ := h
    refine ⟨_, pss_cons (ps_set (i := 1) scCob.nd rfl (.inl rfl) (pe_lst pa_nil))
      (pss_cons (ps_for PassesOwn.never rfl (pi_list (pv 0)) (pg_name (i := 2) scCob.nd rfl (Or.inl rfl))
        (pss_one (ps_set (i := 1) scCob.nd rfl (.inl rfl) (pe_call GR hr rfl gR kR bR .nil pass0 (pa_cons (pv 1) (pa_cons (pv 2) pa_nil))))))
      (pss_one (ps_ret (pv 1)))), ?_⟩
    refine ⟨Nat.zero_le _, fun a na => ?_⟩
    have S1 := fresh_upd (o := .lst []) na
    refine ⟨_, rfl, l, rfl, ⟨_, SqL.of (S1 _ _ hl)⟩, for_it (walk_list (K := K) (a := l) (xs := nv ns)) (fun i σ H2 => Same H H2 ∧ ∃ (r : Addr) (bs : List Nat), (∃ o2, σ = [some (.ref l), some (.ref r), o2]) ∧ H r = none ∧ H2 r = some (.lst (nv bs)) ∧
      Rf (ns.take i) bs [] ∧ (∀ x ∈ bs, x < 1073741824) ∧ pr bs ≤ pr (ns.take i)) ⟨S1, a, [], ⟨none, rfl⟩, na, upd_same, ⟨⟨List.Pairwise.nil, (fun x hx => nomatch hx)⟩, (fun x hx => nomatch hx), fun x hx => by simp at hx⟩, (fun x hx => nomatch hx), Nat.le_refl _⟩
      (fun i σ H2 _ h => SqL.of (h.1 _ _ hl)) ?_ ?_⟩
    · rintro i x σ H2 H3 hi ⟨S2, r, bs, ⟨o2, rfl⟩, nr, hr2, R, hs, hp⟩ ⟨rfl, hx⟩
      rw [nv_len] at hi
      have ex : x = V.int (Int.ofNat ns[i]) := by
        unfold nv at hx
        rw [List.getElem?_map, List.getElem?_eq_getElem hi] at hx
        exact (Option.some.inj hx).symm
      subst ex
      obtain ⟨n0, n1⟩ := hn ns[i] (List.getElem_mem hi)
      have et : ns.take (i + 1) = ns.take i ++ [ns[i]] := by
        rw [List.take_add_one, List.getElem?_eq_getElem hi]
        rfl
      have R' : Rf (ns.take (i + 1)) bs [ns[i]] := by
        refine ⟨R.cop, fun p hp' => by rw [List.mem_singleton.mp hp']; exact n0, fun y hy => ?_⟩
        rw [et] at hy
        rcases List.mem_append.mp hy with z | z
        · have g := R.gen y z
          rw [List.append_nil] at g
          exact g.trans fun w' hw => .mem (List.mem_append_left _ hw)
        · exact .mem (List.mem_append_right _ z)
      have ep : pr (ns.take (i + 1)) = pr (ns.take i) * ns[i] := by
        rw [et, pr_app]
        show _ * (_ * 1) = _
        rw [Nat.mul_one]
      have hle : pr bs * ns[i] ≤ pr (ns.take (i + 1)) := by
        rw [ep]
        exact Nat.mul_le_mul_right _ hp
      have hbig : pr (ns.take (i + 1)) ≤ 2 ^ (30 * (ns.take (i + 1)).length) := pr_le fun y hy => (hn y (List.mem_of_mem_take hy)).2
      have hlen : (ns.take (i + 1)).length ≤ 64 := by
        rw [List.length_take]
        omega
      have L' : Lg 300000 (pr bs * ns[i]) bs [ns[i]] := by
        have e1 : pr bs * pr [ns[i]] = pr bs * ns[i] := by
          show pr bs * (ns[i] * 1) = _
          rw [Nat.mul_one]
        refine ⟨⟨30 * (ns.take (i + 1)).length + 1, ?_, by show _ + 1 ≤ _; omega⟩, by rw [e1]; exact Nat.le_refl _, fun y hy => ?_⟩
        · rw [e1, Nat.pow_succ]
          have : 0 < 2 ^ (30 * (ns.take (i + 1)).length) := Nat.pow_pos (by decide)
          omega
        · rcases List.mem_append.mp hy with z | z
          · exact hs y z
          · rw [List.mem_singleton.mp z]
            exact n1
      refine ⟨_, rfl, _, rfl, r, bs, ns[i], ns.take (i + 1), rfl, hr2, R', L', fun H4 r4 bs4 S4 nr4 h4 R4 s4 p4 => ?_⟩
      have nr40 : H r4 = none := by
        cases e : H r4 with
        | none => rfl
        | some o =>
          have z := S2 _ _ e
          rw [nr4] at z
          cases z
      exact ⟨S2.trans S4, r4, bs4, ⟨_, rfl⟩, nr40, h4, R4, s4, Nat.le_trans p4 hle⟩
    · rintro σ H2 ⟨S2, r, bs, ⟨o2, rfl⟩, nr, hr2, R, hs, hp⟩
      rw [nv_len, List.take_length] at R hp
      have h3 := len_pr R.cop.2
      have h4 : pr ns ≤ 2 ^ (30 * ns.length) := pr_le fun y hy => (hn y hy).2
      have h5 : 2 ^ bs.length < 2 ^ (30 * ns.length + 1) := by
        rw [Nat.pow_succ]
        have : 0 < 2 ^ (30 * ns.length) := Nat.pow_pos (by decide)
        omega
      have h6 := (Nat.pow_lt_pow_iff_right (show 1 < 2 by decide)).mp h5
      exact ⟨_, rfl, k H2 r bs S2 nr hr2 R.cop (fun n hn' => by
        have g := R.gen n hn'
        rw [List.append_nil] at g
        exact g) hs (by omega)⟩
end
end K17
set_option maxHeartbeats 8000000
namespace K17
open PySem PySem.Spec PyProof.Rows L2

/-! ### orders -/
open Classical in
noncomputable def ordF (n b : Nat) : Nat := if h : ∃ k, IsOrd n b k then Classical.choose h else 0
theorem ordF_eq {n b k : Nat} (hb : 1 < b) (h : IsOrd n b k) : ordF n b = k := by
  have hx : ∃ k, IsOrd n b k := ⟨k, h⟩
  unfold ordF
  rw [dif_pos hx]
  exact IsOrd.one hb (Classical.choose_spec hx) h
noncomputable def lsO (es : Es) (N : Str → Nat) : Ls := es.map fun q => (q.2, ordF (N q.1))
theorem sm_sum (N : Str → Nat) (b : Nat) : ∀ es : Es, sm (lsO es N) b = (es.map fun q => q.2 * (ordF (N q.1) b : Int)).sum
  | [] => rfl
  | q :: r => by
    show q.2 * (ordF (N q.1) b : Nat) + sm (lsO r N) b = _
    rw [sm_sum N b r, List.map_cons, List.sum_cons]
theorem lookG : ∀ {es : Es} {q : Str × Int}, (es.map (·.1)).Nodup → q ∈ es → es.lookup q.1 = some q.2
  | [], _, _, h => by cases h
  | p :: r, q, hn, h => by
    obtain ⟨n1, n2⟩ := List.pairwise_cons.mp hn
    rw [List.lookup_cons]
    rcases List.mem_cons.mp h with rfl | h
    · simp
    · have e : (q.1 == p.1) = false := by
        have z := n1 q.1 (List.mem_map.mpr ⟨q, h, rfl⟩)
        simpa using fun y : q.1 = p.1 => z y.symm
      rw [e]
      exact lookG n2 h
theorem IsOrd.lt {n b k : Nat} (hb : 1 < b) (n0 : 0 < n) (hn : n < 1073741824) (h : IsOrd n b k) : k < 30 := by
  obtain ⟨r, e, hr⟩ := h
  have r0 : 0 < r := by
    refine Nat.pos_of_ne_zero fun z => ?_
    rw [z, Nat.mul_zero] at e
    omega
  have h1 : 2 ^ k ≤ b ^ k := Nat.pow_le_pow_left hb k
  have h2 : b ^ k ≤ n := by
    rw [e]
    exact Nat.le_mul_of_pos_right _ r0
  have h3 : 2 ^ k < 2 ^ 30 := by
    have : (2 : Nat) ^ 30 = 1073741824 := by decide
    omega
  exact (Nat.pow_lt_pow_iff_right (show 1 < 2 by decide)).mp h3
abbrev sOrs : Stmt := top 23
def NumAt (H : Hp) (m : Addr) (es : Es) (N : Str → Nat) : Prop := ∃ ms : Es, H m = some (.dK (kv ms)) ∧ ∀ q ∈ es, ms.lookup q.1 = some (N q.1 : Int) ∧ 0 < N q.1 ∧ N q.1 < 1073741824
theorem NumAt.same {H H' : Hp} {m : Addr} {es : Es} {N : Str → Nat} (h : NumAt H m es N) (S : Same H H') : NumAt H' m es N := by
  obtain ⟨ms, e, k⟩ := h
  exact ⟨ms, S _ _ e, k⟩
theorem NumAt.get {H : Hp} {m : Addr} {es : Es} {N : Str → Nat} (h : NumAt H m es N) {q : Str × Int} (hq : q ∈ es) : DGet H m (.str q.1) (some (.int (N q.1 : Int))) := by
  obtain ⟨ms, e, k⟩ := h
  exact .inl ⟨_, ky q.1, .inl e, rfl, by rw [val_kv, (k q hq).1]; rfl⟩
def PtAt (H : Hp) (L : Ls) (ts : List Addr) (bs : List Nat) : Prop := Paired (fun t b => H t = some (.tup [V.int (Int.ofNat b), V.int (sm L b)])) ts bs
def spOrs : Sp := fun vs H Q _ => ∃ (d m : Addr) (es : Es) (N : Str → Nat), vs = [.ref d, .ref m] ∧ H d = some (.dK (kv es)) ∧ (es.map (·.1)).Nodup ∧ es.length < 64 ∧ NumAt H m es N ∧
  ∀ H' r ts bs, Same H H' → H r = none → H' r = some (.lst (ts.map V.ref)) → PtAt H' (lsO es N) ts bs → Cop bs → (∀ q ∈ es, G bs (N q.1)) → (∀ x ∈ bs, x < 1073741824) → bs.length ≤ 2000 → Q (.ref r) H'
def NOr : List Str := ["exponents", "numbers", "names", "pairs", "base", "parts", "name"]
section
variable {P : Program} {w : World} {K : PySem.W.Frag} {mg : Str → Option Value} {base : Heap}
theorem scOrs : FnScope NOr ["exponents", "numbers"] (defScope sOrs) :=
  ⟨rfl, rfl, rfl, by decide +kernel, rfl, by decide +kernel, by decide +kernel⟩
theorem ok_ors {f fC fO : Addr} {fd fdC fdO : FuncData} (F : Fun K "orders" "orders" sOrs f fd) (lN : mg "list" = none) (sN : mg "sum" = none)
    (GC : FnOk P w K mg base CX0 3 fC fdC ["numbers"] (spCob K)) (kC : PySem.W.keepIn K (.ref fC) = true) (bC : Binds K fdC ["numbers"] []) (gC : mg "coprime_bases" = some (.ref fC))
    (GO : FnOk P w K mg base CX0 1 fO fdO ["number", "base"] spOrd) (kO : PySem.W.keepIn K (.ref fO) = true) (bO : Binds K fdO ["number", "base"] []) (gO : mg "order_in" = some (.ref fO)) :
    FnOk P w K mg base CX0 4 f fd ["exponents", "numbers"] spOrs := by
  have GO3 := GO.mono (k := 3) (by decide)
  refine F.ok scOrs (fun vs H Q E h => ?_) (fun cdv A outer s H vs Q E hr h => ?_)
  · obtain ⟨d, m, es, N, rfl, _⟩ := h
    rfl
  · obtain ⟨d, m, es, N, rfl, hd, hn, hz, hN, k⟩ := h
    have hu : (A.deeper (envOfC "orders" (defScope sOrs) s.heap.objs.size f cdv)).units + 1 < cLine := by have := hr.units; omega
    refine ⟨_, pss_cons (ps_set (i := 2) scOrs.nd rfl (by first | exact .inl rfl | exact .inr rfl) (pe_callTy (call_listD rfl) (by rfl) lN (by decide +kernel) (pa_cons (pv 0) pa_nil)))
      (pss_cons (ps_set (i := 3) scOrs.nd rfl (.inl rfl) (pe_lst pa_nil))
      (pss_cons (ps_for PassesOwn.never rfl (pi_list (pe_call GC hr rfl gC kC bC .nil pass0 (pa_cons
            (pe_lc (own := [("name", 6)]) (g := gName 6) (tt := tYes) (te := tDGet (tVar 1) (tVar 6)) rfl scOrs.nd (pi_list (pv 2))
              (blkOk_by (own := [("name", 6)]) (N := NOr) (sc := defScope sOrs) (by decide +kernel)) (fun _ _ _ _ _ => pg_name (i := 6) scOrs.nd rfl (Or.inl rfl))
              (fun _ _ _ _ _ => pts_nil) (fun _ _ _ _ _ => by exact pe_dget hu (pv 1) (pv 6) (fun _ _ => rfl))) pa_nil)))
          (pg_name (i := 4) scOrs.nd rfl (by first | exact Or.inl rfl | exact Or.inr rfl))
        (pss_cons (ps_setLc (i := 5) (own := [("name", 6)]) (g := gName 6) (tt := tYes) (te := tOp (rI CMul fun i j => V.int (i * j)) (tDGet (tVar 0) (tVar 6)) (tCall spOrd [] E0 (tCons (tDGet (tVar 1) (tVar 6)) (tCons (tVar 4) tNil)))) rfl scOrs.nd rfl rfl (sw_true rfl rfl rfl (by decide +kernel)) (pi_list (pv 2))
              (blkOk_by (own := [("name", 6)]) (N := NOr) (sc := defScope sOrs) (by decide +kernel)) (fun _ _ _ _ _ => pg_name (i := 6) scOrs.nd rfl (Or.inl rfl))
              (fun _ _ _ _ _ => pts_nil) (fun _ _ _ _ _ => by exact pe_op op_mul (pe_dget hu (pv 0) (pv 6) (fun _ _ => rfl)) (pe_call GO3 hr rfl gO kO bO .nil pass0 (pa_cons (pe_dget hu (pv 1) (pv 6) (fun _ _ => rfl)) (pa_cons (pv 4) pa_nil)))))
        (pss_one (ps_expr (pe_bm PySem.F.plainAttrs_list PySem.F.slot_list_append PySem.F.type_list_append mt_append (pv 3) (pa_cons (pe_tup (pa_cons (pv 4) (pa_cons (pe_callB (cr_sum rfl) (by rfl) sN (by decide +kernel) (pa_cons (pv 5) pa_nil)) pa_nil))) pa_nil))))))
      (pss_one (ps_ret (pv 3))))), ?_⟩
    refine ⟨_, rfl, d, _, rfl, .inl hd, fun ln nln => ?_⟩
    have ek : (kv es).map (fun kv => kV kv.1) = es.map fun q => V.str q.1 := by
      unfold kv
      rw [List.map_map]
      rfl
    rw [ek]
    have S1 := fresh_upd (o := .lst (es.map fun q => V.str q.1)) nln
    have e1 : upd H ln (.lst (es.map fun q => V.str q.1)) ln = some (.lst (es.map fun q => V.str q.1)) := upd_same
    generalize upd H ln (.lst (es.map fun q => V.str q.1)) = H1 at S1 e1
    refine ⟨Nat.zero_le _, fun a na => ?_⟩
    have S2 := fresh_upd (o := .lst []) na
    have e2 : upd H1 a (.lst []) a = some (.lst []) := upd_same
    generalize upd H1 a (.lst []) = H2 at S2 e2
    have S02 := S1.trans S2
    have na0 : H a = none := by
      cases e : H a with
      | none => rfl
      | some o =>
        have z := S1 _ _ e
        rw [na] at z
        cases z
    have dg : ∀ {H' : Hp} {q : Str × Int}, Same H H' → q ∈ es → DGet H' d (.str q.1) (some (.int q.2)) := fun {H' q} S hq =>
      .inl ⟨_, ky q.1, .inl (S _ _ hd), rfl, by rw [val_kv, lookG hn hq]; rfl⟩
    refine ⟨_, rfl, ln, rfl, ⟨_, SqL.of (S2 _ _ e1)⟩, fun D hD => ?_⟩
    refine lc_it (walk_list (K := K) (a := ln) (xs := es.map fun q => V.str q.1)) (fun i H3 => Same H2 H3 ∧ H3 D = some (.lst (nv ((es.take i).map fun q => N q.1)))) ⟨fresh_upd hD, upd_same⟩ (fun i H3 _ h => SqL.of (h.1 _ _ (S2 _ _ e1))) ?_ ?_
    · rintro i x H3 H4 hi ⟨S3, h3⟩ ⟨rfl, hx⟩
      rw [List.length_map] at hi
      have ex : x = V.str es[i].1 := by
        rw [List.getElem?_map, List.getElem?_eq_getElem hi] at hx
        exact (Option.some.inj hx).symm
      subst ex
      have hq := List.getElem_mem hi
      refine ⟨rfl, ?_⟩
      unfold tYes
      dsimp only
      rw [if_pos rfl]
      refine ⟨_, rfl, _, rfl, m, _, rfl, (hN.same (S02.trans S3)).get hq, ?_⟩
      refine ⟨_, h3, by rw [nv_len, List.length_map, List.length_take, sizeLine_eq]; omega, fun b o e => ?_, ?_⟩
      · rw [upd_ne (ne_of_none e hD)]
        exact S3 _ _ e
      · rw [upd_same, List.take_add_one, List.getElem?_eq_getElem hi, List.map_append, nv_app]
        rfl
    rintro H3 ⟨S3, h3⟩
    rw [List.length_map, List.take_length] at h3
    have S03 := S02.trans S3
    refine ⟨D, es.map fun q => N q.1, rfl, h3, by rw [List.length_map]; omega, fun n hn' => ?_, fun H4 r bs S4 nr hr4 hC hG hs hb => ?_⟩
    · obtain ⟨q, hq, rfl⟩ := List.mem_map.mp hn'
      obtain ⟨ms, _, kk⟩ := hN
      exact (kk q hq).2
    have S04 := S03.trans S4
    have ha4 := S4 _ _ (S3 _ _ e2)
    have hln4 := S4 _ _ (S3 _ _ (S2 _ _ e1))
    refine ⟨r, rfl, ⟨_, SqL.of hr4⟩, for_it (walk_list (K := K) (a := r) (xs := nv bs)) (fun i σ H5 => (∃ o4 o5 o6, σ = [some (.ref d), some (.ref m), some (.ref ln), some (.ref a), o4, o5, o6]) ∧ (∀ b o, b ≠ a → H4 b = some o → H5 b = some o) ∧
      ∃ ts : List Addr, H5 a = some (.lst (ts.map V.ref)) ∧ PtAt H5 (lsO es N) ts (bs.take i)) ⟨⟨none, none, none, rfl⟩, fun b o _ e => e, [], ha4, .nil⟩ ?_ ?_ ?_⟩
    · intro i σ H5 _ h
      have ra : r ≠ a := fun z => by
        rw [z, ha4] at hr4
        have := HO.lst.inj (Option.some.inj hr4)
        rw [z] at nr
        rw [S3 _ _ e2] at nr
        cases nr
      exact SqL.of (h.2.1 _ _ ra hr4)
    · rintro i x σ H5 H6 hi ⟨⟨o4, o5, o6, rfl⟩, S5, ts, h5, hP⟩ ⟨rfl, hx⟩
      rw [nv_len] at hi
      have ex : x = V.int (Int.ofNat bs[i]) := by
        unfold nv at hx
        rw [List.getElem?_map, List.getElem?_eq_getElem hi] at hx
        exact (Option.some.inj hx).symm
      subst ex
      have hbm := List.getElem_mem hi
      have hb1 := hC.2 _ hbm
      have hb2 := hs _ hbm
      have S05 : Same H H6 := fun b o e => S5 b o (fun z => by rw [z, na0] at e; cases e) (S04 _ _ e)
      have lna : ln ≠ a := fun z => by
        rw [z] at e1
        rw [e1] at na
        cases na
      have hln5 := S5 _ _ lna hln4
      refine ⟨_, rfl, ln, rfl, ⟨_, SqL.of hln5⟩, fun D2 hD2 => ?_⟩
      refine lc_it (walk_list (K := K) (a := ln) (xs := es.map fun q => V.str q.1)) (fun j H7 => Same H6 H7 ∧ H7 D2 = some (.lst ((es.take j).map fun q => V.int (q.2 * (ordF (N q.1) bs[i] : Int))))) ⟨fresh_upd hD2, upd_same⟩ (fun j H7 _ h => SqL.of (h.1 _ _ hln5)) ?_ ?_
      · rintro j x H7 H8 hj ⟨S7, h7⟩ ⟨rfl, hx⟩
        rw [List.length_map] at hj
        have ex : x = V.str es[j].1 := by
          rw [List.getElem?_map, List.getElem?_eq_getElem hj] at hx
          exact (Option.some.inj hx).symm
        subst ex
        have hq := List.getElem_mem hj
        have N7 := hN.same (S05.trans S7)
        have np : 0 < N es[j].1 ∧ N es[j].1 < 1073741824 := by
          obtain ⟨ms, _, kk⟩ := hN
          exact (kk _ hq).2
        refine ⟨rfl, ?_⟩
        unfold tYes
        dsimp only
        rw [if_pos rfl]
        refine ⟨_, rfl, _, rfl, d, _, rfl, dg (S05.trans S7) hq, ?_⟩
        refine ⟨_, rfl, _, rfl, m, _, rfl, N7.get hq, _, rfl, N es[j].1, bs[i], rfl, np.1, hb1, hb2, fun kk hk => ?_⟩
        have ho := ordF_eq hb1 hk
        have hkl := hk.lt hb1 np.1 np.2
        refine ⟨_, _, rfl, rfl, .inr ⟨by omega, by omega⟩, ?_⟩
        refine ⟨_, h7, by rw [List.length_map, List.length_take, sizeLine_eq]; omega, fun b o e => ?_, ?_⟩
        · rw [upd_ne (ne_of_none e hD2)]
          exact S7 _ _ e
        · rw [upd_same, List.take_add_one, List.getElem?_eq_getElem hj, List.map_append, ← ho]
          rfl
      rintro H7 ⟨S7, h7⟩
      rw [List.length_map, List.take_length] at h7
      have e7 : (es.map fun q => V.int (q.2 * (ordF (N q.1) bs[i] : Int))) = (es.map fun q => q.2 * (ordF (N q.1) bs[i] : Int)).map V.int := by
        rw [List.map_map]
        rfl
      rw [e7] at h7
      have h5' := S7 _ _ h5
      have hPl : ts.length = (bs.take i).length := Paired.length hP
      rw [List.length_take] at hPl
      refine ⟨_, rfl, .inl ⟨rfl, _, SqL.of h5'⟩, _, rfl, _, rfl, D2, _, rfl, SqL.of h7, ?_⟩
      rw [← sm_sum]
      refine ⟨by rw [sizeLine_eq]; show 2 ≤ 16777216; decide, fun T nT => ?_⟩
      have S8 := fresh_upd (o := .tup [V.int (Int.ofNat bs[i]), V.int (sm (lsO es N) bs[i])]) nT
      have hT : upd H7 T (.tup [V.int (Int.ofNat bs[i]), V.int (sm (lsO es N) bs[i])]) T = some (.tup [V.int (Int.ofNat bs[i]), V.int (sm (lsO es N) bs[i])]) := upd_same
      generalize upd H7 T (.tup [V.int (Int.ofNat bs[i]), V.int (sm (lsO es N) bs[i])]) = H8 at S8 hT
      have h8 := S8 _ _ h5'
      refine ⟨a, _, _, rfl, rfl, h8, by rw [List.length_map, sizeLine_eq]; omega, ?_⟩
      refine ⟨⟨_, _, _, rfl⟩, fun b o hb e => (upd_ne hb).trans (S8 _ _ (S7 _ _ (S5 b o hb e))), ts ++ [T], ?_, ?_⟩
      · rw [upd_same, List.map_append]
        rfl
      · rw [List.take_add_one, List.getElem?_eq_getElem hi]
        have keep : ∀ {t : Addr} {xs : List V}, H8 t = some (.tup xs) → upd H8 a (.lst (ts.map V.ref ++ [V.ref T])) t = some (.tup xs) := fun {t xs} e =>
          (upd_ne (fun z => by rw [z, h8] at e; cases e)).trans e
        exact Paired.snoc (Paired.mapP hP fun _ _ e => keep (S8 _ _ (S7 _ _ e))) (keep hT)
    · rintro σ H5 ⟨⟨o4, o5, o6, rfl⟩, S5, ts, h5, hP⟩
      rw [nv_len, List.take_length] at hP
      exact ⟨_, rfl, k H5 a ts bs (fun b o e => S5 b o (fun z => by rw [z, na0] at e; cases e) (S04 _ _ e)) na0 h5 hP hC (fun q hq => hG _ (List.mem_map.mpr ⟨q, hq, rfl⟩)) hs hb⟩
end
end K17
set_option maxHeartbeats 8000000
namespace K17
open PySem PySem.Spec PyProof.Rows L2

/-! ### raised -/
theorem next_ {D : Ends} {σ : L2.St} {H : Hp} (h : D.nx σ H) : tNext D σ H := h
abbrev sRai : Stmt := top 22
def spRai : Sp := fun vs H Q _ => ∃ b c : Nat, vs = [.int b, .int c] ∧ 0 < b ∧ b < 1073741824 ∧ c ≤ 10000 ∧ Q (.int ((b ^ c : Nat) : Int)) H
theorem rai_lt {b c : Nat} (h : b < 1073741824) (hc : c ≤ 10000) : b ^ c < 2 ^ 300001 := by
  have h1 : b ^ c ≤ (2 ^ 30) ^ c := Nat.pow_le_pow_left (show b ≤ 1073741824 by omega) c
  rw [← Nat.pow_mul] at h1
  have h2 : 2 ^ (30 * c) ≤ 2 ^ 300000 := Nat.pow_le_pow_right (by decide) (by omega)
  exact Nat.lt_of_le_of_lt (Nat.le_trans h1 h2) (Nat.pow_lt_pow_right (by decide) (by decide))
theorem le_pw {x y z M : Nat} (h : z * x ^ y = M) (hx : 0 < x) (hz : 0 < z) (hy : 0 < y) : x ≤ M ∧ z ≤ M := by
  have h1 : x ≤ x ^ y := Nat.le_self_pow (by omega) x
  have h2 : 0 < x ^ y := Nat.pow_pos hx
  rw [← h]
  exact ⟨Nat.le_trans h1 (Nat.le_mul_of_pos_left _ hz), Nat.le_mul_of_pos_right _ h2⟩
theorem wm {x z M : Nat} (hx : x ≤ M) (hz : z ≤ M) (hM : M < 2 ^ 300001) : CMulW (z : Int) (x : Int) :=
  wide_mul (a := 300001) (b := 300001) (by rw [Int.natAbs_natCast]; omega) (by rw [Int.natAbs_natCast]; omega) (by decide) (by decide) (by decide)
section
variable {P : Program} {w : World} {K : PySem.W.Frag} {mg : Str → Option Value} {base : Heap}
theorem scRai : FnScope ["base", "count", "power"] ["base", "count"] (defScope sRai) :=
  ⟨rfl, rfl, rfl, by decide +kernel, rfl, by decide +kernel, by decide +kernel⟩
theorem ok_rai {f : Addr} {fd : FuncData} (F : Fun K "raised" "raised" sRai f fd) : FnOk P w K mg base CX0 1 f fd ["base", "count"] spRai := by
  refine F.ok scRai (fun vs H Q E h => ?_) (fun cdv A outer s H vs Q E hr h => ?_)
  · obtain ⟨b, c, rfl, _⟩ := h
    rfl
  · obtain ⟨b, c, rfl, b0, b1, hc, k⟩ := h
    have hM := rai_lt b1 hc
    generalize eM : b ^ c = M at hM k
    refine ⟨_, pss_cons (ps_set (i := 2) scRai.nd rfl (.inl rfl) pe_int)
      (pss_cons (ps_while PassesOwn.never (pt_cmpR op_gt (pv 1) pe_int (nomark _))
        (pss_cons (ps_if (pt_cmpR op_eq (pe_op op_mod (pv 1) pe_int) pe_int (nomark _)) (pss_one (ps_set (i := 2) scRai.nd rfl (.inl rfl) (pe_op op_mulW (pv 2) (pv 0)))) pss_nil)
        (pss_cons (ps_set (i := 1) scRai.nd rfl (.inl rfl) (pe_op op_fdiv (pv 1) pe_int))
        (pss_one (ps_if (pt_cmpR op_gt (pv 1) pe_int (nomark _)) (pss_one (ps_set (i := 0) scRai.nd rfl (.inl rfl) (pe_op op_mulW (pv 0) (pv 0)))) pss_nil)))))
      (pss_one (ps_ret (pv 2)))), ?_⟩
    refine ⟨fun μ σ H2 => H2 = H ∧ ∃ x y z : Nat, σ = [some (.int x), some (.int y), some (.int z)] ∧ μ = y ∧ z * x ^ y = M ∧ 0 < x ∧ 0 < z, ⟨c, rfl, b, c, 1, rfl, rfl, by rw [Nat.one_mul]; exact eM, b0, Nat.one_pos⟩, ?_⟩
    rintro μ σ H2 ⟨rfl, x, y, z, rfl, rfl, hz, x0, z0⟩
    refine ⟨_, rfl, _, _, rfl, rfl, _, rfl, ?_⟩
    by_cases h0 : 0 < μ
    · refine iteT' (decide_eq_true (show (0 : Int) < (μ : Int) by omega)) ?_
      obtain ⟨hx, hzM⟩ := le_pw hz x0 z0 h0
      have e2 : ((μ : Nat) : Int) / 2 = ((μ / 2 : Nat) : Int) := by omega
      -- behind the first test
      have key : ∀ (D : Ends) (z' : Nat), z' * (x * x) ^ (μ / 2) = M → 0 < z' → (∀ x' : Nat, z' * x' ^ (μ / 2) = M → 0 < x' → D.nx [some (.int x'), some (.int ((μ / 2 : Nat) : Int)), some (.int z')] H2) →
          tSeq (tAsg (tOp (rI CDiv fun i j => V.int (i / j)) (tVar 1) (tC (.int 2))) (gName 1)) (tIfS (tTest (tOp (rI0 fun i j => V.bl (decide (j < i))) (tVar 1) (tC (.int 0)))) (tAsg (tOp (rI CMulW fun i j => V.int (i * j)) (tVar 0) (tVar 0)) (gName 0)) tNext)
            D [some (.int x), some (.int μ), some (.int z')] H2 := by
        intro D z' q1 q2 kk
        refine ⟨_, rfl, _, _, rfl, rfl, ⟨by decide, by decide⟩, ?_⟩
        show tIfS (tTest (tOp (rI0 fun i j => V.bl (decide (j < i))) (tVar 1) (tC (.int 0)))) (tAsg (tOp (rI CMulW fun i j => V.int (i * j)) (tVar 0) (tVar 0)) (gName 0)) tNext D [some (V.int x), some (V.int (((μ : Nat) : Int) / 2)), some (V.int z')] H2
        rw [e2]
        refine ⟨_, rfl, _, _, rfl, rfl, _, rfl, ?_⟩
        by_cases h1 : 0 < μ / 2
        · refine iteT' (decide_eq_true (show (0 : Int) < ((μ / 2 : Nat) : Int) by omega)) ?_
          have hxx := (le_pw q1 (Nat.mul_pos x0 x0) q2 h1).1
          refine ⟨_, rfl, _, rfl, _, _, rfl, rfl, wm hx hx hM, ?_⟩
          show D.nx [some (V.int ((x : Int) * (x : Int))), some (V.int ((μ / 2 : Nat) : Int)), some (V.int z')] H2
          rw [← Int.natCast_mul]
          exact kk (x * x) q1 (Nat.mul_pos x0 x0)
        · refine iteN' (show ¬ (0 : Int) < ((μ / 2 : Nat) : Int) by omega) (kk x ?_ x0)
          have e0 : μ / 2 = 0 := by omega
          rw [e0] at q1 ⊢
          exact q1
      have ex2 : ∀ n : Nat, (x * x) ^ n = x ^ (2 * n) := fun n => by rw [Nat.mul_comm 2, Nat.pow_mul, ← Nat.pow_two, ← Nat.pow_mul, ← Nat.pow_mul, Nat.mul_comm]
      refine ⟨fun σ' H' => H' = H2 ∧ ∃ x y z : Nat, σ' = [some (.int x), some (.int y), some (.int z)] ∧ y = μ / 2 ∧ z * x ^ y = M ∧ 0 < x ∧ 0 < z, fun σ' H' hN => ?_, ?_⟩
      · obtain ⟨rfl, x', y', z', rfl, ey, q1, q2, q3⟩ := hN
        exact ⟨y', by omega, rfl, x', y', z', rfl, rfl, q1, q2, q3⟩
      · have em : ((μ : Nat) : Int) % 2 = ((μ % 2 : Nat) : Int) := by omega
        refine ⟨_, rfl, _, _, rfl, rfl, (by show (0 : Int) < 2; decide), rfl, _, rfl, ?_⟩
        by_cases ho : μ % 2 = 1
        · refine iteT' (decide_eq_true (show V.int (((μ : Nat) : Int) % 2) = V.int 1 by rw [em, ho]; rfl)) ?_
          refine ⟨_, rfl, _, rfl, _, _, rfl, rfl, wm hx hzM hM, ?_⟩
          have ezx : ((z : Int) * (x : Int)) = ((z * x : Nat) : Int) := (Int.natCast_mul z x).symm
          have hq : z * x * (x * x) ^ (μ / 2) = M := by
            rw [ex2, Nat.mul_assoc, ← Nat.pow_succ', show (2 * (μ / 2)).succ = μ by omega]
            exact hz
          have kz := fun D kk => key D (z * x) hq (Nat.mul_pos z0 x0) kk
          rw [← ezx] at kz
          refine kz _ fun x' r1 r2 => ?_
          rw [ezx]
          exact ⟨rfl, x', μ / 2, z * x, rfl, rfl, r1, r2, Nat.mul_pos z0 x0⟩
        · refine iteN' (fun y => ho (by have y2 : ((μ : Nat) : Int) % 2 = 1 := V.int.inj y; omega)) (next_ ?_)
          have hq : z * (x * x) ^ (μ / 2) = M := by
            rw [ex2, show 2 * (μ / 2) = μ by omega]
            exact hz
          exact key _ z hq z0 fun x' r1 r2 => ⟨rfl, x', μ / 2, z, rfl, rfl, r1, r2, z0⟩
    · have e0 : μ = 0 := by omega
      subst e0
      rw [Nat.pow_zero, Nat.mul_one] at hz
      subst hz
      refine iteN' (by decide) ?_
      exact ⟨_, rfl, k⟩
end
end K17
set_option maxHeartbeats 8000000
namespace K17
open PySem PySem.Spec PyProof.Rows L2

/-! ### is_numbers -/
abbrev sIsNum : Stmt := top 35
def spIsNum : Sp := fun vs H Q _ => ∃ (d : Addr) (es : Es), vs = [.ref d] ∧ H d = some (.dK (kv es)) ∧ es.length ≤ 1000 ∧ (es.map (·.1)).Nodup ∧ (∀ p ∈ es, isNm p.1 = true) ∧ (∀ p ∈ es, 1 ≤ p.2) ∧
  ∀ H', Same H H' → Q (.bl true) H'
def NIm : List Str := ["value", "name"]
section
variable {P : Program} {w : World} {K : PySem.W.Frag} {mg : Str → Option Value} {base : Heap}
theorem scIsNum : FnScope NIm ["value"] (defScope sIsNum) :=
  ⟨rfl, rfl, rfl, by decide +kernel, rfl, by decide +kernel, by decide +kernel⟩
theorem ok_isnum {f fN fI : Addr} {fd fdN fdI : FuncData} (F : Fun K "is_numbers" "is_numbers" sIsNum f fd) (T : Nk mg)
    (GN : FnOk P w K mg base CX0 1 fN fdN ["value"] (spIsName K)) (kN : PySem.W.keepIn K (.ref fN) = true) (bN : Binds K fdN ["value"] []) (gN : mg "is_name" = some (.ref fN))
    (GI : FnOk P w K mg base CX0 1 fI fdI ["value"] spIsInt) (kI : PySem.W.keepIn K (.ref fI) = true) (bI : Binds K fdI ["value"] []) (gI : mg "is_integer" = some (.ref fI)) :
    FnOk P w K mg base CX0 2 f fd ["value"] spIsNum := by
  refine F.ok scIsNum (fun vs H Q E h => ?_) (fun cdv A outer s H vs Q E hr h => ?_)
  · obtain ⟨d, es, rfl, _⟩ := h
    rfl
  · obtain ⟨d, es, rfl, hd, hl, hn, hnm, hpo, q⟩ := h
    have hu : (A.deeper (envOfC "is_numbers" (defScope sIsNum) s.heap.objs.size f cdv)).units + 1 < cLine := by have := hr.units; omega
    refine ⟨_, pss_cons (ps_if (pt_not (pt_val (pe_callB call_isi (by rfl) T.isi (by decide +kernel) (pa_cons (pv 0) (pa_cons (pe_bltn (v := .ty "dict") (u := .type "dict") (by rfl) T.dict (by decide +kernel) rfl) pa_nil)))))
        (pss_one (ps_ret pe_bl)) pss_nil)
      (pss_one (ps_ret (pe_lock (pe_callB (cr_all rfl) (by rfl) T.all (by decide +kernel) (pa_cons
        (pe_lc (own := [("name", 1)]) (g := gName 1) (tt := tYes)
          (te := tAndV (tCall (spIsName K) [] E0 (tCons (tVar 1) tNil)) (tAndV (tCall spIsInt [] E0 (tCons (tDGet (tVar 0) (tVar 1)) tNil)) (tOp (rI0 fun i j => V.bl (decide (j ≤ i))) (tDGet (tVar 0) (tVar 1)) (tC (.int 1))))) rfl scIsNum.nd (pi_keys (pv 0))
          (blkOk_by (own := [("name", 1)]) (N := NIm) (sc := defScope sIsNum) (by decide +kernel)) (fun _ _ _ _ _ => pg_name (i := 1) scIsNum.nd rfl (Or.inl rfl))
          (fun _ _ _ _ _ => pts_nil) (fun _ _ _ _ _ => by
            exact pe_and (pe_call GN hr rfl gN kN bN .nil pass0 (pa_cons (pv 1) pa_nil))
              (pe_and (pe_call GI hr rfl gI kI bI .nil pass0 (pa_cons (pe_dget hu (pv 0) (pv 1) (fun _ _ => rfl)) pa_nil)) (pe_one (pe_cmpR op_ge (pe_dget hu (pv 0) (pv 1) (fun _ _ => rfl)) pe_int (nomark _)))))) pa_nil))))), ?_⟩
    refine ⟨_, rfl, _, _, _, _, true, rfl, .ty _, .base (.dK hd), kit_ty (by decide +kernel), _, rfl, iteF ?_⟩
    refine ⟨d, _, hd, trivial, fun od => ?_⟩
    refine ⟨_, rfl, d, od, rfl, .inl ⟨kv es, upd_same, fun D hD => ?_⟩⟩
    have Dd : D ≠ d := fun z => by
      rw [z, upd_same] at hD
      cases hD
    have hD0 : H D = none := by
      rw [upd_ne Dd] at hD
      exact hD
    refine lc_it walk_keys (fun i H2 => H2 D = some (.lst ((List.replicate i true).map V.bl)) ∧ H2 d = some (.frz od (.dK (kv es))) ∧ ∀ b o, b ≠ d → H b = some o → H2 b = some o)
      ⟨upd_same, (upd_ne Dd.symm).trans upd_same, fun b o e1 e2 => ?_⟩ (fun i H2 _ p => p.2.1) ?_ ?_
    · rw [upd_ne (ne_of_none e2 hD0), upd_ne e1]
      exact e2
    · rintro i v H2 H3 hi ⟨hD2, hd2, S2⟩ ⟨rfl, k', v', e1, rfl⟩
      rw [kv_len] at hi
      have ei : (kv es)[i]? = some (ky es[i].1, V.int es[i].2) := by
        unfold kv
        rw [List.getElem?_map, List.getElem?_eq_getElem hi]
        rfl
      rw [ei] at e1
      cases e1
      have hnmi := hnm es[i] (List.getElem_mem hi)
      refine ⟨rfl, ?_⟩
      unfold tYes
      dsimp only
      rw [if_pos rfl]
      refine ⟨_, rfl, .inl ⟨es[i].1, rfl, by have := nm_len hnmi; omega, fun H4 S4 => ?_⟩⟩
      rw [hnmi]
      refine ⟨_, rfl, iteT' rfl ?_⟩
      have dg : DGet H4 d (.str es[i].1) (some (.int es[i].2)) := .inl ⟨_, ky es[i].1, .inr ⟨od, S4 _ _ hd2⟩, rfl, (val_at hn hi).symm⟩
      refine ⟨_, rfl, _, rfl, d, .int es[i].2, rfl, dg, es[i].2, rfl, _, rfl, iteT' rfl ?_⟩
      refine ⟨_, rfl, _, rfl, d, .int es[i].2, rfl, dg, _, _, rfl, rfl, ?_⟩
      have eb : V.bl (decide ((1 : Int) ≤ es[i].2)) = V.bl true := congrArg V.bl (decide_eq_true (hpo es[i] (List.getElem_mem hi)))
      dsimp only
      rw [eb]
      refine ⟨_, S4 _ _ hD2, by rw [List.length_map, List.length_replicate, sizeLine_eq]; omega, ?_, ?_, fun b o hb e => ?_⟩
      · rw [upd_same, List.replicate_succ', List.map_append]
        rfl
      · rw [upd_ne Dd.symm]
        exact S4 _ _ hd2
      · rw [upd_ne (ne_of_none e hD0)]
        exact S4 b o (S2 b o hb e)
    · rintro H2 ⟨hD2, hd2, S2⟩
      refine ⟨D, _, rfl, SqL.of hD2, hd2, ?_⟩
      have e : (List.replicate (kv es).length true).all id = true := by
        rw [List.all_eq_true]
        intro x hx
        exact List.eq_of_mem_replicate hx
      rw [e]
      refine q _ fun b o eb => ?_
      by_cases hb : b = d
      · subst hb
        rw [upd_same]
        exact hd.symm.trans eb
      · exact (upd_ne hb).trans (S2 b o hb eb)
end
end K17
set_option maxHeartbeats 8000000
namespace K17
open PySem PySem.Spec PyProof.Rows L2

/-! ### check_numbers, of right numbers -/
abbrev sChN : Stmt := top 37
def spChN : Sp := fun vs H Q _ => ∃ (d l : Addr) (es : Es) (ns : List Str), vs = [.ref d, .ref l] ∧ H d = some (.dK (kv es)) ∧ es.length ≤ 1000 ∧ (es.map (·.1)).Nodup ∧ (∀ p ∈ es, isNm p.1 = true) ∧ (∀ p ∈ es, 1 ≤ p.2) ∧
  H l = some (.lst (ns.map V.str)) ∧ ns.length ≤ 1000 ∧ (∀ n ∈ ns, n ∈ es.map (·.1)) ∧ ∀ H', Same H H' → Q .non H'
def NCN : List Str := ["value", "names", "name"]
section
variable {P : Program} {w : World} {K : PySem.W.Frag} {mg : Str → Option Value} {base : Heap}
theorem scChN : FnScope NCN ["value", "names"] (defScope sChN) :=
  ⟨rfl, rfl, rfl, by decide +kernel, rfl, by decide +kernel, by decide +kernel⟩
theorem all_false (n : Nat) : (List.replicate n false).any id = false := by
  rw [List.any_eq_false]
  intro x hx
  rw [List.eq_of_mem_replicate hx]
  decide
theorem ok_chn {f fN : Addr} {fd fdN : FuncData} (F : Fun K "check_numbers" "check_numbers" sChN f fd) (aN : mg "any" = none)
    (GN : FnOk P w K mg base CX0 2 fN fdN ["value"] spIsNum) (kN : PySem.W.keepIn K (.ref fN) = true) (bN : Binds K fdN ["value"] []) (gN : mg "is_numbers" = some (.ref fN)) :
    FnOk P w K mg base CX0 3 f fd ["value", "names"] spChN := by
  refine F.ok scChN (fun vs H Q E h => ?_) (fun cdv A outer s H vs Q E hr h => ?_)
  · obtain ⟨d, l, es, ns, rfl, _⟩ := h
    rfl
  · obtain ⟨d, l, es, ns, rfl, hd, hl, hn, hnm, hpo, hll, hz, hin, q⟩ := h
    have hu : (A.deeper (envOfC "check_numbers" (defScope sChN) s.heap.objs.size f cdv)).units + 1 < cLine := by have := hr.units; omega
    refine ⟨_, pss_one (ps_if (PW.pt (pw_or (pt_not (pt_val (pe_call GN hr rfl gN kN bN .nil pass0 (pa_cons (pv 0) pa_nil))))
        (pw_or1 (pt_val (pe_callB (cr_any rfl) (by rfl) aN (by decide +kernel) (pa_cons
          (pe_lc (own := [("name", 2)]) (g := gName 2) (tt := tYes) (te := tDNotIn (tVar 2) (tVar 0)) rfl scChN.nd (pi_list (pv 1))
            (blkOk_by (own := [("name", 2)]) (N := NCN) (sc := defScope sChN) (by decide +kernel)) (fun _ _ _ _ _ => pg_name (i := 2) scChN.nd rfl (Or.inl rfl))
            (fun _ _ _ _ _ => pts_nil) (fun _ _ _ _ _ => by exact pe_cmp (pc_dnotin hu (pv 2) (pv 0)) rfl)) pa_nil))))))
        (pss_one ps_no) pss_nil), ?_⟩
    refine ⟨_, rfl, d, es, rfl, hd, hl, hn, hnm, hpo, fun H2 S2 => ⟨_, rfl, iteF ?_⟩⟩
    refine ⟨_, rfl, l, rfl, ⟨_, SqL.of (S2 _ _ hll)⟩, fun D hD => ?_⟩
    refine lc_it (walk_list (K := K) (a := l) (xs := ns.map V.str)) (fun i H3 => H3 D = some (.lst ((List.replicate i false).map V.bl)) ∧ Same H2 H3) ⟨upd_same, fresh_upd hD⟩ (fun i H3 _ h => SqL.of (h.2 _ _ (S2 _ _ hll))) ?_ ?_
    · rintro i x H3 H4 hi ⟨h3, S3⟩ ⟨rfl, hx⟩
      rw [List.length_map] at hi
      obtain ⟨n, hnn, rfl⟩ := List.mem_map.mp (List.mem_of_getElem? hx)
      obtain ⟨p, hp, rfl⟩ := List.mem_map.mp (hin n hnn)
      refine ⟨rfl, ?_⟩
      unfold tYes
      dsimp only
      rw [if_pos rfl]
      refine ⟨_, rfl, _, rfl, d, some (.int p.2), rfl, .inl ⟨_, ky p.1, .inl (S3 _ _ (S2 _ _ hd)), rfl, by rw [val_kv, lookG hn hp]; rfl⟩, ?_⟩
      refine ⟨_, h3, by rw [List.length_map, List.length_replicate, sizeLine_eq]; omega, ?_, fun b o e => ?_⟩
      · rw [upd_same, List.replicate_succ', List.map_append]
        rfl
      · rw [upd_ne (ne_of_none e hD)]
        exact S3 b o e
    · rintro H3 ⟨h3, S3⟩
      refine ⟨D, List.replicate (ns.map V.str).length false, rfl, SqL.of h3, ?_⟩
      rw [all_false]
      exact ⟨_, rfl, iteF (next_ (q _ (S2.trans S3)))⟩
end
end K17
set_option maxHeartbeats 8000000
namespace K17
open PySem PySem.Spec PyProof.Rows L2

/-! ### is_point, check_point of a right point -/
abbrev sIsPt : Stmt := top 36
abbrev sChP : Stmt := top 38
def spIsPt : Sp := fun vs H Q _ => ∃ (d : Addr) (es : Es), vs = [.ref d] ∧ H d = some (.dK (kv es)) ∧ es.length ≤ 1000 ∧ (es.map (·.1)).Nodup ∧ (∀ p ∈ es, isNm p.1 = true) ∧ (∀ p ∈ es, 0 ≤ p.2) ∧
  ∀ H', Same H H' → Q (.bl true) H'
def spChP : Sp := fun vs H Q _ => ∃ (d : Addr) (es : Es), vs = [.ref d] ∧ H d = some (.dK (kv es)) ∧ es.length ≤ 1000 ∧ (es.map (·.1)).Nodup ∧ (∀ p ∈ es, isNm p.1 = true) ∧ (∀ p ∈ es, 0 ≤ p.2) ∧
  ∀ H', Same H H' → Q .non H'
def NIp : List Str := ["value", "name"]
section
variable {P : Program} {w : World} {K : PySem.W.Frag} {mg : Str → Option Value} {base : Heap}
theorem scIsPt : FnScope NIp ["value"] (defScope sIsPt) :=
  ⟨rfl, rfl, rfl, by decide +kernel, rfl, by decide +kernel, by decide +kernel⟩
theorem ok_ispoint {f fN fI : Addr} {fd fdN fdI : FuncData} (F : Fun K "is_point" "is_point" sIsPt f fd) (T : Nk mg)
    (GN : FnOk P w K mg base CX0 1 fN fdN ["value"] (spIsName K)) (kN : PySem.W.keepIn K (.ref fN) = true) (bN : Binds K fdN ["value"] []) (gN : mg "is_name" = some (.ref fN))
    (GI : FnOk P w K mg base CX0 2 fI fdI ["value"] spIsCount) (kI : PySem.W.keepIn K (.ref fI) = true) (bI : Binds K fdI ["value"] []) (gI : mg "is_count" = some (.ref fI)) :
    FnOk P w K mg base CX0 3 f fd ["value"] spIsPt := by
  have GN := GN.mono (k := 2) (by decide)
  refine F.ok scIsPt (fun vs H Q E h => ?_) (fun cdv A outer s H vs Q E hr h => ?_)
  · obtain ⟨d, es, rfl, _⟩ := h
    rfl
  · obtain ⟨d, es, rfl, hd, hl, hn, hnm, hpo, q⟩ := h
    have hu : (A.deeper (envOfC "is_point" (defScope sIsPt) s.heap.objs.size f cdv)).units + 1 < cLine := by have := hr.units; omega
    refine ⟨_, pss_cons (ps_if (pt_not (pt_val (pe_callB call_isi (by rfl) T.isi (by decide +kernel) (pa_cons (pv 0) (pa_cons (pe_bltn (v := .ty "dict") (u := .type "dict") (by rfl) T.dict (by decide +kernel) rfl) pa_nil)))))
        (pss_one (ps_ret pe_bl)) pss_nil)
      (pss_one (ps_ret (pe_lock (pe_callB (cr_all rfl) (by rfl) T.all (by decide +kernel) (pa_cons
        (pe_lc (own := [("name", 1)]) (g := gName 1) (tt := tYes)
          (te := tAndV (tCall (spIsName K) [] E0 (tCons (tVar 1) tNil)) (tCall spIsCount [] E0 (tCons (tDGet (tVar 0) (tVar 1)) tNil))) rfl scIsPt.nd (pi_keys (pv 0))
          (blkOk_by (own := [("name", 1)]) (N := NIp) (sc := defScope sIsPt) (by decide +kernel)) (fun _ _ _ _ _ => pg_name (i := 1) scIsPt.nd rfl (Or.inl rfl))
          (fun _ _ _ _ _ => pts_nil) (fun _ _ _ _ _ => by
            exact pe_and (pe_call GN hr rfl gN kN bN .nil pass0 (pa_cons (pv 1) pa_nil))
              (pe_one (pe_call GI hr rfl gI kI bI .nil pass0 (pa_cons (pe_dget hu (pv 0) (pv 1) (fun _ _ => rfl)) pa_nil))))) pa_nil))))), ?_⟩
    refine ⟨_, rfl, _, _, _, _, true, rfl, .ty _, .base (.dK hd), kit_ty (by decide +kernel), _, rfl, iteF ?_⟩
    refine ⟨d, _, hd, trivial, fun od => ?_⟩
    refine ⟨_, rfl, d, od, rfl, .inl ⟨kv es, upd_same, fun D hD => ?_⟩⟩
    have Dd : D ≠ d := fun z => by
      rw [z, upd_same] at hD
      cases hD
    have hD0 : H D = none := by
      rw [upd_ne Dd] at hD
      exact hD
    refine lc_it walk_keys (fun i H2 => H2 D = some (.lst ((List.replicate i true).map V.bl)) ∧ H2 d = some (.frz od (.dK (kv es))) ∧ ∀ b o, b ≠ d → H b = some o → H2 b = some o)
      ⟨upd_same, (upd_ne Dd.symm).trans upd_same, fun b o e1 e2 => ?_⟩ (fun i H2 _ p => p.2.1) ?_ ?_
    · rw [upd_ne (ne_of_none e2 hD0), upd_ne e1]
      exact e2
    · rintro i v H2 H3 hi ⟨hD2, hd2, S2⟩ ⟨rfl, k', v', e1, rfl⟩
      rw [kv_len] at hi
      have ei : (kv es)[i]? = some (ky es[i].1, V.int es[i].2) := by
        unfold kv
        rw [List.getElem?_map, List.getElem?_eq_getElem hi]
        rfl
      rw [ei] at e1
      cases e1
      have hnmi := hnm es[i] (List.getElem_mem hi)
      refine ⟨rfl, ?_⟩
      unfold tYes
      dsimp only
      rw [if_pos rfl]
      refine ⟨_, rfl, .inl ⟨es[i].1, rfl, by have := nm_len hnmi; omega, fun H4 S4 => ?_⟩⟩
      rw [hnmi]
      refine ⟨_, rfl, iteT' rfl ?_⟩
      refine ⟨_, rfl, _, rfl, d, .int es[i].2, rfl, .inl ⟨_, ky es[i].1, .inr ⟨od, S4 _ _ hd2⟩, rfl, (val_at hn hi).symm⟩, es[i].2, rfl, ?_⟩
      rw [decide_eq_true (hpo es[i] (List.getElem_mem hi))]
      refine ⟨_, S4 _ _ hD2, by rw [List.length_map, List.length_replicate, sizeLine_eq]; omega, ?_, ?_, fun b o hb e => ?_⟩
      · rw [upd_same, List.replicate_succ', List.map_append]
        rfl
      · rw [upd_ne Dd.symm]
        exact S4 _ _ hd2
      · rw [upd_ne (ne_of_none e hD0)]
        exact S4 b o (S2 b o hb e)
    · rintro H2 ⟨hD2, hd2, S2⟩
      refine ⟨D, _, rfl, SqL.of hD2, hd2, ?_⟩
      have e : (List.replicate (kv es).length true).all id = true := by
        rw [List.all_eq_true]
        intro x hx
        exact List.eq_of_mem_replicate hx
      rw [e]
      refine q _ fun b o eb => ?_
      by_cases hb : b = d
      · subst hb
        rw [upd_same]
        exact hd.symm.trans eb
      · exact (upd_ne hb).trans (S2 b o hb eb)
theorem scChP : FnScope ["value"] ["value"] (defScope sChP) :=
  ⟨rfl, rfl, rfl, by decide +kernel, rfl, by decide +kernel, by decide +kernel⟩
theorem ok_chp {f fN : Addr} {fd fdN : FuncData} (F : Fun K "check_point" "check_point" sChP f fd)
    (GN : FnOk P w K mg base CX0 3 fN fdN ["value"] spIsPt) (kN : PySem.W.keepIn K (.ref fN) = true) (bN : Binds K fdN ["value"] []) (gN : mg "is_point" = some (.ref fN)) :
    FnOk P w K mg base CX0 4 f fd ["value"] spChP := by
  refine F.ok scChP (fun vs H Q E h => ?_) (fun cdv A outer s H vs Q E hr h => ?_)
  · obtain ⟨d, es, rfl, _⟩ := h
    rfl
  · obtain ⟨d, es, rfl, hd, hl, hn, hnm, hpo, q⟩ := h
    refine ⟨_, pss_one (ps_if (pt_not (pt_val (pe_call GN hr rfl gN kN bN .nil pass0 (pa_cons (pv 0) pa_nil)))) (pss_one ps_no) pss_nil), ?_⟩
    exact ⟨_, rfl, d, es, rfl, hd, hl, hn, hnm, hpo, fun H2 S2 => ⟨_, rfl, iteF (next_ (q _ S2))⟩⟩
end
end K17
set_option maxHeartbeats 8000000
namespace K17
open PySem PySem.Spec PyProof.Rows L2

/-! ### at_point -/
abbrev sAtP : Stmt := inClass sSize 13
def ptV (es ms : Es) : Int := (es.map fun q => q.2 * g0 ms q.1).sum
def spAtP (C : Addr) : Sp := fun vs H Q _ => ∃ (p d : Addr) (es ms : Es), vs = [.ref p, .ref d] ∧ SizeAt C H p es ∧ (∀ q ∈ es, -(2 ^ 64) < q.2 ∧ q.2 < 2 ^ 64) ∧ H d = some (.dK (kv ms)) ∧ ms.length ≤ 1000 ∧ (ms.map (·.1)).Nodup ∧ (∀ p ∈ ms, isNm p.1 = true) ∧ (∀ p ∈ ms, 0 ≤ p.2) ∧
  ∀ H', Same H H' → Q (.int (ptV es ms)) H'
def NAp : List Str := ["self", "point", "name", "count"]
section
variable {P : Program} {w : World} {K : PySem.W.Frag} {mg : Str → Option Value} {base : Heap} {C : Addr}
theorem scAtP : FnScope NAp ["self", "point"] (defScope sAtP) :=
  ⟨rfl, rfl, rfl, by decide +kernel, rfl, by decide +kernel, by decide +kernel⟩
theorem ok_atp {f fN : Addr} {fd fdN : FuncData} (F : Fun K "at_point" "Size.at_point" sAtP f fd) (Tc : Ck K mg C) (sN : mg "sum" = none)
    (GN : FnOk P w K mg base CX0 4 fN fdN ["value"] spChP) (kN : PySem.W.keepIn K (.ref fN) = true) (bN : Binds K fdN ["value"] []) (gN : mg "check_point" = some (.ref fN)) :
    FnOk P w K mg base CX0 5 f fd ["self", "point"] (spAtP C) := by
  refine F.ok scAtP (fun vs H Q E h => ?_) (fun cdv A outer s H vs Q E hr h => ?_)
  · obtain ⟨p, d, es, ms, rfl, _⟩ := h
    rfl
  · obtain ⟨p, d, es, ms, rfl, hz, hb, hd, hl, hn, hnm, hpo, k⟩ := h
    have hu : (A.deeper (envOfC "Size.at_point" (defScope sAtP) s.heap.objs.size f cdv)).units + 1 < cLine := by have := hr.units; omega
    refine ⟨_, pss_cons (ps_expr (pe_call GN hr rfl gN kN bN .nil pass0 (pa_cons (pv 1) pa_nil)))
      (pss_one (ps_ret (pe_lock (pe_callB (cr_sum rfl) (by rfl) sN (by decide +kernel) (pa_cons
        (pe_lc (own := [("name", 2), ("count", 3)]) (g := gTup K 2 (gCons (gName 2) (gCons (gName 3) gNil))) (tt := tYes)
          (te := tOp (rI CMul fun i j => V.int (i * j)) (tVar 3) (tDGet2 (tVar 1) (tVar 2) (tC (.int 0)))) rfl scAtP.nd (pi_items (pe_fld (pv 0) rfl))
          (blkOk_by (own := [("name", 2), ("count", 3)]) (N := NAp) (sc := defScope sAtP) (by decide +kernel))
          (fun _ _ _ _ _ => pg_tup rfl (pgs_cons (pg_name (i := 2) scAtP.nd rfl (Or.inl rfl)) (pgs_cons (pg_name (i := 3) scAtP.nd rfl (Or.inl rfl)) pgs_nil)))
          (fun _ _ _ _ _ => pts_nil) (fun _ _ _ _ _ => by exact pe_op op_mul (pv 3) (pe_dget2 hu (pv 1) (pv 2) pe_int ⟨rfl, rfl, rfl, rfl⟩))) pa_nil))))), ?_⟩
    obtain ⟨dx, D0, p1, p2, p3, p4, p5, p6⟩ := id hz
    refine ⟨_, rfl, d, ms, rfl, hd, hl, hn, hnm, hpo, fun H2 S2 => ?_⟩
    have q1 := S2 _ _ p1
    have q2 := S2 _ _ p2
    have hd2' := S2 _ _ hd
    refine ⟨D0, _, q2, trivial, fun od => ?_⟩
    have pD : p ≠ D0 := fun z => by
      rw [z, p2] at p1
      cases p1
    refine ⟨_, rfl, p, C, dx, _, _, rfl, (upd_ne pD).trans q1, Tc.cl, Tc.nE, rfl, D0, od, kv es, rfl, upd_same, fun L hL => ?_⟩
    have LD : L ≠ D0 := fun z => by
      rw [z, upd_same] at hL
      cases hL
    have hL0 : H2 L = none := by
      rw [upd_ne LD] at hL
      exact hL
    have rd : ∀ {H' : Hp}, H' D0 = some (.frz od (.dK (kv es))) → (∀ b o, b ≠ D0 → H2 b = some o → H' b = some o) → Rd H' d (.dK (kv ms)) := fun {H'} e1 e2 => by
      by_cases hdD : d = D0
      · subst hdD
        rw [q2] at hd2'
        have e3 : (HO.dK (kv es)) = HO.dK (kv ms) := Option.some.inj hd2'
        rw [← e3]
        exact .inr ⟨od, e1⟩
      · exact .inl (e2 _ _ hdD hd2')
    refine lc_it walk_items (fun i H3 => H3 L = some (.lst (((es.take i).map fun q => q.2 * g0 ms q.1).map V.int)) ∧ H3 D0 = some (.frz od (.dK (kv es))) ∧ ∀ b o, b ≠ D0 → H2 b = some o → H3 b = some o)
      ⟨upd_same, (upd_ne LD.symm).trans upd_same, fun b o e1 e2 => ?_⟩ (fun i H3 _ q => q.2.1) ?_ ?_
    · rw [upd_ne (ne_of_none e2 hL0), upd_ne e1]
      exact e2
    · rintro i v H3 H4 hi ⟨hL3, hD3, S3⟩ ⟨T, x, y, rfl, nT, rfl, e1, e2⟩
      rw [kv_len] at hi
      have ei : (kv es)[i]? = some (ky es[i].1, V.int es[i].2) := by
        unfold kv
        rw [List.getElem?_map, List.getElem?_eq_getElem hi]
        rfl
      dsimp only at e1 e2
      rw [ei] at e1 e2
      cases e1
      cases e2
      have LT : L ≠ T := ne_of_none hL3 nT
      have DT : D0 ≠ T := ne_of_none hD3 nT
      have hbi := hb es[i] (List.getElem_mem hi)
      have g3 := rd hD3 S3
      have g4 : Rd (upd H3 T (.tup [kV (ky es[i].1), V.int es[i].2])) d (.dK (kv ms)) := by
        rcases g3 with g | ⟨o, g⟩
        · exact .inl ((upd_ne (ne_of_none g nT)).trans g)
        · exact .inr ⟨o, (upd_ne (ne_of_none g nT)).trans g⟩
      refine ⟨T, _, rfl, SqT.of upd_same, rfl, _, _, rfl, _, _, rfl, rfl, rfl, ?_⟩
      unfold tYes
      dsimp only
      rw [if_pos rfl]
      refine ⟨_, rfl, _, rfl, d, rfl, .inl ⟨_, g4⟩, _, rfl, _, .inl ⟨_, ky es[i].1, g4, rfl, rfl⟩, ?_⟩
      rw [get_int]
      refine ⟨_, _, rfl, rfl, .inl hbi, ?_⟩
      refine ⟨_, (upd_ne LT).trans hL3, by rw [List.length_map, List.length_map, List.length_take, sizeLine_eq]; omega, ?_, ?_, fun b o hb' e => ?_⟩
      · rw [upd_same, List.take_add_one, List.getElem?_eq_getElem hi, List.map_append, List.map_append]
        rfl
      · rw [upd_ne LD.symm, upd_ne DT]
        exact hD3
      · rw [upd_ne (ne_of_none e hL0), upd_ne (ne_of_none (S3 b o hb' e) nT)]
        exact S3 b o hb' e
    · rintro H3 ⟨hL3, hD3, S3⟩
      rw [kv_len, List.take_length] at hL3
      refine ⟨L, _, rfl, SqL.of hL3, hD3, ?_⟩
      refine k _ fun b o e => ?_
      by_cases hbD : b = D0
      · subst hbD
        rw [upd_same]
        exact p2.symm.trans e
      · exact (upd_ne hbD).trans (S3 b o hbD (S2 _ _ e))
end
end K17
set_option maxHeartbeats 8000000
namespace K17
open PySem PySem.Spec PyProof.Rows L2

/-! ### the value at numbers -/
def upV : Es → (Str → Nat) → Nat
  | [], _ => 1
  | q :: r, N => (if 0 < q.2 then N q.1 ^ q.2.toNat else 1) * upV r N
def dnV : Es → (Str → Nat) → Nat
  | [], _ => 1
  | q :: r, N => (if q.2 < 0 then N q.1 ^ (-q.2).toNat else 1) * dnV r N
/-- a bound on what is multiplied -/
def bnd : Es → (Str → Nat) → Nat
  | [], _ => 0
  | q :: r, L => q.2.natAbs * L q.1 + bnd r L
theorem ord_of_G {bs : List Nat} {n : Nat} (hc : Cop bs) (h : G bs n) : ∃ f, n = K17.pw f bs ∧ ∀ b ∈ bs, IsOrd n b (f b) := by
  obtain ⟨f, e⟩ := G.pw h hc.nodup
  refine ⟨f, e, fun b hb => ?_⟩
  obtain ⟨r, er, hr⟩ := pw_split f hc hb
  refine ⟨r, e.trans er, fun z => ?_⟩
  have h1 := hc.2 b hb
  have h2 : Nat.gcd b r = b := Nat.gcd_eq_left z
  have h3 : Nat.gcd b r = 1 := hr
  omega
theorem pw_ord {bs : List Nat} {n : Nat} (hc : Cop bs) (h : G bs n) : n = K17.pw (ordF n) bs := by
  obtain ⟨f, e, k⟩ := ord_of_G hc h
  have z : K17.pw (ordF n) bs = K17.pw f bs := pw_congr fun b hb => ordF_eq (hc.2 b hb) (k b hb)
  rw [z]
  exact e
theorem above_up {bs : List Nat} (hc : Cop bs) (N : Str → Nat) : ∀ {es : Es}, (∀ q ∈ es, G bs (N q.1)) → above bs (lsO es N) = upV es N
  | [], _ => rfl
  | q :: r, h => by
    have ih := above_up hc N (es := r) fun q hq => h q (List.mem_cons_of_mem _ hq)
    show (if 0 < q.2 then K17.pw (ordF (N q.1)) bs ^ q.2.toNat else 1) * above bs (lsO r N) = _
    rw [ih, ← pw_ord hc (h q (List.mem_cons_self ..))]
    rfl
theorem below_dn {bs : List Nat} (hc : Cop bs) (N : Str → Nat) : ∀ {es : Es}, (∀ q ∈ es, G bs (N q.1)) → below bs (lsO es N) = dnV es N
  | [], _ => rfl
  | q :: r, h => by
    have ih := below_dn hc N (es := r) fun q hq => h q (List.mem_cons_of_mem _ hq)
    show (if q.2 < 0 then K17.pw (ordF (N q.1)) bs ^ (-q.2).toNat else 1) * below bs (lsO r N) = _
    rw [ih, ← pw_ord hc (h q (List.mem_cons_self ..))]
    rfl
theorem upV_lt {N L : Str → Nat} : ∀ {es : Es}, (∀ q ∈ es, N q.1 < 2 ^ L q.1) → upV es N ≤ 2 ^ bnd es L
  | [], _ => Nat.le_refl _
  | q :: r, h => by
    have ih := upV_lt (L := L) (es := r) fun q hq => h q (List.mem_cons_of_mem _ hq)
    have hq := h q (List.mem_cons_self ..)
    show (if 0 < q.2 then N q.1 ^ q.2.toNat else 1) * upV r N ≤ 2 ^ (q.2.natAbs * L q.1 + bnd r L)
    rw [Nat.pow_add]
    refine Nat.mul_le_mul ?_ ih
    split
    · rename_i h0
      have e : q.2.toNat = q.2.natAbs := by omega
      rw [e, Nat.mul_comm, Nat.pow_mul]
      exact Nat.pow_le_pow_left (by omega) _
    · exact Nat.one_le_two_pow
theorem dnV_lt {N L : Str → Nat} : ∀ {es : Es}, (∀ q ∈ es, N q.1 < 2 ^ L q.1) → dnV es N ≤ 2 ^ bnd es L
  | [], _ => Nat.le_refl _
  | q :: r, h => by
    have ih := dnV_lt (L := L) (es := r) fun q hq => h q (List.mem_cons_of_mem _ hq)
    have hq := h q (List.mem_cons_self ..)
    show (if q.2 < 0 then N q.1 ^ (-q.2).toNat else 1) * dnV r N ≤ 2 ^ (q.2.natAbs * L q.1 + bnd r L)
    rw [Nat.pow_add]
    refine Nat.mul_le_mul ?_ ih
    split
    · rename_i h0
      have e : (-q.2).toNat = q.2.natAbs := by omega
      rw [e, Nat.mul_comm, Nat.pow_mul]
      exact Nat.pow_le_pow_left (by omega) _
    · exact Nat.one_le_two_pow
theorem dnV_pos {N : Str → Nat} : ∀ {es : Es}, (∀ q ∈ es, 0 < N q.1) → 0 < dnV es N
  | [], _ => Nat.zero_lt_one
  | q :: r, h => by
    have ih := dnV_pos (es := r) fun q hq => h q (List.mem_cons_of_mem _ hq)
    have hq := h q (List.mem_cons_self ..)
    show 0 < (if q.2 < 0 then N q.1 ^ (-q.2).toNat else 1) * dnV r N
    refine Nat.mul_pos ?_ ih
    split
    · exact Nat.pow_pos hq
    · decide
theorem upV_pos {N : Str → Nat} : ∀ {es : Es}, (∀ q ∈ es, 0 < N q.1) → 0 < upV es N
  | [], _ => Nat.zero_lt_one
  | q :: r, h => by
    have ih := upV_pos (es := r) fun q hq => h q (List.mem_cons_of_mem _ hq)
    have hq := h q (List.mem_cons_self ..)
    show 0 < (if 0 < q.2 then N q.1 ^ q.2.toNat else 1) * upV r N
    refine Nat.mul_pos ?_ ih
    split
    · exact Nat.pow_pos hq
    · decide
theorem IsOrd.le_lg {n b k l : Nat} (hb : 1 < b) (n0 : 0 < n) (hn : n < 2 ^ l) (h : IsOrd n b k) : k ≤ l := by
  obtain ⟨r, e, hr⟩ := h
  have r0 : 0 < r := by
    refine Nat.pos_of_ne_zero fun z => ?_
    rw [z, Nat.mul_zero] at e
    omega
  have h1 : 2 ^ k ≤ b ^ k := Nat.pow_le_pow_left hb k
  have h2 : b ^ k ≤ n := by
    rw [e]
    exact Nat.le_mul_of_pos_right _ r0
  have h3 : 2 ^ k < 2 ^ l := by omega
  exact Nat.le_of_lt ((Nat.pow_lt_pow_iff_right (show 1 < 2 by decide)).mp h3)
theorem sm_le {bs : List Nat} (hc : Cop bs) {N L : Str → Nat} {b : Nat} (hb : b ∈ bs) : ∀ {es : Es}, (∀ q ∈ es, G bs (N q.1)) → (∀ q ∈ es, 0 < N q.1 ∧ N q.1 < 2 ^ L q.1) →
    sm (lsO es N) b ≤ (bnd es L : Nat)
  | [], _, _ => Int.le_refl _
  | q :: r, h, k => by
    have ih := sm_le hc hb (es := r) (fun q hq => h q (List.mem_cons_of_mem _ hq)) fun q hq => k q (List.mem_cons_of_mem _ hq)
    have hq := h q (List.mem_cons_self ..)
    obtain ⟨n0, nl⟩ := k q (List.mem_cons_self ..)
    obtain ⟨f, e, kf⟩ := ord_of_G hc hq
    have ho := ordF_eq (hc.2 b hb) (kf b hb)
    have hl := (kf b hb).le_lg (hc.2 b hb) n0 nl
    show q.2 * (ordF (N q.1) b : Nat) + sm (lsO r N) b ≤ ((q.2.natAbs * L q.1 + bnd r L : Nat) : Int)
    rw [ho]
    have h1 : q.2 * (f b : Nat) ≤ ((q.2.natAbs * L q.1 : Nat) : Int) := by
      have h2 : q.2 * (f b : Nat) ≤ (q.2.natAbs : Int) * (f b : Nat) := Int.mul_le_mul_of_nonneg_right (by omega) (by omega)
      have h3 : q.2.natAbs * f b ≤ q.2.natAbs * L q.1 := Nat.mul_le_mul_left _ hl
      have h4 : ((q.2.natAbs * f b : Nat) : Int) = (q.2.natAbs : Int) * (f b : Nat) := Int.natCast_mul ..
      omega
    omega
theorem pw_take {f : Nat → Nat} : ∀ {bs : List Nat}, (∀ b ∈ bs, 1 < b) → ∀ i, pw f (bs.take i) ≤ pw f bs
  | [], _, i => by simp
  | b :: r, h, 0 => by
    have : 0 < pw f (b :: r) := pw_pos h
    show 1 ≤ _
    omega
  | b :: r, h, i + 1 => by
    have ih := pw_take (f := f) (bs := r) (fun x hx => h x (List.mem_cons_of_mem _ hx)) i
    show b ^ f b * pw f (r.take i) ≤ b ^ f b * pw f r
    exact Nat.mul_le_mul_left _ ih
theorem pw_snoc (f : Nat → Nat) (b : Nat) : ∀ bs : List Nat, pw f (bs ++ [b]) = pw f bs * b ^ f b
  | [] => by
    show b ^ f b * 1 = 1 * b ^ f b
    omega
  | c :: r => by
    show c ^ f c * pw f (r ++ [b]) = c ^ f c * pw f r * b ^ f b
    rw [pw_snoc f b r, Nat.mul_assoc]
theorem value_eq {bs : List Nat} (hc : Cop bs) {N : Str → Nat} {es : Es} (hG : ∀ q ∈ es, G bs (N q.1)) (h : ∀ b ∈ bs, 0 ≤ sm (lsO es N) b) :
    dnV es N ∣ upV es N ∧ pw (fun b => (sm (lsO es N) b).toNat) bs = upV es N / dnV es N := by
  have z := value_whole (lsO es N) h
  rw [above_up hc N hG, below_dn hc N hG] at z
  have hp : 0 < dnV es N := by
    rw [← below_dn hc N hG]
    exact below_pos hc _
  refine ⟨⟨_, z⟩, ?_⟩
  rw [z, Nat.mul_div_cancel_left _ hp]
theorem value_no {bs : List Nat} (hc : Cop bs) {N : Str → Nat} {es : Es} (hG : ∀ q ∈ es, G bs (N q.1)) {b : Nat} (hb : b ∈ bs) (h : sm (lsO es N) b < 0) : ¬ dnV es N ∣ upV es N := by
  rw [← above_up hc N hG, ← below_dn hc N hG]
  exact value_not hc _ hb h
end K17
set_option maxHeartbeats 8000000
/-! own exceptions that are raised; methods that raise -/
namespace L2
open PySem PySem.Spec PyProof.Rows

/-- C(e, ..), to be raised: its dict is new -/
def tXm (C : Addr) (ps : List Str) (ta : TA) : St → Hp → XK → Prop := fun σ H Q => ta σ H fun vs H1 => vs.length = ps.length ∧
  ∀ d, H1 d = none → Q (.ref C) (some d) (upd H1 d (.xd (ps.zip vs.reverse)))
section
variable {X : Cx} {C : Addr} {p₀ : Str} {ps : List Str} {k : Nat} {x : Str} {p pos : Pos} {e : Expr} {es : List Expr} {ta : TA}
theorem pmk_x (M : MkAll X.prog X.w X.K X.mg C (p₀ :: ps)) (hr : Room k X.A) (hg : Gl X x) (hm : X.mg x = some (.ref C)) (R : Raises X (.ref C))
    (ha : PA X (e :: es) ta) (hdb : (x == ("__debug__" : Str)) = false := by decide)
    (he : starEach (e :: es) X.env = (false, eval e X.env) :: starEach es X.env := by rfl)
    (hpl : (backTo pos (starEach es X.env)).any (·.1) = false := by rfl) :
    PMk X (.Call (.Name x p) (e :: es) [] pos) (tXm C (p₀ :: ps) ta) := by
  intro pins s σ H Q I h
  refine wpAny_Call_Name_kw (ld_glob I hg hm ?_ hdb)
  refine PySem.W.callWith_K (h₀ := X.base) I.ok.mod.kin M.kp
    (thn (ha.run pos pins s σ H _ I h) fun us s1 ⟨vs, H1, I1, r, hl, q⟩ => ⟨I1.kIn, ?_⟩) he hpl
  have lu : us.length = (p₀ :: ps).length := r.length.symm.trans hl
  have Z := M.pos ((p₀ :: ps).zip us.reverse) (zip_fst (by rw [List.length_reverse]; exact lu))
  rw [zip_rev lu] at Z
  have kv := zip_kv (p₀ :: ps) (vals_rev r)
  have hd := hr.dp
  show wpAny _ _ (call (.ref C) us) _ _ _
  refine wpAny_call (Z X.A _ s1 I1.mh I1.nolimit (by omega) fun h' tk a W => ?_)
  have zo := W.obj
  obtain ⟨u0, ur, eu⟩ : ∃ u0 ur, us.reverse = u0 :: ur := by
    cases e : us.reverse with
    | nil =>
      have z := congrArg List.length e
      rw [List.length_reverse, lu] at z
      cases z
    | cons a b => exact ⟨a, b, rfl⟩
  obtain ⟨y0, yr, ey⟩ : ∃ y0 yr, vs.reverse = y0 :: yr := by
    cases e : vs.reverse with
    | nil =>
      have z := congrArg List.length e
      rw [List.length_reverse, hl] at z
      cases z
    | cons a b => exact ⟨a, b, rfl⟩
  rw [eu] at zo kv
  obtain ⟨t1, dx, e1, e2, e3, e4⟩ := zo
  obtain ⟨G, g1', g2'⟩ := restrict h' fun b => decide (b ≠ a)
  have gk : ∀ b, b ≠ a → G.get? b = h'.get? b := fun b hb => g1' b (decide_eq_true hb)
  have ge : G.get? a = none := g2' a (by simp)
  have na0 : H1 a = none := I1.hok.fresh W.new
  have hdx : H1 dx = none := I1.hok.fresh e2
  have keep : ∀ b o, s1.heap.get? b = some o → G.get? b = some o := fun b o z =>
    (gk b (Nat.ne_of_lt (Nat.lt_of_lt_of_le (Heap.lt_size z) W.new))).trans (W.keep b o z)
  have ok : ObjOk X.prog X.w H1 G dx (.xd ((p₀ :: ps).zip vs.reverse)) := by
    refine ⟨_, e4.at fun o y => (gk dx e3).trans y, ?_⟩
    exact kv_lookup kv
  have J := I1.laid (t' := tk) (a := dx) (o := .xd ((p₀ :: ps).zip vs.reverse)) (h' := G) keep e2 ok
  refine ⟨a, _, _, { s1 with heap := G, toks := tk }, _, .ref C, some dx, rfl, J, fun b o z => ?_, ge, e1, ⟨rfl, rfl⟩, rfl, rfl, ?_, rfl, I1.bare, R, q dx hdx⟩
  · by_cases hb : b = a
    · subst hb
      rw [show ({ s1 with heap := G, toks := tk } : Shared).heap = G from rfl, ge] at z
      cases z
    · exact (gk b hb).symm.trans z
  · rw [upd_ne e3.symm]
    exact na0
end

section
variable {X : Cx} {CX : CXT} {k : Nat} {f C : Addr} {fd : FuncData} {ps : List Str} {sp : Sp} {E : St → XK} {m : Str} {p apos : Pos} {e o : Expr} {es : List Expr} {ta : TE} {t : TA}
/-- o.m(e, ..), which may raise, as the slots stand -/
def tMethE (C : Addr) (m : Str) (sp : Sp) (E : St → XK) (ta : TE) (t : TA) : TE := fun σ H Q => ta σ H fun x H1 =>
  ∃ a dx fs, x = .ref a ∧ H1 a = some (.ins C dx fs) ∧ fs.lookup m = none ∧ t σ H1 fun vs H2 => sp (x :: vs) H2 Q (E σ)
theorem pe_methE {pl : Sem Bool} (he : PE X o ta) (c : Cls X.K C) (hm : Meth X.K C m f) (F : FnOk X.prog X.w X.K X.mg X.base CX k f fd ps sp) (hr : Room k X.A) (hb : Binds X.K fd ps []) (hx : ∀ σ, PassesAt CX X σ (E σ)) (ha : PA X (e :: es) t)
    (hst : starEach (e :: es) X.env = (false, eval e X.env) :: starEach es X.env := by rfl) (hpl : (backTo pos (starEach es X.env)).any (·.1) = false := by rfl)
    (ht : eval (.Call (.Attribute o m apos) (e :: es) [] pos) X.env = (do
      let ov ← eval o X.env
      standAt apos.atName
      let (f, first) ← holding [ov] (getMethod ov m pl)
      callWith pos f first (backTo pos (starEach (e :: es) X.env)) (backToKw pos (keywordEach [] X.env))) := by rfl) :
    PE X (.Call (.Attribute o m apos) (e :: es) [] pos) (tMethE C m sp E ta t) := by
  refine ⟨fun pins s σ H Q I h => ?_⟩
  refine PySem.W.methodCall_KW (pl := pl) (thn (he.run pins s σ H _ I h) fun u s1 ⟨x, H1, I1, rx, a, dx, fs, ex, ea, l, q⟩ => ?_) ht
  subst ex
  obtain rfl : u = Value.ref a := rx
  refine getmeth_ok I1 ea c hm l ?_
  refine PySem.W.callWith_K (first := [.ref a]) (h₀ := X.base) I.ok.mod.kin hm.kp (thn (ha.run pos pins s1 σ H1 _ I1 q) fun us s2 ⟨vs, H2, I2, r, q2⟩ => ⟨I2.kIn, ?_⟩) hst hpl
  exact run_fnS (us := .ref a :: us) (vs := .ref a :: vs) F hr hb (hx σ) I2 (.cons rfl r) q2
end

/-! ### what a suite asks of the exception that it holds -/
def tXb (a : Addr) (cls : Value) (d : Option Addr) (C : Addr) (f : Str) (te : TE) : TE := fun σ H Q => te σ H fun x H1 => x = .ref a ∧ cls = .ref C ∧
  ∃ (dd : Addr) (fs : List (Str × V)) (v : V), d = some dd ∧ H1 dd = some (.xd fs) ∧ fs.lookup f = some v ∧ Q v H1
def rXb (K : PySem.W.Frag) (a : Addr) (cls : Value) (d : Option Addr) (C : Addr) : List V → Hp → VK → Prop := fun xs H Q =>
  ∃ (c : V) (u : Value) (b : Bool) (dd : Addr) (fs : List (Str × V)), xs = [.ref a, c] ∧ cls = .ref C ∧ d = some dd ∧ H dd = some (.xd fs) ∧ ClsV c u ∧ PySem.W.kitOne K (.ref C) u = some b ∧ Q (.bl b) H
section
variable {X : Cx} {a C : Addr} {oe : Obj} {cls : Value} {d : Option Addr} {pn : List (Addr × Obj)} {e : Expr} {te : TE} {pos : Pos} {n : Str}
theorem pe_xb (T : XG X.K C) (hno : PySem.W.findIn X.K (.ref C) n = some none)
    (hz : Zc cls d oe) (hf : ∃ vs, oe.data = .fields vs) (he : PE (X.suite a ((a, oe) :: pn)) e te) (hb : attributeBase e n X.env (eval e X.env) = eval e X.env := by rfl) :
    PE (X.suite a ((a, oe) :: pn)) (.Attribute e n pos) (tXb a cls d C n te) := by
  refine ⟨fun pins s σ H Q I h => ?_⟩
  refine attr_of hb (thn (he.run pins s σ H _ I h) fun u s1 hh => ?_)
  obtain ⟨x, H1, I1, rx, ex, ec, dd, fs, v, ed, ea, l, q⟩ := hh
  subst ex
  obtain rfl : u = Value.ref a := rx
  subst ec
  subst ed
  obtain ⟨ha, _⟩ := I1.pin (a, oe) (List.mem_append_left _ List.mem_cons_self)
  obtain ⟨vs, hd⟩ := hf
  have hx : ObjOk X.prog X.w H1 s1.heap dd (.xd fs) := I1.hok dd _ ea
  obtain ⟨mA, hns, hr⟩ := hx
  obtain ⟨od, ho, hl⟩ := lookIn_ns hns
  obtain ⟨u, hu, ru⟩ := RelO.some_of (v := v) (o := mA n) (by rw [← l]; exact hr n)
  have J : PySem.W.InstAt s1.heap a oe C (some od) := ⟨ha, hz.1, by unfold PySem.W.notCls; rw [hd] <;> rfl, by rw [hz.2]; exact ho⟩
  exact HandSPX.exc_get I1.kIn J T.ga T.gg T.ex (PySem.W.findObj_own T.hd hno rfl (by rw [hl, hu])) (handed_of ru) ⟨v, H1, I1.tok _, ru, q⟩
theorem call_xb (G : XG X.K C) (hz : Zc cls d oe) (hf : ∃ vs, oe.data = .fields vs) : CallR (X.suite a ((a, oe) :: pn)) (.builtin "isinstance") (rXb X.K a cls d C) := by
  intro pins s σ H xs us Q I r h
  obtain ⟨c, u, b, dd, fs, rfl, ec, ed, ea, k, ek, q⟩ := h
  obtain ⟨u1, u2, rfl, r1, r2⟩ := vals2 r
  have e2 := k.eq r2
  subst e2
  obtain rfl : u1 = Value.ref a := r1
  subst ec
  subst ed
  obtain ⟨ha, _⟩ := I.pin (a, oe) (List.mem_append_left _ List.mem_cons_self)
  obtain ⟨vs, hd⟩ := hf
  have hx : ObjOk X.prog X.w H s.heap dd (.xd fs) := I.hok dd _ ea
  obtain ⟨mA, hns, hr⟩ := hx
  obtain ⟨od, ho, hl⟩ := lookIn_ns hns
  have J : PySem.W.InstAt s.heap a oe C (some od) := ⟨ha, hz.1, by unfold PySem.W.notCls; rw [hd] <;> rfl, by rw [hz.2]; exact ho⟩
  exact PySem.W.kia_one (PySem.W.kitx_exc G.cl G.ga G.gg G.ex G.cc G.cn G.ct G.co) I.kIn J ek (fun z => nomatch z) fun tk => ⟨.bl b, H, I.tok tk, rfl, q⟩
end

/-! ### defs that raise nothing, called whatever is being handled -/
structure RoomW (k : Nat) (A : Around) : Prop where
  dp : A.depth + 3 * k + 5 < recursionLimit
  un : A.units + 16 * k + 200 < cLine
theorem RoomW.mono {j k : Nat} {A : Around} (r : RoomW k A) (h : j ≤ k) : RoomW j A := ⟨by have := r.dp; omega, by have := r.un; omega⟩
theorem RoomW.deeper {k : Nat} {A : Around} (r : RoomW (k + 1) A) (env : Env) : RoomW k (A.deeper env) :=
  ⟨by have := r.dp; show A.depth + 1 + 3 * k + 5 < _; omega, by have := r.un; show A.units + 3 + 16 * k + 200 < _; omega⟩
theorem RoomW.depth {k : Nat} {A : Around} (r : RoomW k A) : A.depth < recursionLimit := by have := r.dp; omega
theorem RoomW.mark {k : Nat} {A : Around} (r : Room k A) (v : Option Value) : RoomW k (A.mark v) := ⟨r.dp, r.un⟩
theorem roomW_of {k : Nat} {A : Around} (r : Room k A) : RoomW k A := ⟨r.dp, r.un⟩
structure FnW (P : Program) (w : World) (K : PySem.W.Frag) (mg : Str → Option Value) (base : Heap) (k : Nat) (f : Addr) (fd : FuncData) (ps : List Str) (sp : Sp) : Prop where
  len : ∀ vs H Q, sp vs H Q E0 → vs.length = ps.length
  run : ∀ (A : Around) (outer : List Env) (s : Shared) (H : Hp) (args : Args) (us : List Value) (vs : List V) (Q : VK), RoomW k A → Env0 P w K mg base A outer s H → BindsTo s fd args (ps.zip us) → Vals vs us → sp vs H Q E0 →
    codeAny (model P w) A (.call (.ref f) args) (CR CX0 outer P w H s Q E0) s
def cxW (P : Program) (w : World) (K : PySem.W.Frag) (mg : Str → Option Value) (base : Heap) (N : List Str) (qual : Str) (scope : Scope) (f : Addr) (cd : Value) (A : Around) (outer : List Env) (s : Shared) (H : Hp) : Cx :=
  { cxOf CX0 P w K mg base N qual scope f cd A outer s H E0 with calm := false }
theorem inv_startW {P : Program} {w : World} {K : PySem.W.Frag} {mg : Str → Option Value} {base : Heap} {N ps : List Str} {qual : Str} {scope : Scope} {f : Addr} {cd : Value} {A : Around} {outer : List Env} {s s1 : Shared} {H : Hp} {us : List Value} {vs : List V}
    (S : FnScope N ps scope) (e0 : Env0 P w K mg base A outer s H) (hl : vs.length = ps.length) (r : Vals vs us)
    (x : InCallC s s.heap.objs.size (bindL (envOfC qual scope s.heap.objs.size f cd).kindOf (ps.zip us) fun _ => none) (cellsFrom (s.heap.objs.size + 1) scope.names []) (bindC (envOfC qual scope s.heap.objs.size f cd).kindOf (ps.zip us) fun _ => none) s1) :
    Inv (cxW P w K mg base N qual scope f cd A outer s H) [] (L2.start N vs) H s1 := by
  have hpl : ps.length ≤ N.length := by have := congrArg List.length S.pre; rw [List.length_take] at this; omega
  obtain ⟨h1, tk, rfl, hk⟩ := x.done
  have noA : ∀ b : Addr, b ∉ (cxW P w K mg base N qual scope f cd A outer s H).ex := fun b z => absurd (show b ∈ ([] : List Addr) from z) (by simp)
  refine ⟨⟨e0.mod, S.kind, rfl, rfl, Nat.le_refl _, fun y z c h1 h2 => ?_, fun y hy => ?_, fun y c _ h => ?_, (fun z => Bool.noConfusion (show false = true from z)), Around.frames_deeper e0.frames, .inr ⟨rfl, rfl⟩, fun b z => absurd z (noA b), e0.bs, e0.bsz, fun b _ _ => noA b, fun b z => absurd z (noA b), e0.funs, e0.frf⟩,
    rfl, e0.bare, Un.kept hk, ⟨_, x.toInCall.ns, fun i y v h1 h2 h3 => ?_⟩, fun y c h => ⟨_, x.cell y c h⟩, e0.hok.fresh (Nat.le_refl _), fun y c h => ?_, fun q hq => ?_, e0.hok.kept hk, ?_⟩
  · exact name_of_addr x.apart (PySem.mem_of_lookup h1) (PySem.mem_of_lookup h2)
  · have hy : scope.names.lookup y = some .cell ∨ scope.names.lookup y = some .free := hy
    rcases hy with hy | hy
    · exact cell_has hy
    · exact absurd rfl (S.nofree _ (PySem.mem_of_lookup hy))
  · exact Nat.le_of_lt (x.above y c (PySem.mem_of_lookup h))
  · have hi : i < vs.length := by
      unfold L2.start at h2
      by_cases hi : i < vs.length
      · exact hi
      · rw [List.getElem?_append_right (by simpa using hi)] at h2
        rw [List.getElem?_replicate] at h2
        split at h2 <;> cases h2
    have ha : vs[i]? = some v := by
      unfold L2.start at h2
      rw [List.getElem?_append_left (by simpa using hi), List.getElem?_map] at h2
      cases e : vs[i]? with
      | none => rw [e] at h2; cases h2
      | some a => rw [e] at h2; cases h2; rfl
    obtain ⟨u, hu, rv⟩ := r.get ha
    have hp : ps[i]? = some y := by
      rw [← S.pre, List.getElem?_take_of_lt (by omega)]; exact h1
    have ndP : ps.Nodup := by rw [← S.pre]; exact S.nd.sublist (List.take_sublist _ _)
    refine ⟨u, rv, ?_⟩
    rcases S.par y (List.mem_of_getElem? hp) with k | k
    · exact .inl ⟨k, bindL_get ndP hp hu k⟩
    · obtain ⟨c, e⟩ := cell_has (n := s.heap.objs.size + 1) k
      refine .inr ⟨.inl k, c, e, ?_⟩
      have q := x.cell y c e
      rw [bindC_get ndP hp hu (by show scope.names.lookup y ≠ _; rw [k]; decide)] at q
      exact q
  · exact e0.hok.fresh (Nat.le_of_lt (x.above y c (PySem.mem_of_lookup h)))
  · cases hq
  · unfold L2.start
    show _ = N.length
    rw [List.length_append, List.length_map, List.length_replicate]
    omega
theorem fn_ofW {P : Program} {w : World} {K : PySem.W.Frag} {mg : Str → Option Value} {base : Heap} {k : Nat} {f : Addr} {name qual : Str} {params : Arguments} {body : List Stmt} {scope : Scope} {dV kV doc pm cdv ct oc : Value} {an od : Option Addr}
    {osl : Array (Option Value)} {N ps : List Str} {sp : Sp} (lk : K.lookup f = some ⟨oc, od, .func (PySem.W.fnOf name qual params body scope dV kV doc pm an cdv ct), osl⟩) (hcd : PySem.W.codeIn K cdv qual = true) (S : FnScope N ps scope)
    (len : ∀ vs H Q, sp vs H Q E0 → vs.length = ps.length)
    (hbody : ∀ (A : Around) (outer : List Env) (s : Shared) (H : Hp) (vs : List V) (Q : VK), RoomW k (A.deeper (envOfC qual scope s.heap.objs.size f cdv)) → sp vs H Q E0 →
      ∃ t, PSs (cxW P w K mg base N qual scope f cdv A outer s H) body t ∧ t { nx := fun _ H' => Q .non H', rt := Q } (L2.start N vs) H) :
    FnW P w K mg base (k + 1) f (PySem.W.fnOf name qual params body scope dV kV doc pm an cdv ct) ps sp := by
  refine ⟨len, fun A outer s H args us vs Q hr e0 hb r hsp => ?_⟩
  have hl := len _ _ _ hsp
  have KX : K.In s.heap := e0.mod.kin.keeps fun b o e => (e0.bs b o e).1
  have lim : s.heap.NoLimit := e0.mod.nolimit.keeps fun b o e => (e0.bs b o e).1
  have hkind : ∀ y ∈ ps.zip us, scope.names.lookup y.1 = some .local ∨ (scope.names.lookup y.1 = some .cell ∧ ((cellsFrom (s.heap.objs.size + 1) scope.names []).lookup y.1).isSome = true) := fun ⟨n, v⟩ hy => by
    rcases S.par n (List.of_mem_zip hy).1 with q | q
    · exact .inl q
    · exact .inr ⟨q, PySem.W.cellsFrom_some _ _ _ (.inl q)⟩
  refine codeAny_call_function hr.depth (KX _ _ lk) rfl S.co S.gen rfl (PySem.W.codeRec_of KX hcd) (hb _ _ _ _ ?_)
  refine wpAny_newFunctionEnv_cells S.kind hkind fun env he s1 x => ?_
  subst he
  refine ⟨lim.keeps x.toInCall.keep, codeAny_func ?_⟩
  obtain ⟨t, ht, hq⟩ := hbody A outer s H vs Q (hr.deeper _) hsp
  have I : Inv (cxW P w K mg base N qual scope f cdv A outer s H) [] (L2.start N vs) H s1 := inv_startW S e0 hl r x
  refine wpAny_mono (ht.run [] s1 (L2.start N vs) H _ I hq) (fun fl s' hs => ?_) fun e s' hs => hs
  have fin : ∀ {σ' : St} {H' : Hp} {v : V} {u : Value}, Inv (cxW P w K mg base N qual scope f cdv A outer s H) [] σ' H' s' → RelV v u → Q v H' → CE outer P w H s Q u s' :=
    fun {σ' H' v u} J rv q => ⟨v, H', J.os, J.bare, J.base, J.hok, rv, q⟩
  cases fl with
  | ret u =>
    obtain ⟨v, σ', H', J, rv, q⟩ := hs
    exact fin J rv q
  | next =>
    obtain ⟨σ', H', J, q⟩ := hs
    exact fin (v := V.non) (u := Value.none) J rfl q
  | brk =>
    obtain ⟨_, _, _, q⟩ := hs
    exact False.elim q
  | cont =>
    obtain ⟨_, _, _, q⟩ := hs
    exact False.elim q
/-- as Fun.ok -/
theorem Fun.okW {P : Program} {w : World} {K : PySem.W.Frag} {mg : Str → Option Value} {base : Heap} {x qual : Str} {st : Stmt} {f : Addr} {fd : FuncData} {N ps : List Str} {k : Nat} {sp : Sp} (F : Fun K x qual st f fd) (S : FnScope N ps (defScope st)) (len : ∀ vs H Q, sp vs H Q E0 → vs.length = ps.length)
    (hbody : ∀ (cdv : Value) (A : Around) (outer : List Env) (s : Shared) (H : Hp) (vs : List V) (Q : VK), RoomW k (A.deeper (envOfC qual (defScope st) s.heap.objs.size f cdv)) → sp vs H Q E0 →
      ∃ t, PSs (cxW P w K mg base N qual (defScope st) f cdv A outer s H) (defBody st) t ∧ t { nx := fun _ H' => Q .non H', rt := Q } (L2.start N vs) H) : FnW P w K mg base (k + 1) f fd ps sp := by
  obtain ⟨oc, od, kV, doc, pm, an, cdv, ct, osl, rfl, lk, hcd⟩ := F.ex
  exact fn_ofW lk hcd S len fun A outer s H vs Q hr hsp => hbody cdv A outer s H vs Q hr hsp
end L2
set_option maxHeartbeats 8000000
namespace K17
open PySem PySem.Spec PyProof.Rows L2

/-! ### at -/
abbrev sAt : Stmt := inClass sSize 12
def nOf (ms : Es) (n : Str) : Nat := (g0 ms n).toNat
/-- right numbers stand at d -/
structure NumD (H : Hp) (d : Addr) (ms : Es) : Prop where
  at_ : H d = some (.dK (kv ms))
  len : ms.length ≤ 1000
  nd : (ms.map (·.1)).Nodup
  nm : ∀ p ∈ ms, isNm p.1 = true
  pos : ∀ p ∈ ms, 1 ≤ p.2
  lt : ∀ p ∈ ms, p.2 < 1073741824
theorem NumD.same {H H' : Hp} {d : Addr} {ms : Es} (h : NumD H d ms) (S : Same H H') : NumD H' d ms := ⟨S _ _ h.at_, h.len, h.nd, h.nm, h.pos, h.lt⟩
theorem NumD.look {H : Hp} {d : Addr} {ms : Es} (h : NumD H d ms) {n : Str} (hn : n ∈ ms.map (·.1)) : ms.lookup n = some (nOf ms n : Int) ∧ 0 < nOf ms n ∧ nOf ms n < 1073741824 := by
  obtain ⟨p, hp, rfl⟩ := List.mem_map.mp hn
  have e := lookG h.nd hp
  have h1 := h.pos p hp
  have h2 := h.lt p hp
  have e2 : nOf ms p.1 = p.2.toNat := by
    unfold nOf g0
    rw [e]
    rfl
  rw [e2]
  exact ⟨by rw [e]; congr 1; omega, by omega, by omega⟩
def spAt (C CW : Addr) : Sp := fun vs H Q E => ∃ (p d : Addr) (es ms : Es) (L : Str → Nat), vs = [.ref p, .ref d] ∧ SizeAt C H p es ∧ NumD H d ms ∧ (∀ q ∈ es, q.1 ∈ ms.map (·.1)) ∧
  bnd es L ≤ 10000 ∧ (∀ q ∈ es, nOf ms q.1 < 2 ^ L q.1) ∧
  (dnV es (nOf ms) ∣ upV es (nOf ms) → ∀ H', Same H H' → Q (.int ((upV es (nOf ms) / dnV es (nOf ms) : Nat) : Int)) H') ∧
  (¬ dnV es (nOf ms) ∣ upV es (nOf ms) → ∀ H' dd, Same H H' → H dd = none → H' dd = some (.xd [("size", .ref p)]) → E (.ref CW) (some dd) H')
def NAt : List Str := ["self", "numbers", "pairs", "value", "base", "order", "_"]
theorem pairedR {α β : Type} {R : α → β → Prop} : ∀ {xs : List α} {ys : List β}, Paired R xs ys → ∀ {i : Nat} (hi : i < ys.length), ∃ x, xs[i]? = some x ∧ R x ys[i]
  | _, _, .nil, i, hi => absurd hi (Nat.not_lt_zero _)
  | _, _, .cons r t, 0, hi => ⟨_, rfl, r⟩
  | _, _, .cons r t, i + 1, hi => pairedR t (Nat.lt_of_succ_lt_succ hi)
theorem any_of : ∀ {xs : List Int}, (xs.map fun x => decide (x < 0)).any id = decide (∃ x ∈ xs, x < 0)
  | [] => by simp
  | x :: r => by
    have ih := any_of (xs := r)
    rw [List.map_cons, List.any_cons, ih]
    by_cases h : x < 0 <;> simp [h]
section
variable {P : Program} {w : World} {K : PySem.W.Frag} {mg : Str → Option Value} {base : Heap} {C CW : Addr}
theorem scAt : FnScope NAt ["self", "numbers"] (defScope sAt) :=
  ⟨rfl, rfl, rfl, by decide +kernel, rfl, by decide +kernel, by decide +kernel⟩
theorem ok_at {f fN fC fO fR : Addr} {fd fdN fdC fdO fdR : FuncData} (F : Fun K "at" "Size.at" sAt f fd) (Tc : Ck K mg C) (aN : mg "any" = none)
    (GC : FnOk P w K mg base CX0 3 fC fdC ["value", "names"] spChN) (kC : PySem.W.keepIn K (.ref fC) = true) (bC : Binds K fdC ["value", "names"] []) (gC : mg "check_numbers" = some (.ref fC))
    (GN : FnOk P w K mg base CX0 1 fN fdN ["self"] (spNames C)) (mN : Meth K C "names" fN) (bN : Binds K fdN ["self"] [])
    (GO : FnOk P w K mg base CX0 4 fO fdO ["exponents", "numbers"] spOrs) (kO : PySem.W.keepIn K (.ref fO) = true) (bO : Binds K fdO ["exponents", "numbers"] []) (gO : mg "orders" = some (.ref fO))
    (GR : FnOk P w K mg base CX0 1 fR fdR ["base", "count"] spRai) (kR : PySem.W.keepIn K (.ref fR) = true) (bR : Binds K fdR ["base", "count"] []) (gR : mg "raised" = some (.ref fR))
    (M : MkAll P w K mg CW ["size"]) (gW : mg "NotWhole" = some (.ref CW)) (R1 : PySem.W.subIn K (.ref CW) (.type "BaseException") = some true) (R2 : PySem.W.typeIn K (.ref CW) = some (.type "type")) :
    FnOk P w K mg base (L2.CX P w) 5 f fd ["self", "numbers"] (spAt C CW) := by
  have GC4 := GC.mono (k := 4) (by decide)
  have GN4 := GN.mono (k := 4) (by decide)
  have GR4 := GR.mono (k := 4) (by decide)
  refine F.okX scAt (fun vs H Q E h => ?_) (fun cdv A outer s H vs Q E hr h => ?_)
  · obtain ⟨p, d, es, ms, L, rfl, _⟩ := h
    rfl
  · obtain ⟨p, d, es, ms, L, rfl, hz, hD, hin, hb, hL, k1, k2⟩ := h
    refine ⟨_, pss_cons (ps_expr (pe_call GC4 hr rfl gC kC bC .nil pass0 (pa_cons (pv 1) (pa_cons (pe_meth0 (pv 0) Tc.cl mN GN4 hr bN .nil pass0) pa_nil))))
      (pss_cons (ps_set (i := 2) scAt.nd rfl (by first | exact .inl rfl | exact .inr rfl) (pe_call GO hr rfl gO kO bO .nil pass0 (pa_cons (pe_fld (pv 0) rfl) (pa_cons (pv 1) pa_nil))))
      (pss_cons (ps_if (pt_val (pe_callB (cr_any rfl) (by rfl) aN (by decide +kernel) (pa_cons
          (pe_lc (own := [("_", 6), ("order", 5)]) (g := gTup K 2 (gCons (gName 6) (gCons (gName 5) gNil))) (tt := tYes)
            (te := tOp (rI0 fun i j => V.bl (decide (i < j))) (tVar 5) (tC (.int 0))) rfl scAt.nd (pi_list (pv 2))
            (blkOk_by (own := [("_", 6), ("order", 5)]) (N := NAt) (sc := defScope sAt) (by decide +kernel))
            (fun _ _ _ _ _ => pg_tup rfl (pgs_cons (pg_name (i := 6) scAt.nd rfl (Or.inl rfl)) (pgs_cons (pg_name (i := 5) scAt.nd rfl (Or.inl rfl)) pgs_nil)))
            (fun _ _ _ _ _ => pts_nil) (fun _ _ _ _ _ => by exact pe_cmpR op_lt (pv 5) pe_int (nomark _))) pa_nil)))
          (pss_one (ps_raise rfl (takes_of rfl rfl rfl rfl) (pmk_x M hr rfl gW (raises_own R1 R2) (pa_cons (pv 0) pa_nil)))) pss_nil)
      (pss_cons (ps_set (i := 3) scAt.nd rfl (by first | exact .inl rfl | exact .inr rfl) pe_int)
      (pss_cons (ps_for (passes_of rfl) rfl (pi_list (pv 2)) (pg_tup rfl (pgs_cons (pg_name (i := 4) scAt.nd rfl (Or.inl rfl)) (pgs_cons (pg_name (i := 5) scAt.nd rfl (Or.inl rfl)) pgs_nil)))
          (pss_one (ps_set (i := 3) scAt.nd rfl (by first | exact .inl rfl | exact .inr rfl) (pe_op op_mulW (pv 3) (pe_call GR4 hr rfl gR kR bR .nil pass0 (pa_cons (pv 4) (pa_cons (pv 5) pa_nil)))))))
      (pss_one (ps_ret (pv 3))))))), ?_⟩
    obtain ⟨dx, D0, z1, z2, z3, z4, z5, z6⟩ := id hz
    refine ⟨_, rfl, _, rfl, p, dx, _, rfl, z1, rfl, p, es, rfl, hz, fun ln nln => ?_⟩
    have S1 := fresh_upd (o := .lst (es.map fun q => V.str q.1)) nln
    have e1 : upd H ln (.lst (es.map fun q => V.str q.1)) ln = some (.lst (es.map fun q => V.str q.1)) := upd_same
    generalize upd H ln (.lst (es.map fun q => V.str q.1)) = H1 at S1 e1
    refine ⟨d, ln, ms, es.map (·.1), rfl, S1 _ _ hD.at_, hD.len, hD.nd, hD.nm, hD.pos, by rw [List.map_map]; exact e1, by rw [List.length_map]; omega, fun n hn => ?_, fun H2 S2 => ?_⟩
    · obtain ⟨q, hq, rfl⟩ := List.mem_map.mp hn
      exact hin q hq
    have S02 := S1.trans S2
    have hlook := fun q (hq : q ∈ es) => hD.look (hin q hq)
    refine ⟨_, rfl, p, C, dx, _, _, rfl, S02 _ _ z1, Tc.cl, Tc.nE, rfl, ?_⟩
    refine ⟨_, rfl, D0, d, es, nOf ms, rfl, S02 _ _ z2, z3.nodup, z6, ⟨ms, S02 _ _ hD.at_, hlook⟩, fun H3 r ts bs S3 nr hr3 hP hC hG hs hbl => ?_⟩
    have S03 := S02.trans S3
    have hbb : ∀ b ∈ bs, sm (lsO es (nOf ms)) b ≤ 10000 := fun b hb' => by
      have z := sm_le hC (L := L) hb' hG fun q hq => ⟨(hlook q hq).2.1, hL q hq⟩
      omega
    generalize eS : sm (lsO es (nOf ms)) = sM at hP hbb
    have hP' : Paired (fun t b => H3 t = some (.tup [V.int (Int.ofNat b), V.int (sM b)])) ts bs := by
      unfold PtAt at hP
      rw [eS] at hP
      exact hP
    have hlen := hP'.length
    have get : ∀ {H' : Hp}, Same H3 H' → ∀ i (hi : i < bs.length), ∃ t, ts[i]? = some t ∧ H' t = some (.tup [V.int (Int.ofNat bs[i]), V.int (sM bs[i])]) := fun {H'} S i hi => by
      obtain ⟨t, ht, e⟩ := pairedR hP' hi
      exact ⟨t, ht, S _ _ e⟩
    refine ⟨_, rfl, r, rfl, ⟨_, SqL.of hr3⟩, fun D hD' => ?_⟩
    refine lc_it (walk_list (K := K) (a := r) (xs := ts.map V.ref)) (fun i H4 => Same H3 H4 ∧ H4 D = some (.lst ((((bs.take i).map sM).map fun x => decide (x < 0)).map V.bl))) ⟨fresh_upd hD', upd_same⟩ (fun i H4 _ h => SqL.of (h.1 _ _ hr3)) ?_ ?_
    · rintro i x H4 H5 hi ⟨S4, h4⟩ ⟨rfl, hx⟩
      rw [List.length_map, hlen] at hi
      obtain ⟨t, ht, e⟩ := get S4 i hi
      have ex : x = .ref t := by
        rw [List.getElem?_map, ht] at hx
        exact (Option.some.inj hx).symm
      subst ex
      refine ⟨t, _, rfl, SqT.of e, rfl, _, _, rfl, _, _, rfl, rfl, rfl, ?_⟩
      unfold tYes
      dsimp only
      rw [if_pos rfl]
      refine ⟨_, rfl, _, _, rfl, rfl, _, h4, by rw [List.length_map, List.length_map, List.length_map, List.length_take, sizeLine_eq]; omega, fun b o eb => ?_, ?_⟩
      · rw [upd_ne (ne_of_none eb hD')]
        exact S4 _ _ eb
      · rw [upd_same, List.take_add_one, List.getElem?_eq_getElem hi, List.map_append, List.map_append, List.map_append]
        rfl
    rintro H4 ⟨S4, h4⟩
    rw [List.length_map, hlen, List.take_length] at h4
    have S04 := S03.trans S4
    refine ⟨D, _, rfl, SqL.of h4, ?_⟩
    rw [any_of]
    refine ⟨_, rfl, ?_⟩
    by_cases hneg : ∃ x ∈ bs.map sM, x < 0
    · refine iteT' (decide_eq_true hneg) ?_
      obtain ⟨x, hx, hx0⟩ := hneg
      obtain ⟨b, hb', rfl⟩ := List.mem_map.mp hx
      have hno := value_no hC hG hb' (by rw [eS]; exact hx0)
      refine ⟨_, rfl, rfl, fun dd hdd => ?_⟩
      refine k2 hno _ dd (S04.trans (fresh_upd hdd)) ?_ upd_same
      cases e : H dd with
      | none => rfl
      | some o =>
        have z := S04 _ _ e
        rw [hdd] at z
        cases z
    · refine iteN' hneg (next_ ?_)
      have hnn : ∀ b ∈ bs, 0 ≤ sm (lsO es (nOf ms)) b := fun b hb' => by
        rw [eS]
        exact Int.not_lt.mp fun z => hneg ⟨_, List.mem_map.mpr ⟨b, hb', rfl⟩, z⟩
      obtain ⟨hdv, hval⟩ := value_eq hC hG hnn
      rw [eS] at hval hnn
      have hup := upV_lt hL
      have hpwU : pw (fun b => (sM b).toNat) bs ≤ 2 ^ 10000 := by
        rw [hval]
        exact Nat.le_trans (Nat.div_le_self ..) (Nat.le_trans hup (Nat.pow_le_pow_right (by decide) hb))
      refine ⟨_, rfl, r, rfl, ⟨_, SqL.of (S4 _ _ hr3)⟩, for_it (walk_list (K := K) (a := r) (xs := ts.map V.ref)) (fun i σ H5 => (∃ o4 o5 o6, σ = [some (.ref p), some (.ref d), some (.ref r), some (.int ((pw (fun b => (sM b).toNat) (bs.take i) : Nat) : Int)), o4, o5, o6]) ∧ Same H4 H5)
        ⟨⟨none, none, none, rfl⟩, fun b o e => e⟩ (fun i σ H5 _ h => SqL.of (h.2 _ _ (S4 _ _ hr3))) ?_ ?_⟩
      · rintro i x σ H5 H6 hi ⟨⟨o4, o5, o6, rfl⟩, S5⟩ ⟨rfl, hx⟩
        rw [List.length_map, hlen] at hi
        obtain ⟨t, ht, e⟩ := get (S4.trans S5) i hi
        have ex : x = .ref t := by
          rw [List.getElem?_map, ht] at hx
          exact (Option.some.inj hx).symm
        subst ex
        have hbm := List.getElem_mem hi
        have h0 := hnn _ hbm
        have h1 := hbb _ hbm
        have hb1 := hC.2 _ hbm
        obtain ⟨c, hc⟩ : ∃ c : Nat, sM bs[i] = (c : Int) := ⟨(sM bs[i]).toNat, by omega⟩
        have et : pw (fun b => (sM b).toNat) (bs.take (i + 1)) = pw (fun b => (sM b).toNat) (bs.take i) * bs[i] ^ c := by
          rw [List.take_add_one, List.getElem?_eq_getElem hi]
          show pw _ (bs.take i ++ [bs[i]]) = _
          rw [pw_snoc]
          rw [hc]
          rfl
        refine ⟨t, _, rfl, SqT.of e, rfl, _, _, rfl, _, _, rfl, rfl, ?_⟩
        refine ⟨_, rfl, _, rfl, _, rfl, bs[i], c, by rw [hc]; rfl, by omega, hs _ hbm, by omega, _, _, rfl, rfl, ?_, ?_⟩
        · have hle := pw_take (f := fun b => (sM b).toNat) hC.2 (i + 1)
          rw [et] at hle
          have hp1 : 0 < pw (fun b => (sM b).toNat) (bs.take i) := pw_pos fun b hb' => hC.2 b (List.mem_of_mem_take hb')
          have hp2 : 0 < bs[i] ^ c := Nat.pow_pos (by omega)
          have h2 : pw (fun b => (sM b).toNat) (bs.take i) ≤ pw (fun b => (sM b).toNat) (bs.take i) * bs[i] ^ c := Nat.le_mul_of_pos_right _ hp2
          have h3 : bs[i] ^ c ≤ pw (fun b => (sM b).toNat) (bs.take i) * bs[i] ^ c := Nat.le_mul_of_pos_left _ hp1
          have h4 : (2 : Nat) ^ 10000 < 2 ^ 300001 := Nat.pow_lt_pow_right (by decide) (by decide)
          exact wm (M := 2 ^ 10000) (Nat.le_trans h3 (Nat.le_trans hle hpwU)) (Nat.le_trans h2 (Nat.le_trans hle hpwU)) h4
        · refine ⟨⟨some (.int (Int.ofNat bs[i])), some (.int (sM bs[i])), o6, ?_⟩, S5⟩
          rw [et, Int.natCast_mul]
          rfl
      · rintro σ H5 ⟨⟨o4, o5, o6, rfl⟩, S5⟩
        rw [List.length_map, hlen, List.take_length]
        refine ⟨_, rfl, ?_⟩
        rw [hval]
        exact k1 hdv _ (S04.trans S5)
end
end K17
set_option maxHeartbeats 8000000
namespace K17
open PySem PySem.Spec PyProof.Rows L2

abbrev sExp1 : Stmt := inClass sSize 9
abbrev sHas : Stmt := inClass sSize 15
abbrev sWhole : Stmt := inClass sSize 4
def spExp1 (C : Addr) : Sp := fun vs H Q _ => ∃ (p : Addr) (es : Es) (n : Str), vs = [.ref p, .str n] ∧ SizeAt C H p es ∧ isNm n = true ∧ ∀ H', Same H H' → Q (.int (g0 es n)) H'
def spHas (K : PySem.W.Frag) (C : Addr) : Sp := fun vs H Q _ => ∃ (p : Addr) (es : Es) (v : V), vs = [.ref p, v] ∧ SizeAt C H p es ∧
  ((∃ n : Str, v = .str n ∧ n.length ≤ 1000000 ∧ ∀ H', Same H H' → Q (.bl (isNm n && (es.lookup n).isSome)) H') ∨
    ∃ t, TyX K H v t ∧ PySem.W.kitOne K t (.type "str") = some false ∧ Q (.bl false) H)
def spWhole (C : Addr) : Sp := fun vs H Q _ => ∃ (p : Addr) (es : Es), vs = [.ref p] ∧ SizeAt C H p es ∧ ∀ H', Same H H' → Q (.bl (es.all fun q => decide (0 ≤ q.2))) H'
section
variable {P : Program} {w : World} {K : PySem.W.Frag} {mg : Str → Option Value} {base : Heap} {C : Addr}
theorem scExp1 : FnScope ["self", "name"] ["self", "name"] (defScope sExp1) :=
  ⟨rfl, rfl, rfl, by decide +kernel, rfl, by decide +kernel, by decide +kernel⟩
theorem ok_exp1 {f fN : Addr} {fd fdN : FuncData} (F : Fun K "exponent" "Size.exponent" sExp1 f fd) (Tc : Ck K mg C)
    (GN : FnOk P w K mg base CX0 1 fN fdN ["value"] (spIsName K)) (kN : PySem.W.keepIn K (.ref fN) = true) (bN : Binds K fdN ["value"] []) (gN : mg "is_name" = some (.ref fN)) :
    FnOk P w K mg base CX0 2 f fd ["self", "name"] (spExp1 C) := by
  refine F.ok scExp1 (fun vs H Q E h => ?_) (fun cdv A outer s H vs Q E hr h => ?_)
  · obtain ⟨p, es, n, rfl, _⟩ := h
    rfl
  · obtain ⟨p, es, n, rfl, h1, hn, k⟩ := h
    have hu : (A.deeper (envOfC "Size.exponent" (defScope sExp1) s.heap.objs.size f cdv)).units + 1 < cLine := by have := hr.units; omega
    refine ⟨_, pss_cons (ps_if (pt_not (pt_val (pe_call GN hr rfl gN kN bN .nil pass0 (pa_cons (pv 1) pa_nil)))) (pss_one ps_no) pss_nil)
      (pss_one (ps_ret (pe_dget2 hu (pe_fld (pv 0) rfl) (pv 1) pe_int ⟨rfl, rfl, rfl, rfl⟩))), ?_⟩
    refine ⟨_, rfl, .inl ⟨n, rfl, by have := nm_len hn; omega, fun H2 S2 => ?_⟩⟩
    rw [hn]
    refine ⟨_, rfl, iteF ?_⟩
    obtain ⟨dx, D, p1, p2, p3⟩ := h1.same S2
    refine ⟨_, rfl, p, C, dx, _, _, rfl, p1, Tc.cl, Tc.nE, rfl, D, rfl, .inl ⟨_, .inl p2⟩, _, rfl, _, DGet.k (k := ky n) p2, ?_⟩
    rw [get_int]
    exact k H2 S2
theorem scHas : FnScope ["self", "name"] ["self", "name"] (defScope sHas) :=
  ⟨rfl, rfl, rfl, by decide +kernel, rfl, by decide +kernel, by decide +kernel⟩
theorem ok_has {f fN : Addr} {fd fdN : FuncData} (F : Fun K "__contains__" "Size.__contains__" sHas f fd) (Tc : Ck K mg C)
    (GN : FnOk P w K mg base CX0 1 fN fdN ["value"] (spIsName K)) (kN : PySem.W.keepIn K (.ref fN) = true) (bN : Binds K fdN ["value"] []) (gN : mg "is_name" = some (.ref fN)) :
    FnOk P w K mg base CX0 2 f fd ["self", "name"] (spHas K C) := by
  refine F.ok scHas (fun vs H Q E h => ?_) (fun cdv A outer s H vs Q E hr h => ?_)
  · obtain ⟨p, es, v, rfl, _⟩ := h
    rfl
  · obtain ⟨p, es, v, rfl, h1, h2⟩ := h
    have hu : (A.deeper (envOfC "Size.__contains__" (defScope sHas) s.heap.objs.size f cdv)).units + 1 < cLine := by have := hr.units; omega
    refine ⟨_, pss_one (ps_ret (pe_and (pe_call GN hr rfl gN kN bN .nil pass0 (pa_cons (pv 1) pa_nil)) (pe_one (pe_cmp (pc_din hu (pv 1) (pe_fld (pv 0) rfl)) rfl)))), ?_⟩
    rcases h2 with ⟨n, rfl, hl, k⟩ | ⟨t, ht, hk, k⟩
    · refine ⟨_, rfl, .inl ⟨n, rfl, hl, fun H2 S2 => ⟨_, rfl, ?_⟩⟩⟩
      obtain ⟨dx, D, p1, p2, p3⟩ := h1.same S2
      cases e : isNm n with
      | false =>
        refine iteF ?_
        have z := k H2 S2
        rw [e] at z
        exact z
      | true =>
        refine iteT' rfl ?_
        refine ⟨_, rfl, _, rfl, p, C, dx, _, _, rfl, p1, Tc.cl, Tc.nE, rfl, D, _, rfl, DGet.k (k := ky n) p2, ?_⟩
        have z := k H2 S2
        rw [e] at z
        rw [val_kv, Option.isSome_map]
        exact z
    · refine ⟨_, rfl, .inr ⟨_, t, rfl, ht, hk, _, rfl, iteF k⟩⟩
theorem scWhole : FnScope ["self", "exponent"] ["self"] (defScope sWhole) :=
  ⟨rfl, rfl, rfl, by decide +kernel, rfl, by decide +kernel, by decide +kernel⟩
theorem ok_whole {f : Addr} {fd : FuncData} (F : Fun K "is_whole" "Size.is_whole" sWhole f fd) (T : Nk mg) (Tc : Ck K mg C) :
    FnOk P w K mg base CX0 1 f fd ["self"] (spWhole C) := by
  refine F.ok scWhole (fun vs H Q E h => ?_) (fun cdv A outer s H vs Q E hr h => ?_)
  · obtain ⟨p, es, rfl, _⟩ := h
    rfl
  · obtain ⟨p, es, rfl, ⟨dx, D, p1, p2, p3, p4, p5, p6⟩, k⟩ := h
    refine ⟨_, pss_one (ps_ret (pe_lock (pe_callB (cr_all rfl) (by rfl) T.all (by decide +kernel) (pa_cons
      (pe_lc (own := [("exponent", 1)]) (g := gName 1) (tt := tYes) (te := tOp (rI0 fun i j => V.bl (decide (j ≤ i))) (tVar 1) (tC (.int 0))) rfl scWhole.nd (pi_values (pe_fld (pv 0) rfl))
        (blkOk_by (own := [("exponent", 1)]) (N := ["self", "exponent"]) (sc := defScope sWhole) (by decide +kernel)) (fun _ _ _ _ _ => pg_name (i := 1) scWhole.nd rfl (Or.inl rfl))
        (fun _ _ _ _ _ => pts_nil) (fun _ _ _ _ _ => by exact pe_cmpR op_ge (pv 1) pe_int (nomark _))) pa_nil)))), ?_⟩
    refine ⟨D, _, p2, trivial, fun od => ?_⟩
    have pD : p ≠ D := fun z => by
      rw [z, p2] at p1
      cases p1
    refine ⟨_, rfl, p, C, dx, _, _, rfl, (upd_ne pD).trans p1, Tc.cl, Tc.nE, rfl, D, od, kv es, rfl, upd_same, fun L hL => ?_⟩
    have LD : L ≠ D := fun z => by
      rw [z, upd_same] at hL
      cases hL
    have hL0 : H L = none := by
      rw [upd_ne LD] at hL
      exact hL
    refine lc_it walk_values (fun i H2 => H2 L = some (.lst (((es.take i).map fun q => decide (0 ≤ q.2)).map V.bl)) ∧ H2 D = some (.frz od (.dK (kv es))) ∧ ∀ b o, b ≠ D → H b = some o → H2 b = some o)
      ⟨upd_same, (upd_ne LD.symm).trans upd_same, fun b o e1 e2 => ?_⟩ (fun i H2 _ q => q.2.1) ?_ ?_
    · rw [upd_ne (ne_of_none e2 hL0), upd_ne e1]
      exact e2
    · rintro i v H2 H3 hi ⟨hL2, hD2, S2⟩ ⟨rfl, k', e1⟩
      rw [kv_len] at hi
      have ei : (kv es)[i]? = some (ky es[i].1, V.int es[i].2) := by
        unfold kv
        rw [List.getElem?_map, List.getElem?_eq_getElem hi]
        rfl
      rw [ei] at e1
      cases e1
      refine ⟨rfl, ?_⟩
      unfold tYes
      dsimp only
      rw [if_pos rfl]
      refine ⟨_, rfl, _, _, rfl, rfl, _, hL2, ?_, ?_, ?_, fun b o hb e => ?_⟩
      · rw [List.length_map, List.length_map, List.length_take, sizeLine_eq]
        have := Nat.min_le_right i es.length
        omega
      · have et : es.take (i + 1) = es.take i ++ [es[i]] := by
          rw [List.take_add_one, List.getElem?_eq_getElem hi]
          rfl
        rw [upd_same, et, List.map_append, List.map_append]
        rfl
      · rw [upd_ne LD.symm]
        exact hD2
      · rw [upd_ne (ne_of_none e hL0)]
        exact S2 b o hb e
    · rintro H2 ⟨hL2, hD2, S2⟩
      refine ⟨L, _, rfl, SqL.of hL2, hD2, ?_⟩
      have e : ((es.take (kv es).length).map fun q => decide (0 ≤ q.2)).all id = es.all fun q => decide (0 ≤ q.2) := by
        rw [kv_len, List.take_length, List.all_map]
        rfl
      rw [e]
      refine k _ fun b o eb => ?_
      by_cases hb : b = D
      · subst hb
        rw [upd_same]
        exact p2.symm.trans eb
      · exact (upd_ne hb).trans (S2 b o hb eb)
end
end K17
set_option maxHeartbeats 8000000
namespace K17
open PySem PySem.Spec PyProof.Rows L2

/-- some of the entries, each changed -/
def fmE (c : Int → Bool) (g : Int → Int) (es : Es) : Es := es.filterMap fun q => if c q.2 = true then some (q.1, g q.2) else none
theorem fm_step {c : Int → Bool} {g : Int → Int} {es : Es} {i : Nat} (hi : i < es.length) :
    fmE c g (es.take (i + 1)) = if c es[i].2 = true then fmE c g (es.take i) ++ [(es[i].1, g es[i].2)] else fmE c g (es.take i) := by
  have et : es.take (i + 1) = es.take i ++ [es[i]] := by
    rw [List.take_add_one, List.getElem?_eq_getElem hi]
    rfl
  unfold fmE
  rw [et, List.filterMap_append]
  by_cases h : c es[i].2 = true
  · simp [h]
  · simp [h]
theorem fm_keys (c : Int → Bool) (g : Int → Int) : ∀ es : Es, ((fmE c g es).map (·.1)).Sublist (es.map (·.1))
  | [] => List.Sublist.slnil
  | q :: r => by
    have ih := fm_keys c g r
    by_cases h : c q.2 = true
    · have e : fmE c g (q :: r) = (q.1, g q.2) :: fmE c g r := by
        unfold fmE
        simp [h]
      rw [e, List.map_cons, List.map_cons]
      exact List.Sublist.cons_cons _ ih
    · have e : fmE c g (q :: r) = fmE c g r := by
        unfold fmE
        simp [h]
      rw [e, List.map_cons]
      exact List.Sublist.cons _ ih
theorem fm_g0 {c : Int → Bool} {g : Int → Int} (c0 : c 0 = false) (n : Str) : ∀ es : Es, (es.map (·.1)).Nodup → g0 (fmE c g es) n = if c (g0 es n) = true then g (g0 es n) else 0
  | [], _ => by
    show (0 : Int) = if c 0 = true then g 0 else 0
    rw [c0]
    rfl
  | (m, v) :: r, hn => by
    rw [List.map_cons] at hn
    obtain ⟨n1, n2⟩ := List.pairwise_cons.mp hn
    have ih := fm_g0 (g := g) c0 n r n2
    by_cases e : n = m
    · subst e
      have gv : g0 ((n, v) :: r) n = v := by
        unfold g0
        rw [List.lookup_cons_self]
        rfl
      rw [gv]
      by_cases h : c v = true
      · have e : fmE c g ((n, v) :: r) = (n, g v) :: fmE c g r := by
          unfold fmE
          simp [h]
        rw [e, if_pos h]
        unfold g0
        rw [List.lookup_cons_self]
        rfl
      · have e : fmE c g ((n, v) :: r) = fmE c g r := by
          unfold fmE
          simp [h]
        have nr : n ∉ (fmE c g r).map (·.1) := fun z => n1 n ((fm_keys c g r).subset z) rfl
        rw [e, if_neg h]
        unfold g0
        rw [g0_none nr]
        rfl
    · have eb : (n == m) = false := by simpa using e
      have gv : g0 ((m, v) :: r) n = g0 r n := by
        unfold g0
        rw [List.lookup_cons, eb]
      rw [gv, ← ih]
      by_cases h : c v = true
      · have e2 : fmE c g ((m, v) :: r) = (m, g v) :: fmE c g r := by
          unfold fmE
          simp [h]
        rw [e2]
        unfold g0
        rw [List.lookup_cons, eb]
      · have e2 : fmE c g ((m, v) :: r) = fmE c g r := by
          unfold fmE
          simp [h]
        rw [e2]
theorem fm_nm {c : Int → Bool} {g : Int → Int} {es : Es} (h : ∀ q ∈ es, isNm q.1 = true) : ∀ q ∈ fmE c g es, isNm q.1 = true := fun q hq => by
  have z := (fm_keys c g es).subset (List.mem_map.mpr ⟨q, hq, rfl⟩)
  obtain ⟨r, hr, e⟩ := List.mem_map.mp z
  have e' : r.1 = q.1 := e
  rw [← e']
  exact h r hr
theorem fm_len (c : Int → Bool) (g : Int → Int) (es : Es) : (fmE c g es).length ≤ es.length := List.length_filterMap_le _ _
def spPart (C : Addr) (c : Int → Bool) (g : Int → Int) : Sp := fun vs H Q _ => ∃ (p : Addr) (es : Es), vs = [.ref p] ∧ SizeAt C H p es ∧
  ∀ H' r rs, Same H H' → SizeAt C H' r rs → (∀ n, rs.lookup n = cz (if c (g0 es n) = true then g (g0 es n) else 0)) → Q (.ref r) H'
def cTop (i : Int) : Bool := decide (0 < i)
def cBot (i : Int) : Bool := decide (i < 0)
theorem iteFx {c : Bool} {A B : Prop} (hc : ¬ c = true) (h : B) : if c = true then A else B := by
  rw [if_neg hc]
  exact h
section
variable {P : Program} {w : World} {K : PySem.W.Frag} {mg : Str → Option Value} {base : Heap} {C : Addr}
abbrev sTop : Stmt := inClass sSize 5
theorem scTop : FnScope ["self", "name", "count"] ["self"] (defScope sTop) :=
  ⟨rfl, rfl, rfl, by decide +kernel, rfl, by decide +kernel, by decide +kernel⟩
theorem ok_top {f fI : Addr} {fd fdI : FuncData} (F : Fun K "top" "Size.top" sTop f fd) (Tc : Ck K mg C)
    (M : Mk K C fI) (GI : FnOk P w K mg base CX0 3 fI fdI ["self", "exponents"] (spInit C)) (bI : Binds K fdI ["self", "exponents"] []) :
    FnOk P w K mg base CX0 5 f fd ["self"] (spPart C cTop (fun i => i)) := by
  refine F.ok scTop (fun vs H Q E h => ?_) (fun cdv A outer s H vs Q E hr h => ?_)
  · obtain ⟨p, es, rfl, _⟩ := h
    rfl
  · obtain ⟨p, es, rfl, ⟨dx, D, p1, p2, p3, p4, p5, p6⟩, k⟩ := h
    refine ⟨_, pss_one (ps_ret (pe_make M GI hr rfl Tc.gC bI .nil pass0 (pa_cons (pe_lock (pe_dc (own := [("name", 1), ("count", 2)]) (g := gTup K 2 (gCons (gName 1) (gCons (gName 2) gNil)))
        (tt := tTest (tOp (rI0 fun i j => V.bl (decide (j < i))) (tVar 2) (tC (.int 0)))) (tk := tVar 1) (tv := tVar 2) rfl scTop.nd
      (pi_items (pe_fld (pv 0) rfl)) (blkOk_by (own := [("name", 1), ("count", 2)]) (N := ["self", "name", "count"]) (sc := defScope sTop) (by decide +kernel))
      (fun _ _ _ _ _ => pg_tup rfl (pgs_cons (pg_name (i := 1) scTop.nd rfl (Or.inl rfl)) (pgs_cons (pg_name (i := 2) scTop.nd rfl (Or.inl rfl)) pgs_nil)))
      (fun _ _ _ _ _ => pts_one (by exact pt_cmpR op_gt (pv 2) pe_int (nomark _))) (fun _ _ _ _ _ => by exact pv 1) (fun _ _ _ _ _ => by exact pv 2))) pa_nil))), ?_⟩
    refine ⟨D, _, p2, trivial, fun od => ?_⟩
    have pD : p ≠ D := fun z => by
      rw [z, p2] at p1
      cases p1
    refine ⟨_, rfl, p, C, dx, _, _, rfl, (upd_ne pD).trans p1, Tc.cl, Tc.nE, rfl, D, od, kv es, rfl, upd_same, fun L hL => ?_⟩
    have LD : L ≠ D := fun z => by
      rw [z, upd_same] at hL
      cases hL
    have hL0 : H L = none := by
      rw [upd_ne LD] at hL
      exact hL
    refine dc_it walk_items (fun i H2 => H2 L = some (.dK (kv (fmE cTop (fun i => i) (es.take i)))) ∧ H2 D = some (.frz od (.dK (kv es))) ∧ ∀ b o, b ≠ D → H b = some o → H2 b = some o)
      ⟨upd_same, (upd_ne LD.symm).trans upd_same, fun b o e1 e2 => ?_⟩ (fun i H2 _ q => q.2.1) ?_ ?_
    · rw [upd_ne (ne_of_none e2 hL0), upd_ne e1]
      exact e2
    · rintro i v H2 H3 hi ⟨hL2, hD2, S2⟩ ⟨T, x, y, rfl, nT, rfl, e1, e2⟩
      rw [kv_len] at hi
      have ei : (kv es)[i]? = some (ky es[i].1, V.int es[i].2) := by
        unfold kv
        rw [List.getElem?_map, List.getElem?_eq_getElem hi]
        rfl
      dsimp only at e1 e2
      rw [ei] at e1 e2
      cases e1
      cases e2
      have TL : L ≠ T := ne_of_none hL2 nT
      have TD : D ≠ T := ne_of_none hD2 nT
      refine ⟨T, _, rfl, SqT.of upd_same, rfl, _, _, rfl, _, _, rfl, rfl, rfl, ?_⟩
      refine ⟨_, rfl, _, _, rfl, rfl, _, rfl, ?_⟩
      by_cases hc : cTop es[i].2 = true
      · refine iteT' hc ?_
        refine ⟨_, rfl, _, rfl, _, ky es[i].1, rfl, (upd_ne TL).trans hL2, ?_, ?_, ?_, fun b o hb e => ?_⟩
        · rw [kv_len, sizeLine_eq]
          have h1 := fm_len cTop (fun i => i) (es.take i)
          have h2 : (es.take i).length ≤ es.length := by rw [List.length_take]; exact Nat.min_le_right ..
          omega
        · have en : es[i].1 ∉ (fmE cTop (fun i => i) (es.take i)).map (·.1) := fun z => by
            have z2 := (fm_keys cTop (fun i => i) (es.take i)).subset z
            have z3 := new_key (es := es) (g := id) p3.nodup hi fun _ => rfl
            rw [List.map_id] at z3
            exact z3 z2
          rw [upd_same, putK_new _ (val_none en), fm_step hi, if_pos hc]
          unfold kv
          rw [List.map_append]
          rfl
        · rw [upd_ne LD.symm, upd_ne TD]
          exact hD2
        · rw [upd_ne (ne_of_none e hL0), upd_ne (ne_of_none (S2 b o hb e) nT)]
          exact S2 b o hb e
      · refine iteFx hc ⟨(upd_ne TL).trans ?_, (upd_ne TD).trans hD2, fun b o hb e => (upd_ne (ne_of_none (S2 b o hb e) nT)).trans (S2 b o hb e)⟩
        rw [fm_step hi, if_neg hc]
        exact hL2
    · rintro H2 ⟨hL2, hD2, S2⟩
      rw [kv_len, List.take_length] at hL2
      have S3 : Same H (upd H2 D (.dK (kv es))) := fun b o eb => by
        by_cases hb : b = D
        · subst hb
          rw [upd_same]
          exact p2.symm.trans eb
        · exact (upd_ne hb).trans (S2 b o hb eb)
      refine ⟨hD2, ?_⟩
      refine rd_make ((upd_ne LD).trans hL2) (List.Pairwise.sublist (fm_keys cTop (fun i => i) es) p3.nodup) (by have := fm_len cTop (fun i => i) es; omega) (fm_nm p5)
        fun H' r rs S5 sz nw ls => k H' r rs (S3.trans S5) sz fun n => ?_
      rw [ls, fm_g0 (by decide) n es p3.nodup]
abbrev sBot : Stmt := inClass sSize 6
theorem scBot : FnScope ["self", "name", "count"] ["self"] (defScope sBot) :=
  ⟨rfl, rfl, rfl, by decide +kernel, rfl, by decide +kernel, by decide +kernel⟩
theorem ok_bottom {f fI : Addr} {fd fdI : FuncData} (F : Fun K "bottom" "Size.bottom" sBot f fd) (Tc : Ck K mg C)
    (M : Mk K C fI) (GI : FnOk P w K mg base CX0 3 fI fdI ["self", "exponents"] (spInit C)) (bI : Binds K fdI ["self", "exponents"] []) :
    FnOk P w K mg base CX0 5 f fd ["self"] (spPart C cBot (fun i => -i)) := by
  refine F.ok scBot (fun vs H Q E h => ?_) (fun cdv A outer s H vs Q E hr h => ?_)
  · obtain ⟨p, es, rfl, _⟩ := h
    rfl
  · obtain ⟨p, es, rfl, ⟨dx, D, p1, p2, p3, p4, p5, p6⟩, k⟩ := h
    refine ⟨_, pss_one (ps_ret (pe_make M GI hr rfl Tc.gC bI .nil pass0 (pa_cons (pe_lock (pe_dc (own := [("name", 1), ("count", 2)]) (g := gTup K 2 (gCons (gName 1) (gCons (gName 2) gNil)))
        (tt := tTest (tOp (rI0 fun i j => V.bl (decide (i < j))) (tVar 2) (tC (.int 0)))) (tk := tVar 1) (tv := tUn (rU fun i => V.int (-i)) (tVar 2)) rfl scBot.nd
      (pi_items (pe_fld (pv 0) rfl)) (blkOk_by (own := [("name", 1), ("count", 2)]) (N := ["self", "name", "count"]) (sc := defScope sBot) (by decide +kernel))
      (fun _ _ _ _ _ => pg_tup rfl (pgs_cons (pg_name (i := 1) scBot.nd rfl (Or.inl rfl)) (pgs_cons (pg_name (i := 2) scBot.nd rfl (Or.inl rfl)) pgs_nil)))
      (fun _ _ _ _ _ => pts_one (by exact pt_cmpR op_lt (pv 2) pe_int (nomark _))) (fun _ _ _ _ _ => by exact pv 1) (fun _ _ _ _ _ => by exact pe_un un_neg (pv 2)))) pa_nil))), ?_⟩
    refine ⟨D, _, p2, trivial, fun od => ?_⟩
    have pD : p ≠ D := fun z => by
      rw [z, p2] at p1
      cases p1
    refine ⟨_, rfl, p, C, dx, _, _, rfl, (upd_ne pD).trans p1, Tc.cl, Tc.nE, rfl, D, od, kv es, rfl, upd_same, fun L hL => ?_⟩
    have LD : L ≠ D := fun z => by
      rw [z, upd_same] at hL
      cases hL
    have hL0 : H L = none := by
      rw [upd_ne LD] at hL
      exact hL
    refine dc_it walk_items (fun i H2 => H2 L = some (.dK (kv (fmE cBot (fun i => -i) (es.take i)))) ∧ H2 D = some (.frz od (.dK (kv es))) ∧ ∀ b o, b ≠ D → H b = some o → H2 b = some o)
      ⟨upd_same, (upd_ne LD.symm).trans upd_same, fun b o e1 e2 => ?_⟩ (fun i H2 _ q => q.2.1) ?_ ?_
    · rw [upd_ne (ne_of_none e2 hL0), upd_ne e1]
      exact e2
    · rintro i v H2 H3 hi ⟨hL2, hD2, S2⟩ ⟨T, x, y, rfl, nT, rfl, e1, e2⟩
      rw [kv_len] at hi
      have ei : (kv es)[i]? = some (ky es[i].1, V.int es[i].2) := by
        unfold kv
        rw [List.getElem?_map, List.getElem?_eq_getElem hi]
        rfl
      dsimp only at e1 e2
      rw [ei] at e1 e2
      cases e1
      cases e2
      have TL : L ≠ T := ne_of_none hL2 nT
      have TD : D ≠ T := ne_of_none hD2 nT
      refine ⟨T, _, rfl, SqT.of upd_same, rfl, _, _, rfl, _, _, rfl, rfl, rfl, ?_⟩
      refine ⟨_, rfl, _, _, rfl, rfl, _, rfl, ?_⟩
      by_cases hc : cBot es[i].2 = true
      · refine iteT' hc ?_
        refine ⟨_, rfl, _, rfl, _, rfl, _, ky es[i].1, rfl, (upd_ne TL).trans hL2, ?_, ?_, ?_, fun b o hb e => ?_⟩
        · rw [kv_len, sizeLine_eq]
          have h1 := fm_len cBot (fun i => -i) (es.take i)
          have h2 : (es.take i).length ≤ es.length := by rw [List.length_take]; exact Nat.min_le_right ..
          omega
        · have en : es[i].1 ∉ (fmE cBot (fun i => -i) (es.take i)).map (·.1) := fun z => by
            have z2 := (fm_keys cBot (fun i => -i) (es.take i)).subset z
            have z3 := new_key (es := es) (g := id) p3.nodup hi fun _ => rfl
            rw [List.map_id] at z3
            exact z3 z2
          rw [upd_same, putK_new _ (val_none en), fm_step hi, if_pos hc]
          unfold kv
          rw [List.map_append]
          rfl
        · rw [upd_ne LD.symm, upd_ne TD]
          exact hD2
        · rw [upd_ne (ne_of_none e hL0), upd_ne (ne_of_none (S2 b o hb e) nT)]
          exact S2 b o hb e
      · refine iteFx hc ⟨(upd_ne TL).trans ?_, (upd_ne TD).trans hD2, fun b o hb e => (upd_ne (ne_of_none (S2 b o hb e) nT)).trans (S2 b o hb e)⟩
        rw [fm_step hi, if_neg hc]
        exact hL2
    · rintro H2 ⟨hL2, hD2, S2⟩
      rw [kv_len, List.take_length] at hL2
      have S3 : Same H (upd H2 D (.dK (kv es))) := fun b o eb => by
        by_cases hb : b = D
        · subst hb
          rw [upd_same]
          exact p2.symm.trans eb
        · exact (upd_ne hb).trans (S2 b o hb eb)
      refine ⟨hD2, ?_⟩
      refine rd_make ((upd_ne LD).trans hL2) (List.Pairwise.sublist (fm_keys cBot (fun i => -i) es) p3.nodup) (by have := fm_len cBot (fun i => -i) es; omega) (fm_nm p5)
        fun H' r rs S5 sz nw ls => k H' r rs (S3.trans S5) sz fun n => ?_
      rw [ls, fm_g0 (by decide) n es p3.nodup]
end
end K17
set_option maxHeartbeats 8000000
namespace K17
open PySem PySem.Spec PyProof.Rows L2

/-! ### == and != of an instance with an own __eq__ -/
/-- what may stand on the right, and its type -/
inductive Oth (C : Addr) (H : Hp) : V → Value → Prop
  | ins {b dy : Addr} {gs : List (Str × V)} : H b = some (.ins C dy gs) → Oth C H (.ref b) (.ref C)
  | int (i : Int) : Oth C H (.int i) (.type "int")
  | str (x : Str) : Oth C H (.str x) (.type "str")
  | dK {b : Addr} {kvs : List (Key × V)} : H b = some (.dK kvs) → Oth C H (.ref b) (.type "dict")
theorem ld_type {M : Model} {h : Heap} {a : Addr} {o : Obj} (e : h.get? a = some o) : PySem.W.Looks M h (typeOf (.ref a)) o.cls := (PySem.W.Looks.ld e).andThen .now
theorem Oth.looks {X : Cx} {pins : List (Addr × Obj)} {σ : L2.St} {H : Hp} {s : Shared} {C : Addr} {y : V} {t v : Value} (o : Oth C H y t) (I : Inv X pins σ H s) (r : RelV y v) :
    PySem.W.Looks (model X.prog X.w) s.heap (typeOf v) t := by
  cases o with
  | ins hb =>
    cases r
    obtain ⟨mB, J', _⟩ := ins_get I.hok hb
    obtain ⟨od', J', _⟩ := J'.look
    exact J'.type
  | int i =>
    obtain ⟨k, rfl⟩ := (show ∃ t, v = Value.int i t from r)
    exact .of_pure rfl
  | str x =>
    obtain ⟨k, rfl⟩ := (show ∃ t, v = Value.str x t from r)
    exact .of_pure rfl
  | @dK b kvs hb =>
    cases (show v = Value.ref b from r)
    obtain ⟨_, _, vs, _, o, es, ep, h1, h2, _⟩ := (show ObjOk X.prog X.w H s.heap b (.dK kvs) from I.hok b _ hb)
    have z := ld_type (M := model X.prog X.w) h1
    rw [h2.1] at z
    exact z
theorem sub_ty {K : PySem.W.Frag} {C : Addr} {n : String} {m : List Value} (e : fastBuiltinMro n = some m) (h : m.contains (.ref C) = false) : PySem.W.subIn K (.type n) (.ref C) = some false := by
  show (fastBuiltinMro n).map (·.contains (.ref C)) = some false
  rw [e]
  exact congrArg some h
theorem Oth.first {K : PySem.W.Frag} {C : Addr} {H : Hp} {y : V} {t : Value} (o : Oth C H y t) : PySem.W.notFirst K C t = true := by
  cases o with
  | ins _ => simp [PySem.W.notFirst]
  | int _ =>
    unfold PySem.W.notFirst
    rw [sub_ty (m := [.type "int", .type "object"]) (by decide +kernel) (by simp)]
    simp
  | str _ =>
    unfold PySem.W.notFirst
    rw [sub_ty (m := [.type "str", .type "object"]) (by decide +kernel) (by simp)]
    simp
  | dK _ =>
    unfold PySem.W.notFirst
    rw [sub_ty (m := [.type "dict", .type "object"]) (by decide +kernel) (by simp)]
    simp

section
variable {M : Model} {prog : Program} {w : World} {A : Around} {E : Value → Shared → Prop} {s : Shared} {K : PySem.W.Frag} {x C f : Addr} {ox : Obj} {od : Option Obj} {b tb : Value}
theorem entry_ne (hu : A.units < cLine) (X : K.In s.heap) (I : PySem.W.InstAt s.heap x ox C od) (hs : PySem.W.findIn K (.ref C) "__eq__" = some (some (.ref f))) (hf : PySem.W.isFn K (.ref f) = true) {Q : Fin → Shared → Prop}
    (hcall : wpAny (model prog w) A (call (.ref f) [.ref x, b]) (fun v s' => ∃ k, v = .bool k ∧ Q (.done (.ret (.bool (!k)))) s') E s) :
    wpAny (model prog w) A (Builtin.«object.__ne__» ⟨[.ref x, b], []⟩) Q E s := by
  unfold Builtin.«object.__ne__»
  repeat (first
    | with_reducible refine wpAny_cRoomFor hu ?_
    | (refine wpAny_bind (m := callSpecialIfBound? (.ref x) (Str.ofString "__eq__") [b])
        (PySem.W.ifBound_K X I hs hf (wpAny_mono hcall (fun v s' hv => by
          obtain ⟨k, rfl, hq⟩ := hv
          repeat (first | exact hq | exact wpAny_pure hq | exact wpAny_truthy_bool hq | (refine wpAny_bind (m := truthy (.bool _)) (wpAny_truthy_bool ?_)) | wp_step)) fun _ _ e => e)))
    | wp_step)
theorem ifBound_objNe {args : List Value} {Q : Option Value → Shared → Prop} (X : K.In s.heap) (I : PySem.W.InstAt s.heap x ox C od) (hs : PySem.W.findIn K (.ref C) "__ne__" = some (some (.builtin "object.__ne__")))
    (h : wpAny M A (call (.builtin "object.__ne__") (.ref x :: args)) (fun v => Q (some v)) E s) : wpAny M A (callSpecialIfBound? (.ref x) "__ne__" args) Q E s := by
  simp only [callSpecialIfBound?, bindSpecialIfBound?]
  refine wpAny_holding (wpAny_bind (wpAny_bind (wpAny_bind (I.type.here ((PySem.W.looks_findIn X hs).here ?_)))))
  refine wpAny_bind (wpAny_askSetting (wpAny_ite ?_))
  have fin : wpAny M A (call (.builtin "object.__ne__") ([.ref x] ++ args) >>= fun v => pure (some v)) Q E s := wpAny_bind (wpAny_mono h (fun v s' h' => wpAny_pure h') fun _ _ h' => h')
  split
  · exact wpAny_bind (wpAny_of_eq (F.cmp_object.ne.bind _) (wpAny_pure (by exact fin)))
  · exact wpAny_tryCatch (wpAny_bind (wpAny_of_eq (F.cmp_object.ne.bind _) (wpAny_pure (by exact fin))))
theorem ne_K {Q : Value → Shared → Prop} (hu : A.units + 1 < cLine) (X : K.In s.heap) (I : PySem.W.InstAt s.heap x ox C od) (hb : PySem.W.Looks (model prog w) s.heap (typeOf b) tb) (hn : PySem.W.notFirst K C tb = true)
    (hm : PySem.W.mroIn K C (.type "object") = some true) (hN : PySem.W.findIn K (.ref C) "__ne__" = some (some (.builtin "object.__ne__")))
    (hs : PySem.W.findIn K (.ref C) "__eq__" = some (some (.ref f))) (hf : PySem.W.isFn K (.ref f) = true)
    (h : wpAny (model prog w) A.in1 (call (.ref f) [.ref x, b]) (fun v s' => ∃ k, v = .bool k ∧ Q (.bool (!k)) s') E s) : wpAny (model prog w) A (richCompare .NotEq (.ref x) b) Q E s := by
  have one : wpAny (model prog w) A (tryCompare (.ref x) (cmpInfo .NotEq).2.1 b) (fun r s' => ∃ v, r = some v ∧ Q v s') E s := by
    unfold tryCompare
    refine wpAny_bind (ifBound_objNe X I hN (wpAny_call (codeAny_call_builtin F.cmp_object.ne.plain F.cmpEntry_ne
      (PySem.W.check_slot F.cmpKind_ne F.cmpSplit_ne (I.type.andThen (PySem.W.looks_mroIn X hm)) (F.cmpArgs_ne _ _) (entry_ne (A := A.in1) hu X I hs hf (wpAny_mono h (fun v s' hv => ?_) fun _ _ e => e))))))
    obtain ⟨k, rfl, hq⟩ := hv
    exact ⟨k, rfl, wpAny_pure ⟨_, rfl, hq⟩⟩
  unfold richCompare
  simp only [oneThing_ref]
  refine wpAny_holding (wpAny_bind (wpAny_cRoomFor (Nat.lt_of_succ_lt hu) ?_))
  refine wpAny_bind (I.type.here (wpAny_bind (hb.here ?_)))
  split
  · rename_i q
    have e : PySem.W.subIn K tb (.ref C) = some false := by
      rcases Bool.or_eq_true_iff.mp hn with e | e
      · rw [beq_iff_eq.mp e] at q; simp at q
      · exact beq_iff_eq.mp e
    refine wpAny_bind ((PySem.W.looks_subIn X e).here ?_)
    simp only [Bool.false_eq_true, if_false]
    refine wpAny_bind (wpAny_mono one (fun r s' z => ?_) fun _ _ e => e)
    obtain ⟨v, rfl, hq⟩ := z
    exact wpAny_pure hq
  · refine wpAny_bind (wpAny_pure ?_)
    simp only [Bool.false_eq_true, if_false]
    refine wpAny_bind (wpAny_mono one (fun r s' z => ?_) fun _ _ e => e)
    obtain ⟨v, rfl, hq⟩ := z
    exact wpAny_pure hq
end

def rOwn (C : Addr) (sp : Sp) (E : XK) (g : Bool → Bool) : R2 := fun x y H Q => ∃ (a dx : Addr) (fs : List (Str × V)) (t : Value), x = .ref a ∧ H a = some (.ins C dx fs) ∧ Oth C H y t ∧
  sp [.ref a, y] H (fun v H' => ∃ b, v = .bl b ∧ Q (.bl (g b)) H') E
section
variable {X : Cx} {CX : CXT} {C f : Addr} {fd : FuncData} {ps : List Str} {sp : Sp} {E : XK} {n : Nat}
theorem run_own {A : Around} (F : FnOk X.prog X.w X.K X.mg X.base CX n f fd ps sp) (hr : Room n A) (fr : A.frames = X.A.frames) (hb : Binds X.K fd ps []) (hx : Passes CX X E)
    {pins : List (Addr × Obj)} {σ : L2.St} {s : Shared} {H : Hp} {a : Addr} {y : V} {v : Value} {Q : Bool → Shared → Prop} (I : Inv X pins σ H s) (ry : RelV y v)
    (hsp : sp [.ref a, y] H (fun v H' => ∃ b, v = .bl b ∧ ∀ s', Inv X pins σ H' s' → Q b s') E) :
    wpAny (model X.prog X.w) A (call (.ref f) [.ref a, v]) (fun r s' => ∃ b, r = .bool b ∧ Q b s') X.xe s := by
  have e0 : Env0 X.prog X.w X.K X.mg X.base A X.stack s H := by
    have e := I.env0
    exact ⟨by rw [fr]; exact e.frames, e.mod, e.bs, e.bsz, e.funs, e.frf, e.hok, e.bare⟩
  have hl := F.len _ _ _ _ hsp
  have r2 : Vals [V.ref a, y] [Value.ref a, v] := .cons rfl (.cons ry .nil)
  refine wpAny_call (codeAny_mono (F.run A X.stack s H ⟨[.ref a, v], []⟩ [.ref a, v] [.ref a, y] _ E hr e0 (by
    have := hb s [.ref a, v] I.kIn (by simpa using hl)
    simpa using this) r2 hsp) fun r s' hq => ?_)
  cases r with
  | error e => exact hx pins σ H s e s' I hq
  | ok fl =>
    cases fl with
    | ret w =>
      obtain ⟨z, H', I', rz, b, ez, ex⟩ := I.after hq
      subst ez
      cases rz
      exact ⟨b, rfl, ex _ I'⟩
    | next => exact False.elim hq
    | brk => exact False.elim hq
    | cont => exact False.elim hq
theorem op_own (F : FnOk X.prog X.w X.K X.mg X.base CX n f fd ps sp) (hr : Room n X.A) (hs : PySem.W.findIn X.K (.ref C) "__eq__" = some (some (.ref f))) (hf : PySem.W.isFn X.K (.ref f) = true)
    (hb : Binds X.K fd ps []) (hx : Passes CX X E) (hsq : ∀ vs H (Q Q' : VK), (∀ v H', Q v H' → Q' v H') → sp vs H Q E → sp vs H Q' E) : OpR X (compareOp .Eq) (rOwn C sp E id) := by
  intro pins s σ H x y v u Q I rx ry h
  obtain ⟨a, dx, fs, t, rfl, ha, ho, hsp⟩ := h
  cases rx
  obtain ⟨mA, J, _⟩ := ins_get I.hok ha
  obtain ⟨od, J, _⟩ := J.look
  obtain ⟨m, hF⟩ := I.fr
  refine PySem.W.cmp_K (op := .Eq) (tb := t) hr.units0 hF I.ok.mod.kin J (ho.looks I ry) ho.first hs hf ?_
  refine wpAny_mono (run_own F hr rfl hb hx I ry (Q := fun b s' => EP X pins σ Q (.bool b) s') (hsq _ _ _ _ (fun v H' q => ?_) hsp)) (fun r s' z => ?_) fun _ _ e => e
  · obtain ⟨b, e, q⟩ := q
    exact ⟨b, e, fun s' I' => ⟨.bl b, H', I', rfl, q⟩⟩
  · obtain ⟨b, rfl, q⟩ := z
    exact q
theorem op_ownNe (F : FnOk X.prog X.w X.K X.mg X.base CX n f fd ps sp) (hr : Room (n + 1) X.A) (hs : PySem.W.findIn X.K (.ref C) "__eq__" = some (some (.ref f))) (hf : PySem.W.isFn X.K (.ref f) = true)
    (hm : PySem.W.mroIn X.K C (.type "object") = some true) (hN : PySem.W.findIn X.K (.ref C) "__ne__" = some (some (.builtin "object.__ne__")))
    (hb : Binds X.K fd ps []) (hx : Passes CX X E) (hsq : ∀ vs H (Q Q' : VK), (∀ v H', Q v H' → Q' v H') → sp vs H Q E → sp vs H Q' E) : OpR X (compareOp .NotEq) (rOwn C sp E not) := by
  intro pins s σ H x y v u Q I rx ry h
  obtain ⟨a, dx, fs, t, rfl, ha, ho, hsp⟩ := h
  cases rx
  obtain ⟨mA, J, _⟩ := ins_get I.hok ha
  obtain ⟨od, J, _⟩ := J.look
  show wpAny (model X.prog X.w) X.A (richCompare .NotEq (.ref a) u) (EP X pins σ Q) X.xe s
  refine ne_K (by have := hr.units; omega) I.kIn J (ho.looks I ry) ho.first hm hN hs hf ?_
  refine run_own F hr.in1 rfl hb hx I ry (Q := fun b s' => EP X pins σ Q (.bool (!b)) s') (hsq _ _ _ _ (fun v H' q => ?_) hsp)
  obtain ⟨b, e, q⟩ := q
  exact ⟨b, e, fun s' I' => ⟨.bl (!b), H', I', rfl, q⟩⟩
end
end K17
set_option maxHeartbeats 8000000
namespace K17
open PySem PySem.Spec PyProof.Rows L2

/-! ### dicts of numbers compared -/
def hitR (fs : Es) : Es → Bool
  | [] => true
  | (n, v) :: r => match fs.lookup n with
    | some u => (v == u) && hitR fs r
    | none => false
theorem hits_int {A : Around} {s : Shared} {fs : Es} {vb : List (Key × Value)} (rb : KV (kv fs) vb) : ∀ {es : Es} {va : List (Key × Value)}, KV (kv es) va → PySem.W.KeqHits A s vb va (hitR fs es)
  | [], va, ra => by
    unfold KV at ra
    cases ra
    exact .nil
  | (n, v) :: r, va, ra => by
    unfold KV at ra
    cases ra with
    | @cons p q ps qs h t =>
      obtain ⟨h1, h2⟩ := h
      obtain ⟨k, x⟩ := q
      have h1' : ky n = k := h1
      subst h1'
      obtain ⟨tk, rfl⟩ := (show ∃ t, x = Value.int v t from h2)
      have ih := hits_int (A := A) (s := s) rb (es := r) (va := qs) t
      have rr := rb.val (ky n)
      rw [val_kv] at rr
      show PySem.W.KeqHits A s vb _ (match fs.lookup n with
        | some u => (v == u) && hitR fs r
        | none => false)
      cases e : fs.lookup n with
      | none =>
        rw [e] at rr
        have z : valueAt vb (ky n) = none := RelO.none_of rr
        exact .miss z
      | some u =>
        rw [e] at rr
        obtain ⟨y, hy, ry⟩ := RelO.some_of rr
        obtain ⟨tu, rfl⟩ := (show ∃ t, y = Value.int u t from ry)
        exact .hit hy (SeqAt.EqAt.int_int v tk u tu) ih
theorem pig {α : Type} [DecidableEq α] : ∀ (l m : List α), l.Nodup → (∀ x, x ∈ l → x ∈ m) → m.length ≤ l.length → ∀ x, x ∈ m → x ∈ l
  | [], m, _, _, hl, x, hx => by
    cases m with
    | nil => exact hx
    | cons a t => simp at hl
  | a :: r, m, hn, hs, hl, x, hx => by
    obtain ⟨n1, n2⟩ := List.pairwise_cons.mp hn
    by_cases e : x = a
    · rw [e]; exact List.mem_cons_self ..
    · have ha := hs a (List.mem_cons_self ..)
      have h1 : ∀ y, y ∈ r → y ∈ m.erase a := fun y hy => (List.mem_erase_of_ne (fun z => n1 y hy z.symm)).mpr (hs y (List.mem_cons_of_mem _ hy))
      have h2 : (m.erase a).length ≤ r.length := by
        rw [List.length_erase_of_mem ha]
        simp at hl
        omega
      exact List.mem_cons_of_mem _ (pig r (m.erase a) n2 h1 h2 x ((List.mem_erase_of_ne e).mpr hx))
theorem look_get {es : Es} (h : (es.map (·.1)).Nodup) {n : Str} {v : Int} (hm : (n, v) ∈ es) : es.lookup n = some v := by
  induction es with
  | nil => cases hm
  | cons p r ih =>
    rw [List.map_cons] at h
    obtain ⟨n1, n2⟩ := List.pairwise_cons.mp h
    rcases List.mem_cons.mp hm with e | hm
    · subst e
      exact List.lookup_cons_self
    · have ne : (n == p.1) = false := by
        have : n ≠ p.1 := fun z => n1 n (List.mem_map.mpr ⟨_, hm, rfl⟩) z.symm
        simpa using this
      rw [List.lookup_cons, ne]
      exact ih n2 hm
theorem hit_all {fs : Es} : ∀ {es : Es}, hitR fs es = true → ∀ n v, (n, v) ∈ es → fs.lookup n = some v
  | [], _, _, _, h => by cases h
  | (m, u) :: r, h, n, v, hm => by
    have h' : (match fs.lookup m with
      | some w => (u == w) && hitR fs r
      | none => false) = true := h
    cases e : fs.lookup m with
    | none =>
      rw [e] at h'
      cases h'
    | some w =>
      rw [e] at h'
      obtain ⟨h1, h2⟩ := Bool.and_eq_true_iff.mp h'
      rcases List.mem_cons.mp hm with z | z
      · cases z
        rw [e, beq_iff_eq.mp h1]
      · exact hit_all h2 n v z
theorem hit_self {es : Es} (h : (es.map (·.1)).Nodup) : ∀ {r : Es}, (∀ p ∈ r, p ∈ es) → hitR es r = true
  | [], _ => rfl
  | (n, v) :: r, hs => by
    show (match es.lookup n with
      | some w => (v == w) && hitR es r
      | none => false) = true
    rw [look_get h (hs _ (List.mem_cons_self ..))]
    show ((v == v) && hitR es r) = true
    rw [hit_self h fun p hp => hs p (List.mem_cons_of_mem _ hp)]
    simp
theorem eq_hit {es fs : Es} (h : SdE es) (g : SdE fs) : (es.length == fs.length && hitR fs es) = decide (es = fs) := by
  by_cases e : es = fs
  · subst e
    rw [decide_eq_true rfl, hit_self h.nodup fun _ q => q]
    simp
  · rw [decide_eq_false e]
    cases c : (es.length == fs.length && hitR fs es) with
    | false => rfl
    | true =>
      obtain ⟨c1, c2⟩ := Bool.and_eq_true_iff.mp c
      have hl := beq_iff_eq.mp c1
      have hA := hit_all c2
      refine absurd (SdE.one h g fun n => ?_) e
      cases q : es.lookup n with
      | some v =>
        have hin : ∃ u, (n, u) ∈ es := by
          have z := look_mem.mp (show (es.lookup n).isSome = true by rw [q]; rfl)
          obtain ⟨p, hp, e⟩ := List.mem_map.mp z
          exact ⟨p.2, by rw [← e]; exact hp⟩
        obtain ⟨u, hu⟩ := hin
        have q2 := look_get h.nodup hu
        rw [q] at q2
        rw [hA n u hu, ← q2]
      | none =>
        cases q2 : fs.lookup n with
        | none => rfl
        | some u =>
          have z := look_mem.mp (show (fs.lookup n).isSome = true by rw [q2]; rfl)
          have z2 := pig (es.map (·.1)) (fs.map (·.1)) h.nodup (fun x hx => by
            obtain ⟨p, hp, e⟩ := List.mem_map.mp hx
            exact look_mem.mp (by rw [← e, hA p.1 p.2 hp]; rfl)) (by rw [List.length_map, List.length_map]; omega) n z
          have z3 := look_mem.mpr z2
          rw [q] at z3
          cases z3
def rEqI (g : Bool → Bool) : R2 := fun x y H Q => ∃ (a b : Addr) (es fs : Es), x = .ref a ∧ y = .ref b ∧ H a = some (.dK (kv es)) ∧ H b = some (.dK (kv fs)) ∧ SdE es ∧ SdE fs ∧ Q (.bl (g (decide (es = fs)))) H
section
variable {X : Cx}
theorem op_eqI (hu : X.A.units < cLine) : OpR X (compareOp .Eq) (rEqI id) := by
  intro pins s σ H x y v u Q I rx ry h
  obtain ⟨a, b, es, fs, rfl, rfl, ea, eb, he, hf, q⟩ := h
  obtain rfl : v = Value.ref a := rx
  obtain rfl : u = Value.ref b := ry
  obtain ⟨_, ya, va, ra, da⟩ := (show ObjOk X.prog X.w H s.heap a (.dK (kv es)) from I.hok a _ ea)
  obtain ⟨_, yb, vb, rb, db⟩ := (show ObjOk X.prog X.w H s.heap b (.dK (kv fs)) from I.hok b _ eb)
  refine PySem.W.keq_eq (knd := mixKind X.prog X.w) (r := hitR fs es) ya yb da db hu (fun _ => hits_int rb ra) (fin_bl I q ?_)
  rw [← ra.length, ← rb.length, kv_len, kv_len, eq_hit he hf]
  rfl
theorem op_neI (hu : X.A.units < cLine) : OpR X (compareOp .NotEq) (rEqI not) := by
  intro pins s σ H x y v u Q I rx ry h
  obtain ⟨a, b, es, fs, rfl, rfl, ea, eb, he, hf, q⟩ := h
  obtain rfl : v = Value.ref a := rx
  obtain rfl : u = Value.ref b := ry
  obtain ⟨_, ya, va, ra, da⟩ := (show ObjOk X.prog X.w H s.heap a (.dK (kv es)) from I.hok a _ ea)
  obtain ⟨_, yb, vb, rb, db⟩ := (show ObjOk X.prog X.w H s.heap b (.dK (kv fs)) from I.hok b _ eb)
  refine PySem.W.keq_ne (knd := mixKind X.prog X.w) (r := hitR fs es) ya yb da db hu (fun _ => hits_int rb ra) (fin_bl I q ?_)
  rw [← ra.length, ← rb.length, kv_len, kv_len, eq_hit he hf]
end
abbrev sEq : Stmt := inClass sSize 17
def spEqS (K : PySem.W.Frag) (C : Addr) : Sp := fun vs H Q _ => ∃ (p : Addr) (es : Es) (y : V), vs = [.ref p, y] ∧ SizeAt C H p es ∧
  ((∃ (q : Addr) (fs : Es), y = .ref q ∧ SizeAt C H q fs ∧ Q (.bl (decide (es = fs))) H) ∨ ∃ t, TyX K H y t ∧ PySem.W.kitOne K t (.ref C) = some false ∧ Q (.bl false) H)
section
variable {P : Program} {w : World} {K : PySem.W.Frag} {mg : Str → Option Value} {base : Heap} {C : Addr}
theorem scEq : FnScope ["self", "other"] ["self", "other"] (defScope sEq) :=
  ⟨rfl, rfl, rfl, by decide +kernel, rfl, by decide +kernel, by decide +kernel⟩
theorem ok_eq {f : Addr} {fd : FuncData} (F : Fun K "__eq__" "Size.__eq__" sEq f fd) (T : Nk mg) (Tc : Ck K mg C) :
    FnOk P w K mg base CX0 1 f fd ["self", "other"] (spEqS K C) := by
  refine F.ok scEq (fun vs H Q E h => ?_) (fun cdv A outer s H vs Q E hr h => ?_)
  · obtain ⟨p, es, y, rfl, _⟩ := h
    rfl
  · obtain ⟨p, es, y, rfl, h1, h2⟩ := h
    have hu : (A.deeper (envOfC "Size.__eq__" (defScope sEq) s.heap.objs.size f cdv)).units < cLine := by have := hr.units; omega
    refine ⟨_, pss_one (ps_ret (pe_and (pe_callB call_isi (by rfl) T.isi (by decide +kernel) (pa_cons (pv 1) (pa_cons (pe_glob (v := .ref C) (by rfl) Tc.gC rfl) pa_nil)))
      (pe_one (pe_cmpR (op_eqI hu) (pe_fld (pv 0) rfl) (pe_fld (pv 1) rfl) (nomark _))))), ?_⟩
    obtain ⟨dx, D, p1, p2, p3, p4⟩ := h1
    rcases h2 with ⟨q, fs, rfl, ⟨dy, D', q1, q2, q3, q4⟩, k⟩ | ⟨t, ht, hk, k⟩
    · refine ⟨_, rfl, _, _, _, _, true, rfl, .own _, .base (.ins q1 Tc.cl Tc.cc Tc.cn Tc.ct Tc.co), ?_, _, rfl, ?_⟩
      · unfold PySem.W.kitOne
        rw [if_pos (by simp)]
      refine iteT' rfl ?_
      exact ⟨_, rfl, p, C, dx, _, _, rfl, p1, Tc.cl, Tc.nE, rfl, _, rfl, q, C, dy, _, _, rfl, q1, Tc.cl, Tc.nE, rfl, D, D', es, fs, rfl, rfl, p2, q2, p3, q3, k⟩
    · exact ⟨_, rfl, _, _, _, _, false, rfl, .own _, ht, hk, _, rfl, iteF k⟩
end
theorem spEq_mono {K : PySem.W.Frag} {C : Addr} {E : XK} : ∀ vs H (Q Q' : VK), (∀ v H', Q v H' → Q' v H') → spEqS K C vs H Q E → spEqS K C vs H Q' E := by
  rintro vs H Q Q' h ⟨p, es, y, e, h1, h2⟩
  refine ⟨p, es, y, e, h1, ?_⟩
  rcases h2 with ⟨q, fs, e, h3, k⟩ | ⟨t, h3, h4, k⟩
  · exact .inl ⟨q, fs, e, h3, h _ _ k⟩
  · exact .inr ⟨t, h3, h4, h _ _ k⟩
end K17
set_option maxHeartbeats 8000000
namespace K17
open PySem PySem.Spec PyProof.Rows L2

/-! ### a class that a local name holds is called -/
def tMakeL (i : Nat) (C : Addr) (sp : Sp) (dvs : List V) (E : XK) (t : TA) : TE := fun σ H Q => σ[i]? = some (some (.ref C)) ∧ t σ H fun vs H1 => ∀ x dx, H1 x = none → H1 dx = none → dx ≠ x →
  sp (.ref x :: (vs ++ dvs)) (upd (upd H1 dx (.own x)) x (.ins C dx [])) (fun v H2 => v = .non ∧ Q (.ref x) H2) E
section
variable {X : Cx} {CX : CXT} {k i : Nat} {f C : Addr} {fd : FuncData} {ps : List Str} {sp : Sp} {dvs : List V} {ds : List Value} {E : XK} {x : Str} {p pos : Pos} {e : Expr} {es : List Expr} {t : TA}
theorem pe_makeL (M : Mk X.K C f) (F : FnOk X.prog X.w X.K X.mg X.base CX k f fd ps sp) (hr : Room (k + 1) X.A) (hN : X.N[i]? = some x) (hv : Vis X.env.scope x) (hb : Binds X.K fd ps ds) (hd : Vals dvs ds) (hx : Passes CX X E)
    (ha : PA X (e :: es) t) (hdb : (x == ("__debug__" : Str)) = false := by decide) (hcd : (x == ("__classdict__" : Str)) = false := by decide)
    (he : starEach (e :: es) X.env = (false, eval e X.env) :: starEach es X.env := by rfl) (hpl : (backTo pos (starEach es X.env)).any (·.1) = false := by rfl) :
    PE X (.Call (.Name x p) (e :: es) [] pos) (tMakeL i C sp dvs E t) := by
  refine ⟨fun pins s σ H Q I h => ?_⟩
  obtain ⟨hs, ht⟩ := h
  refine wpAny_Call_Name_kw (thn ((pe_var (pos := p) hN hv hdb hcd).run pins s σ H (fun v H1 => v = .ref C ∧ H1 = H) I ⟨.ref C, hs, rfl, rfl⟩) fun u s1 ⟨v, H1, I1, r1, q1⟩ => ?_)
  obtain ⟨rfl, rfl⟩ := q1
  cases r1
  refine PySem.W.callWith_K (h₀ := X.base) I.ok.mod.kin M.kp (thn (ha.run pos pins s1 σ _ _ I1 ht) fun us s2 ⟨vs, H2, I2, r, q⟩ => ⟨I2.kIn, ?_⟩) he hpl
  exact run_make M F hr hb hd hx I2 r q
end

/-! ### several Sizes -/
inductive Szs (C : Addr) (H : Hp) : List V → List Es → Prop
  | nil : Szs C H [] []
  | cons {p : Addr} {es : Es} {vs : List V} {ess : List Es} : SizeAt C H p es → Szs C H vs ess → Szs C H (.ref p :: vs) (es :: ess)
theorem Szs.same {C : Addr} {H H' : Hp} (S : Same H H') : ∀ {vs : List V} {ess : List Es}, Szs C H vs ess → Szs C H' vs ess
  | _, _, .nil => .nil
  | _, _, .cons h t => .cons (h.same S) (t.same S)
theorem Szs.len {C : Addr} {H : Hp} : ∀ {vs : List V} {ess : List Es}, Szs C H vs ess → vs.length = ess.length
  | _, _, .nil => rfl
  | _, _, .cons _ t => congrArg (· + 1) t.len
theorem Szs.get {C : Addr} {H : Hp} : ∀ {vs : List V} {ess : List Es} {i : Nat} {x : V}, Szs C H vs ess → vs[i]? = some x →
    ∃ p es, x = .ref p ∧ ess[i]? = some es ∧ SizeAt C H p es
  | _, _, _, _, .nil, e => by simp at e
  | _, _, 0, _, .cons h t, e => by
    simp at e
    exact ⟨_, _, e.symm, rfl, h⟩
  | _, _, i + 1, _, .cons h t, e => by
    obtain ⟨p, es, h1, h2, h3⟩ := t.get (i := i) (by simpa using e)
    exact ⟨p, es, h1, by simpa using h2, h3⟩
/-- the sum for one name -/
def gS : List Es → Str → Int
  | [], _ => 0
  | es :: r, n => g0 es n + gS r n
theorem g0_fold (n : Str) : ∀ (ts : List Es) (t : Es), (∀ es ∈ ts, (es.map (·.1)).Nodup) → g0 (ts.foldl addE t) n = g0 t n + gS ts n
  | [], t, _ => by
    show g0 t n = g0 t n + 0
    rw [Int.add_zero]
  | es :: r, t, h => by
    have ih := g0_fold n r (addE t es) fun q hq => h q (List.mem_cons_of_mem _ hq)
    show g0 (r.foldl addE (addE t es)) n = g0 t n + (g0 es n + gS r n)
    rw [ih, g0_add (h es (List.mem_cons_self ..)), Int.add_assoc]
theorem g0_sum (n : Str) {ts : List Es} (h : ∀ es ∈ ts, (es.map (·.1)).Nodup) : g0 (sumE ts) n = gS ts n := by
  unfold sumE
  rw [g0_fold n ts [] h]
  show 0 + gS ts n = _
  rw [Int.zero_add]
theorem mem_fold {n : Str} : ∀ (ts : List Es) (t : Es), (∀ es ∈ ts, (es.map (·.1)).Nodup) → n ∈ (ts.foldl addE t).map (·.1) → n ∈ t.map (·.1) ∨ ∃ es ∈ ts, n ∈ es.map (·.1)
  | [], t, _, hn => .inl hn
  | es :: r, t, h, hn => by
    rcases mem_fold r (addE t es) (fun q hq => h q (List.mem_cons_of_mem _ hq)) hn with z | ⟨q, hq, z⟩
    · rcases mem_add (h es (List.mem_cons_self ..)) z with z | z
      · exact .inl z
      · exact .inr ⟨es, List.mem_cons_self .., z⟩
    · exact .inr ⟨q, List.mem_cons_of_mem _ hq, z⟩
theorem Szs.all {C : Addr} {H : Hp} : ∀ {vs : List V} {ess : List Es}, Szs C H vs ess → ∀ es ∈ ess, SdE es ∧ ∀ q ∈ es, isNm q.1 = true
  | _, _, .nil, _, h => by cases h
  | _, _, .cons ⟨_, _, _, _, p3, _, p5, _⟩ t, es, h => by
    rcases List.mem_cons.mp h with e | h
    · subst e
      exact ⟨p3, p5⟩
    · exact t.all es h

abbrev sChecks : Stmt := top 57
def spChecks (K : PySem.W.Frag) (C : Addr) : Sp := fun vs H Q _ => ∃ (t : Addr) (xs : List V) (ess : List Es), vs = [.ref t] ∧ SqT K H t xs ∧ Szs C H xs ess ∧ Q .non H
abbrev sProd : Stmt := inClass sSize 3
/-- product, its arguments in a tuple -/
def spProdT (C : Addr) : Sp := fun vs H Q _ => ∃ (t : Addr) (xs : List V) (ess : List Es), vs = [.ref C, .ref t] ∧ H t = some (.tup xs) ∧ Szs C H xs ess ∧ xs.length ≤ 1000 ∧ lenT ess < 64 ∧
  ∀ H' r rs, Same H H' → SizeAt C H' r rs → (∀ n, rs.lookup n = cz (gS ess n)) → Q (.ref r) H'
def spProd (C : Addr) : Sp := fun vs H Q _ => ∃ (xs : List V) (ess : List Es), vs = .ref C :: xs ∧ Szs C H xs ess ∧ xs.length ≤ 1000 ∧ lenT ess < 64 ∧
  ∀ H' r rs, Same H H' → SizeAt C H' r rs → (∀ n, rs.lookup n = cz (gS ess n)) → Q (.ref r) H'
section
variable {P : Program} {w : World} {K : PySem.W.Frag} {mg : Str → Option Value} {base : Heap} {C : Addr}
theorem scChecks : FnScope ["values", "value"] ["values"] (defScope sChecks) :=
  ⟨rfl, rfl, rfl, by decide +kernel, rfl, by decide +kernel, by decide +kernel⟩
theorem ok_checks {f fC : Addr} {fd fdC : FuncData} (F : Fun K "check_sizes" "check_sizes" sChecks f fd)
    (GC : FnOk P w K mg base CX0 1 fC fdC ["value"] (spCheck C)) (kC : PySem.W.keepIn K (.ref fC) = true) (bC : Binds K fdC ["value"] []) (gC : mg "check_size" = some (.ref fC)) :
    FnOk P w K mg base CX0 2 f fd ["values"] (spChecks K C) := by
  refine F.ok scChecks (fun vs H Q E h => ?_) (fun cdv A outer s H vs Q E hr h => ?_)
  · obtain ⟨t, xs, ess, rfl, _⟩ := h
    rfl
  · obtain ⟨t, xs, ess, rfl, hT, hZ, k⟩ := h
    refine ⟨_, pss_one (ps_for PassesOwn.never rfl (pi_tup (pv 0)) (pg_name (i := 1) scChecks.nd rfl (Or.inl rfl))
      (pss_one (ps_expr (pe_call GC hr rfl gC kC bC .nil pass0 (pa_cons (pv 1) pa_nil))))), ?_⟩
    refine ⟨_, rfl, t, rfl, ⟨xs, hT⟩, ?_⟩
    refine for_it (walk_tup (K := K) (a := t) (xs := xs)) (fun i σ H2 => H2 = H ∧ ∃ o, σ = [some (.ref t), o]) ⟨rfl, none, rfl⟩ (fun i σ H2 _ h => by rw [h.1]; exact hT) ?_ ?_
    · rintro i x σ H2 H3 hi ⟨rfl, o, rfl⟩ ⟨rfl, hx⟩
      obtain ⟨p, es, rfl, he, h3⟩ := hZ.get hx
      obtain ⟨dx, D, p1, _⟩ := h3
      exact ⟨_, rfl, p, dx, _, rfl, p1, rfl, _, rfl⟩
    · rintro σ H2 ⟨rfl, o, rfl⟩
      exact k
end
end K17
set_option maxHeartbeats 8000000
namespace K17
open PySem PySem.Spec PyProof.Rows L2

theorem Tabs.same {H H' : Hp} (S : Same H H') : ∀ {vs : List V} {ts : List Es}, Tabs H vs ts → Tabs H' vs ts
  | _, _, .nil => .nil
  | _, _, .cons h n t => .cons (S _ _ h) n (t.same S)
theorem Tabs.snoc {H : Hp} {d : Addr} {es : Es} (h : H d = some (.dK (kv es))) (n : (es.map (·.1)).Nodup) : ∀ {vs : List V} {ts : List Es}, Tabs H vs ts → Tabs H (vs ++ [.ref d]) (ts ++ [es])
  | _, _, .nil => .cons h n .nil
  | _, _, .cons h1 n1 t => .cons h1 n1 (t.snoc h n)
/-- all but what stands at L -/
theorem Tabs.at {H H' : Hp} {L : Addr} (hL : ∀ kvs, H L ≠ some (.dK kvs)) (S : ∀ b o, b ≠ L → H b = some o → H' b = some o) : ∀ {vs : List V} {ts : List Es}, Tabs H vs ts → Tabs H' vs ts
  | _, _, .nil => .nil
  | _, _, @Tabs.cons _ d es _ _ h n t => .cons (S _ _ (fun z => hL (kv es) (by rw [← z]; exact h)) h) n (t.at hL S)
theorem nm_sum {ess : List Es} {R : Es} (h : ∀ es ∈ ess, SdE es ∧ ∀ q ∈ es, isNm q.1 = true) (lR : ∀ n, R.lookup n = (sumE ess).lookup n) : ∀ q ∈ R, isNm q.1 = true := fun q hq => by
  have hin : q.1 ∈ R.map (·.1) := List.mem_map.mpr ⟨q, hq, rfl⟩
  have h3 : q.1 ∈ (sumE ess).map (·.1) := look_mem.mp (by rw [← lR]; exact look_mem.mpr hin)
  rcases mem_fold ess [] (fun es he => (h es he).1.nodup) h3 with z | ⟨es, he, z⟩
  · cases z
  · obtain ⟨r, hr, e⟩ := List.mem_map.mp z
    rw [← e]
    exact (h es he).2 r hr
section
variable {P : Program} {w : World} {K : PySem.W.Frag} {mg : Str → Option Value} {base : Heap} {C : Addr}
theorem scProd : FnScope ["cls", "sizes", "size"] ["cls", "sizes"] (defScope sProd) :=
  ⟨rfl, rfl, rfl, by decide +kernel, rfl, by decide +kernel, by decide +kernel⟩
theorem ok_prod {f fCS fI fX fA : Addr} {fd fdCS fdI fdX fdA : FuncData} (F : Fun K "product" "Size.product" sProd f fd) (Tc : Ck K mg C)
    (GC : FnOk P w K mg base CX0 2 fCS fdCS ["values"] (spChecks K C)) (kC : PySem.W.keepIn K (.ref fCS) = true) (bC : Binds K fdCS ["values"] []) (gC : mg "check_sizes" = some (.ref fCS))
    (M : Mk K C fI) (GI : FnOk P w K mg base CX0 3 fI fdI ["self", "exponents"] (spInit C)) (bI : Binds K fdI ["self", "exponents"] [])
    (mX : Meth K C "exponents" fX) (GX : FnOk P w K mg base CX0 1 fX fdX ["self"] (spExpo C)) (bX : Binds K fdX ["self"] [])
    (GA : FnOk P w K mg base CX0 1 fA fdA ["tables"] (spAdded K)) (kA : PySem.W.keepIn K (.ref fA) = true) (bA : Binds K fdA ["tables"] []) (gA : mg "added" = some (.ref fA)) :
    FnR P w K mg base CX0 5 f (spProd C) := by
  have GC4 := GC.mono (k := 4) (by decide)
  have GA4 := GA.mono (k := 4) (by decide)
  have GX4 := GX.mono (k := 4) (by decide)
  obtain ⟨oc, od, kV, doc, pm, an, cdv, ct, osl, ef, lk, hcd⟩ := F.ex
  subst ef
  intro A0 outer0 s0 H0 us0 vs0 Q0 E0' hr0 e00 r0 h0
  refine (StX.fn_star (P := P) (w := w) (mg := mg) (base := base) (CX := CX0) (k := 4) (ps := ["cls"]) (pv := "sizes") (sp := spProdT C) lk hcd scProd StX.cxUp_none
    (StX.bind_star1 (B := fun l => bindArgs (PySem.W.fnOf "product" "Size.product" (defArgs sProd) (defBody sProd) (defScope sProd) .none kV doc pm an cdv ct) ⟨l, []⟩) (p1 := "cls") (pv := "sizes") (fun _ => rfl) (fun _ _ _ => rfl)) fun A outer s H vs Q E hr h => ?_) A0 outer0 s0 H0 us0 vs0 Q0 E0' hr0 e00 r0 ?_
  rotate_left
  · obtain ⟨xs, ess, rfl, hZ, hl, hl2, k⟩ := h0
    refine ⟨[.ref C], xs, rfl, rfl, by rw [sizeLine_eq]; omega, fun p hp => ?_⟩
    have S0 := fresh_upd (o := .tup xs) hp
    exact ⟨p, xs, ess, rfl, upd_same, hZ.same S0, hl, hl2, fun H' r rs S sz ls => k H' r rs (S0.trans S) sz ls⟩
  · obtain ⟨t, xs, ess, rfl, hT, hZ, hl, hl2, k⟩ := h
    refine ⟨_, PSs.nox (pss_cons (ps_expr (pe_call GC4 hr rfl gC kC bC .nil pass0 (pa_cons (pv 1) pa_nil)))
      (pss_one (ps_ret (pe_makeL (i := 0) M GI hr rfl (Or.inl rfl) bI .nil pass0 (pa_cons (pe_call GA4 hr rfl gA kA bA .nil pass0 (pa_cons
        (pe_lc (own := [("size", 2)]) (g := gName 2) (tt := tYes) (te := tMeth C "exponents" (spExpo C) [] E0 (tVar 2) tNil) rfl scProd.nd (pi_tup (pv 1))
          (blkOk_by (own := [("size", 2)]) (N := ["cls", "sizes", "size"]) (sc := defScope sProd) (by decide +kernel)) (fun _ _ _ _ _ => pg_name (i := 2) scProd.nd rfl (Or.inl rfl))
          (fun _ _ _ _ _ => pts_nil) (fun _ _ _ _ _ => by exact pe_meth0 (pv 2) Tc.cl mX GX4 hr bX .nil pass0)) pa_nil)) pa_nil))))), ?_⟩
    refine ⟨_, rfl, t, xs, ess, rfl, SqT.of hT, hZ, ?_⟩
    refine ⟨rfl, _, rfl, t, rfl, ⟨xs, SqT.of hT⟩, fun L hL => ?_⟩
    refine lc_it (walk_tup (K := K) (a := t) (xs := xs)) (fun i H2 => ∃ ys, H2 L = some (.lst ys) ∧ ys.length = i ∧ Tabs H2 ys (ess.take i) ∧ Same H H2)
      ⟨[], upd_same, rfl, .nil, fresh_upd hL⟩ (fun i H2 _ ⟨_, _, _, _, S⟩ => SqT.of (S _ _ hT)) ?_ ?_
    · rintro i x H2 H3 hi ⟨ys, hL2, hy, hTb, S2⟩ ⟨rfl, hx⟩
      obtain ⟨p, es, rfl, he, h3⟩ := hZ.get hx
      have h3' := h3.same S2
      obtain ⟨dx, D, p1, p2, p3, p4⟩ := id h3'
      refine ⟨rfl, ?_⟩
      unfold tYes
      dsimp only
      rw [if_pos rfl]
      refine ⟨_, rfl, p, dx, _, rfl, p1, rfl, p, es, rfl, h3', fun l nl => ?_⟩
      have Ll : L ≠ l := ne_of_none hL2 nl
      have S3 := fresh_upd (o := .dK (kv es)) nl
      refine ⟨ys, (upd_ne Ll).trans hL2, by rw [sizeLine_eq]; omega, ys ++ [.ref l], upd_same, by rw [List.length_append, hy]; rfl, ?_, fun b o e => ?_⟩
      · have et : ess.take (i + 1) = ess.take i ++ [es] := by
          rw [List.take_add_one, he]
          rfl
        rw [et]
        refine Tabs.at (H := upd H3 l (.dK (kv es))) (L := L) (fun kvs z => ?_) (fun b o hb e => (upd_ne hb).trans e) (Tabs.snoc upd_same p3.nodup (hTb.same S3))
        rw [upd_ne Ll, hL2] at z
        cases z
      · rw [upd_ne (ne_of_none e hL)]
        exact S3 _ _ (S2 b o e)
    · rintro H2 ⟨ys, hL2, hy, hTb, S2⟩
      have etk : ess.take xs.length = ess := by rw [hZ.len, List.take_length]
      rw [etk] at hTb
      refine ⟨L, ys, ess, rfl, SqL.of hL2, hTb, by omega, hl2, fun H3 D R S3 nD hD sR lR zR => ?_⟩
      have hA := hZ.all
      refine rd_make hD sR.nodup (by omega) (nm_sum hA lR) fun H' r rs S5 sz nw ls => k H' r rs (S2.trans (S3.trans S5)) sz fun n => ?_
      have gR : g0 R n = gS ess n := by
        rw [← g0_sum n fun es he => (hA es he).1.nodup]
        unfold g0
        rw [lR n]
      rw [ls, gR]
end
end K17
set_option maxHeartbeats 8000000
namespace K17
open PySem PySem.Spec PyProof.Rows L2 TL

/-! ### texts of numbers and Sizes -/
def decS (n : Int) : Str := Str.ofString (toString n)
def pwT (n : Str) (v : Int) : Str := if v = 1 then n else n ++ ("^" : Str) ++ decS v
def texE (es : Es) : Str := if es = [] then "1" else Txt.join "*" (es.map fun q => pwT q.1 q.2)
def Big (v : Int) : Prop := -(10 ^ 60) < v ∧ v < 10 ^ 60
theorem dec_len0 {v : Int} (h0 : 0 ≤ v) (h : v < 10 ^ 60) : (decS v).length ≤ 60 := toString_length_le h0 (by decide) h
theorem dec_len {v : Int} (h : Big v) : (decS v).length ≤ 61 := by
  by_cases h0 : 0 ≤ v
  · have := dec_len0 h0 h.2
    omega
  · unfold decS
    rw [len_text_neg (by omega)]
    have := dec_len0 (v := 0 - v) (by omega) (by have := h.1; omega)
    unfold decS at this
    omega
theorem log_of {v : Int} (h : Big v) : v.natAbs.log2 < 1920 := by
  have h1 : v.natAbs < 2 ^ 200 := by
    have h2 : (10 : Int) ^ 60 < 2 ^ 200 := by decide
    have h3 : ((v.natAbs : Nat) : Int) < 2 ^ 200 := by
      have := h.1
      have := h.2
      omega
    exact_mod_cast h3
  by_cases h0 : v.natAbs = 0
  · rw [h0]
    decide
  · have := (Nat.log2_lt h0).mpr h1
    omega
theorem of_append (a b : String) : Str.ofString (a ++ b) = Str.ofString a ++ Str.ofString b := by
  apply str_eq
  show tl _ = tl _
  rw [tl_append]
  show (Str.ofString (a ++ b)).cps.toList = (Str.ofString a).cps.toList ++ (Str.ofString b).cps.toList
  rw [Str.ofString_eq_toList, Str.ofString_eq_toList, Str.ofString_eq_toList]
  simp [String.toList_append]
theorem dec_neg {v : Int} (h : v < 0) : ("-" : Str) ++ decS (-v) = decS v := by
  unfold decS
  rw [toString_neg h, of_append, Int.zero_sub]
theorem join_one (y x : Str) : Txt.join y [x] = x := by
  rw [join_eq]
  rfl
theorem len_joinL (S : List Nat) : ∀ ps : List (List Nat), (joinL S ps).length ≤ (ps.map List.length).sum + ps.length * S.length
  | [] => Nat.zero_le _
  | [p] => by
    show p.length ≤ p.length + 0 + 1 * S.length
    omega
  | p :: q :: r => by
    have ih := len_joinL S (q :: r)
    show (p ++ (S ++ joinL S (q :: r))).length ≤ (p.length + ((q :: r).map List.length).sum) + ((q :: r).length + 1) * S.length
    rw [List.length_append, List.length_append, Nat.add_mul, Nat.one_mul]
    omega
theorem len_join (y : Str) (ps : List Str) {b : Nat} (h : ∀ p ∈ ps, p.length ≤ b) : (Txt.join y ps).length ≤ ps.length * b + ps.length * y.length := by
  rw [join_eq, len_tl, tl_join]
  have h1 := len_joinL (tl y) (ps.map tl)
  rw [List.length_map, ← len_tl] at h1
  have h2 : ∀ l : List Str, (∀ p ∈ l, p.length ≤ b) → ((l.map tl).map List.length).sum ≤ l.length * b := fun l => by
    induction l with
    | nil => intro _; exact Nat.zero_le _
    | cons p r ih =>
      intro hl
      have z := ih fun q hq => hl q (List.mem_cons_of_mem _ hq)
      have z2 := hl p (List.mem_cons_self ..)
      rw [len_tl] at z2
      show (tl p).length + ((r.map tl).map List.length).sum ≤ (r.length + 1) * b
      rw [Nat.add_mul, Nat.one_mul]
      omega
  have := h2 ps h
  omega
theorem pw_len {n : Str} {v : Int} (hn : n.length ≤ 8) (h : Big v) : (pwT n v).length ≤ 70 := by
  unfold pwT
  split
  · omega
  · have := dec_len h
    rw [len_tl, tl_append, tl_append, List.length_append, List.length_append, ← len_tl, ← len_tl, ← len_tl]
    have e : ("^" : Str).length = 1 := by decide
    omega
theorem tex_len {es : Es} (h : ∀ q ∈ es, q.1.length ≤ 8 ∧ Big q.2) (hl : es.length < 64) : (texE es).length ≤ 10000 := by
  unfold texE
  split
  · decide
  · have z := len_join "*" (es.map fun q => pwT q.1 q.2) (b := 70) fun p hp => by
      obtain ⟨q, hq, e⟩ := List.mem_map.mp hp
      rw [← e]
      exact pw_len (h q hq).1 (h q hq).2
    rw [List.length_map] at z
    have e : ("*" : Str).length = 1 := by decide
    rw [e] at z
    omega

abbrev sDec : Stmt := top 48
abbrev sPw : Stmt := top 53
abbrev sTex : Stmt := top 51
abbrev sStr : Stmt := inClass sSize 18
def spDec0 : Sp := fun vs H Q _ => ∃ n : Int, vs = [.int n] ∧ 0 ≤ n ∧ n < 10 ^ 60 ∧ ∀ H', Same H H' → Q (.str (decS n)) H'
def spDec : Sp := fun vs H Q _ => ∃ n : Int, vs = [.int n] ∧ Big n ∧ ∀ H', Same H H' → Q (.str (decS n)) H'
def spPw : Sp := fun vs H Q _ => ∃ (x : Str) (n : Int), vs = [.str x, .int n] ∧ x.length ≤ 8 ∧ Big n ∧ ∀ H', Same H H' → Q (.str (pwT x n)) H'
def spTex : Sp := fun vs H Q _ => ∃ (d : Addr) (es : Es), vs = [.ref d] ∧ H d = some (.dK (kv es)) ∧ (es.map (·.1)).Nodup ∧ es.length < 64 ∧ (∀ q ∈ es, q.1.length ≤ 8 ∧ Big q.2) ∧ ∀ ss, SdE ss → (∀ n, ss.lookup n = es.lookup n) → ∀ H', Same H H' → Q (.str (texE ss)) H'
def spStr (C : Addr) : Sp := fun vs H Q _ => ∃ (p : Addr) (es : Es), vs = [.ref p] ∧ SizeAt C H p es ∧ (∀ q ∈ es, Big q.2) ∧ ∀ H', Same H H' → Q (.str (texE es)) H'
structure Ns (mg : Str → Option Value) : Prop where
  str : mg "str" = none
  chunk : ∃ t, mg "CHUNK" = some (.int (10 ^ 60) t)
section
variable {P : Program} {w : World} {K : PySem.W.Frag} {mg : Str → Option Value} {base : Heap} {C : Addr}
theorem scDec : FnScope ["number", "parts", "low"] ["number"] (defScope sDec) :=
  ⟨rfl, rfl, rfl, by decide +kernel, rfl, by decide +kernel, by decide +kernel⟩

theorem ok_dec0 {f : Addr} {fd : FuncData} (F : Fun K "decimal_text" "decimal_text" sDec f fd) (T : Ns mg) :
    FnOk P w K mg base CX0 1 f fd ["number"] spDec0 := by
  obtain ⟨tc, gc⟩ := T.chunk
  refine F.ok scDec (fun vs H Q E h => ?_) (fun cdv A outer s H vs Q E hr h => ?_)
  · obtain ⟨n, rfl, _⟩ := h
    rfl
  · obtain ⟨n, rfl, h0, h1, k⟩ := h
    refine ⟨_, pss_cons (ps_if (pt_cmpR op_lt (pv 0) pe_int (nomark _)) (pss_one ps_no) pss_nil)
      (pss_cons (ps_set (i := 1) scDec.nd rfl (.inl rfl) (pe_lst pa_nil))
      (pss_cons (ps_while PassesOwn.never (pt_cmpR op_ge (pv 0) (pe_glob (v := .int (10 ^ 60)) (by rfl) gc ⟨tc, rfl⟩) (nomark _)) (pss_cons ps_no (pss_one ps_no)))
      (pss_cons (ps_expr (pe_bm PySem.F.plainAttrs_list PySem.F.slot_list_append PySem.F.type_list_append mt_append (pv 1) (pa_cons (pe_callTy call_str_int (by rfl) T.str (by decide +kernel) (pa_cons (pv 0) pa_nil)) pa_nil)))
      (pss_one (ps_ret (pe_join pe_str (pe_revL (pv 1)))))))), ?_⟩
    refine ⟨_, rfl, _, _, rfl, rfl, _, rfl, ?_⟩
    refine iteN' (by omega) ?_
    refine ⟨Nat.zero_le _, fun a na => ?_⟩
    have S1 := fresh_upd (o := .lst []) na
    refine ⟨fun m σ H2 => σ = [some (.int n), some (.ref a), none] ∧ H2 = upd H a (.lst []), ⟨0, rfl, rfl⟩, ?_⟩
    rintro m σ H2 ⟨rfl, rfl⟩
    refine ⟨_, rfl, _, _, rfl, rfl, _, rfl, ?_⟩
    refine iteN' (by omega) ?_
    refine ⟨_, rfl, .inl ⟨rfl, _, SqL.of upd_same⟩, _, rfl, n, rfl, log_of ⟨by omega, h1⟩, a, [], _, rfl, rfl, upd_same, by rw [sizeLine_eq]; show 0 < 16777216; decide, ?_⟩
    refine ⟨⟨_, rfl⟩, _, rfl, a, _, rfl, SqL.of upd_same, fun p np => ?_⟩
    have hL := dec_len0 h0 h1
    refine ⟨_, p, [decS n], rfl, rfl, .inl (SqL.of upd_same), ?_, ?_⟩
    · show (decS n).length + 0 + 1 * Str.empty.length ≤ 16777216
      have e : Str.empty.length = 0 := rfl
      omega
    · rw [join_one]
      refine k _ fun b o e => ?_
      have ba : b ≠ a := ne_of_none e na
      have e1 := S1 _ _ e
      have bp : b ≠ p := ne_of_none ((upd_ne ba).trans e1) np
      rw [upd_ne bp, upd_ne ba]
      exact e1
theorem ok_dec {f : Addr} {fd : FuncData} (F : Fun K "decimal_text" "decimal_text" sDec f fd) (T : Ns mg) (bD : Binds K fd ["number"] []) (gD : mg "decimal_text" = some (.ref f)) (kD : PySem.W.keepIn K (.ref f) = true) :
    FnOk P w K mg base CX0 2 f fd ["number"] spDec := by
  have G0 : FnOk P w K mg base CX0 1 f fd ["number"] spDec0 := ok_dec0 F T
  obtain ⟨tc, gc⟩ := T.chunk
  refine F.ok scDec (fun vs H Q E h => ?_) (fun cdv A outer s H vs Q E hr h => ?_)
  · obtain ⟨n, rfl, _⟩ := h
    rfl
  · obtain ⟨n, rfl, hB, k⟩ := h
    by_cases h0 : n < 0
    · refine ⟨_, pss_cons (ps_if (pt_cmpR op_lt (pv 0) pe_int (nomark _)) (pss_one (ps_ret (pe_op op_add_str pe_str (pe_call G0 hr rfl gD kD bD .nil pass0 (pa_cons (pe_un un_neg (pv 0)) pa_nil))))) pss_nil)
        (pss_cons ps_no (pss_cons ps_no (pss_cons ps_no (pss_one ps_no)))), ?_⟩
      refine ⟨_, rfl, _, _, rfl, rfl, _, rfl, ?_⟩
      refine iteT' (decide_eq_true h0) ?_
      refine ⟨_, rfl, _, rfl, -n, rfl, by omega, by have := hB.1; omega, fun H' S => ⟨_, _, rfl, rfl, ?_, ?_⟩⟩
      · have := dec_len0 (v := -n) (by omega) (by have := hB.1; omega)
        have e : ("-" : Str).length = 1 := by decide
        rw [e, sizeLine_eq]
        omega
      · rw [dec_neg h0]
        exact k H' S
    · have h0 : 0 ≤ n := by omega
      have h1 := hB.2
      obtain ⟨t, ht, hq⟩ := (show ∃ t, PSs (cxOf CX0 P w K mg base ["number", "parts", "low"] "decimal_text" (defScope sDec) f cdv A outer s H E).nox (defBody sDec) t ∧ t { nx := fun _ H' => Q .non H', rt := Q } (start ["number", "parts", "low"] [.int n]) H from by
        refine ⟨_, pss_cons (ps_if (pt_cmpR op_lt (pv 0) pe_int (nomark _)) (pss_one ps_no) pss_nil)
          (pss_cons (ps_set (i := 1) scDec.nd rfl (.inl rfl) (pe_lst pa_nil))
          (pss_cons (ps_while PassesOwn.never (pt_cmpR op_ge (pv 0) (pe_glob (v := .int (10 ^ 60)) (by rfl) gc ⟨tc, rfl⟩) (nomark _)) (pss_cons ps_no (pss_one ps_no)))
          (pss_cons (ps_expr (pe_bm PySem.F.plainAttrs_list PySem.F.slot_list_append PySem.F.type_list_append mt_append (pv 1) (pa_cons (pe_callTy call_str_int (by rfl) T.str (by decide +kernel) (pa_cons (pv 0) pa_nil)) pa_nil)))
          (pss_one (ps_ret (pe_join pe_str (pe_revL (pv 1)))))))), ?_⟩
        refine ⟨_, rfl, _, _, rfl, rfl, _, rfl, ?_⟩
        refine iteN' (by omega) ?_
        refine ⟨Nat.zero_le _, fun a na => ?_⟩
        have S1 := fresh_upd (o := .lst []) na
        refine ⟨fun m σ H2 => σ = [some (.int n), some (.ref a), none] ∧ H2 = upd H a (.lst []), ⟨0, rfl, rfl⟩, ?_⟩
        rintro m σ H2 ⟨rfl, rfl⟩
        refine ⟨_, rfl, _, _, rfl, rfl, _, rfl, ?_⟩
        refine iteN' (by omega) ?_
        refine ⟨_, rfl, .inl ⟨rfl, _, SqL.of upd_same⟩, _, rfl, n, rfl, log_of ⟨by omega, h1⟩, a, [], _, rfl, rfl, upd_same, by rw [sizeLine_eq]; show 0 < 16777216; decide, ?_⟩
        refine ⟨⟨_, rfl⟩, _, rfl, a, _, rfl, SqL.of upd_same, fun p np => ?_⟩
        have hL := dec_len0 h0 h1
        refine ⟨_, p, [decS n], rfl, rfl, .inl (SqL.of upd_same), ?_, ?_⟩
        · show (decS n).length + 0 + 1 * Str.empty.length ≤ 16777216
          have e : Str.empty.length = 0 := rfl
          omega
        · rw [join_one]
          refine k _ fun b o e => ?_
          have ba : b ≠ a := ne_of_none e na
          have e1 := S1 _ _ e
          have bp : b ≠ p := ne_of_none ((upd_ne ba).trans e1) np
          rw [upd_ne bp, upd_ne ba]
          exact e1)
      exact ⟨t, ht, hq⟩
theorem scPw : FnScope ["name", "exponent"] ["name", "exponent"] (defScope sPw) :=
  ⟨rfl, rfl, rfl, by decide +kernel, rfl, by decide +kernel, by decide +kernel⟩
theorem ok_pw {f fD : Addr} {fd fdD : FuncData} (F : Fun K "_power_text" "_power_text" sPw f fd)
    (GD : FnOk P w K mg base CX0 2 fD fdD ["number"] spDec) (kD : PySem.W.keepIn K (.ref fD) = true) (bD : Binds K fdD ["number"] []) (gD : mg "decimal_text" = some (.ref fD)) :
    FnOk P w K mg base CX0 3 f fd ["name", "exponent"] spPw := by
  refine F.ok scPw (fun vs H Q E h => ?_) (fun cdv A outer s H vs Q E hr h => ?_)
  · obtain ⟨x, n, rfl, _⟩ := h
    rfl
  · obtain ⟨x, n, rfl, hx, hB, k⟩ := h
    refine ⟨_, pss_one (ps_ret (pe_ifExp (pt_cmpR op_eq (pv 1) pe_int (nomark _)) (pv 0) (pe_op op_add_str (pe_op op_add_str (pv 0) pe_str) (pe_call GD hr rfl gD kD bD .nil pass0 (pa_cons (pv 1) pa_nil))))), ?_⟩
    refine ⟨_, rfl, rfl, _, rfl, ?_⟩
    unfold pwT at k
    by_cases h1 : n = 1
    · subst h1
      refine iteT' (decide_eq_true rfl) ?_
      refine ⟨_, rfl, ?_⟩
      have z := k H (Same.refl H)
      rw [if_pos rfl] at z
      exact z
    · refine iteN' (fun z => h1 (V.int.inj z)) ?_
      have e : ("^" : Str).length = 1 := by decide
      have hd := dec_len hB
      refine ⟨_, rfl, _, _, rfl, rfl, by rw [e, sizeLine_eq]; omega, _, rfl, n, rfl, hB, fun H' S => ⟨_, _, rfl, rfl, ?_, ?_⟩⟩
      · rw [len_tl, tl_append, List.length_append, ← len_tl, ← len_tl, e, sizeLine_eq]
        omega
      · have z := k H' S
        rw [if_neg h1] at z
        exact z
theorem scTex : FnScope ["exponents", "name"] ["exponents"] (defScope sTex) :=
  ⟨rfl, rfl, rfl, by decide +kernel, rfl, by decide +kernel, by decide +kernel⟩
theorem ok_tex {f fP : Addr} {fd fdP : FuncData} (F : Fun K "exponents_text" "exponents_text" sTex f fd) (T : Na mg) (T2 : Nt mg)
    (GP : FnOk P w K mg base CX0 3 fP fdP ["name", "exponent"] spPw) (kP : PySem.W.keepIn K (.ref fP) = true) (bP : Binds K fdP ["name", "exponent"] []) (gP : mg "_power_text" = some (.ref fP)) :
    FnOk P w K mg base CX0 4 f fd ["exponents"] spTex := by
  refine F.ok scTex (fun vs H Q E h => ?_) (fun cdv A outer s H vs Q E hr h => ?_)
  · obtain ⟨d, es, rfl, _⟩ := h
    rfl
  · obtain ⟨d, es, rfl, hd, hS, hl, hB, k⟩ := h
    have hu : (A.deeper (envOfC "exponents_text" (defScope sTex) s.heap.objs.size f cdv)).units + 1 < cLine := by have := hr.units; omega
    refine ⟨_, pss_cons (ps_if (pt_cmpR op_eq (pe_callB call_lenD (by rfl) T2.len PySem.boot_len (pa_cons (pv 0) pa_nil)) pe_int (nomark _)) (pss_one (ps_ret pe_str)) pss_nil)
      (pss_one (ps_ret (pe_join pe_str (pe_lc (own := [("name", 1)]) (g := gName 1) (tt := tYes) (te := tCall spPw [] E0 (tCons (tVar 1) (tCons (tDGet (tVar 0) (tVar 1)) tNil))) rfl scTex.nd
        (pi_list (pe_callB (call_sortedD rfl) (by rfl) T.sorted (by decide +kernel) (pa_cons (pv 0) pa_nil)))
        (blkOk_by (own := [("name", 1)]) (N := ["exponents", "name"]) (sc := defScope sTex) (by decide +kernel)) (fun _ _ _ _ _ => pg_name (i := 1) scTex.nd rfl (Or.inl rfl))
        (fun _ _ _ _ _ => pts_nil) (fun _ _ _ _ _ => by
          exact pe_call GP hr rfl gP kP bP .nil pass0 (pa_cons (pv 1) (pa_cons (pe_dget hu (pv 0) (pv 1) (fun _ _ => rfl)) pa_nil))))))), ?_⟩
    refine ⟨_, rfl, d, _, rfl, hd, rfl, _, rfl, ?_⟩
    rw [kv_len]
    by_cases h0 : es = []
    · subst h0
      refine iteT' (decide_eq_true rfl) ?_
      exact k [] List.Pairwise.nil (fun _ => rfl) H (Same.refl H)
    · have h0' : es.length ≠ 0 := fun z => h0 (List.length_eq_zero_iff.mp z)
      refine iteN' (fun z => h0' (by have := V.int.inj z; omega)) ?_
      refine ⟨⟨_, rfl⟩, _, rfl, d, _, es.map (·.1), rfl, .inl hd, ?_, by rw [List.length_map]; exact hl, fun ys r perm srt nr => ?_⟩
      · unfold kv
        rw [List.map_map, List.map_map]
        rfl
      have hys : Sd ys := sd_of srt (perm.nodup_iff.mpr hS)
      obtain ⟨ss, hss, ess⟩ : ∃ ss : Es, ss = ys.map (fun n => (n, g0 es n)) ∧ ss.map (·.1) = ys := ⟨_, rfl, by
        rw [List.map_map]
        exact List.map_id _⟩
      have hSd : SdE ss := by
        unfold SdE
        rw [ess]
        exact hys
      have hlen : ss.length = es.length := by
        have z := perm.length_eq
        rw [← ess, List.length_map, List.length_map] at z
        exact z
      have hin : ∀ q ∈ ss, es.lookup q.1 = some q.2 := fun q hq => by
        rw [hss] at hq
        obtain ⟨n, hn, rfl⟩ := List.mem_map.mp hq
        have z := look_mem.mpr (perm.mem_iff.mp hn)
        show es.lookup n = some (g0 es n)
        unfold g0
        cases e : es.lookup n with
        | none =>
          rw [e] at z
          cases z
        | some v => rfl
      have hlk : ∀ n, ss.lookup n = es.lookup n := fun n => by
        by_cases hn : n ∈ es.map (·.1)
        · have h2 : n ∈ ss.map (·.1) := by
            rw [ess]
            exact perm.mem_iff.mpr hn
          obtain ⟨q, hq, rfl⟩ := List.mem_map.mp h2
          rw [hin q hq]
          exact look_get hSd.nodup (n := q.1) (v := q.2) hq
        · rw [g0_none hn, g0_none]
          intro z
          rw [ess] at z
          exact hn (perm.mem_iff.mp z)
      have hBs : ∀ q ∈ ss, q.1.length ≤ 8 ∧ Big q.2 := fun q hq => by
        have z := hin q hq
        obtain ⟨p, hp, e⟩ := List.mem_map.mp (look_mem.mp (show (es.lookup q.1).isSome = true by rw [z]; rfl))
        have z2 := look_get hS (n := p.1) (v := p.2) hp
        rw [e, z] at z2
        have e2 := Option.some.inj z2
        rw [e2, ← e]
        exact hB p hp
      have hs0 : ss ≠ [] := fun z => h0' (by rw [← hlen, z]; rfl)
      have S3 := fresh_upd (o := .lst (ys.map V.str)) nr
      rw [← ess] at S3
      rw [← ess]
      refine ⟨r, rfl, ⟨_, SqL.of upd_same⟩, fun D hD => ?_⟩
      refine lc_it (walk_list (K := K) (a := r) (xs := (ss.map (·.1)).map V.str)) (fun i H3 => H3 D = some (.lst (((ss.take i).map fun q => pwT q.1 q.2).map V.str)) ∧
        Same (upd H r (.lst ((ss.map (·.1)).map V.str))) H3) ⟨upd_same, fresh_upd hD⟩ (fun i H3 _ h => SqL.of (h.2 _ _ upd_same)) ?_ ?_
      · rintro i x H3 H4 hi ⟨hD3, S4⟩ ⟨rfl, hx⟩
        rw [List.length_map, List.length_map] at hi
        have ex : x = .str ss[i].1 := by
          rw [List.getElem?_map, List.getElem?_map, List.getElem?_eq_getElem hi] at hx
          exact (Option.some.inj hx).symm
        subst ex
        obtain ⟨b1, b2⟩ := hBs ss[i] (List.getElem_mem hi)
        refine ⟨rfl, ?_⟩
        unfold tYes
        dsimp only
        rw [if_pos rfl]
        refine ⟨_, rfl, _, rfl, _, rfl, d, .int ss[i].2, rfl, .inl ⟨_, ky ss[i].1, .inl (S4 _ _ (S3 _ _ hd)), rfl, (by rw [val_kv, hin _ (List.getElem_mem hi)]; rfl)⟩, ss[i].1, ss[i].2, rfl, b1, b2, fun H5 S5 => ?_⟩
        refine ⟨_, S5 _ _ hD3, by rw [List.length_map, List.length_map, List.length_take, sizeLine_eq]; omega, ?_, fun b o e => ?_⟩
        · have et : ss.take (i + 1) = ss.take i ++ [ss[i]] := by
            rw [List.take_add_one, List.getElem?_eq_getElem hi]
            rfl
          rw [upd_same, et, List.map_append, List.map_append]
          rfl
        · rw [upd_ne (ne_of_none e hD)]
          exact S5 _ _ (S4 b o e)
      · rintro H3 ⟨hD3, S4⟩
        rw [List.length_map, List.length_map, List.take_length] at hD3
        refine ⟨_, D, ss.map (fun q => pwT q.1 q.2), rfl, rfl, .inl (SqL.of hD3), ?_, ?_⟩
        · have hs : ∀ l : Es, (∀ q ∈ l, q.1.length ≤ 8 ∧ Big q.2) → ((l.map fun q => pwT q.1 q.2).map (·.length)).sum ≤ l.length * 70 := fun l => by
            induction l with
            | nil => intro _; exact Nat.zero_le _
            | cons p r ih =>
              intro hb
              have z := ih fun q hq => hb q (List.mem_cons_of_mem _ hq)
              have z2 := pw_len (hb p (List.mem_cons_self ..)).1 (hb p (List.mem_cons_self ..)).2
              show (pwT p.1 p.2).length + ((r.map fun q => pwT q.1 q.2).map (·.length)).sum ≤ (r.length + 1) * 70
              omega
          have z := hs ss hBs
          have e : ("*" : Str).length = 1 := by decide
          rw [e, List.length_map]
          omega
        · have z := k ss hSd hlk H3 (S3.trans S4)
          unfold texE at z
          rw [if_neg hs0] at z
          exact z
theorem scStr : FnScope ["self"] ["self"] (defScope sStr) :=
  ⟨rfl, rfl, rfl, by decide +kernel, rfl, by decide +kernel, by decide +kernel⟩
theorem ok_str {f fT : Addr} {fd fdT : FuncData} (F : Fun K "__str__" "Size.__str__" sStr f fd) (T : Ns mg) (Tc : Ck K mg C)
    (GT : FnOk P w K mg base CX0 4 fT fdT ["exponents"] spTex) (kT : PySem.W.keepIn K (.ref fT) = true) (bT : Binds K fdT ["exponents"] []) (gT : mg "exponents_text" = some (.ref fT)) :
    FnOk P w K mg base CX0 5 f fd ["self"] (spStr C) := by
  refine F.ok scStr (fun vs H Q E h => ?_) (fun cdv A outer s H vs Q E hr h => ?_)
  · obtain ⟨p, es, rfl, _⟩ := h
    rfl
  · obtain ⟨p, es, rfl, ⟨dx, D, p1, p2, p3, p4, p5, p6⟩, hB, k⟩ := h
    refine ⟨_, pss_one (ps_ret (pe_callTy SkE.call_str_str (by rfl) T.str (by decide +kernel) (pa_cons (pe_call GT hr rfl gT kT bT .nil pass0 (pa_cons (pe_fld (pv 0) rfl) pa_nil)) pa_nil))), ?_⟩
    exact ⟨_, rfl, p, C, dx, _, _, rfl, p1, Tc.cl, Tc.nE, rfl, D, es, rfl, p2, p3.nodup, p6, fun q hq => ⟨by have := nm_len (p5 q hq); omega, hB q hq⟩, fun ss sd lk H' S => ⟨_, rfl, by rw [sd.one p3 lk]; exact k H' S⟩⟩
end
end K17
set_option maxHeartbeats 8000000
namespace K17
open PySem PySem.Spec PyProof.Rows L2 TL

/-! ### str(o), o an instance with an own __str__ -/
def rStrO (C : Addr) (sp : Sp) (E : XK) : List V → Hp → VK → Prop := fun xs H Q => ∃ (a dx : Addr) (fs : List (Str × V)), xs = [.ref a] ∧ H a = some (.ins C dx fs) ∧
  sp [.ref a] H (fun v H' => ∃ x, v = .str x ∧ Q (.str x) H') E
section
variable {X : Cx} {CX : CXT} {C f : Addr} {fd : FuncData} {ps : List Str} {sp : Sp} {E : XK} {n : Nat}
theorem call_strO (F : FnOk X.prog X.w X.K X.mg X.base CX n f fd ps sp) (hr : Room (n + 2) X.A) (hs : PySem.W.findIn X.K (.ref C) "__str__" = some (some (.ref f))) (hf : PySem.W.isFn X.K (.ref f) = true)
    (hb : Binds X.K fd ps []) (hx : Passes CX X E) : CallR X (.type "str") (rStrO C sp E) := by
  intro pins s σ H xs us Q I r h
  obtain ⟨a, dx, fs, rfl, ha, hsp⟩ := h
  obtain ⟨u, rfl, ru⟩ := vals1 r
  cases (show u = Value.ref a from ru)
  obtain ⟨mA, J, _⟩ := ins_get I.hok ha
  obtain ⟨od, J, _⟩ := J.look
  refine PySem.W.kso_call (by have := hr.units; show X.A.units + 1 + 1 < cLine; omega) I.kIn J hs hf ?_
  have e0 : Env0 X.prog X.w X.K X.mg X.base X.A.in1.in1 X.stack s H := by
    have e := I.env0
    exact ⟨e.frames, e.mod, e.bs, e.bsz, e.funs, e.frf, e.hok, e.bare⟩
  have hl := F.len _ _ _ _ hsp
  have r2 : Vals [V.ref a] [Value.ref a] := .cons rfl .nil
  refine wpAny_call (codeAny_mono (F.run X.A.in1.in1 X.stack s H ⟨[.ref a], []⟩ [.ref a] [.ref a] _ E hr.in1.in1 e0 (by
    have := hb s [.ref a] I.kIn (by simpa using hl)
    simpa using this) r2 hsp) fun r s' hq => ?_)
  cases r with
  | error e => exact hx pins σ H s e s' I hq
  | ok fl =>
    cases fl with
    | ret w =>
      obtain ⟨z, H', I', rz, x, ez, ex⟩ := I.after hq
      subst ez
      obtain ⟨t, rfl⟩ := (show ∃ t, w = Value.str x t from rz)
      exact ⟨.str x, H', I', ⟨t, rfl⟩, ex⟩
    | next => exact False.elim hq
    | brk => exact False.elim hq
    | cont => exact False.elim hq
end

/-! ### models: a function from names to numbers, and the one dict that says it -/
theorem sub_len {α : Type} [DecidableEq α] : ∀ (l m : List α), l.Nodup → (∀ x, x ∈ l → x ∈ m) → l.length ≤ m.length
  | [], m, _, _ => Nat.zero_le _
  | a :: r, m, hn, hs => by
    obtain ⟨n1, n2⟩ := List.pairwise_cons.mp hn
    have ha := hs a (List.mem_cons_self ..)
    have h1 : ∀ y, y ∈ r → y ∈ m.erase a := fun y hy => (List.mem_erase_of_ne (fun z => n1 y hy z.symm)).mpr (hs y (List.mem_cons_of_mem _ hy))
    have h2 := sub_len r (m.erase a) n2 h1
    rw [List.length_erase_of_mem ha] at h2
    have h3 : 0 < m.length := List.length_pos_of_mem ha
    show r.length + 1 ≤ m.length
    omega
/-- names that may be drawn -/
structure Pool (N : List Str) : Prop where
  nd : N.Nodup
  nm : ∀ n ∈ N, isNm n = true
  ln : N.length ≤ 10
structure Md (N : List Str) (b : Int) (f : Str → Int) (es : Es) : Prop where
  sd : SdE es
  lk : ∀ n, es.lookup n = cz (f n)
  sup : ∀ n, n ∉ N → f n = 0
  bd : ∀ n, -b ≤ f n ∧ f n ≤ b
theorem Md.g {N : List Str} {b : Int} {f : Str → Int} {es : Es} (h : Md N b f es) (n : Str) : g0 es n = f n := g0_cz (h.lk n)
theorem Md.one {N M : List Str} {b c : Int} {f g : Str → Int} {es fs : Es} (h : Md N b f es) (k : Md M c g fs) (e : ∀ n, f n = g n) : es = fs :=
  h.sd.one k.sd fun n => by rw [h.lk, k.lk, e]
theorem Md.at {N : List Str} {b : Int} {f : Str → Int} {es : Es} (h : Md N b f es) {q : Str × Int} (hq : q ∈ es) : q.2 = f q.1 ∧ f q.1 ≠ 0 := by
  have z := look_get h.sd.nodup (n := q.1) (v := q.2) hq
  rw [h.lk] at z
  unfold cz at z
  by_cases h0 : f q.1 = 0
  · rw [if_pos h0] at z
    cases z
  · rw [if_neg h0] at z
    exact ⟨(Option.some.inj z).symm, h0⟩
theorem Md.key {N : List Str} {b : Int} {f : Str → Int} {es : Es} (h : Md N b f es) {q : Str × Int} (hq : q ∈ es) : q.1 ∈ N := by
  by_cases z : q.1 ∈ N
  · exact z
  · exact absurd (h.sup _ z) (h.at hq).2
theorem Md.len {N : List Str} {b : Int} {f : Str → Int} {es : Es} (h : Md N b f es) (P : Pool N) : es.length ≤ 10 := by
  have z := sub_len (es.map (·.1)) N h.sd.nodup fun x hx => by
    obtain ⟨q, hq, e⟩ := List.mem_map.mp hx
    rw [← e]
    exact h.key hq
  rw [List.length_map] at z
  have := P.ln
  omega
theorem Md.nm {N : List Str} {b : Int} {f : Str → Int} {es : Es} (h : Md N b f es) (P : Pool N) : ∀ q ∈ es, isNm q.1 = true := fun q hq => P.nm _ (h.key hq)
theorem Md.nz {N : List Str} {b : Int} {f : Str → Int} {es : Es} (h : Md N b f es) : ∀ q ∈ es, q.2 ≠ 0 := fun q hq => by
  rw [(h.at hq).1]
  exact (h.at hq).2
theorem Md.bq {N : List Str} {b : Int} {f : Str → Int} {es : Es} (h : Md N b f es) {q : Str × Int} (hq : q ∈ es) : -b ≤ q.2 ∧ q.2 ≤ b := by
  rw [(h.at hq).1]
  exact h.bd _
theorem Md.mem {N : List Str} {b : Int} {f : Str → Int} {es : Es} (h : Md N b f es) {n : Str} (hn : n ∈ es.map (·.1)) : f n ≠ 0 := by
  obtain ⟨q, hq, e⟩ := List.mem_map.mp hn
  rw [← e]
  exact (h.at hq).2
/-- what a Size says of its model -/
theorem Md.of {C p : Addr} {N : List Str} {b : Int} {f : Str → Int} {es : Es} {H : Hp} (h : SizeAt C H p es) (lk : ∀ n, es.lookup n = cz (f n)) (sup : ∀ n, n ∉ N → f n = 0) (bd : ∀ n, -b ≤ f n ∧ f n ≤ b) : Md N b f es := by
  obtain ⟨_, _, _, _, sd, _⟩ := h
  exact ⟨sd, lk, sup, bd⟩
theorem Md.nil (N : List Str) : Md N 0 (fun _ => 0) [] := ⟨List.Pairwise.nil, fun _ => rfl, fun _ _ => rfl, fun _ => ⟨by decide, by decide⟩⟩
theorem Md.congr {N : List Str} {b c : Int} {f g : Str → Int} {es : Es} (h : Md N b f es) (e : ∀ n, f n = g n) (hb : b ≤ c) : Md N c g es :=
  ⟨h.sd, fun n => by rw [h.lk, e], fun n hn => by rw [← e]; exact h.sup n hn, fun n => by have := h.bd n; rw [← e]; omega⟩
end K17
set_option maxHeartbeats 8000000
namespace K17
open PySem PySem.Spec PyProof.Rows L2 TL StrLaws

/-! ### words of texts of Sizes -/
def isDg (c : Nat) : Bool := decide (48 ≤ c) && decide (c ≤ 57)
def lMin (l : List Nat) : Bool := l.head? == some 45
def lBare (l : List Nat) : List Nat := if lMin l = true then l.drop 1 else l
def dgVal (l : List Nat) : Int := ((NumText.digitsVal l : Nat) : Int)
theorem tl_min : tl ("-" : Str) = [45] := by decide
theorem len_min : ("-" : Str).length = 1 := by decide
theorem starts_min (x : Str) : Txt.startswith x "-" = lMin (tl x) := by
  have h := at_iff (x := x) (y := "-") (by rw [tl_min]; simp) 0
  have e : Txt.startswith x "-" = true ↔ At x "-" x.length 0 := by
    unfold Txt.startswith At
    rw [Bool.and_eq_true, decide_eq_true_eq]
  have e2 : pre (tl ("-" : Str)) ((tl x).drop 0) = lMin (tl x) := by
    rw [tl_min, List.drop_zero]
    unfold pre lMin
    cases tl x with
    | nil => rfl
    | cons c r =>
      show ([c] == [45]) = (some c == some 45)
      by_cases hc : c = 45
      · subst hc; rfl
      · have h1 : ([c] == [45]) = false := by simpa using hc
        have h2 : (some c == some 45) = false := by simpa using hc
        rw [h1, h2]
  rw [e2] at h
  exact Bool.eq_iff_iff.mpr (e.trans h)
theorem tl_remove (x : Str) : tl (Txt.removeprefix x "-") = lBare (tl x) := by
  have hs := starts_min x
  unfold Txt.startswith at hs
  rw [StrLaws.removeprefix_eq]
  unfold lBare
  rw [hs]
  by_cases h : lMin (tl x) = true
  · rw [if_pos h, if_pos h, tl_mk, len_min]
    refine List.take_of_length_le ?_
    rw [List.length_drop, len_tl] <;> exact Nat.le_refl _
  · rw [if_neg h, if_neg h]
theorem tl_cut1 (x : Str) : tl (cutS x (some 1) none) = (tl x).drop 1 := by
  unfold cutS
  rw [tl_mk, HT.sIx_none]
  have e : HT.sIx x.length 0 (some 1) = min 1 x.length := HT.sIx_nat x.length 0 1
  rw [e]
  have hl := len_tl x
  by_cases h : 1 ≤ x.length
  · rw [Nat.min_eq_left h]
    refine List.take_of_length_le ?_
    rw [List.length_drop, ← hl] <;> exact Nat.le_refl _
  · have h0 : (tl x) = [] := List.length_eq_zero_iff.mp (by omega)
    show ((tl x).drop _).take _ = _
    rw [h0]
    simp
theorem str_nil {x : Str} : x = "" ↔ tl x = [] := ⟨fun e => by rw [e]; rfl, fun e => ext_tl (by rw [e]; rfl)⟩

/-- a text of an integer is read -/
def rdD (x : Str) : Option Int :=
  if lBare (tl x) = [] ∨ ((lBare (tl x)).all isDg) = false then none else some (if lMin (tl x) = true then -dgVal (lBare (tl x)) else dgVal (lBare (tl x)))
theorem all_dg {l : List Nat} : l.all isDg = true ↔ NumText.AllDigits l := by
  unfold NumText.AllDigits
  rw [List.all_eq_true]
  unfold isDg
  constructor
  · intro h c hc
    have z := h c hc
    rw [Bool.and_eq_true, decide_eq_true_eq, decide_eq_true_eq] at z
    exact z
  · intro h c hc
    rw [Bool.and_eq_true, decide_eq_true_eq, decide_eq_true_eq]
    exact h c hc
theorem tl_dec0 {v : Int} (h : 0 ≤ v) : tl (decS v) = numL v.toNat := by
  have e : v = ((v.toNat : Nat) : Int) := by omega
  unfold decS
  rw [e, tl_num, Int.toNat_natCast]
theorem tl_decN {v : Int} (h : v < 0) : tl (decS v) = 45 :: numL (-v).toNat := by
  rw [← dec_neg h, tl_append, tl_min, tl_dec0 (by omega)]
  rfl
theorem dec_parts (v : Int) : lMin (tl (decS v)) = decide (v < 0) ∧ lBare (tl (decS v)) = numL v.natAbs := by
  by_cases h : v < 0
  · rw [tl_decN h, decide_eq_true h]
    have e : (-v).toNat = v.natAbs := by omega
    rw [e]
    exact ⟨rfl, rfl⟩
  · rw [tl_dec0 (by omega), decide_eq_false h]
    have e : v.toNat = v.natAbs := by omega
    rw [e]
    have hm : lMin (numL v.natAbs) = false := by
      unfold lMin
      cases e : numL v.natAbs with
      | nil => rfl
      | cons c r =>
        have z := numL_digits v.natAbs c (by rw [e]; exact List.mem_cons_self ..)
        show (some c == some 45) = false
        have : c ≠ 45 := by omega
        simpa using this
    refine ⟨hm, ?_⟩
    unfold lBare
    rw [hm]
    rfl
theorem rdD_dec (v : Int) : rdD (decS v) = some v := by
  obtain ⟨h1, h2⟩ := dec_parts v
  unfold rdD
  rw [h1, h2, if_neg]
  · unfold dgVal
    rw [numL_val]
    by_cases h : v < 0
    · rw [if_pos (decide_eq_true h)]
      congr 1
      omega
    · rw [if_neg (by simpa using h)]
      congr 1
      omega
  · intro z
    rcases z with z | z
    · exact numL_ne _ z
    · rw [all_dg.mpr (numL_digits _)] at z
      cases z
/-- int(x) of a text of digits -/
theorem int_rd {x : Str} {v : Int} (h : rdD x = some v) (hl : x.length ≤ 640) : intText? x = some v := by
  unfold rdD at h
  by_cases hc : lBare (tl x) = [] ∨ ((lBare (tl x)).all isDg) = false
  · rw [if_pos hc] at h
    cases h
  · rw [if_neg hc] at h
    have h1 : lBare (tl x) ≠ [] := fun z => hc (.inl z)
    have h2 : (lBare (tl x)).all isDg = true := by
      cases e : (lBare (tl x)).all isDg with
      | true => rfl
      | false => exact absurd (.inr e) hc
    have h3 := all_dg.mp h2
    have h := Option.some.inj h
    by_cases hm : lMin (tl x) = true
    · rw [if_pos hm] at h
      obtain ⟨c, r, e⟩ : ∃ c r, tl x = c :: r := by
        cases e : tl x with
        | nil =>
          rw [e] at hm
          cases hm
        | cons c r => exact ⟨c, r, rfl⟩
      have ec : c = 45 := by
        rw [e] at hm
        unfold lMin at hm
        simpa using hm
      subst ec
      have eb : lBare (tl x) = r := by
        unfold lBare
        rw [if_pos hm, e]
        rfl
      rw [eb] at h h1 h3
      rw [← h]
      exact intText_neg e h3 h1 (by omega)
    · rw [if_neg hm] at h
      have eb : lBare (tl x) = tl x := by
        unfold lBare
        rw [if_neg hm]
      rw [eb] at h h1 h3
      rw [← h]
      exact intText_digits h3 h1 (by omega)
/-- how many digits there are -/
def nDg (x : Str) : Nat := ((tl x).filter isDg).length
theorem bare_sub (l : List Nat) : (lBare l).Sublist l := by
  unfold lBare
  split
  · exact List.drop_sublist _ _
  · exact List.Sublist.refl _
theorem rdD_len {x : Str} {v : Int} (h : rdD x = some v) : (lBare (tl x)).length ≤ nDg x := by
  unfold rdD at h
  by_cases hc : lBare (tl x) = [] ∨ ((lBare (tl x)).all isDg) = false
  · rw [if_pos hc] at h
    cases h
  · have h2 : (lBare (tl x)).all isDg = true := by
      cases e : (lBare (tl x)).all isDg with
      | true => rfl
      | false => exact absurd (.inr e) hc
    have z := (List.Sublist.filter isDg (bare_sub (tl x))).length_le
    rw [List.filter_eq_self.mpr fun a ha => List.all_eq_true.mp h2 a ha] at z
    exact z
theorem dv_lt : ∀ (l : List Nat) (a : Nat), NumText.AllDigits l → l.foldl (fun acc c => acc * 10 + (c - 48)) a < (a + 1) * 10 ^ l.length
  | [], a, _ => by
    show a < (a + 1) * 1
    omega
  | c :: r, a, h => by
    have hc := h.head
    have ih := dv_lt r (a * 10 + (c - 48)) h.tail
    rw [List.foldl_cons]
    refine Nat.lt_of_lt_of_le ih ?_
    rw [List.length_cons, Nat.pow_succ, Nat.mul_comm (10 ^ r.length) 10, ← Nat.mul_assoc]
    exact Nat.mul_le_mul_right _ (by omega)
theorem rdD_big {x : Str} {v : Int} (h : rdD x = some v) (hd : nDg x ≤ 59) : Big v := by
  have hl := rdD_len h
  unfold rdD at h
  by_cases hc : lBare (tl x) = [] ∨ ((lBare (tl x)).all isDg) = false
  · rw [if_pos hc] at h
    cases h
  · rw [if_neg hc] at h
    have h2 : (lBare (tl x)).all isDg = true := by
      cases e : (lBare (tl x)).all isDg with
      | true => rfl
      | false => exact absurd (.inr e) hc
    have z := dv_lt (lBare (tl x)) 0 (all_dg.mp h2)
    have z2 : NumText.digitsVal (lBare (tl x)) < 10 ^ 60 := by
      refine Nat.lt_of_lt_of_le z ?_
      rw [Nat.zero_add, Nat.one_mul]
      exact Nat.pow_le_pow_right (by decide) (by omega)
    have z3 : dgVal (lBare (tl x)) < 10 ^ 60 := by
      unfold dgVal
      exact_mod_cast z2
    have z4 : 0 ≤ dgVal (lBare (tl x)) := by
      unfold dgVal
      omega
    have h := Option.some.inj h
    unfold Big
    generalize (10 : Int) ^ 60 = T at *
    split at h <;> omega
end K17
set_option maxHeartbeats 8000000
namespace K17
open PySem PySem.Spec PyProof.Rows L2 TL

/-! ### texts of Sizes: what is right -/
theorem abc_tl : tl abc = (List.range 26).map (· + 97) := by decide
theorem nm_sign {n : Str} (h : isNm n = true) {c : Nat} (hc : c ∈ tl n) : 97 ≤ c ∧ c ≤ 122 := by
  unfold isNm at h
  rw [Bool.and_eq_true, Bool.and_eq_true] at h
  have z := of_decide_eq_true (List.all_eq_true.mp h.2.2 c hc)
  have z2 : c ∈ tl abc := z
  rw [abc_tl] at z2
  obtain ⟨k, hk, e⟩ := List.mem_map.mp z2
  have := List.mem_range.mp hk
  omega
theorem nm_free {n : Str} (h : isNm n = true) {c : Nat} (hc : c < 97) : c ∉ tl n := fun z => by
  have := (nm_sign h z).1
  omega
theorem nm_ne {n : Str} (h : isNm n = true) : tl n ≠ [] := fun z => by
  unfold isNm at h
  rw [Bool.and_eq_true] at h
  have := of_decide_eq_true h.1
  rw [len_tl, z] at this
  exact absurd this (by decide)
theorem tl_hat : tl ("^" : Str) = [94] := by decide
theorem tl_star : tl ("*" : Str) = [42] := by decide
theorem dec_free {v : Int} {c : Nat} (hc : c = 94 ∨ c = 42) : c ∉ tl (decS v) := fun z => by
  by_cases h : v < 0
  · rw [tl_decN h] at z
    rcases List.mem_cons.mp z with e | z
    · omega
    · exact numL_free (by omega) z
  · rw [tl_dec0 (by omega)] at z
    exact numL_free (by omega) z
theorem pw_tl {n : Str} {v : Int} (h : v ≠ 1) : pwT n v = n ++ ("^" : Str) ++ decS v := if_neg h
theorem pw_free {n : Str} {v : Int} (h : isNm n = true) : 42 ∉ tl (pwT n v) := fun z => by
  by_cases hv : v = 1
  · unfold pwT at z
    rw [if_pos hv] at z
    exact nm_free h (by decide) z
  · rw [pw_tl hv, tl_append, tl_append, tl_hat] at z
    rcases List.mem_append.mp z with z | z
    · rcases List.mem_append.mp z with z | z
      · exact nm_free h (by decide) z
      · exact absurd (List.mem_singleton.mp z) (by decide)
    · exact dec_free (.inr rfl) z

/-- the program's reading of a word -/
def wName (w : Str) : Str := (Txt.partition w "^").1
def wExp (w : Str) : Option Int := if (Txt.partition w "^").2.1 = "" then some 1 else rdD (Txt.partition w "^").2.2
def rdW (w : Str) : Option (Str × Int) := match wExp w with
  | none => none
  | some v => if isNm (wName w) = true ∧ v ≠ 0 then some (wName w, v) else none
theorem rdW_pw {n : Str} {v : Int} (hn : isNm n = true) (hv : v ≠ 0) : rdW (pwT n v) = some (n, v) := by
  by_cases h1 : v = 1
  · subst h1
    have e : pwT n 1 = n := if_pos rfl
    have p := partition_none (y := "^") tl_hat (nm_free hn (c := 94) (by decide))
    unfold rdW wExp wName
    rw [e, p]
    show (match (if Str.empty = ("" : Str) then some (1 : Int) else rdD Str.empty) with | none => none | some v => if isNm n = true ∧ v ≠ 0 then some (n, v) else none) = _
    rw [if_pos (by rfl)]
    exact if_pos ⟨hn, by decide⟩
  · have p := partition_app (y := "^") (b := decS v) tl_hat (nm_free hn (c := 94) (by decide))
    unfold rdW wExp wName
    rw [pw_tl h1, p]
    show (match (if ("^" : Str) = ("" : Str) then some (1 : Int) else rdD (decS v)) with | none => none | some v => if isNm n = true ∧ v ≠ 0 then some (n, v) else none) = _
    rw [if_neg (by decide), rdD_dec]
    exact if_pos ⟨hn, hv⟩
theorem rdW_ok {w : Str} {p : Str × Int} (h : rdW w = some p) : isNm p.1 = true ∧ p.2 ≠ 0 ∧ wExp w = some p.2 ∧ p.1 = wName w := by
  unfold rdW at h
  cases e : wExp w with
  | none =>
    rw [e] at h
    cases h
  | some v =>
    rw [e] at h
    by_cases hc : isNm (wName w) = true ∧ v ≠ 0
    · have h : (if isNm (wName w) = true ∧ v ≠ 0 then some (wName w, v) else none) = some p := h
      rw [if_pos hc] at h
      cases h
      exact ⟨hc.1, hc.2, rfl, rfl⟩
    · have h : (if isNm (wName w) = true ∧ v ≠ 0 then some (wName w, v) else none) = some p := h
      rw [if_neg hc] at h
      cases h

/-- the law's reading of a word -/
def lwW (w : Str) : Option (Str × Int) :=
  if 2 < (Txt.split w "^").length then none else
  if isNm ((Txt.split w "^").headD "") = true then
    (rdD (if (Txt.split w "^").length = 2 then (Txt.split w "^").getD 1 "" else "1")).map fun v => ((Txt.split w "^").headD "", v)
  else none
theorem kind_hat : ("^" : Str).cps.all (· < 256) = true := by decide +kernel
theorem join_two (y a b : Str) : Txt.join y [a, b] = a ++ y ++ b := ext_tl (by
  rw [join_eq, tl_join, tl_append, tl_append]
  show tl a ++ (tl y ++ tl b) = _
  rw [List.append_assoc])
theorem split_pw {n : Str} {v : Int} (hn : isNm n = true) : Txt.split (pwT n v) "^" = if v = 1 then [n] else [n, decS v] := by
  by_cases h1 : v = 1
  · rw [if_pos h1]
    have e : pwT n v = Txt.join "^" [n] := by
      rw [join_one]
      exact if_pos h1
    rw [e]
    exact split_join tl_hat kind_hat (by simp) fun p hp => by
      rw [List.mem_singleton.mp hp]
      exact nm_free hn (by decide)
  · rw [if_neg h1, pw_tl h1, ← join_two]
    exact split_join tl_hat kind_hat (by simp) fun p hp => by
      rcases List.mem_cons.mp hp with e | hp
      · rw [e]
        exact nm_free hn (by decide)
      · rw [List.mem_singleton.mp hp]
        exact dec_free (.inl rfl)
theorem rdD_one : rdD ("1" : Str) = some 1 := by decide
theorem lwW_pw {n : Str} {v : Int} (hn : isNm n = true) : lwW (pwT n v) = some (n, v) := by
  unfold lwW
  rw [split_pw hn]
  by_cases h1 : v = 1
  · rw [if_pos h1, if_neg (by show ¬ 2 < 1; decide)]
    show (if isNm n = true then (rdD (if (1 : Nat) = 2 then _ else "1")).map _ else none) = _
    rw [if_pos hn, if_neg (by decide), rdD_one, h1]
    rfl
  · rw [if_neg h1, if_neg (by show ¬ 2 < 2; decide)]
    show (if isNm n = true then (rdD (if (2 : Nat) = 2 then decS v else "1")).map _ else none) = _
    rw [if_pos hn, if_pos rfl, rdD_dec]
    rfl

/-- a text of a Size -/
structure Val (x : Str) (es : Es) : Prop where
  tx : texE es = x
  sd : SdE es
  nm : ∀ q ∈ es, isNm q.1 = true
  nz : ∀ q ∈ es, q.2 ≠ 0
theorem kind_star : ("*" : Str).cps.all (· < 256) = true := by decide +kernel
theorem Val.words {x : Str} {es : Es} (h : Val x es) (he : es ≠ []) : Txt.split x "*" = es.map fun q => pwT q.1 q.2 := by
  have z := h.tx
  unfold texE at z
  rw [if_neg he] at z
  rw [← z]
  exact split_join tl_star kind_star (by simpa using he) fun p hp => by
    obtain ⟨q, hq, rfl⟩ := List.mem_map.mp hp
    exact pw_free (h.nm q hq)
theorem Val.one {es : Es} (h : Val "1" es) : es = [] := by
  by_cases he : es = []
  · exact he
  · have z := h.words he
    have z2 : (Txt.split ("1" : Str) "*").map tl = [[49]] := by
      rw [split_spl _ _ (by rw [tl_star]; simp) (kind_ok kind_star), tl_star]
      rfl
    rw [z, List.map_map] at z2
    cases es with
    | nil => rfl
    | cons q r =>
      have hd : tl (pwT q.1 q.2) = [49] := (List.cons.inj z2).1
      have hn := h.nm q (List.mem_cons_self ..)
      obtain ⟨c, t, e⟩ : ∃ c t, tl q.1 = c :: t := by
        cases e : tl q.1 with
        | nil => exact absurd e (nm_ne hn)
        | cons c t => exact ⟨c, t, rfl⟩
      have hc := (nm_sign hn (by rw [e]; exact List.mem_cons_self ..)).1
      by_cases h1 : q.2 = 1
      · unfold pwT at hd
        rw [if_pos h1, e] at hd
        have := (List.cons.inj hd).1
        omega
      · rw [pw_tl h1, tl_append, tl_append, e] at hd
        have := (List.cons.inj hd).1
        omega
theorem val_one : Val "1" [] := ⟨rfl, List.Pairwise.nil, (fun q h => nomatch h), (fun q h => nomatch h)⟩
theorem Val.ne {x : Str} {es : Es} (h : Val x es) (hx : x ≠ "1") : es ≠ [] := fun z => by
  subst z
  exact hx h.tx.symm

/-- words read one by one into a dict -/
def rdF (f : Str → Option (Str × Int)) (t : Es) : List Str → Option Es
  | [] => some t
  | w :: r => match f w with
    | none => none
    | some p => rdF f (putE t p.1 p.2) r
theorem rdF_snoc (f : Str → Option (Str × Int)) (w : Str) : ∀ (l : List Str) (t t' : Es), rdF f t l = some t' → rdF f t (l ++ [w]) = (f w).map fun p => putE t' p.1 p.2
  | [], t, t', h => by
    cases h
    show (match f w with | none => none | some p => some (putE t p.1 p.2)) = _
    cases f w <;> rfl
  | a :: r, t, t', h => by
    show (match f a with | none => none | some p => rdF f (putE t p.1 p.2) (r ++ [w])) = _
    have h : (match f a with | none => none | some p => rdF f (putE t p.1 p.2) r) = some t' := h
    cases e : f a with
    | none =>
      rw [e] at h
      cases h
    | some p =>
      rw [e] at h
      exact rdF_snoc f w r _ _ h
theorem put_fresh {t : Es} {n : Str} {v : Int} (h : n ∉ t.map (·.1)) : putE t n v = t ++ [(n, v)] := by
  unfold putE
  rw [if_neg]
  intro z
  obtain ⟨p, hp, e⟩ := List.any_eq_true.mp z
  exact h (List.mem_map.mpr ⟨p, hp, of_decide_eq_true e⟩)
theorem rdF_pw {f : Str → Option (Str × Int)} : ∀ (r t : Es), (∀ q ∈ r, f (pwT q.1 q.2) = some q) → ((t ++ r).map (·.1)).Nodup → rdF f t (r.map fun q : Str × Int => pwT q.1 q.2) = some (t ++ r)
  | [], t, _, _ => by
    rw [List.append_nil]
    rfl
  | q :: r, t, hf, hn => by
    show (match f (pwT q.1 q.2) with | none => none | some p => rdF f (putE t p.1 p.2) (r.map fun q : Str × Int => pwT q.1 q.2)) = _
    rw [hf q (List.mem_cons_self ..)]
    have e : t ++ q :: r = (t ++ [q]) ++ r := by rw [List.append_assoc]; rfl
    have hq : q.1 ∉ t.map (·.1) := fun z => by
      rw [List.map_append, List.nodup_append] at hn
      exact hn.2.2 q.1 z q.1 (by rw [List.map_cons]; exact List.mem_cons_self ..) rfl
    show rdF f (putE t q.1 q.2) (r.map fun q => pwT q.1 q.2) = _
    rw [put_fresh hq, e]
    rw [e] at hn
    exact rdF_pw r (t ++ [q]) (fun p hp => hf p (List.mem_cons_of_mem _ hp)) hn
theorem Val.rd {x : Str} {es : Es} (h : Val x es) (hx : x ≠ "1") : rdF rdW [] (Txt.split x "*") = some es ∧ ∀ w ∈ Txt.split x "*", rdW w ≠ none := by
  have hw := h.words (h.ne hx)
  rw [hw]
  refine ⟨rdF_pw es [] (fun q hq => rdW_pw (h.nm q hq) (h.nz q hq)) h.sd.nodup, fun w hw => ?_⟩
  obtain ⟨q, hq, rfl⟩ := List.mem_map.mp hw
  rw [rdW_pw (h.nm q hq) (h.nz q hq)]
  exact fun z => nomatch z
theorem Val.lw {x : Str} {es : Es} (h : Val x es) (hx : x ≠ "1") : rdF lwW [] (Txt.split x "*") = some es ∧ ∀ w ∈ Txt.split x "*", lwW w ≠ none := by
  have hw := h.words (h.ne hx)
  rw [hw]
  refine ⟨rdF_pw es [] (fun q hq => lwW_pw (h.nm q hq)) h.sd.nodup, fun w hw => ?_⟩
  obtain ⟨q, hq, rfl⟩ := List.mem_map.mp hw
  rw [lwW_pw (h.nm q hq)]
  exact fun z => nomatch z
/-- what the words that are read give -/
structure Red (B : Nat) (t : Es) : Prop where
  nd : (t.map (·.1)).Nodup
  nm : ∀ q ∈ t, isNm q.1 = true
  bg : ∀ q ∈ t, Big q.2
  ln : t.length ≤ B
theorem Red.nil (B : Nat) : Red B [] := ⟨List.Pairwise.nil, (fun q h => nomatch h), (fun q h => nomatch h), Nat.zero_le _⟩
theorem mem_putE {t : Es} {n : Str} {v : Int} {q : Str × Int} (h : q ∈ putE t n v) : q ∈ t ∨ q = (n, v) := by
  unfold putE at h
  split at h
  · obtain ⟨p, hp, e⟩ := List.mem_map.mp h
    split at e
    · rename_i hn
      right
      rw [← e, hn]
    · left
      rw [← e]
      exact hp
  · rcases List.mem_append.mp h with h | h
    · exact .inl h
    · exact .inr (List.mem_singleton.mp h)
theorem Red.put {B : Nat} {t : Es} (h : Red B t) {n : Str} {v : Int} (hn : isNm n = true) (hv : Big v) : Red (B + 1) (putE t n v) := by
  refine ⟨nod_put h.nd n v, fun q hq => ?_, fun q hq => ?_, ?_⟩
  · rcases mem_putE hq with z | z
    · exact h.nm q z
    · rw [z]; exact hn
  · rcases mem_putE hq with z | z
    · exact h.bg q z
    · rw [z]; exact hv
  · have := len_put t n v
    have := h.ln
    omega
theorem nz_put {t : Es} (h : ∀ q ∈ t, q.2 ≠ 0) {n : Str} {v : Int} (hv : v ≠ 0) : ∀ q ∈ putE t n v, q.2 ≠ 0 := fun q hq => by
  rcases mem_putE hq with z | z
  · exact h q z
  · rw [z]; exact hv
/-- read words, put in sequence -/
theorem memG {t ss : Es} (h1 : (t.map (·.1)).Nodup) (h2 : (ss.map (·.1)).Nodup) (lk : ∀ n, ss.lookup n = t.lookup n) {q : Str × Int} (hq : q ∈ ss) : q ∈ t := by
  have z := look_get h2 (n := q.1) (v := q.2) hq
  rw [lk] at z
  obtain ⟨p, hp, e⟩ := List.mem_map.mp (look_mem.mp (show (t.lookup q.1).isSome = true by rw [z]; rfl))
  have z2 := look_get h1 (n := p.1) (v := p.2) hp
  rw [e, z] at z2
  have e2 : q = p := by
    have := Option.some.inj z2
    exact Prod.ext e.symm this
  rw [e2]
  exact hp
theorem rd_good {x : Str} {t ss : Es} {B : Nat} (hx : x ≠ "1") (hr : rdF rdW [] (Txt.split x "*") = some t) (hR : Red B t) (hz : ∀ q ∈ t, q.2 ≠ 0) (sd : SdE ss) (lk : ∀ n, ss.lookup n = t.lookup n) (e : texE ss = x) : Val x t := by
  have hv : Val x ss := ⟨e, sd, fun q hq => hR.nm q (memG hR.nd sd.nodup lk hq), fun q hq => hz q (memG hR.nd sd.nodup lk hq)⟩
  have z := (hv.rd hx).1
  rw [hr] at z
  rw [Option.some.inj z]
  exact hv
theorem rd_bad {x : Str} {t ss : Es} (hx : x ≠ "1") (hr : rdF rdW [] (Txt.split x "*") = some t) (sd : SdE ss) (lk : ∀ n, ss.lookup n = t.lookup n) (e : texE ss ≠ x) (es : Es) : ¬ Val x es := fun h => by
  have z := (h.rd hx).1
  rw [hr] at z
  have z2 := Option.some.inj z
  subst z2
  have e2 : ss = t := sd.one h.sd lk
  rw [e2] at e
  exact e h.tx
theorem Val.uniq {x : Str} {es fs : Es} (h : Val x es) (g : Val x fs) : es = fs := by
  by_cases hx : x = "1"
  · subst hx
    rw [h.one, g.one]
  · have z := (h.rd hx).1
    rw [(g.rd hx).1] at z
    exact (Option.some.inj z).symm
end K17
set_option maxHeartbeats 8000000
namespace K17
open PySem PySem.Spec PyProof.Rows L2 TL

/-! ### read_decimal -/
abbrev sRdD : Stmt := top 49
def oV : Option Int → V
  | none => .non
  | some v => .int v
def dgT : Str := "0123456789"
theorem dg_tl : tl dgT = (List.range 10).map (· + 48) := by decide
theorem in_dg (c : Nat) : decide (c ∈ dgT.cps.toList) = isDg c := by
  have e : (c ∈ dgT.cps.toList) ↔ 48 ≤ c ∧ c ≤ 57 := by
    rw [show dgT.cps.toList = tl dgT from rfl, dg_tl, List.mem_map]
    constructor
    · rintro ⟨k, hk, e⟩
      have := List.mem_range.mp hk
      omega
    · rintro ⟨h1, h2⟩
      exact ⟨c - 48, List.mem_range.mpr (by omega), by omega⟩
  unfold isDg
  rw [← Bool.decide_and]
  exact decide_eq_decide.mpr e
def spRdD : Sp := fun vs H Q _ => ∃ x : Str, vs = [.str x] ∧ x.length ≤ 100000 ∧ nDg x ≤ 59 ∧ ∀ H', Same H H' → Q (oV (rdD x)) H'
def rNin : R2 := fun x y H Q => ∃ (c : Nat) (z : Str), x = .str ⟨#[c]⟩ ∧ y = .str z ∧ Q (.bl (!decide (c ∈ z.cps.toList))) H
def NRd : List Str := ["text", "digits", "digit", "number"]
structure Nd (mg : Str → Option Value) : Prop where
  any : mg "any" = none
  int : mg "int" = none
  dg : ∃ t, mg "DIGITS" = some (.str dgT t)
def vFold (l : List Nat) : Int := l.foldl (fun (t : Int) (c : Nat) => t * 10 + ((c : Int) - 48)) 0
theorem vFold_snoc (l : List Nat) (c : Nat) : vFold (l ++ [c]) = vFold l * 10 + ((c : Int) - 48) := by
  unfold vFold
  rw [List.foldl_append]
  rfl
theorem vFold_val {l : List Nat} (h : NumText.AllDigits l) : vFold l = dgVal l := fold_digits l 0 h
section
variable {P : Program} {w : World} {K : PySem.W.Frag} {mg : Str → Option Value} {base : Heap}
theorem scRdD : FnScope NRd ["text"] (defScope sRdD) :=
  ⟨rfl, rfl, rfl, by decide +kernel, rfl, by decide +kernel, by decide +kernel⟩
theorem ok_rdD {f : Addr} {fd : FuncData} (F : Fun K "read_decimal" "read_decimal" sRdD f fd) (T : Nd mg) :
    FnOk P w K mg base CX0 1 f fd ["text"] spRdD := by
  obtain ⟨td, gd⟩ := T.dg
  refine F.ok scRdD (fun vs H Q E h => ?_) (fun cdv A outer s H vs Q E hr h => ?_)
  · obtain ⟨x, rfl, _⟩ := h
    rfl
  · obtain ⟨x, rfl, hx, hn, k⟩ := h
    refine ⟨_, pss_cons (ps_set (i := 1) scRdD.nd rfl (.inl rfl) (pe_m1 PySem.F.slot_str_removeprefix PySem.F.type_str_removeprefix mt_removeprefix (pv 0) pe_str))
      (pss_cons (ps_if (PW.pt (pw_or (pt_cmpR op_eq (pv 1) pe_str (nomark _)) (pw_or1 (pt_val (pe_callB (cr_any rfl) (by rfl) T.any (by decide +kernel) (pa_cons
          (pe_lc (own := [("digit", 2)]) (g := gName 2) (tt := tYes) (te := tOp rNin (tVar 2) (tC (.str dgT))) rfl scRdD.nd (pi_str (pv 1))
            (blkOk_by (own := [("digit", 2)]) (N := NRd) (sc := defScope sRdD) (by decide +kernel)) (fun _ _ _ _ _ => pg_name (i := 2) scRdD.nd rfl (Or.inl rfl))
            (fun _ _ _ _ _ => pts_nil) (fun _ _ _ _ _ => by exact pe_cmpR op_notIn_sign (pv 2) (pe_glob (v := .str dgT) (by rfl) gd ⟨td, rfl⟩) rfl)) pa_nil)))))) (pss_one (ps_ret pe_non)) pss_nil)
      (pss_cons (ps_set (i := 3) scRdD.nd rfl (.inl rfl) pe_int)
      (pss_cons (ps_for PassesOwn.never rfl (pi_str (pv 1)) (pg_name (i := 2) scRdD.nd rfl (Or.inl rfl))
        (pss_one (ps_set (i := 3) scRdD.nd rfl (.inl rfl) (pe_op op_add (pe_op op_mul (pv 3) pe_int) (pe_callTy call_int_str (by rfl) T.int (by decide +kernel) (pa_cons (pv 2) pa_nil))))))
      (pss_one (ps_ret (pe_ifExp (pt_val (pe_m1 PySem.F.slot_str_startswith PySem.F.type_str_startswith mt_startswith (pv 0) pe_str)) (pe_un un_neg (pv 3)) (pv 3))))))), ?_⟩
    refine ⟨_, rfl, ⟨_, rfl⟩, x, "-", rfl, rfl, by rw [sizeLine_eq]; omega, ?_⟩
    have tD := tl_remove x
    generalize Txt.removeprefix x "-" = d at tD
    refine ⟨_, rfl, rfl, _, rfl, ?_⟩
    by_cases h0 : d = ""
    · refine iteT' (decide_eq_true (congrArg V.str h0)) ?_
      have e : rdD x = none := by
        unfold rdD
        rw [if_pos (.inl (by rw [← tD, h0]; rfl))]
      have z := k H (Same.refl H)
      rw [e] at z
      exact z
    refine iteN' (fun z => h0 (V.str.inj z)) ?_
    have h0' : lBare (tl x) ≠ [] := fun z => h0 (str_nil.mpr (tD.trans z))
    have hdl : d.length ≤ 100000 := by
      have z := (bare_sub (tl x)).length_le
      rw [← tD, ← len_tl, ← len_tl] at z
      omega
    refine ⟨_, rfl, d, rfl, fun D hD => ?_⟩
    refine lc_it walk_str (fun i H2 => H2 D = some (.lst ((((tl d).take i).map fun c => !isDg c).map V.bl)) ∧ Same H H2)
      ⟨upd_same, fresh_upd hD⟩ (fun _ _ _ _ => trivial) ?_ ?_
    · rintro i v H2 H3 hi ⟨hD2, S2⟩ ⟨rfl, c, hc, rfl⟩
      refine ⟨rfl, ?_⟩
      unfold tYes
      dsimp only
      rw [if_pos rfl]
      refine ⟨_, rfl, c, dgT, rfl, rfl, _, hD2, ?_, ?_, fun b o e => ?_⟩
      · rw [List.length_map, List.length_map, List.length_take, sizeLine_eq, ← len_tl]
        have hm := Nat.min_le_right i d.length
        omega
      · have hc2 : (tl d)[i]? = some c := by rw [Array.getElem?_toList]; exact hc
        rw [upd_same, List.take_add_one, hc2, in_dg]
        simp
      · rw [upd_ne (ne_of_none e hD)]
        exact S2 b o e
    rintro H2 ⟨hD2, S2⟩
    have el : (tl d).take d.cps.size = tl d := List.take_of_length_le (by rw [← len_tl]; exact Nat.le_refl _)
    rw [el] at hD2
    refine ⟨D, _, rfl, SqL.of hD2, ?_⟩
    have ea : ((tl d).map fun c => !isDg c).any id = !((lBare (tl x)).all isDg) := by
      rw [tD, List.any_map]
      induction lBare (tl x) with
      | nil => rfl
      | cons c r ih =>
        rw [List.any_cons, List.all_cons, ih, Bool.not_and]
        rfl
    rw [ea]
    refine ⟨_, rfl, ?_⟩
    by_cases h2 : (lBare (tl x)).all isDg = true
    · rw [h2]
      refine iteF ?_
      have er : rdD x = some (if lMin (tl x) = true then -dgVal (lBare (tl x)) else dgVal (lBare (tl x))) := by
        unfold rdD
        rw [if_neg]
        rintro (z | z)
        · exact h0' z
        · rw [h2] at z
          cases z
      have h3 := all_dg.mp h2
      rw [← tD] at h3
      refine ⟨_, rfl, d, rfl, for_it walk_str (fun i σ H3 => (∃ o2, σ = [some (.str x), some (.str d), o2, some (.int (vFold ((tl d).take i)))]) ∧ Same H H3) ⟨⟨none, rfl⟩, S2⟩ (fun _ _ _ _ _ => trivial) ?_ ?_⟩
      · rintro i v σ H3 H4 hi ⟨⟨o2, rfl⟩, S3⟩ ⟨rfl, c, hc, rfl⟩
        have hc2 : (tl d)[i]? = some c := by rw [Array.getElem?_toList]; exact hc
        have hcd := h3 c (List.mem_of_getElem? hc2)
        have ei : intText? (⟨#[c]⟩ : Str) = some ((c : Int) - 48) := by
          have z := intText_digits (x := (⟨#[c]⟩ : Str)) (fun a ha => by
            have e : a = c := List.mem_singleton.mp ha
            rw [e]
            exact hcd) (fun z => nomatch z) (by show 1 ≤ 4300; decide)
          rw [z]
          show some ((0 * 10 + (c - 48) : Nat) : Int) = _
          congr 1
          omega
        refine ⟨_, rfl, _, _, rfl, rfl, .inr ⟨by decide, by decide⟩, _, rfl, _, _, rfl, ei, by show 1 ≤ 640; decide, _, _, rfl, rfl, ⟨some (.str ⟨#[c]⟩), ?_⟩, S3⟩
        rw [List.take_add_one, hc2]
        show _ = [_, _, _, some (V.int (vFold (List.take i (tl d) ++ [c])))]
        rw [vFold_snoc]
        rfl
      · rintro σ H3 ⟨⟨o2, rfl⟩, S3⟩
        rw [el]
        refine ⟨_, rfl, ⟨_, rfl⟩, _, _, rfl, rfl, ?_⟩
        have z := k H3 S3
        rw [er] at z
        rw [starts_min, vFold_val h3, tD]
        by_cases hm : lMin (tl x) = true
        · rw [if_pos hm] at z
          rw [hm]
          refine ⟨_, rfl, iteT' rfl ?_⟩
          exact ⟨_, rfl, _, rfl, z⟩
        · rw [if_neg hm] at z
          refine ⟨_, rfl, ?_⟩
          have hm2 : lMin (tl x) = false := by simpa using hm
          rw [hm2]
          exact iteF ⟨_, rfl, z⟩
    · have h2' : (lBare (tl x)).all isDg = false := by simpa using h2
      rw [h2']
      refine iteT' rfl ?_
      have e : rdD x = none := by
        unfold rdD
        rw [if_pos (.inr h2')]
      have z := k H2 S2
      rw [e] at z
      exact z
end
end K17
set_option maxHeartbeats 8000000
namespace K17
open PySem PySem.Spec PyProof.Rows L2 TL

/-! ### repr of Sizes -/
def sgn (c : Nat) : Bool := (decide (97 ≤ c) && decide (c ≤ 122)) || (isDg c || (c == 94 || (c == 42 || c == 45)))
theorem sgn_lt {c : Nat} (h : sgn c = true) : c < 123 := by
  unfold sgn isDg at h
  simp only [Bool.or_eq_true, Bool.and_eq_true, decide_eq_true_eq, beq_iff_eq] at h
  omega
theorem sgn_all : ((List.range 123).all fun c => !sgn c || (Unicode.isPrintable c && (c != 39 && (c != 92 && (c != 10 && (c != 13 && c != 9)))))) = true := by decide +kernel
theorem sgn_char {c : Nat} (h : sgn c = true) : Builtin.Str.reprChar 39 c = [c] ∧ c ≠ 39 := by
  have z := List.all_eq_true.mp sgn_all c (List.mem_range.mpr (sgn_lt h))
  rw [h] at z
  simp only [Bool.not_true, Bool.false_or, Bool.and_eq_true, bne_iff_ne, ne_eq] at z
  obtain ⟨z1, z2, z3, z4, z5, z6⟩ := z
  refine ⟨?_, z2⟩
  unfold Builtin.Str.reprChar
  have e1 : (c == 39 || c == 92) = false := by simp [z2, z3]
  have e2 : (c == 10) = false := by simpa using z4
  have e3 : (c == 13) = false := by simpa using z5
  have e4 : (c == 9) = false := by simpa using z6
  simp only [e1, e2, e3, e4, z1]
  rfl
theorem repr_fold : ∀ (l : List Nat) (acc : Array Nat), (∀ c ∈ l, sgn c = true) → (l.foldl (fun out c => out ++ (Builtin.Str.reprChar 39 c).toArray) acc).toList = acc.toList ++ l
  | [], acc, _ => by simp
  | c :: r, acc, h => by
    rw [List.foldl_cons, repr_fold r _ fun a ha => h a (List.mem_cons_of_mem _ ha), (sgn_char (h c (List.mem_cons_self ..))).1]
    simp
theorem repr_plain {x : Str} (h : ∀ c ∈ tl x, sgn c = true) : tl (reprText x) = 39 :: (tl x ++ [39]) := by
  have hq : reprQuote x = 39 := by
    unfold reprQuote
    rw [if_neg]
    intro z
    rw [Bool.and_eq_true] at z
    have z1 : 39 ∈ tl x := by
      have := z.1
      rw [Array.contains_iff_mem] at this
      exact Array.mem_toList_iff.mpr this
    exact (sgn_char (h 39 z1)).2 rfl
  unfold reprText
  show tl ⟨(x.cps.foldl (fun out c => out ++ (Builtin.Str.reprChar (reprQuote x) c).toArray) #[reprQuote x]).push (reprQuote x)⟩ = _
  rw [hq, ← Array.foldl_toList]
  show ((x.cps.toList.foldl (fun out c => out ++ (Builtin.Str.reprChar 39 c).toArray) #[39]).push 39).toList = _
  rw [Array.toList_push, repr_fold _ _ h]
  rfl
theorem mem_joinL {S : List Nat} {c : Nat} : ∀ {ps : List (List Nat)}, c ∈ joinL S ps → c ∈ S ∨ ∃ p ∈ ps, c ∈ p
  | [], h => by cases h
  | [p], h => .inr ⟨p, List.mem_cons_self .., by
      have e : joinL S [p] = p := by first | rfl | simp [joinL]
      rwa [e] at h⟩
  | p :: q :: r, h => by
    have e : joinL S (p :: q :: r) = p ++ (S ++ joinL S (q :: r)) := by first | rfl | simp [joinL]
    rw [e] at h
    rcases List.mem_append.mp h with h | h
    · exact .inr ⟨p, List.mem_cons_self .., h⟩
    · rcases List.mem_append.mp h with h | h
      · exact .inl h
      · rcases mem_joinL h with h | ⟨a, ha, h⟩
        · exact .inl h
        · exact .inr ⟨a, List.mem_cons_of_mem _ ha, h⟩
theorem sgn_nm {n : Str} (h : isNm n = true) {c : Nat} (hc : c ∈ tl n) : sgn c = true := by
  have := nm_sign h hc
  unfold sgn
  rw [decide_eq_true this.1, decide_eq_true this.2]
  rfl
theorem sgn_num {n c : Nat} (hc : c ∈ numL n) : sgn c = true := by
  have z : isDg c = true := by
    have := numL_digits n c hc
    unfold isDg
    rw [decide_eq_true this.1, decide_eq_true this.2]
    rfl
  unfold sgn
  rw [z]
  simp
theorem sgn_dec {v : Int} {c : Nat} (hc : c ∈ tl (decS v)) : sgn c = true := by
  by_cases h : v < 0
  · rw [tl_decN h] at hc
    rcases List.mem_cons.mp hc with e | hc
    · rw [e]; rfl
    · exact sgn_num hc
  · rw [tl_dec0 (by omega)] at hc
    exact sgn_num hc
theorem sgn_pw {n : Str} {v : Int} (h : isNm n = true) {c : Nat} (hc : c ∈ tl (pwT n v)) : sgn c = true := by
  by_cases h1 : v = 1
  · unfold pwT at hc
    rw [if_pos h1] at hc
    exact sgn_nm h hc
  · rw [pw_tl h1, tl_append, tl_append, tl_hat] at hc
    rcases List.mem_append.mp hc with hc | hc
    · rcases List.mem_append.mp hc with hc | hc
      · exact sgn_nm h hc
      · rw [List.mem_singleton.mp hc]; rfl
    · exact sgn_dec hc
theorem sgn_tex {es : Es} (h : ∀ q ∈ es, isNm q.1 = true) {c : Nat} (hc : c ∈ tl (texE es)) : sgn c = true := by
  unfold texE at hc
  split at hc
  · have : c = 49 := List.mem_singleton.mp hc
    rw [this]; rfl
  · rw [join_eq, tl_join, tl_star] at hc
    rcases mem_joinL hc with hc | ⟨p, hp, hc⟩
    · rw [List.mem_singleton.mp hc]; rfl
    · obtain ⟨x, hx, rfl⟩ := List.mem_map.mp hp
      obtain ⟨q, hq, rfl⟩ := List.mem_map.mp hx
      exact sgn_pw (h q hq) hc
def reprS (x : Str) : Str := ("Size('" : Str) ++ x ++ ("')" : Str)
theorem repr_size {es : Es} (h : ∀ q ∈ es, isNm q.1 = true) : Str.empty ++ ("Size(" : Str) ++ reprText (texE es) ++ (")" : Str) = reprS (texE es) := by
  refine ext_tl ?_
  unfold reprS
  rw [tl_append, tl_append, tl_append, tl_append, tl_append, repr_plain fun c hc => sgn_tex h hc]
  have e1 : tl Str.empty = [] := rfl
  have e2 : tl ("Size(" : Str) = [83, 105, 122, 101, 40] := by decide
  have e3 : tl (")" : Str) = [41] := by decide
  have e4 : tl ("Size('" : Str) = [83, 105, 122, 101, 40, 39] := by decide
  have e5 : tl ("')" : Str) = [39, 41] := by decide
  rw [e1, e2, e3, e4, e5]
  simp
theorem reprT_len {es : Es} (h : ∀ q ∈ es, isNm q.1 = true) : (reprText (texE es)).length = (texE es).length + 2 := by
  rw [len_tl, repr_plain fun c hc => sgn_tex h hc, len_tl]
  simp
abbrev sRepr : Stmt := inClass sSize 19
def spRepr (C : Addr) : Sp := fun vs H Q _ => ∃ (p : Addr) (es : Es), vs = [.ref p] ∧ SizeAt C H p es ∧ (∀ q ∈ es, Big q.2) ∧ ∀ H', Same H H' → Q (.str (reprS (texE es))) H'
section
variable {P : Program} {w : World} {K : PySem.W.Frag} {mg : Str → Option Value} {base : Heap} {C : Addr}
theorem scRepr : FnScope ["self"] ["self"] (defScope sRepr) :=
  ⟨rfl, rfl, rfl, by decide +kernel, rfl, by decide +kernel, by decide +kernel⟩
theorem ok_repr {f fT : Addr} {fd fdT : FuncData} (F : Fun K "__repr__" "Size.__repr__" sRepr f fd) (Tc : Ck K mg C)
    (GT : FnOk P w K mg base CX0 4 fT fdT ["exponents"] spTex) (kT : PySem.W.keepIn K (.ref fT) = true) (bT : Binds K fdT ["exponents"] []) (gT : mg "exponents_text" = some (.ref fT)) :
    FnOk P w K mg base CX0 5 f fd ["self"] (spRepr C) := by
  refine F.ok scRepr (fun vs H Q E h => ?_) (fun cdv A outer s H vs Q E hr h => ?_)
  · obtain ⟨p, es, rfl, _⟩ := h
    rfl
  · obtain ⟨p, es, rfl, ⟨dx, D, p1, p2, p3, p4, p5, p6⟩, hB, k⟩ := h
    refine ⟨_, pss_one (ps_ret (pe_joined (.cons pe_str (.cons (pe_fmtR (pe_call GT hr rfl gT kT bT .nil pass0 (pa_cons (pe_fld (pv 0) rfl) pa_nil))) (.cons pe_str .nil))))), ?_⟩
    have hb : ∀ q ∈ es, q.1.length ≤ 8 ∧ Big q.2 := fun q hq => ⟨by have := nm_len (p5 q hq); omega, hB q hq⟩
    have hl := tex_len hb p6
    have hl2 := reprT_len p5
    have e1 : (Str.empty ++ ("Size(" : Str)).length = 5 := by decide
    refine ⟨_, rfl, by rw [e1, sizeLine_eq]; decide, _, rfl, p, C, dx, _, _, rfl, p1, Tc.cl, Tc.nE, rfl, D, es, rfl, p2, p3.nodup, p6, hb, fun ss sd lk H' S => ?_⟩
    rw [sd.one p3 lk]
    refine .inl ⟨_, rfl, by rw [sizeLine_eq]; omega, _, rfl, ?_, _, rfl, ?_, ?_⟩
    · rw [len_tl, tl_append, List.length_append, ← len_tl, ← len_tl, e1, sizeLine_eq]
      omega
    · have e3 : (")" : Str).length = 1 := by decide
      rw [len_tl, tl_append, tl_append, List.length_append, List.length_append, ← len_tl, ← len_tl, ← len_tl, e1, e3, sizeLine_eq]
      omega
    · show Q (.str (Str.empty ++ ("Size(" : Str) ++ reprText (texE es) ++ (")" : Str))) H'
      rw [repr_size p5]
      exact k H' S
end
/-! ### repr(o), o an instance with an own __repr__ -/
section
variable {X : Cx} {CX : CXT} {C f : Addr} {fd : FuncData} {ps : List Str} {sp : Sp} {E : XK} {n : Nat}
theorem call_reprO (F : FnOk X.prog X.w X.K X.mg X.base CX n f fd ps sp) (hr : Room (n + 1) X.A) (hs : PySem.W.findIn X.K (.ref C) "__repr__" = some (some (.ref f))) (hf : PySem.W.isFn X.K (.ref f) = true)
    (hb : Binds X.K fd ps []) (hx : Passes CX X E) : CallR X (.builtin "repr") (rStrO C sp E) := by
  intro pins s σ H xs us Q I r h
  obtain ⟨a, dx, fs, rfl, ha, hsp⟩ := h
  obtain ⟨u, rfl, ru⟩ := vals1 r
  cases (show u = Value.ref a from ru)
  obtain ⟨mA, J, _⟩ := ins_get I.hok ha
  obtain ⟨od, J, _⟩ := J.look
  obtain ⟨m, hF⟩ := I.fr
  refine PySem.W.repr_K (by have := hr.units; show X.A.units + 1 < cLine; omega) hF I.ok.mod.kin J hs hf ?_
  have e0 : Env0 X.prog X.w X.K X.mg X.base X.A.in1 X.stack s H := by
    have e := I.env0
    exact ⟨e.frames, e.mod, e.bs, e.bsz, e.funs, e.frf, e.hok, e.bare⟩
  have hl := F.len _ _ _ _ hsp
  have r2 : Vals [V.ref a] [Value.ref a] := .cons rfl .nil
  refine wpAny_call (codeAny_mono (F.run X.A.in1 X.stack s H ⟨[.ref a], []⟩ [.ref a] [.ref a] _ E hr.in1 e0 (by
    have := hb s [.ref a] I.kIn (by simpa using hl)
    simpa using this) r2 hsp) fun r s' hq => ?_)
  cases r with
  | error e => exact hx pins σ H s e s' I hq
  | ok fl =>
    cases fl with
    | ret w =>
      obtain ⟨z, H', I', rz, x, ez, ex⟩ := I.after hq
      subst ez
      obtain ⟨t, rfl⟩ := (show ∃ t, w = Value.str x t from rz)
      exact ⟨.str x, H', I', ⟨t, rfl⟩, ex⟩
    | next => exact False.elim hq
    | brk => exact False.elim hq
    | cont => exact False.elim hq
end
end K17
set_option maxHeartbeats 8000000
namespace K17
open PySem PySem.Spec PyProof.Rows L2 TL

/-! ### words and their lengths -/
theorem pre1 {s c : Nat} {r : List Nat} : pre [s] (c :: r) = (c == s) := by
  unfold pre
  show ([c] == [s]) = _
  by_cases h : c = s
  · subst h
    simp
  · have h1 : ([c] == [s]) = false := by simpa using h
    have h2 : (c == s) = false := by simpa using h
    rw [h1, h2]
theorem spl1_len (s : Nat) : ∀ (l acc : List Nat), (spl [s] 0 acc l).length = l.count s + 1
  | [], acc => by rw [spl_nil]; rfl
  | c :: r, acc => by
    by_cases h : c = s
    · subst h
      rw [spl_hit (by rw [pre1]; simp)]
      show (spl [c] 0 [] r).length + 1 = _
      rw [spl1_len c r [], List.count_cons_self]
    · rw [spl_miss (by rw [pre1]; simpa using h), spl1_len s r, List.count_cons_of_ne (by simpa using h)]
theorem spl1_sub (s : Nat) : ∀ (l acc : List Nat), ∀ p ∈ spl [s] 0 acc l, p.Sublist (acc ++ l)
  | [], acc, p, hp => by
    rw [spl_nil] at hp
    rw [List.mem_singleton.mp hp, List.append_nil]
    exact List.Sublist.refl _
  | c :: r, acc, p, hp => by
    by_cases h : c = s
    · subst h
      rw [spl_hit (by rw [pre1]; simp)] at hp
      have hp : p ∈ acc :: spl [c] 0 [] r := hp
      rcases List.mem_cons.mp hp with e | hp
      · rw [e]
        exact List.sublist_append_left _ _
      · have z := spl1_sub c r [] p hp
        rw [List.nil_append] at z
        exact (z.trans (List.sublist_cons_self c r)).trans (List.sublist_append_right _ _)
    · rw [spl_miss (by rw [pre1]; simpa using h)] at hp
      have z := spl1_sub s r (acc ++ [c]) p hp
      rw [List.append_assoc] at z
      exact z
structure Sep (y : Str) (s : Nat) : Prop where
  tl : tl y = [s]
  kd : y.cps.all (· < 256) = true
theorem sepS : Sep "*" 42 := ⟨tl_star, kind_star⟩
theorem sepH : Sep "^" 94 := ⟨tl_hat, kind_hat⟩
theorem split_tl {y : Str} {s : Nat} (h : Sep y s) (x : Str) : (Txt.split x y).map tl = spl [s] 0 [] (tl x) := by
  have z := split_spl x y (by rw [h.tl]; simp) (kind_ok h.kd)
  rw [h.tl] at z
  exact z
theorem split_len {y : Str} {s : Nat} (h : Sep y s) (x : Str) : (Txt.split x y).length = (tl x).count s + 1 := by
  have z := congrArg List.length (split_tl h x)
  rw [List.length_map, spl1_len] at z
  exact z
theorem split_sub {y : Str} {s : Nat} (h : Sep y s) {x p : Str} (hp : p ∈ Txt.split x y) : (tl p).Sublist (tl x) := by
  have z : tl p ∈ spl [s] 0 [] (tl x) := by
    rw [← split_tl h x]
    exact List.mem_map.mpr ⟨p, hp, rfl⟩
  exact spl1_sub s _ [] _ z
theorem sub_len2 {x p : Str} (h : (tl p).Sublist (tl x)) : p.length ≤ x.length := by
  rw [len_tl, len_tl]
  exact h.length_le
theorem sub_dg {x p : Str} (h : (tl p).Sublist (tl x)) : nDg p ≤ nDg x := (List.Sublist.filter isDg h).length_le
theorem part_sub (x y : Str) : (tl (Txt.partition x y).1).Sublist (tl x) ∧ (tl (Txt.partition x y).2.2).Sublist (tl x) := by
  rcases PyProof.Rows.partition_whole x y with ⟨e, _⟩ | ⟨i, e, _, _⟩
  · rw [e]
    exact ⟨List.Sublist.refl _, List.nil_sublist _⟩
  · rw [e]
    constructor
    · rw [tl_strSub]
      exact (List.take_sublist _ _).trans (List.drop_sublist _ _)
    · rw [tl_strSub_end]
      exact List.drop_sublist _ _

/-! ### read_exponents -/
abbrev sRdE : Stmt := top 52
/-- a text that is short enough -/
structure Sht (x : Str) : Prop where
  ln : x.length ≤ 100000
  ct : (tl x).count 42 ≤ 60
  dg : ∀ p ∈ Txt.split x "*", nDg p ≤ 59
theorem Sht.words {x : Str} (h : Sht x) : (Txt.split x "*").length ≤ 61 := by
  rw [split_len sepS]
  have := h.ct
  omega
theorem big_one : Big 1 := ⟨by decide, by decide⟩
theorem wExp_big {p : Str} {v : Int} (h : wExp p = some v) (hd : nDg p ≤ 59) : Big v := by
  unfold wExp at h
  split at h
  · rw [← Option.some.inj h]
    exact big_one
  · exact rdD_big h (Nat.le_trans (sub_dg (part_sub p "^").2) hd)
theorem Val.red {x : Str} {es : Es} (h : Val x es) (hS : Sht x) : Red 61 es := by
  by_cases hx : x = "1"
  · subst hx
    rw [h.one]
    exact Red.nil 61
  · have hw := h.words (h.ne hx)
    refine ⟨h.sd.nodup, h.nm, fun q hq => ?_, ?_⟩
    · have hp : pwT q.1 q.2 ∈ Txt.split x "*" := by
        rw [hw]
        exact List.mem_map.mpr ⟨q, hq, rfl⟩
      exact wExp_big (rdW_ok (rdW_pw (h.nm q hq) (h.nz q hq))).2.2.1 (hS.dg _ hp)
    · have z := hS.words
      rw [hw, List.length_map] at z
      exact z
def spRdE : Sp := fun vs H Q _ => ∃ x : Str, vs = [.str x] ∧ Sht x ∧
  (∀ es, Val x es → ∀ H' D, Same H H' → H D = none → H' D = some (.dK (kv es)) → Q (.ref D) H') ∧ ((∀ es, ¬ Val x es) → ∀ H', Same H H' → Q .non H')
def NRx : List Str := ["text", "exponents", "part", "name", "caret", "digits", "exponent"]
section
variable {P : Program} {w : World} {K : PySem.W.Frag} {mg : Str → Option Value} {base : Heap}
theorem scRdE : FnScope NRx ["text"] (defScope sRdE) :=
  ⟨rfl, rfl, rfl, by decide +kernel, rfl, by decide +kernel, by decide +kernel⟩
theorem ok_rdE {f fD fN fT : Addr} {fd fdD fdN fdT : FuncData} (F : Fun K "read_exponents" "read_exponents" sRdE f fd)
    (GD : FnOk P w K mg base CX0 1 fD fdD ["text"] spRdD) (kD : PySem.W.keepIn K (.ref fD) = true) (bD : Binds K fdD ["text"] []) (gD : mg "read_decimal" = some (.ref fD))
    (GN : FnOk P w K mg base CX0 1 fN fdN ["value"] (spIsName K)) (kN : PySem.W.keepIn K (.ref fN) = true) (bN : Binds K fdN ["value"] []) (gN : mg "is_name" = some (.ref fN))
    (GT : FnOk P w K mg base CX0 4 fT fdT ["exponents"] spTex) (kT : PySem.W.keepIn K (.ref fT) = true) (bT : Binds K fdT ["exponents"] []) (gT : mg "exponents_text" = some (.ref fT)) :
    FnOk P w K mg base CX0 5 f fd ["text"] spRdE := by
  have GD4 := GD.mono (k := 4) (by decide)
  have GN4 := GN.mono (k := 4) (by decide)
  refine F.ok scRdE (fun vs H Q E h => ?_) (fun cdv A outer s H vs Q E hr h => ?_)
  · obtain ⟨x, rfl, _⟩ := h
    rfl
  · obtain ⟨x, rfl, hS, k1, k2⟩ := h
    have hu : (A.deeper (envOfC "read_exponents" (defScope sRdE) s.heap.objs.size f cdv)).units + 1 < cLine := by have := hr.units; omega
    refine ⟨_, pss_cons (ps_if (pt_cmpR op_eq (pv 0) pe_str (nomark _)) (pss_one (ps_ret pe_dnewK)) pss_nil)
      (pss_cons (ps_set (i := 1) scRdE.nd rfl (.inl rfl) pe_dnewK)
      (pss_cons (ps_for PassesOwn.never rfl (pi_list (pe_split (pv 0) pe_str)) (pg_name (i := 2) scRdE.nd rfl (Or.inl rfl))
        (pss_cons (ps_asg (pe_partition (pv 2) pe_str) (pg_tup rfl (pgs_cons (pg_name (i := 3) scRdE.nd rfl (Or.inl rfl)) (pgs_cons (pg_name (i := 4) scRdE.nd rfl (Or.inl rfl)) (pgs_cons (pg_name (i := 5) scRdE.nd rfl (Or.inl rfl)) pgs_nil)))))
        (pss_cons (ps_set (i := 6) scRdE.nd rfl (.inl rfl) (pe_ifExp (pt_cmpR op_eq (pv 4) pe_str (nomark _)) pe_int (pe_call GD4 hr rfl gD kD bD .nil pass0 (pa_cons (pv 5) pa_nil))))
        (pss_cons (ps_if (PW.pt (pw_or (pt_not (pt_val (pe_call GN4 hr rfl gN kN bN .nil pass0 (pa_cons (pv 3) pa_nil)))) (pw_or (pt_cmpR op_isN (pv 6) pe_non (nomark _)) (pw_or1 (pt_cmpR op_eq (pv 6) pe_int (nomark _))))))
          (pss_one (ps_ret pe_non)) pss_nil)
        (pss_one (ps_dput hu (pv 1) (pv 3) (pv 6) rfl))))))
      (pss_one (ps_ret (pe_ifExp (pt_cmpR op_eq (pe_call GT hr rfl gT kT bT .nil pass0 (pa_cons (pv 1) pa_nil)) (pv 0) (nomark _)) (pv 1) pe_non))))), ?_⟩
    refine ⟨_, rfl, rfl, _, rfl, ?_⟩
    by_cases hx : x = "1"
    · subst hx
      refine iteT' (decide_eq_true rfl) fun D nD => ?_
      exact k1 [] val_one _ D (fresh_upd nD) nD upd_same
    refine iteN' (fun z => hx (V.str.inj z)) fun D nD => ?_
    have S0 := fresh_upd (o := .dK []) nD
    have hxl := hS.ln
    refine ⟨_, rfl, ⟨_, rfl⟩, x, "*", rfl, rfl, by decide, by rw [sizeLine_eq]; omega, fun L nL => ?_⟩
    have S1 := fresh_upd (o := .lst ((Txt.split x "*").map V.str)) nL
    have hL1 : upd (upd H D (.dK [])) L (.lst ((Txt.split x "*").map V.str)) L = some (.lst ((Txt.split x "*").map V.str)) := upd_same
    have DL : D ≠ L := ne_of_none upd_same nL
    have hD1 : upd (upd H D (.dK [])) L (.lst ((Txt.split x "*").map V.str)) D = some (.dK (kv [])) := (upd_ne DL).trans upd_same
    have S01 := S0.trans S1
    generalize upd (upd H D (.dK [])) L (.lst ((Txt.split x "*").map V.str)) = H1 at S1 hL1 hD1 S01
    have hws := hS.words
    have dgs := hS.dg
    have kx : ∀ es, Val x es → rdF rdW [] (Txt.split x "*") = some es ∧ ∀ w ∈ Txt.split x "*", rdW w ≠ none := fun es h => h.rd hx
    have wl : ∀ p ∈ Txt.split x "*", p.length ≤ 100000 := fun p hp => Nat.le_trans (sub_len2 (split_sub sepS hp)) hxl
    have good := fun t ss (B : Nat) => rd_good (x := x) (t := t) (ss := ss) (B := B) hx
    have bad := fun t ss => rd_bad (x := x) (t := t) (ss := ss) hx
    generalize Txt.split x "*" = ws at *
    refine ⟨L, rfl, ⟨_, SqL.of hL1⟩, for_it (walk_list (K := K) (a := L) (xs := ws.map V.str)) (fun i σ H2 => (∃ o2 o3 o4 o5 o6, σ = [some (.str x), some (.ref D), o2, o3, o4, o5, o6]) ∧
      (∀ b o, b ≠ D → H1 b = some o → H2 b = some o) ∧ ∃ t, H2 D = some (.dK (kv t)) ∧ rdF rdW [] (ws.take i) = some t ∧ Red i t ∧ ∀ q ∈ t, q.2 ≠ 0)
      ⟨⟨none, none, none, none, none, rfl⟩, fun _ _ _ e => e, [], hD1, rfl, Red.nil 0, fun q h => nomatch h⟩ (fun i σ H2 _ h => SqL.of (h.2.1 _ _ DL.symm hL1)) ?_ ?_⟩
    · rintro i v σ H9 H2 hi ⟨⟨o2, o3, o4, o5, o6, rfl⟩, S2, t, hD2, hr2, hR2, hz2⟩ ⟨rfl, hv⟩
      rw [List.length_map] at hi
      have ev : v = .str ws[i] := by
        rw [List.getElem?_map, List.getElem?_eq_getElem hi] at hv
        exact (Option.some.inj hv).symm
      subst ev
      have hp : ws[i] ∈ ws := List.getElem_mem hi
      have hpl := wl _ hp
      have hpd := dgs _ hp
      have hsn : ∀ q, rdW ws[i] = some q → rdF rdW [] (ws.take (i + 1)) = some (putE t q.1 q.2) := fun q e => by
        rw [List.take_add_one, List.getElem?_eq_getElem hi]
        show rdF rdW [] (ws.take i ++ [ws[i]]) = _
        rw [rdF_snoc rdW ws[i] _ _ _ hr2, e]
        rfl
      generalize ws[i] = p at *
      have hps := part_sub p "^"
      refine ⟨_, rfl, ⟨_, rfl⟩, p, "^", rfl, rfl, by decide, by rw [sizeLine_eq]; omega, fun T nT => ?_⟩
      refine ⟨T, _, rfl, SqT.of upd_same, rfl, _, _, rfl, _, _, rfl, _, _, rfl, rfl, ?_⟩
      have S3 := fresh_upd (o := .tup [.str (Txt.partition p "^").1, .str (Txt.partition p "^").2.1, .str (Txt.partition p "^").2.2]) nT
      generalize upd H2 T (.tup [.str (Txt.partition p "^").1, .str (Txt.partition p "^").2.1, .str (Txt.partition p "^").2.2]) = H5 at S3
      refine ⟨_, rfl, rfl, _, rfl, ?_⟩
      by_cases hc : (Txt.partition p "^").2.1 = ""
      case' pos =>
        refine iteT' (decide_eq_true (congrArg V.str hc)) ?_
        have ew : wExp p = some 1 := if_pos hc
        rw [show V.int 1 = oV (wExp p) by rw [ew]; rfl]
        have S5 : Same H2 H5 := S3
        clear S3
      case' neg =>
        refine iteN' (fun z => hc (V.str.inj z)) ?_
        refine ⟨_, rfl, _, rfl, Nat.le_trans (sub_len2 hps.2) hpl, Nat.le_trans (sub_dg hps.2) hpd, fun H5 S4 => ?_⟩
        have ew : wExp p = rdD (Txt.partition p "^").2.2 := if_neg hc
        rw [← ew]
        have S5 : Same H2 H5 := S3.trans S4
        clear S4 S3
      all_goals
        clear ew
        have hDH : ∀ b o, H b = some o → b ≠ D := fun b o e => ne_of_none e nD
        have SH : Same H H5 := fun b o e => S5 _ _ (S2 _ _ (hDH _ _ e) (S01 _ _ e))
        have none_ : rdW p = none → ∀ H', Same H H' → Q .non H' := fun e => k2 fun es h => (kx es h).2 p hp e
        have hD5 := S5 _ _ hD2
        refine ⟨_, rfl, .inl ⟨(Txt.partition p "^").1, rfl, by have := sub_len2 hps.1; omega, fun H6 S6 => ?_⟩⟩
        have SH6 := SH.trans S6
        have hD6 := S6 _ _ hD5
        cases hn : isNm (Txt.partition p "^").1 with
        | false =>
          have e : rdW p = none := by
            unfold rdW
            cases wExp p with
            | none => rfl
            | some v => exact if_neg (fun z => Bool.noConfusion (hn.symm.trans (show isNm (Txt.partition p "^").1 = true from z.1)))
          refine ⟨_, rfl, iteT' rfl ?_⟩
          exact none_ e H6 SH6
        | true =>
          refine ⟨_, rfl, iteF ?_⟩
          cases he : wExp p with
          | none =>
            have e : rdW p = none := by
              unfold rdW
              rw [he]
            refine ⟨_, rfl, rfl, _, rfl, iteT' (decide_eq_true rfl) ?_⟩
            exact none_ e H6 SH6
          | some v =>
            refine ⟨_, rfl, rfl, _, rfl, iteN' (fun z => nomatch z) ?_⟩
            by_cases hv : v = 0
            · have e : rdW p = none := by
                unfold rdW
                rw [he]
                exact if_neg fun z => z.2 hv
              refine ⟨_, rfl, rfl, _, rfl, iteT' (decide_eq_true (congrArg V.int hv)) ?_⟩
              exact none_ e H6 SH6
            · have e : rdW p = some (wName p, v) := by
                unfold rdW
                rw [he]
                exact if_pos ⟨hn, hv⟩
              refine ⟨_, rfl, rfl, _, rfl, iteN' (fun z => hv (V.int.inj z)) ?_⟩
              have hRn := hR2.put hn (wExp_big he hpd)
              have hlt := hR2.ln
              refine ⟨_, rfl, _, rfl, _, rfl, D, _, rfl, .inl ⟨_, ky (wName p), hD6, rfl, by rw [kv_len, sizeLine_eq]; omega, rfl⟩, ⟨_, _, _, _, _, rfl⟩, fun b o hb eb => ?_, putE t (wName p) v, by rw [upd_same, kv_put]; rfl, hsn _ e, hRn, nz_put hz2 hv⟩
              rw [upd_ne hb]
              exact S6 _ _ (S5 _ _ (S2 b o hb eb))
    · rintro σ H2 ⟨⟨o2, o3, o4, o5, o6, rfl⟩, S2, t, hD2, hr2, hR2, hz2⟩
      rw [List.length_map] at hr2 hR2
      rw [List.take_length] at hr2
      have SH : Same H H2 := fun b o e => S2 _ _ (ne_of_none e nD) (S01 _ _ e)
      have hln := hR2.ln
      refine ⟨_, rfl, D, t, rfl, hD2, hR2.nd, by omega, fun q hq => ⟨nm_len (hR2.nm q hq), hR2.bg q hq⟩, fun ss sd lk H3 S3 => ?_⟩
      have S03 := SH.trans S3
      refine ⟨_, rfl, rfl, _, rfl, ?_⟩
      by_cases he : texE ss = x
      · refine iteT' (decide_eq_true (congrArg V.str he)) ?_
        refine ⟨_, rfl, ?_⟩
        exact k1 t (good t ss _ hr2 hR2 hz2 sd lk he) H3 D S03 nD (S3 _ _ hD2)
      · refine iteN' (fun z => he (V.str.inj z)) ?_
        exact k2 (bad t ss hr2 sd lk he) H3 S03
end
end K17
set_option maxHeartbeats 8000000
namespace K17
open PySem PySem.Spec PyProof.Rows L2 TL

/-! ### a classmethod that may raise -/
def tCMethE (C : Addr) (sp : Sp) (E : L2.St → XK) (ta : TE) (t : TA) : TE := fun σ H Q => ta σ H fun x H1 => x = .ref C ∧ t σ H1 fun vs H2 => sp (.ref C :: vs) H2 Q (E σ)
section
variable {X : Cx} {CX : CXT} {k : Nat} {C p g : Addr} {mc : Value} {sp : Sp} {E : L2.St → XK} {o e : Expr} {es : List Expr} {f m : Str} {pos apos : Pos} {ta : TE} {t : TA} {pl : Sem Bool}
theorem run_cmE {pins : List (Addr × Obj)} {σ : L2.St} {H : Hp} {s : Shared} {q : Addr} {Q : VK} {us : List Value} {vs : List V} (F : FnR X.prog X.w X.K X.mg X.base CX k g sp) (hr : Room k X.A) (hx : PassesAt CX X σ (E σ)) (I : Inv X ((q, PySem.W.methodObj (.ref g) (.ref C)) :: pins) σ H s)
    (r : Vals vs us) (h : sp (.ref C :: vs) H Q (E σ)) : wpAny (model X.prog X.w) X.A (call (.ref q) us) (EP X pins σ Q) X.xe s := by
  have z : wpAny (model X.prog X.w) X.A (call (.ref q) us) (EP X ((q, PySem.W.methodObj (.ref g) (.ref C)) :: pins) σ Q) X.xe s := by
    refine wpAny_call (PySem.W.method_call (ClX.pin_at I) ?_)
    refine codeAny_mono (F X.A X.stack s H (.ref C :: us) (.ref C :: vs) Q (E σ) hr I.env0 (.cons rfl r) h) fun r s' hq => ?_
    cases r with
    | error e => exact hx _ H s e s' I hq
    | ok fl =>
      cases fl with
      | ret u => exact I.after hq
      | next => exact False.elim hq
      | brk => exact False.elim hq
      | cont => exact False.elim hq
  exact thn z fun _ _ y => ClX.unpinE y
theorem pe_cmethE (he : PE X o ta) (r : ClX.CRead X.K C mc) (c : ClX.CMet X.K C mc m p g) (F : FnR X.prog X.w X.K X.mg X.base CX k g sp) (hr : Room k X.A) (hx : ∀ σ, PassesAt CX X σ (E σ)) (ha : PA X (e :: es) t)
    (hst : starEach (e :: es) X.env = (false, eval e X.env) :: starEach es X.env := by rfl) (hpl : (backTo pos (starEach es X.env)).any (·.1) = false := by rfl)
    (ht : eval (.Call (.Attribute o m apos) (e :: es) [] pos) X.env = (do
      let ov ← eval o X.env
      standAt apos.atName
      let (f, first) ← holding [ov] (getMethod ov m pl)
      callWith pos f first (backTo pos (starEach (e :: es) X.env)) (backToKw pos (keywordEach [] X.env))) := by rfl) :
    PE X (.Call (.Attribute o m apos) (e :: es) [] pos) (tCMethE C sp E ta t) := by
  refine ⟨fun pins s σ H Q I h => ?_⟩
  refine PySem.W.methodCall_KW (pl := pl) (thn (he.run pins s σ H _ I h) fun u s1 ⟨x, H1, I1, rx, ex, q⟩ => ?_) ht
  subst ex
  obtain rfl : u = Value.ref C := rx
  refine ClX.getmethcm_ok I1 r c fun s2 I2 => ?_
  refine ClX.callwith_cm I2 (ClX.base_none I1 (Nat.le_refl _)) c.fi (thn (ha.run pos _ s2 σ H1 _ I2 q) fun us s3 ⟨vs, H2, I3, rv, q2⟩ => ⟨⟨ClX.pin_at I3, I3.kIn⟩, ?_⟩) hst hpl
  exact run_cmE F hr (hx σ) I3 rv q2
end

/-! ### Size.read -/
theorem cz_g0 {es : Es} (hn : (es.map (·.1)).Nodup) (nz : ∀ q ∈ es, q.2 ≠ 0) (n : Str) : cz (g0 es n) = es.lookup n := by
  unfold g0
  by_cases h : n ∈ es.map (·.1)
  · obtain ⟨q, hq, rfl⟩ := List.mem_map.mp h
    rw [look_get hn (n := q.1) (v := q.2) hq]
    exact if_neg (nz q hq)
  · rw [g0_none h]
    rfl
abbrev sRead : Stmt := inClass sSize 2
def spRead (K : PySem.W.Frag) (C CT : Addr) : Sp := fun vs H Q E => ∃ v : V, vs = [.ref C, v] ∧
  ((∃ x : Str, v = .str x ∧ Sht x ∧ (∀ es, Val x es → ∀ H' r, Same H H' → SizeAt C H' r es → Q (.ref r) H') ∧
      ((∀ es, ¬ Val x es) → ∀ H' dd, Same H H' → H dd = none → H' dd = some (.xd [("line", .int 1)]) → E (.ref CT) (some dd) H')) ∨
    (∃ t, TyX K H v t ∧ PySem.W.kitOne K t (.type "str") = some false ∧ ∀ H' dd, Same H H' → H dd = none → H' dd = some (.xd [("line", .int 0)]) → E (.ref CT) (some dd) H'))
section
variable {P : Program} {w : World} {K : PySem.W.Frag} {mg : Str → Option Value} {base : Heap} {C CT : Addr}
theorem scRead : FnScope ["cls", "text", "exponents"] ["cls", "text"] (defScope sRead) :=
  ⟨rfl, rfl, rfl, by decide +kernel, rfl, by decide +kernel, by decide +kernel⟩
theorem ok_read {f fE fI : Addr} {fd fdE fdI : FuncData} (F : Fun K "read" "Size.read" sRead f fd) (T : Nk mg) (Tc : Ck K mg C)
    (GE : FnOk P w K mg base CX0 5 fE fdE ["text"] spRdE) (kE : PySem.W.keepIn K (.ref fE) = true) (bE : Binds K fdE ["text"] []) (gE : mg "read_exponents" = some (.ref fE))
    (MI : Mk K C fI) (GI : FnOk P w K mg base CX0 3 fI fdI ["self", "exponents"] (spInit C)) (bI : Binds K fdI ["self", "exponents"] [])
    (M : MkAll P w K mg CT ["line"]) (gT : mg "InvalidText" = some (.ref CT)) (R1 : PySem.W.subIn K (.ref CT) (.type "BaseException") = some true) (R2 : PySem.W.typeIn K (.ref CT) = some (.type "type")) :
    FnOk P w K mg base (L2.CX P w) 6 f fd ["cls", "text"] (spRead K C CT) := by
  refine F.okX scRead (fun vs H Q E h => ?_) (fun cdv A outer s H vs Q E hr h => ?_)
  · obtain ⟨v, rfl, _⟩ := h
    rfl
  · obtain ⟨v, rfl, h⟩ := h
    refine ⟨_, pss_cons (ps_if (pt_not (pt_val (pe_callB call_isi (by rfl) T.isi (by decide +kernel) (pa_cons (pv 1) (pa_cons (pe_bltn (v := .ty "str") (u := .type "str") (by rfl) T.str (by decide +kernel) rfl) pa_nil)))))
        (pss_one (ps_raise rfl (takes_of rfl rfl rfl rfl) (pmk_x M hr rfl gT (raises_own R1 R2) (pa_cons pe_int pa_nil)))) pss_nil)
      (pss_cons (ps_set (i := 2) scRead.nd rfl (.inl rfl) (pe_call GE hr rfl gE kE bE .nil pass0 (pa_cons (pv 1) pa_nil)))
      (pss_cons (ps_if (pt_cmpR op_isN (pv 2) pe_non (nomark _))
        (pss_one (ps_raise rfl (takes_of rfl rfl rfl rfl) (pmk_x M hr rfl gT (raises_own R1 R2) (pa_cons pe_int pa_nil)))) pss_nil)
      (pss_one (ps_ret (pe_makeL (i := 0) MI (GI.mono (k := 4) (by decide)) hr rfl (.inl rfl) bI .nil pass0 (pa_cons (pv 2) pa_nil)))))), ?_⟩
    rcases h with ⟨x, rfl, hS, k1, k2⟩ | ⟨t, ht, hk, k⟩
    · refine ⟨_, rfl, _, _, _, _, true, rfl, .ty _, .base (.str x), kit_ty (by decide +kernel), _, rfl, iteF ?_⟩
      refine ⟨_, rfl, x, rfl, hS, fun es hv H1 D S1 nD hD => ?_, fun hno H1 S1 => ?_⟩
      · have hR := hv.red hS
        have hl := hR.ln
        refine ⟨_, rfl, rfl, _, rfl, iteN' (fun z => nomatch z) ⟨rfl, _, rfl, rd_make hD hR.nd (by omega) hR.nm fun H2 r rs S2 hz nw lk => ?_⟩⟩
        obtain ⟨_, _, _, _, sd, _⟩ := id hz
        have e : rs = es := sd.one hv.sd fun n => by rw [lk, cz_g0 hv.sd.nodup hv.nz]
        subst e
        exact k1 rs hv H2 r (S1.trans S2) hz
      · refine ⟨_, rfl, rfl, _, rfl, iteT' (decide_eq_true rfl) ?_⟩
        refine ⟨rfl, fun dd hdd => ?_⟩
        refine k2 hno _ dd (S1.trans (fresh_upd hdd)) ?_ upd_same
        cases e : H dd with
        | none => rfl
        | some o =>
          have z := S1 _ _ e
          rw [hdd] at z
          cases z
    · refine ⟨_, rfl, _, _, _, _, false, rfl, .ty _, ht, hk, _, rfl, iteT' rfl ?_⟩
      exact ⟨rfl, fun dd hdd => k _ dd (fresh_upd hdd) hdd upd_same⟩
end
end K17
set_option maxHeartbeats 8000000
/-! an if in a generator's body -/
namespace L2
open PySem PySem.Spec PyProof.Rows
def tGIf (c : TT) (tb te : TGn) : TGn := fun D ys σ H => c σ H fun b H1 => if b = true then tb D ys σ H1 else te D ys σ H1
theorem gs_if {X : Cx} {test : Expr} {body orelse : List Stmt} {pos : Pos} {tc : TT} {tb te : TGn} (hc : PT X test tc) (hb : GSs X body tb) (he : GSs X orelse te) : GS X (.If test body orelse pos) (tGIf tc tb te) := by
  refine ⟨fun A S ip R n ys s₀ c fs K J gd lv s σ H D g hn k hI ht => ?_⟩
  obtain ⟨acc, cc, r, I⟩ := hI
  rw [exec_If]
  refine seg_at (p' := pos) ?_
  refine seg_bind_wrap ?_
  refine wpAny_pure ?_
  refine seg_bind_wrap ?_
  rw [g.over]
  refine wpAny_mono (hc.run _ s σ H _ I ht) (fun b s' hb' => ?_) fun x s' hx => k.exc n s₀ x s' hx
  obtain ⟨H2, I2, q2⟩ := hb'
  cases b with
  | true =>
    rw [if_pos rfl] at q2
    exact hb.run A S ip R n ys s₀ c fs K J gd lv s' σ H2 D g hn k ⟨acc, cc, r, I2⟩ q2
  | false =>
    rw [if_neg Bool.false_ne_true] at q2
    exact he.run A S ip R n ys s₀ c fs K J gd lv s' σ H2 D g hn k ⟨acc, cc, r, I2⟩ q2
end L2
set_option maxHeartbeats 8000000
namespace K17
open PySem PySem.Spec PyProof.Rows L2

/-! ### primes -/
abbrev sHnd : Stmt := top 43
abbrev sPrimes : Stmt := top 40
/-- what _has_no_divisor tells -/
def hnd (n : Int) : List Int → Bool
  | [] => true
  | p :: r => if n < p * p then true else if n % p = 0 then false else hnd n r
def spHnd : Sp := fun vs H Q _ => ∃ (n : Int) (l : Addr) (ps : List Int), vs = [.int n, .ref l] ∧ H l = some (.lst (ps.map V.int)) ∧ 0 ≤ n ∧ (∀ p ∈ ps, 0 < p ∧ p < 1000) ∧
  ∀ H', Same H H' → Q (.bl (hnd n ps)) H'
theorem hnd_drop {n : Int} {ps : List Int} {i : Nat} (hi : i < ps.length) : hnd n (ps.drop i) = if n < ps[i] * ps[i] then true else if n % ps[i] = 0 then false else hnd n (ps.drop (i + 1)) := by
  rw [List.drop_eq_getElem_cons hi]
  rfl
def p6 : List Int := [2, 3, 5, 7, 11, 13]
/-- those below 2 + j -/
def pj (j : Nat) : List Int := p6.filter fun p => decide (p < 2 + (j : Int))
theorem pj_step : ∀ j : Fin 12, hnd (2 + (j.val : Int)) (pj j.val) = decide ((2 + (j.val : Int)) ∈ p6) ∧ pj (j.val + 1) = pj j.val ++ (if (2 + (j.val : Int)) ∈ p6 then [2 + (j.val : Int)] else []) := by decide +kernel
theorem pj_len : ∀ j : Fin 13, (pj j.val).length < 6 → j.val < 12 := by decide +kernel
theorem pj_take : ∀ j : Fin 13, pj j.val = p6.take (pj j.val).length ∧ (pj j.val).length ≤ 6 ∧ ∀ p ∈ pj j.val, 0 < p ∧ p < 1000 := by decide +kernel
section
variable {P : Program} {w : World} {K : PySem.W.Frag} {mg : Str → Option Value} {base : Heap}
theorem scHnd : FnScope ["number", "smaller", "prime"] ["number", "smaller"] (defScope sHnd) :=
  ⟨rfl, rfl, rfl, by decide +kernel, rfl, by decide +kernel, by decide +kernel⟩
theorem ok_hnd {f : Addr} {fd : FuncData} (F : Fun K "_has_no_divisor" "_has_no_divisor" sHnd f fd) : FnOk P w K mg base CX0 1 f fd ["number", "smaller"] spHnd := by
  refine F.ok scHnd (fun vs H Q E h => ?_) (fun cdv A outer s H vs Q E hr h => ?_)
  · obtain ⟨n, l, ps, rfl, _⟩ := h
    rfl
  · obtain ⟨n, l, ps, rfl, hl, hn, hp, k⟩ := h
    refine ⟨_, pss_cons (ps_for PassesOwn.never rfl (pi_list (pv 1)) (pg_name (i := 2) scHnd.nd rfl (Or.inl rfl))
        (pss_cons (ps_if (pt_cmpR op_gt (pe_op op_mul (pv 2) (pv 2)) (pv 0) (nomark _)) (pss_one (ps_ret pe_bl)) pss_nil)
        (pss_one (ps_if (pt_cmpR op_eq (pe_op op_mod (pv 0) (pv 2)) pe_int (nomark _)) (pss_one (ps_ret pe_bl)) pss_nil))))
      (pss_one (ps_ret pe_bl)), ?_⟩
    refine ⟨_, rfl, l, rfl, ⟨_, SqL.of hl⟩, for_it (walk_list (K := K) (a := l) (xs := ps.map V.int)) (fun i σ H2 => (∃ o2, σ = [some (.int n), some (.ref l), o2]) ∧ Same H H2 ∧ hnd n ps = hnd n (ps.drop i))
      ⟨⟨none, rfl⟩, Same.refl H, rfl⟩ (fun i σ H2 _ h => SqL.of (h.2.1 _ _ hl)) ?_ ?_⟩
    · rintro i v σ H9 H2 hi ⟨⟨o2, rfl⟩, S2, he⟩ ⟨rfl, hv⟩
      rw [List.length_map] at hi
      have ev : v = .int ps[i] := by
        rw [List.getElem?_map, List.getElem?_eq_getElem hi] at hv
        exact (Option.some.inj hv).symm
      subst ev
      obtain ⟨h1, h2⟩ := hp _ (List.getElem_mem hi)
      rw [hnd_drop hi] at he
      refine ⟨_, rfl, _, rfl, _, _, rfl, rfl, .inl ⟨by omega, by omega⟩, _, rfl, _, _, rfl, rfl, _, rfl, ?_⟩
      refine ite2 (fun h => ?_) fun h => ?_
      · have h' := of_decide_eq_true h
        rw [if_pos h'] at he
        have z := k H2 S2
        rw [he] at z
        exact z
      · have h' := of_decide_eq_false (Bool.eq_false_iff.mpr h)
        rw [if_neg h'] at he
        refine ⟨_, rfl, _, rfl, _, _, rfl, rfl, h1, rfl, _, rfl, ?_⟩
        refine ite2 (fun h3 => ?_) fun h3 => ?_
        · have h3' : n % ps[i] = 0 := V.int.inj (of_decide_eq_true h3)
          rw [if_pos h3'] at he
          have z := k H2 S2
          rw [he] at z
          exact z
        · have h3' : ¬ n % ps[i] = 0 := fun z => by
            have q := of_decide_eq_false (Bool.eq_false_iff.mpr h3)
            exact q (congrArg V.int z)
          rw [if_neg h3'] at he
          exact ⟨⟨_, rfl⟩, S2, he⟩
    · rintro σ H2 ⟨⟨o2, rfl⟩, S2, he⟩
      rw [List.length_map, List.drop_length] at he
      have z := k H2 S2
      rw [he] at z
      exact z
end
end K17
set_option maxHeartbeats 8000000
namespace K17
open PySem PySem.Spec PyProof.Rows L2

/-! ### primes, a generator -/
def spPrimes : SpG := fun vs H Q _ => ∃ k : Nat, vs = [.int (k : Int)] ∧ k ≤ 6 ∧ ∀ H', Same H H' → Q ((p6.take k).map V.int) H'
/-- where the search stands -/
def PrSt (H : Hp) (k j : Nat) (l : Addr) (ys : List V) (σ : L2.St) (H' : Hp) : Prop :=
  j ≤ 12 ∧ ys = (pj j).map V.int ∧ (pj j).length ≤ k ∧ σ = [some (.int (k : Int)), some (.ref l), some (.int (2 + (j : Int)))] ∧ H' l = some (.lst ((pj j).map V.int)) ∧ Same H H'
section
variable {P : Program} {w : World} {K : PySem.W.Frag} {mg : Str → Option Value} {base : Heap}
theorem okGen {x qual : Str} {st : Stmt} {f : Addr} {fd : FuncData} {N ps : List Str} {k : Nat} {sp : SpG} (F : Fun K x qual st f fd) (S : GScope N ps (defScope st)) (len : ∀ vs H Q E, sp vs H Q E → vs.length = ps.length)
    (hbody : ∀ (cdv : Value) (A : Around) (outer : List Env) (s : Shared) (H : Hp) (vs : List V) (Q : List V → Hp → Prop) (E : XK) (pn : List (Addr × Obj)), Room k (A.deeper (envOfC qual (defScope st) s.heap.objs.size f cdv)) → sp vs H Q E →
      ∃ t, GSs (gcxOf P w K mg base N qual (defScope st) f cdv A outer s H E pn) (defBody st) t ∧ t { nx := fun ys _ H' => Q ys H', rt := fun ys v H' => v = .non ∧ Q ys H' } [] (start N vs) H) :
    GFn P w K mg base (k + 1) f fd ps sp := by
  obtain ⟨oc, od, kV, doc, pm, an, cdv, ct, osl, rfl, lk, hcd⟩ := F.ex
  exact gfn_of lk hcd S len fun A outer s H vs Q E pn hr hsp => hbody cdv A outer s H vs Q E pn hr hsp
theorem scPrimes : GScope ["many", "found", "number"] ["many"] (defScope sPrimes) :=
  ⟨rfl, rfl, rfl, by decide +kernel, rfl, by decide +kernel, by decide +kernel⟩
theorem ok_primes {f fC fH : Addr} {fd fdC fdH : FuncData} (F : Fun K "primes" "primes" sPrimes f fd) (lN : mg "len" = none)
    (GC : FnOk P w K mg base CX0 2 fC fdC ["value"] spIsCount) (kC : PySem.W.keepIn K (.ref fC) = true) (bC : Binds K fdC ["value"] []) (gC : mg "is_count" = some (.ref fC))
    (GH : FnOk P w K mg base CX0 1 fH fdH ["number", "smaller"] spHnd) (kH : PySem.W.keepIn K (.ref fH) = true) (bH : Binds K fdH ["number", "smaller"] []) (gH : mg "_has_no_divisor" = some (.ref fH)) :
    GFn P w K mg base 3 f fd ["many"] spPrimes := by
  have GH2 := GH.mono (k := 2) (by decide)
  refine okGen F scPrimes (fun vs H Q E h => ?_) (fun cdv A outer s H vs Q E pn hr h => ?_)
  · obtain ⟨k, rfl, _⟩ := h
    rfl
  · obtain ⟨k, rfl, hk, q⟩ := h
    refine ⟨_, gss_cons (gs_ps (ps_if (pt_not (pt_val (pe_call GC hr rfl gC kC bC .nil pass0 (pa_cons (pv 0) pa_nil)))) (pss_one ps_no) pss_nil))
      (gss_cons (gs_ps (ps_set (i := 1) scPrimes.nd rfl (.inl rfl) (pe_lst pa_nil)))
      (gss_cons (gs_ps (ps_set (i := 2) scPrimes.nd rfl (.inl rfl) pe_int))
      (gss_cons (gs_while owns_gcx (pt_cmpR op_lt (pe_callB call_len_seq (by rfl) lN PySem.boot_len (pa_cons (pv 1) pa_nil)) (pv 0) (nomark _))
        (gss_cons (gs_if (pt_val (pe_call GH2 hr rfl gH kH bH .nil pass0 (pa_cons (pv 2) (pa_cons (pv 1) pa_nil))))
            (gss_cons (gs_ps (ps_expr (pe_bm PySem.F.plainAttrs_list PySem.F.slot_list_append PySem.F.type_list_append mt_append (pv 1) (pa_cons (pv 2) pa_nil)))) (gss_cons (gs_yield (pv 2)) gss_nil)) gss_nil)
        (gss_cons (gs_ps (ps_set (i := 2) scPrimes.nd rfl (.inl rfl) (pe_op op_add (pv 2) pe_int))) gss_nil))) gss_nil))), ?_⟩
    refine ⟨_, rfl, (k : Int), rfl, ?_⟩
    rw [decide_eq_true (show (0 : Int) ≤ (k : Int) by omega)]
    refine ⟨_, rfl, iteF ?_⟩
    refine ⟨Nat.zero_le _, fun l nl => ?_⟩
    have S0 := fresh_upd (o := .lst []) nl
    refine ⟨fun m ys σ H' => ∃ j, m = 12 - j ∧ PrSt H k j l ys σ H', ⟨12, 0, rfl, by decide, rfl, Nat.zero_le _, rfl, upd_same, S0⟩, ?_⟩
    rintro m ys σ H' ⟨j, rfl, hj, rfl, hlk, rfl, hl', S'⟩
    obtain ⟨t1, t2, t3⟩ := pj_take ⟨j, by omega⟩
    dsimp only at t1 t2 t3
    refine ⟨_, rfl, l, _, rfl, .inl (SqL.of hl'), _, rfl, _, _, rfl, rfl, _, rfl, ?_⟩
    rw [List.length_map]
    refine ite2 (fun h => ?_) fun h => ?_
    · have h' : (pj j).length < k := by
        have := of_decide_eq_true h
        omega
      have hj12 : j < 12 := pj_len ⟨j, by omega⟩ (by show (pj j).length < 6; omega)
      obtain ⟨s1, s2⟩ := pj_step ⟨j, hj12⟩
      dsimp only at s1 s2
      refine ⟨fun ys' σ' H2 => PrSt H k (j + 1) l ys' σ' H2, fun ys' σ' H2 n => ⟨12 - (j + 1), by omega, j + 1, rfl, n⟩, ?_⟩
      refine ⟨_, rfl, _, rfl, 2 + (j : Int), l, pj j, rfl, hl', by omega, t3, fun H2 S2 => ?_⟩
      rw [s1]
      have ej : (2 + ((j + 1 : Nat) : Int)) = 2 + (j : Int) + 1 := by omega
      have hl2 := S2 _ _ hl'
      have SH := S'.trans S2
      refine ⟨_, rfl, ?_⟩
      by_cases hin : (2 + (j : Int)) ∈ p6
      · rw [if_pos hin] at s2
        refine iteT' (decide_eq_true hin) ?_
        have hpl := t2
        refine ⟨_, rfl, .inl ⟨rfl, _, SqL.of hl2⟩, _, rfl, l, _, _, rfl, rfl, hl2, by rw [List.length_map, sizeLine_eq]; omega, ?_⟩
        refine ⟨by rw [List.length_map, sizeLine_eq]; omega, _, rfl, ?_⟩
        refine ⟨_, rfl, _, _, rfl, rfl, ?_⟩
        refine ⟨by omega, ?_, ?_, ?_, ?_, ?_⟩
        · rw [s2, List.map_append]
          rfl
        · rw [s2, List.length_append]
          show (pj j).length + 1 ≤ k
          omega
        · rw [ej]
          rfl
        · rw [upd_same, s2, List.map_append]
          rfl
        · intro b o e
          rw [upd_ne (ne_of_none e nl)]
          exact SH b o e
      · rw [if_neg hin, List.append_nil] at s2
        refine iteN' hin ?_
        refine ⟨_, rfl, _, _, rfl, rfl, ?_⟩
        refine ⟨by omega, by rw [s2], by rw [s2]; omega, ?_, by rw [s2]; exact hl2, SH⟩
        rw [ej]
        rfl
    · have h' : ¬ (pj j).length < k := fun z => by
        have := of_decide_eq_false (Bool.eq_false_iff.mpr h)
        omega
      have e : (pj j).length = k := by omega
      have z := q H' S'
      rw [← e, ← t1] at z
      exact z
end
end K17
set_option maxHeartbeats 8000000
namespace K17
open PySem PySem.Spec PyProof.Rows L2

/-! ### points in a list -/
abbrev sIsL : Stmt := top 20
abbrev sChPs : Stmt := top 39
/-- a right point -/
structure PtOk (es : Es) : Prop where
  ln : es.length ≤ 1000
  nd : (es.map (·.1)).Nodup
  nm : ∀ p ∈ es, isNm p.1 = true
  nn : ∀ p ∈ es, 0 ≤ p.2
def PtsAt (H : Hp) (ds : List Addr) (pss : List Es) : Prop := Paired (fun d es => H d = some (.dK (kv es)) ∧ PtOk es) ds pss
theorem PtsAt.same {H H' : Hp} {ds : List Addr} {pss : List Es} (h : PtsAt H ds pss) (S : Same H H') : PtsAt H' ds pss := Paired.mapP h fun _ _ e => ⟨S _ _ e.1, e.2⟩
theorem PtsAt.get {H : Hp} : ∀ {ds : List Addr} {pss : List Es} {i : Nat} (h : PtsAt H ds pss) (hi : i < ds.length), ∃ es, pss[i]? = some es ∧ H ds[i] = some (.dK (kv es)) ∧ PtOk es
  | _, _, 0, .cons r t, hi => ⟨_, rfl, r⟩
  | _, _, i + 1, .cons r t, hi => PtsAt.get (i := i) t (Nat.lt_of_succ_lt_succ hi)
def spIsL : Sp := fun vs H Q _ => ∃ (l : Addr) (xs : List V), vs = [.ref l] ∧ H l = some (.lst xs) ∧ ∀ H', Same H H' → Q (.bl true) H'
def spChPs : Sp := fun vs H Q _ => ∃ (l : Addr) (ds : List Addr) (pss : List Es), vs = [.ref l] ∧ H l = some (.lst (ds.map V.ref)) ∧ PtsAt H ds pss ∧ ∀ H', Same H H' → Q .non H'
section
variable {P : Program} {w : World} {K : PySem.W.Frag} {mg : Str → Option Value} {base : Heap}
theorem kit_any {K : PySem.W.Frag} : PySem.W.kitAny K (.type "list") [.type "list", .type "tuple"] = some true := by
  unfold PySem.W.kitAny
  rw [kit_ty (a := "list") (b := "list") (r := true) (by decide +kernel)]
theorem scIsL : FnScope ["value"] ["value"] (defScope sIsL) :=
  ⟨rfl, rfl, rfl, by decide +kernel, rfl, by decide +kernel, by decide +kernel⟩
theorem ok_isl {f : Addr} {fd : FuncData} (F : Fun K "is_list" "is_list" sIsL f fd) (T : Nk mg) (lN : mg "list" = none) (tN : mg "tuple" = none) : FnOk P w K mg base CX0 1 f fd ["value"] spIsL := by
  refine F.ok scIsL (fun vs H Q E h => ?_) (fun cdv A outer s H vs Q E hr h => ?_)
  · obtain ⟨l, xs, rfl, _⟩ := h
    rfl
  · obtain ⟨l, xs, rfl, hl, q⟩ := h
    refine ⟨_, pss_one (ps_ret (pe_callB call_isiT (by rfl) T.isi (by decide +kernel) (pa_cons (pv 0) (pa_cons (pe_tup (pa_cons (pe_bltn (v := .ty "list") (u := .type "list") (by rfl) lN (by decide +kernel) rfl)
      (pa_cons (pe_bltn (v := .ty "tuple") (u := .type "tuple") (by rfl) tN (by decide +kernel) rfl) pa_nil))) pa_nil)))), ?_⟩
    refine ⟨_, rfl, by rw [sizeLine_eq]; show 2 ≤ 16777216; decide, fun T nT => ?_⟩
    have S1 := fresh_upd (o := .tup [V.ty "list", V.ty "tuple"]) nT
    exact ⟨.ref l, T, _, .type "list", [.type "list", .type "tuple"], true, rfl, upd_same, .cons (.ty _) (.cons (.ty _) .nil), .base (.lst (S1 _ _ hl)), kit_any, q _ S1⟩
theorem scChPs : FnScope ["value", "position", "point"] ["value"] (defScope sChPs) :=
  ⟨rfl, rfl, rfl, by decide +kernel, rfl, by decide +kernel, by decide +kernel⟩
theorem ok_chps {f fL fP : Addr} {fd fdL fdP : FuncData} (F : Fun K "check_points" "check_points" sChPs f fd) (eN : mg "enumerate" = none)
    (GL : FnOk P w K mg base CX0 1 fL fdL ["value"] spIsL) (kL : PySem.W.keepIn K (.ref fL) = true) (bL : Binds K fdL ["value"] []) (gL : mg "is_list" = some (.ref fL))
    (GP : FnOk P w K mg base CX0 3 fP fdP ["value"] spIsPt) (kP : PySem.W.keepIn K (.ref fP) = true) (bP : Binds K fdP ["value"] []) (gP : mg "is_point" = some (.ref fP)) :
    FnOk P w K mg base CX0 4 f fd ["value"] spChPs := by
  have GL3 := GL.mono (k := 3) (by decide)
  refine F.ok scChPs (fun vs H Q E h => ?_) (fun cdv A outer s H vs Q E hr h => ?_)
  · obtain ⟨l, ds, pss, rfl, _⟩ := h
    rfl
  · obtain ⟨l, ds, pss, rfl, hl, hP, k⟩ := h
    refine ⟨_, pss_cons (ps_if (pt_not (pt_val (pe_call GL3 hr rfl gL kL bL .nil pass0 (pa_cons (pv 0) pa_nil)))) (pss_one ps_no) pss_nil)
      (pss_one (ps_for PassesOwn.never rfl (pi_enum (by rfl) eN (pa_cons (pv 0) pa_nil)) (pg_tup rfl (pgs_cons (pg_name (i := 1) scChPs.nd rfl (Or.inl rfl)) (pgs_cons (pg_name (i := 2) scChPs.nd rfl (Or.inl rfl)) pgs_nil)))
        (pss_one (ps_if (pt_not (pt_val (pe_call GP hr rfl gP kP bP .nil pass0 (pa_cons (pv 2) pa_nil)))) (pss_one ps_no) pss_nil)))), ?_⟩
    refine ⟨_, rfl, l, _, rfl, hl, fun H1 S1 => ⟨_, rfl, iteF ?_⟩⟩
    refine ⟨_, rfl, l, _, rfl, SqL.of (S1 _ _ hl), for_it (walk_enum (K := K) (a := l) (xs := ds.map V.ref)) (fun i σ H2 => (∃ o1 o2, σ = [some (.ref l), o1, o2]) ∧ Same H H2)
      ⟨⟨none, none, rfl⟩, S1⟩ (fun i σ H2 _ h => SqL.of (h.2 _ _ hl)) ?_ ?_⟩
    · rintro i v σ H9 H2 hi ⟨⟨o1, o2, rfl⟩, S2⟩ ⟨T, y, z, rfl, nT, rfl, e1, e2⟩
      rw [List.length_map] at hi
      have ez : z = V.ref ds[i] := by
        dsimp only at e2
        rw [List.getElem?_map, List.getElem?_eq_getElem hi] at e2
        exact (Option.some.inj e2).symm
      subst ez
      have S3 := fresh_upd (o := .tup [y, V.ref ds[i]]) nT
      obtain ⟨es, _, q1, q2⟩ := (hP.same (S2.trans S3)).get hi
      refine ⟨T, _, rfl, SqT.of upd_same, rfl, _, _, rfl, _, _, rfl, rfl, ?_⟩
      refine ⟨_, rfl, _, es, rfl, q1, q2.ln, q2.nd, q2.nm, q2.nn, fun H4 S4 => ⟨_, rfl, iteF ?_⟩⟩
      exact ⟨⟨_, _, rfl⟩, S2.trans (S3.trans S4)⟩
    · rintro σ H2 ⟨⟨o1, o2, rfl⟩, S2⟩
      exact k H2 S2
end
end K17
set_option maxHeartbeats 8000000
namespace K17
open PySem PySem.Spec PyProof.Rows L2

/-! ### _number_of -/
abbrev sNo : Stmt := top 42
/-- the product of the bases, each raised to the count of the name in its point -/
def noV (nm : Str) : List Nat → List Es → Nat
  | b :: bs, es :: pss => b ^ (g0 es nm).toNat * noV nm bs pss
  | _, _ => 1
theorem noV_pos {nm : Str} : ∀ {bs : List Nat} {pss : List Es}, (∀ b ∈ bs, 0 < b) → 0 < noV nm bs pss
  | [], _, _ => Nat.one_pos
  | b :: bs, [], _ => Nat.one_pos
  | b :: bs, es :: pss, h => Nat.mul_pos (Nat.pow_pos (h b (List.mem_cons_self ..))) (noV_pos fun c hc => h c (List.mem_cons_of_mem _ hc))
theorem noV_snoc {nm : Str} : ∀ {bs : List Nat} {pss : List Es} {i : Nat} (h1 : i < bs.length) (h2 : i < pss.length),
    noV nm (bs.take (i + 1)) (pss.take (i + 1)) = noV nm (bs.take i) (pss.take i) * bs[i] ^ (g0 pss[i] nm).toNat
  | b :: bs, es :: pss, 0, _, _ => by
    show b ^ (g0 es nm).toNat * noV nm (bs.take 0) (pss.take 0) = 1 * b ^ (g0 es nm).toNat
    have e : noV nm (bs.take 0) (pss.take 0) = 1 := by
      rw [List.take_zero, List.take_zero]
      rfl
    rw [e, Nat.mul_one, Nat.one_mul]
  | b :: bs, es :: pss, i + 1, h1, h2 => by
    have g1 : i < bs.length := Nat.lt_of_succ_lt_succ h1
    have g2 : i < pss.length := Nat.lt_of_succ_lt_succ h2
    have ih := noV_snoc (nm := nm) g1 g2
    show b ^ (g0 es nm).toNat * noV nm (bs.take (i + 1)) (pss.take (i + 1)) = b ^ (g0 es nm).toNat * noV nm (bs.take i) (pss.take i) * bs[i] ^ (g0 pss[i] nm).toNat
    rw [ih, Nat.mul_assoc]
theorem noV_take {nm : Str} {bs : List Nat} {pss : List Es} (hb : ∀ b ∈ bs, 0 < b) (hl : bs.length = pss.length) : ∀ k i, i + k = bs.length → noV nm (bs.take i) (pss.take i) ≤ noV nm bs pss
  | 0, i, h => by
    rw [List.take_of_length_le (by omega), List.take_of_length_le (by omega)]
    exact Nat.le_refl _
  | k + 1, i, h => by
    have ih := noV_take (nm := nm) hb hl k (i + 1) (by omega)
    rw [noV_snoc (by omega) (by omega)] at ih
    exact Nat.le_trans (Nat.le_mul_of_pos_right _ (Nat.pow_pos (hb _ (List.getElem_mem _)))) ih
theorem big500 : (10 : Nat) ^ 500 < 2 ^ 2000 := by
  have h1 : (10 : Nat) ^ 500 = (10 ^ 5) ^ 100 := by rw [← Nat.pow_mul]
  have h2 : (2 : Nat) ^ 2000 = (2 ^ 20) ^ 100 := by rw [← Nat.pow_mul]
  rw [h1, h2]
  exact Nat.pow_lt_pow_left (by decide) (by decide)
theorem ten500 : (10 : Int) ^ 500 = ((10 ^ 500 : Nat) : Int) := (Int.natCast_pow 10 500).symm
structure Tg (mg : Str → Option Value) : Prop where
  zip : mg "zip" = none
  gc : ∃ t, mg "GREATEST_COUNT" = some (.int 2000 t)
  tg : ∃ t, mg "TOO_GREAT" = some (.int (10 ^ 500) t)
def spNo : Sp := fun vs H Q _ => ∃ (nm : Str) (lp lb : Addr) (ds : List Addr) (pss : List Es) (bs : List Nat), vs = [.str nm, .ref lp, .ref lb] ∧ H lp = some (.lst (ds.map V.ref)) ∧ PtsAt H ds pss ∧
  H lb = some (.lst (bs.map fun (b : Nat) => V.int (b : Int))) ∧ bs.length = ds.length ∧ ds.length = pss.length ∧ (∀ b ∈ bs, 0 < b ∧ b < 1000) ∧ (∀ es ∈ pss, g0 es nm ≤ 2000) ∧ noV nm bs pss < 10 ^ 500 ∧
  ∀ H', Same H H' → Q (.int ((noV nm bs pss : Nat) : Int)) H'
def NNo : List Str := ["name", "points", "bases", "number", "base", "point", "count"]
section
variable {P : Program} {w : World} {K : PySem.W.Frag} {mg : Str → Option Value} {base : Heap}
theorem scNo : FnScope NNo ["name", "points", "bases"] (defScope sNo) :=
  ⟨rfl, rfl, rfl, by decide +kernel, rfl, by decide +kernel, by decide +kernel⟩
theorem ok_no {f fR : Addr} {fd fdR : FuncData} (F : Fun K "_number_of" "_number_of" sNo f fd) (T : Tg mg)
    (GR : FnOk P w K mg base CX0 1 fR fdR ["base", "count"] spRai) (kR : PySem.W.keepIn K (.ref fR) = true) (bR : Binds K fdR ["base", "count"] []) (gR : mg "raised" = some (.ref fR)) :
    FnOk P w K mg base CX0 2 f fd ["name", "points", "bases"] spNo := by
  obtain ⟨t1, g1⟩ := T.gc
  obtain ⟨t2, g2⟩ := T.tg
  refine F.ok scNo (fun vs H Q E h => ?_) (fun cdv A outer s H vs Q E hr h => ?_)
  · obtain ⟨nm, lp, lb, ds, pss, bs, rfl, _⟩ := h
    rfl
  · obtain ⟨nm, lp, lb, ds, pss, bs, rfl, hlp, hP, hlb, hl1, hl2, hb, hc, hlt, k⟩ := h
    have hu : (A.deeper (envOfC "_number_of" (defScope sNo) s.heap.objs.size f cdv)).units + 1 < cLine := by have := hr.units; omega
    refine ⟨_, pss_cons (ps_set (i := 3) scNo.nd rfl (.inl rfl) pe_int)
      (pss_cons (ps_for PassesOwn.never rfl (pi_zip (by rfl) T.zip (pa_cons (pv 2) (pa_cons (pv 1) pa_nil))) (pg_tup rfl (pgs_cons (pg_name (i := 4) scNo.nd rfl (Or.inl rfl)) (pgs_cons (pg_name (i := 5) scNo.nd rfl (Or.inl rfl)) pgs_nil)))
        (pss_cons (ps_set (i := 6) scNo.nd rfl (.inl rfl) (pe_dget2 hu (pv 5) (pv 0) pe_int ⟨rfl, rfl, rfl, rfl⟩))
        (pss_cons (ps_if (pt_cmpR op_gt (pv 6) (pe_glob (v := .int 2000) (by rfl) g1 ⟨t1, rfl⟩) (nomark _)) (pss_one ps_no) pss_nil)
        (pss_cons (ps_set (i := 3) scNo.nd rfl (.inl rfl) (pe_op op_mulW (pv 3) (pe_call GR hr rfl gR kR bR .nil pass0 (pa_cons (pv 4) (pa_cons (pv 6) pa_nil)))))
        (pss_one (ps_if (pt_cmpR op_ge (pv 3) (pe_glob (v := .int (10 ^ 500)) (by rfl) g2 ⟨t2, rfl⟩) (nomark _)) (pss_one ps_no) pss_nil))))))
      (pss_one (ps_ret (pv 3)))), ?_⟩
    refine ⟨_, rfl, _, rfl, lb, lp, _, _, rfl, SqL.of hlb, SqL.of hlp, for_it (walk_zip (K := K) (a := lb) (b := lp) (xs := bs.map fun (b : Nat) => V.int (b : Int)) (ys := ds.map V.ref) (n := bs.length) (by rw [List.length_map, List.length_map]; omega))
      (fun i σ H2 => (∃ o4 o5 o6, σ = [some (.str nm), some (.ref lp), some (.ref lb), some (.int ((noV nm (bs.take i) (pss.take i) : Nat) : Int)), o4, o5, o6]) ∧ Same H H2)
      ⟨⟨none, none, none, rfl⟩, Same.refl H⟩ (fun i σ H2 _ h => ⟨SqL.of (h.2 _ _ hlb), SqL.of (h.2 _ _ hlp)⟩) ?_ ?_⟩
    · rintro i v σ H9 H2 hi ⟨⟨o4, o5, o6, rfl⟩, S2⟩ ⟨T', y, z, rfl, nT, rfl, e1, e2⟩
      have hip : i < pss.length := by omega
      have hid : i < ds.length := by omega
      have ey : y = V.int (bs[i] : Int) := by
        dsimp only at e1
        rw [List.getElem?_map, List.getElem?_eq_getElem hi] at e1
        exact (Option.some.inj e1).symm
      have ez : z = V.ref ds[i] := by
        dsimp only at e2
        rw [List.getElem?_map, List.getElem?_eq_getElem hid] at e2
        exact (Option.some.inj e2).symm
      subst ey
      subst ez
      have S3 := fresh_upd (o := .tup [V.int (bs[i] : Int), V.ref ds[i]]) nT
      obtain ⟨es, q0, q1, q2⟩ := (hP.same (S2.trans S3)).get hid
      have ees : es = pss[i] := by
        rw [List.getElem?_eq_getElem hip] at q0
        exact (Option.some.inj q0).symm
      subst ees
      obtain ⟨b0, b1⟩ := hb _ (List.getElem_mem hi)
      have hcn := hc _ (List.getElem_mem hip)
      have hc0 : 0 ≤ g0 pss[i] nm := by
        unfold g0
        cases e : pss[i].lookup nm with
        | none => exact Int.le_refl 0
        | some v =>
          obtain ⟨q, hq, e2⟩ := List.mem_map.mp (look_mem.mp (show (pss[i].lookup nm).isSome = true by rw [e]; rfl))
          have z := look_get q2.nd (n := q.1) (v := q.2) hq
          rw [e2, e] at z
          have := q2.nn q hq
          rw [← Option.some.inj z] at this
          exact this
      obtain ⟨c, hcc⟩ : ∃ c : Nat, g0 pss[i] nm = (c : Int) := ⟨(g0 pss[i] nm).toNat, by omega⟩
      have hst := noV_snoc (nm := nm) hi hip
      have hle := noV_take (nm := nm) (fun b h => (hb b h).1) (by omega : bs.length = pss.length) (bs.length - (i + 1)) (i + 1) (by omega)
      have hpos : 0 < noV nm (bs.take i) (pss.take i) := noV_pos fun b h => (hb b (List.mem_of_mem_take h)).1
      rw [hcc, Int.toNat_natCast] at hst
      rw [hst] at hle
      have hp2 : 0 < bs[i] ^ c := Nat.pow_pos b0
      refine ⟨T', _, rfl, SqT.of upd_same, rfl, _, _, rfl, _, _, rfl, rfl, ?_⟩
      refine ⟨_, rfl, ds[i], rfl, .inl ⟨_, .inl q1⟩, _, rfl, _, DGet.k (k := ky nm) q1, ?_⟩
      rw [get_int, hcc]
      refine ⟨_, rfl, _, _, rfl, rfl, _, rfl, ?_⟩
      refine iteN' (by omega) ?_
      have m1 : bs[i] ^ c ≤ 10 ^ 500 := Nat.le_of_lt (Nat.lt_of_le_of_lt (Nat.le_trans (Nat.le_mul_of_pos_left _ hpos) hle) hlt)
      have m2 : noV nm (bs.take i) (pss.take i) ≤ 10 ^ 500 := Nat.le_of_lt (Nat.lt_of_le_of_lt (Nat.le_trans (Nat.le_mul_of_pos_right _ hp2) hle) hlt)
      have m3 : (10 : Nat) ^ 500 < 2 ^ 300001 := Nat.lt_trans big500 (Nat.pow_lt_pow_right (by decide) (by decide))
      refine ⟨_, rfl, _, rfl, _, rfl, bs[i], c, rfl, b0, by omega, by omega, _, _, rfl, rfl, wm m1 m2 m3, ?_⟩
      have hfin : ¬ ((10 : Int) ^ 500 ≤ ((noV nm (bs.take i) (pss.take i) : Nat) : Int) * ((bs[i] ^ c : Nat) : Int)) := by
        rw [← Int.natCast_mul, ten500]
        intro z
        have := Int.ofNat_le.mp z
        omega
      refine ⟨_, rfl, _, _, rfl, rfl, _, rfl, iteN' hfin ?_⟩
      refine ⟨⟨some (.int (bs[i] : Int)), some (.ref ds[i]), some (.int (c : Int)), ?_⟩, S2.trans S3⟩
      rw [hst, Int.natCast_mul]
      rfl
    · rintro σ H2 ⟨⟨o4, o5, o6, rfl⟩, S2⟩
      rw [List.take_length, List.take_of_length_le (by omega)]
      exact ⟨_, rfl, k H2 S2⟩
end
end K17
set_option maxHeartbeats 8000000
namespace K17
open PySem PySem.Spec PyProof.Rows L2 TL

/-! ### names that are drawn -/
def one (c : Nat) : Str := ⟨#[c]⟩
/-- _law_choice(rng, text) -/
def spChoiceS : Sp := fun vs H Q _ => ∃ (r : Addr) (x : Str), vs = [.ref r, .str x] ∧ Rg H r ∧ 0 < x.length ∧ x.length < 1000000 ∧
  ∀ (H' : Hp) (c : Nat), c ∈ tl x → Rg H' r → But r H H' → Q (.str (one c)) H'
theorem But.refl (r : Addr) (H : Hp) : But r H H := fun _ _ _ e => e
theorem But.of {r : Addr} {H H' : Hp} (S : Same H H') : But r H H' := fun b o _ e => S b o e
theorem Rg.same {H H' : Hp} {r : Addr} (h : Rg H r) (S : Same H H') : Rg H' r := by
  obtain ⟨x, y, h1, h2⟩ := h
  exact ⟨x, y, S _ _ h1, h2⟩
theorem Rg.ne {H : Hp} {r p : Addr} (h : Rg H r) (n : H p = none) : r ≠ p := by
  obtain ⟨x, y, h1, h2⟩ := h
  exact ne_of_none h1 n
theorem Rg.upd {H : Hp} {r p : Addr} {o : HO} (h : Rg H r) (n : p ≠ r) : Rg (upd H p o) r := by
  obtain ⟨x, y, h1, h2⟩ := h
  exact ⟨x, y, (upd_ne n.symm).trans h1, h2⟩
theorem But.upd {H H' : Hp} {r p : Addr} {o : HO} (h : But r H H') (n : H p = none) : But r H (upd H' p o) := fun b u hb e => by
  rw [upd_ne (ne_of_none e n)]
  exact h b u hb e
theorem sum_ones : ∀ {ys : List Str}, (∀ y ∈ ys, y.length ≤ 1) → (ys.map (·.length)).sum ≤ ys.length
  | [], _ => Nat.le_refl _
  | y :: r, h => by
    have ih := sum_ones (ys := r) fun z hz => h z (List.mem_cons_of_mem _ hz)
    have h1 := h y (List.mem_cons_self ..)
    show y.length + (r.map (·.length)).sum ≤ r.length + 1
    omega
theorem eq_str (a b : Str) : eqV (.str a) (.str b) = (a == b) := rfl
theorem inV_str {x : Str} : ∀ {ns : List Str}, inV (.str x) (ns.map V.str) = decide (x ∈ ns)
  | [] => by simp [inV]
  | n :: r => by
    have ih := inV_str (x := x) (ns := r)
    show (eqV (.str n) (.str x) || inV (.str x) (r.map V.str)) = _
    rw [ih, eq_str]
    by_cases h : n = x
    · subst h
      simp
    · have h1 : (n == x) = false := by simpa using h
      have h2 : ¬ x = n := fun z => h z.symm
      rw [h1]
      simp [h2]
theorem flat_strs : ∀ ns : List Str, (ns.map V.str).all flatV = true
  | [] => rfl
  | n :: r => by
    rw [List.map_cons, List.all_cons, flat_strs r]
    rfl
/-- a drawn text -/
def Ltr (x : Str) : Prop := 1 ≤ x.length ∧ x.length ≤ 3 ∧ ∀ c ∈ tl x, c ∈ tl abc
def spare (x : Str) : List Str := x :: (tl abc).map fun c => x ++ one c
theorem nm_of {x : Str} (h1 : 1 ≤ x.length) (h2 : x.length ≤ 8) (h3 : ∀ c ∈ tl x, c ∈ tl abc) : isNm x = true := by
  unfold isNm
  rw [decide_eq_true h1, decide_eq_true h2, Bool.true_and, Bool.true_and, List.all_eq_true]
  intro c hc
  exact decide_eq_true (h3 c hc)
theorem tl_one (c : Nat) : tl (one c) = [c] := rfl
theorem spare_nm {x : Str} (h : Ltr x) : ∀ y ∈ spare x, isNm y = true := fun y hy => by
  obtain ⟨h1, h2, h3⟩ := h
  rcases List.mem_cons.mp hy with rfl | hy
  · exact nm_of h1 (by omega) h3
  · obtain ⟨c, hc, rfl⟩ := List.mem_map.mp hy
    have e : (x ++ one c).length = x.length + 1 := by
      rw [len_tl, tl_append, List.length_append, ← len_tl, tl_one]
      rfl
    refine nm_of (by omega) (by omega) fun d hd => ?_
    rw [tl_append] at hd
    rcases List.mem_append.mp hd with hd | hd
    · exact h3 d hd
    · rw [tl_one] at hd
      rw [List.mem_singleton.mp hd]
      exact hc
theorem spare_nd (x : Str) : (spare x).Nodup := by
  refine List.nodup_cons.mpr ⟨fun z => ?_, ?_⟩
  · obtain ⟨c, _, e⟩ := List.mem_map.mp z
    have e2 := congrArg tl e
    rw [tl_append, tl_one] at e2
    have e3 := congrArg List.length e2
    rw [List.length_append] at e3
    simp at e3
  · have hn : (tl abc).Nodup := by decide +kernel
    refine List.Pairwise.map _ (fun a b h e => h ?_) hn
    have e2 := congrArg tl e
    rw [tl_append, tl_append, tl_one, tl_one] at e2
    have e3 := List.append_cancel_left e2
    injection e3
theorem spare_len (x : Str) : (spare x).length = 27 := by
  unfold spare
  rw [List.length_cons, List.length_map]
  have : (tl abc).length = 26 := by decide +kernel
  omega
theorem spare_free {x : Str} {ns : List Str} (h : ns.length < 27) : (spare x).filter (fun y => decide (y ∉ ns)) ≠ [] := fun e => by
  have z := sub_len (spare x) ns (spare_nd x) fun y hy => by
    by_cases q : y ∈ ns
    · exact q
    · have : y ∈ (spare x).filter (fun y => decide (y ∉ ns)) := List.mem_filter.mpr ⟨hy, decide_eq_true q⟩
      rw [e] at this
      cases this
  rw [spare_len] at z
  omega
theorem joinL_nil : ∀ ps : List (List Nat), joinL [] ps = ps.flatten
  | [] => rfl
  | [p] => by
    show p = (p :: []).flatten
    simp
  | p :: q :: r => by
    have ih := joinL_nil (q :: r)
    show p ++ ([] ++ joinL [] (q :: r)) = p ++ (q :: r).flatten
    rw [ih]
    rfl
theorem ltr_of {ys : List Str} (h1 : 1 ≤ ys.length) (h2 : ys.length ≤ 3) (h : ∀ y ∈ ys, ∃ c ∈ tl abc, y = one c) : Ltr (Txt.join "" ys) := by
  have e : tl (Txt.join "" ys) = (ys.map tl).flatten := by
    rw [join_eq, tl_join]
    exact joinL_nil _
  have hl : ∀ zs : List Str, (∀ y ∈ zs, ∃ c ∈ tl abc, y = one c) → (zs.map tl).flatten.length = zs.length ∧ ∀ c ∈ (zs.map tl).flatten, c ∈ tl abc := fun zs => by
    induction zs with
    | nil => intro _; exact ⟨rfl, fun c hc => by cases hc⟩
    | cons z r ih =>
      intro hz
      obtain ⟨i1, i2⟩ := ih fun y hy => hz y (List.mem_cons_of_mem _ hy)
      obtain ⟨c, hc, rfl⟩ := hz z (List.mem_cons_self ..)
      rw [List.map_cons, List.flatten_cons, tl_one]
      refine ⟨by rw [List.length_append, i1, List.length_cons, List.length_cons, List.length_nil]; omega, fun d hd => ?_⟩
      rcases List.mem_append.mp hd with hd | hd
      · rw [List.mem_singleton.mp hd]
        exact hc
      · exact i2 d hd
  obtain ⟨i1, i2⟩ := hl ys h
  have e2 : (Txt.join "" ys).length = ys.length := by rw [len_tl, e, i1]
  exact ⟨by omega, by omega, fun c hc => i2 c (by rw [← e]; exact hc)⟩

abbrev sNm : Stmt := top 64
def spNm : Sp := fun vs H Q _ => ∃ (r : Addr) (m : Int) (t : Addr), vs = [.ref r, .int m, .ref t] ∧ Rg H r ∧ 0 ≤ m ∧ m ≤ 10 ∧ t ≠ r ∧ H t = some (.lst []) ∧
  ∀ (H' : Hp) (l : Addr) (ns : List Str), But r H H' → Rg H' r → H l = none → H' l = some (.lst (ns.map V.str)) → Pool ns → (ns.length : Int) = m → Q (.ref l) H'
def NNm : List Str := ["_law_rng_here", "_law_bound", "_law_taken", "_law_found", "_law_k", "_law_word", "_law_spare", "_law_turn", "_law_one"]
section
variable {P : Program} {w : World} {K : PySem.W.Frag} {mg : Str → Option Value} {base : Heap}
theorem ok_choiceS {f fD : Addr} {fd fdD : FuncData} (F : Fun K "_law_choice" "_law_choice" sChoice f fd) (T : Nb mg)
    (FD : Fun K "_law_draw" "_law_draw" sDraw fD fdD) (bD : Binds K fdD ["_law_rng_here", "_law_bound"] [])
    (gD : mg "_law_draw" = some (.ref fD)) :
    FnOk P w K mg base CX0 2 f fd ["_law_rng_here", "_law_some"] spChoiceS := by
  have GD : FnOk P w K mg base CX0 1 fD fdD ["_law_rng_here", "_law_bound"] spDraw := ok_draw FD T
  refine F.ok scChoice (fun vs H Q E h => ?_) (fun cdv A outer s H vs Q E hr h => ?_)
  · obtain ⟨r, x, rfl, _⟩ := h
    rfl
  · obtain ⟨r, x, rfl, hR, h0, h1, q⟩ := h
    refine ⟨_, pss_one (ps_ret (pe_ix ix_str (pv 1) (pe_call GD hr rfl gD FD.kp bD .nil pass0
      (pa_cons (pv 0) (pa_cons (pe_callB call_len_str (by rfl) T.len PySem.boot_len (pa_cons (pv 1) pa_nil)) pa_nil)))
      (fun _ _ => rfl))), ?_⟩
    refine ⟨_, rfl, _, rfl, _, rfl, x, rfl, by rw [sizeLine_eq]; omega, ?_⟩
    refine ⟨r, _, rfl, hR, by omega, by omega, fun H' d d0 d1 hR' hB => ?_⟩
    obtain ⟨j, rfl⟩ : ∃ j : Nat, d = (j : Int) := ⟨d.toNat, by omega⟩
    have hj : j < x.cps.toList.length := by
      have e : x.length = x.cps.toList.length := len_tl x
      omega
    exact ⟨x, _, x.cps.toList[j], rfl, rfl, by rw [sizeLine_eq]; omega, atI_nat (List.getElem?_eq_getElem hj), q H' _ (List.getElem_mem hj) hR' hB⟩
theorem scNm : FnScope NNm ["_law_rng_here", "_law_bound", "_law_taken"] (defScope sNm) :=
  ⟨rfl, rfl, rfl, by decide +kernel, rfl, by decide +kernel, by decide +kernel⟩
theorem ok_nm {f fD fC : Addr} {fd fdD fdC : FuncData} (F : Fun K "_law_names" "_law_names" sNm f fd) (T : Nb mg)
    (FD : Fun K "_law_draw" "_law_draw" sDraw fD fdD) (bD : Binds K fdD ["_law_rng_here", "_law_bound"] []) (gD : mg "_law_draw" = some (.ref fD))
    (FC : Fun K "_law_choice" "_law_choice" sChoice fC fdC) (bC : Binds K fdC ["_law_rng_here", "_law_some"] []) (gC : mg "_law_choice" = some (.ref fC)) :
    FnOk P w K mg base CX0 3 f fd ["_law_rng_here", "_law_bound", "_law_taken"] spNm := by
  have GD : FnOk P w K mg base CX0 2 fD fdD ["_law_rng_here", "_law_bound"] spDraw := (ok_draw FD T).mono (by decide)
  have GC : FnOk P w K mg base CX0 2 fC fdC ["_law_rng_here", "_law_some"] spChoiceS := ok_choiceS FC T FD bD gD
  refine F.ok scNm (fun vs H Q E h => ?_) (fun cdv A outer s H vs Q E hr h => ?_)
  · obtain ⟨r, m, t, rfl, _⟩ := h
    rfl
  · obtain ⟨r, m, t, rfl, hR, hm, hm2, tr, ht, q⟩ := h
    refine ⟨_, pss_cons (ps_set (i := 3) scNm.nd rfl (.inr rfl) (pe_lst pa_nil))
      (pss_cons (ps_for PassesOwn.never rfl (pi_range1 (by rfl) T.range (pa_cons (pv 1) pa_nil)) (pg_name (i := 4) scNm.nd rfl (Or.inl rfl))
        (pss_cons (ps_set (i := 5) scNm.nd rfl (.inr rfl) (pe_join pe_str (pe_lc (own := [("_law_turn", 7)]) (g := gName 7) (tt := tYes) (te := tCall spChoiceS [] E0 (tCons (tVar 0) (tCons (tC (.str abc)) tNil))) rfl scNm.nd
          (pi_range1 (by rfl) T.range (pa_cons (pe_op op_add pe_int (pe_call GD hr rfl gD FD.kp bD .nil pass0 (pa_cons (pv 0) (pa_cons pe_int pa_nil)))) pa_nil))
          (blkOk_by (own := [("_law_turn", 7)]) (N := NNm) (sc := defScope sNm) (by decide +kernel)) (fun _ _ _ _ _ => pg_name (i := 7) scNm.nd rfl (Or.inl rfl))
          (fun _ _ _ _ _ => pts_nil) (fun _ _ _ _ _ => by exact pe_call GC hr rfl gC FC.kp bC .nil pass0 (pa_cons (pv 0) (pa_cons pe_str pa_nil))))))
        (pss_cons (ps_set (i := 6) scNm.nd rfl (.inl rfl) (pe_op op_cat (pe_lst (pa_cons (pv 5) pa_nil)) (pe_lc (own := [("_law_one", 8)]) (g := gName 8) (tt := tYes)
          (te := tOp (fun x y H Q => ∃ i j, x = .str i ∧ y = .str j ∧ i.length + j.length ≤ sizeLine ∧ Q (.str (i ++ j)) H) (tVar 5) (tVar 8)) rfl scNm.nd (pi_str pe_str)
          (blkOk_by (own := [("_law_one", 8)]) (N := NNm) (sc := defScope sNm) (by decide +kernel)) (fun _ _ _ _ _ => pg_name (i := 8) scNm.nd rfl (Or.inl rfl))
          (fun _ _ _ _ _ => pts_nil) (fun _ _ _ _ _ => by exact pe_op op_add_str (pv 5) (pv 8)))))
        (pss_one (ps_expr (pe_bm PySem.F.plainAttrs_list PySem.F.slot_list_append PySem.F.type_list_append mt_append (pv 3) (pa_cons
          (pe_ix ix_list (pe_lc (own := [("_law_one", 8)]) (g := gName 8) (tt := tAnd (tTest (tOp (rIn K true) (tVar 8) (tVar 3))) (tTest (tOp (rIn K true) (tVar 8) (tVar 2)))) (te := tVar 8) rfl scNm.nd (pi_list (pv 6))
            (blkOk_by (own := [("_law_one", 8)]) (N := NNm) (sc := defScope sNm) (by decide +kernel)) (fun _ _ _ _ _ => pg_name (i := 8) scNm.nd rfl (Or.inl rfl))
            (fun _ _ _ _ _ => pts_one (by exact PW.pt (pw_and (pt_cmpR op_notIn_seq (pv 8) (pv 3) rfl) (pw_and1 (pt_cmpR op_notIn_seq (pv 8) (pv 2) rfl))))) (fun _ _ _ _ _ => by exact pv 8))
            pe_int (fun _ _ => rfl)) pa_nil)))))))
      (pss_one (ps_ret (pv 3)))), ?_⟩
    refine ⟨Nat.zero_le _, fun l nl => ?_⟩
    have S0 := fresh_upd (o := .lst []) nl
    have rl := hR.ne nl
    have tl' : t ≠ l := ne_of_none ht nl
    refine ⟨_, rfl, m, rfl, by omega, by omega, ?_⟩
    refine for_it (walk_range (lo := 0) (n := m.toNat)) (fun i σ H2 => (∃ o4 o5 o6, σ = [some (.ref r), some (.int m), some (.ref t), some (.ref l), o4, o5, o6, none, none]) ∧ Rg H2 r ∧ But r H H2 ∧
      ∃ ns : List Str, H2 l = some (.lst (ns.map V.str)) ∧ ns.Nodup ∧ ns.length = i ∧ ∀ n ∈ ns, isNm n = true)
      ⟨⟨none, none, none, rfl⟩, hR.same S0, But.of S0, [], upd_same, List.Pairwise.nil, rfl, fun n hn => by cases hn⟩ (fun _ _ _ _ _ => trivial) ?_ ?_
    · rintro i x σ H2 H2' hi ⟨⟨o4, o5, o6, rfl⟩, hR2, B2, ns, hl2, nd, hln, hnm⟩ ⟨rfl, rfl⟩
      have ht2 := B2 _ _ tr ht
      refine ⟨⟨_, rfl⟩, _, rfl, r, 3, rfl, hR2, by decide, by decide, fun H3 d d0 d1 hR3 B3 => ⟨_, _, rfl, rfl, _, rfl, by omega, by omega, fun D hD => ?_⟩⟩
      have Dr : D ≠ r := (hR3.ne hD).symm
      refine lc_range (lo := 0) (n := (1 + d).toNat) (fun j H4 => Rg H4 r ∧ But r H3 H4 ∧ ∃ ys : List Str, H4 D = some (.lst (ys.map V.str)) ∧ ys.length = j ∧ ∀ y ∈ ys, ∃ c ∈ TL.tl abc, y = one c)
        ⟨hR3.upd Dr, But.of (fresh_upd hD), [], upd_same, rfl, fun y hy => by cases hy⟩ ?_ ?_
      · rintro j H4 hj ⟨hR4, B4, ys, hD4, hy, hys⟩
        refine ⟨rfl, ?_⟩
        unfold tYes
        dsimp only
        rw [if_pos rfl]
        refine ⟨_, rfl, r, abc, rfl, hR4, by decide +kernel, by decide +kernel, fun H5 c hc hR5 B5 => ?_⟩
        refine ⟨_, B5 _ _ Dr hD4, by rw [List.length_map, sizeLine_eq]; omega, hR5.upd Dr, (B4.trans B5).upd hD, ys ++ [one c], ?_, by rw [List.length_append, hy]; rfl, fun y hy' => ?_⟩
        · rw [upd_same, List.map_append]
          rfl
        · rcases List.mem_append.mp hy' with z | z
          · exact hys y z
          · exact ⟨c, hc, List.mem_singleton.mp z⟩
      · rintro H4 ⟨hR4, B4, ys, hD4, hy, hys⟩
        have hx : Ltr (Txt.join "" ys) := ltr_of (by omega) (by omega) hys
        refine ⟨_, D, ys, rfl, rfl, .inl (SqL.of hD4), ?_, ?_⟩
        · have z := sum_ones (ys := ys) fun y hy => by
            obtain ⟨c, _, rfl⟩ := hys y hy
            exact Nat.le_refl _
          have e : ("" : Str).length = 0 := rfl
          rw [e]
          omega
        generalize Txt.join (Str.ofString "") ys = x at hx
        refine ⟨_, rfl, by rw [sizeLine_eq]; show 1 ≤ 16777216; decide, fun p1 np1 => ?_⟩
        have S1 := fresh_upd (o := .lst [.str x]) np1
        refine ⟨_, rfl, fun D2 hD2 => ?_⟩
        refine lc_it walk_str (fun j H5 => H5 D2 = some (.lst ((((TL.tl abc).take j).map fun c => x ++ one c).map V.str)) ∧ Same (L2.upd H4 p1 (.lst [.str x])) H5)
          ⟨upd_same, fresh_upd hD2⟩ (fun _ _ _ _ => trivial) ?_ ?_
        · rintro j v H5 H6 hj ⟨hD5, S5⟩ ⟨rfl, c, hc, rfl⟩
          refine ⟨rfl, ?_⟩
          unfold tYes
          dsimp only
          rw [if_pos rfl]
          have l26 : (TL.tl abc).length = 26 := by decide +kernel
          refine ⟨_, rfl, _, rfl, _, _, rfl, rfl, ?_, _, hD5, ?_, ?_, fun b o e => ?_⟩
          · have e : (⟨#[c]⟩ : Str).length = 1 := rfl
            have := hx.2.1
            rw [e, sizeLine_eq]
            omega
          · rw [List.length_map, List.length_map, List.length_take, sizeLine_eq]
            omega
          · have hc2 : (TL.tl abc)[j]? = some c := by
              show abc.cps.toList[j]? = some c
              rw [Array.getElem?_toList]
              exact hc
            rw [upd_same, List.take_add_one, hc2]
            simp
            rfl
          · rw [upd_ne (ne_of_none e hD2)]
            exact S5 b o e
        · rintro H5 ⟨hD5, S5⟩
          have S45 : Same H4 H5 := S1.trans S5
          have e1 : (TL.tl abc).take abc.cps.size = TL.tl abc := by
            rw [show abc.cps.size = (TL.tl abc).length from (Array.length_toList ..).symm, List.take_length]
          have hD5' : H5 D2 = some (.lst (((TL.tl abc).map fun c => x ++ one c).map V.str)) := by
            rw [← e1]
            exact hD5
          refine ⟨p1, D2, [.str x], ((TL.tl abc).map fun c => x ++ one c).map V.str, rfl, rfl, S5 _ _ upd_same, hD5', ?_, fun p3 np3 => ?_⟩
          · rw [List.length_map, List.length_map, sizeLine_eq]
            have l26 : (TL.tl abc).length = 26 := by decide +kernel
            show 1 + _ ≤ _
            omega
          have S6 := fresh_upd (o := .lst ((spare x).map V.str)) np3
          have S46 := S45.trans S6
          have nDl : D ≠ l := fun z => by
            rw [z, B3 _ _ rl.symm hl2] at hD
            cases hD
          have hl6 : L2.upd H5 p3 (.lst ((spare x).map V.str)) l = some (.lst (ns.map V.str)) := S46 _ _ (B4 _ _ rl.symm (B3 _ _ rl.symm hl2))
          have ht6 : L2.upd H5 p3 (.lst ((spare x).map V.str)) t = some (.lst []) := S46 _ _ (B4 _ _ tr (B3 _ _ tr ht2))
          refine ⟨_, rfl, .inl ⟨rfl, _, SqL.of hl6⟩, _, rfl, p3, rfl, ⟨_, SqL.of upd_same⟩, fun D3 hD3 => ?_⟩
          have S7' := fresh_upd (o := .lst []) hD3
          refine lc_it (walk_list (K := K) (a := p3) (xs := (spare x).map V.str)) (fun j H7 => H7 D3 = some (.lst ((((spare x).take j).filter fun y => decide (y ∉ ns)).map V.str)) ∧ Same (L2.upd H5 p3 (.lst ((spare x).map V.str))) H7)
            ⟨upd_same, S7'⟩ (fun i H7 _ h => SqL.of (h.2 _ _ upd_same)) ?_ ?_
          · rintro j v H7 H8 hj ⟨hD7, S7⟩ ⟨rfl, hv⟩
            rw [List.length_map, spare_len] at hj
            have hj' : j < (spare x).length := by rw [spare_len]; exact hj
            have ex : v = .str (spare x)[j] := by
              rw [List.getElem?_map, List.getElem?_eq_getElem hj'] at hv
              exact (Option.some.inj hv).symm
            subst ex
            have et : (spare x).take (j + 1) = (spare x).take j ++ [(spare x)[j]] := by
              rw [List.take_add_one, List.getElem?_eq_getElem hj']
              rfl
            refine ⟨rfl, ?_⟩
            refine ⟨_, rfl, _, rfl, l, _, rfl, .inl (SqL.of (S7 _ _ hl6)), rfl, flat_strs ns, _, rfl, ?_⟩
            rw [if_pos rfl, inV_str]
            by_cases hin : (spare x)[j] ∈ ns
            · rw [decide_eq_true hin]
              refine iteF (iteF ⟨?_, S7⟩)
              rw [et, List.filter_append]
              simpa [hin] using hD7
            · rw [decide_eq_false hin]
              refine iteT' rfl ?_
              refine ⟨_, rfl, _, rfl, t, [], rfl, .inl (SqL.of (S7 _ _ ht6)), rfl, rfl, _, rfl, ?_⟩
              refine iteT' rfl ?_
              refine ⟨_, rfl, _, hD7, ?_, ?_, fun b o e => ?_⟩
              · rw [List.length_map, sizeLine_eq]
                have h1 := List.length_filter_le (fun y => decide (y ∉ ns)) ((spare x).take j)
                have h2 : ((spare x).take j).length ≤ j := by rw [List.length_take]; exact Nat.min_le_left ..
                omega
              · rw [upd_same, et, List.filter_append, List.map_append]
                simp [hin]
              · rw [upd_ne (ne_of_none e hD3)]
                exact S7 b o e
          · rintro H7 ⟨hD7, S7⟩
            rw [List.length_map, List.take_length] at hD7
            have hne := spare_free (x := x) (ns := ns) (by omega)
            obtain ⟨y, rest, ey⟩ : ∃ y rest, (spare x).filter (fun y => decide (y ∉ ns)) = y :: rest := by
              cases q : (spare x).filter (fun y => decide (y ∉ ns)) with
              | nil => exact absurd q hne
              | cons y rest => exact ⟨y, rest, rfl⟩
            have hyin : y ∈ (spare x).filter (fun y => decide (y ∉ ns)) := by
              rw [ey]
              exact List.mem_cons_self ..
            obtain ⟨hy1, hy2⟩ := List.mem_filter.mp hyin
            have hy3 : y ∉ ns := of_decide_eq_true hy2
            rw [ey] at hD7
            refine ⟨D3, _, 0, .str y, rfl, rfl, SqL.of hD7, (show atI (List.map V.str (y :: rest)) ((0 : Nat) : Int) = some (V.str y) from atI_nat rfl), l, _, _, rfl, rfl, S7 _ _ hl6, by rw [List.length_map, sizeLine_eq]; omega, ⟨_, _, _, rfl⟩, ?_, ?_, ns ++ [y], ?_, ?_, ?_, ?_⟩
            · exact ((hR4.same S46).same S7).upd rl.symm
            · refine But.upd (fun b o hb e => ?_) nl
              exact S7 _ _ (S46 _ _ (B4 _ _ hb (B3 _ _ hb (B2 _ _ hb e))))
            · rw [upd_same, List.map_append]
              rfl
            · rw [List.nodup_append]
              refine ⟨nd, List.pairwise_singleton .., fun a ha b hb e => ?_⟩
              rw [List.mem_singleton.mp hb] at e
              exact hy3 (by rw [← e]; exact ha)
            · rw [List.length_append, hln]
              rfl
            · intro n hn
              rcases List.mem_append.mp hn with z | z
              · exact hnm n z
              · rw [List.mem_singleton.mp z]
                exact spare_nm hx y hy1
    · rintro σ H2 ⟨⟨o4, o5, o6, rfl⟩, hR2, B2, ns, hl2, nd, hln, hnm⟩
      exact ⟨_, rfl, q _ l ns B2 hR2 nl hl2 ⟨nd, hnm, by omega⟩ (by omega)⟩
end
end K17
set_option maxHeartbeats 8000000
namespace K17
open PySem PySem.Spec PyProof.Rows L2

/-! ### _law_size -/
theorem SizeAt.but {C r p : Addr} {es : Es} {H H' : Hp} (h : SizeAt C H p es) (hR : Rg H r) (B : But r H H') : SizeAt C H' p es := by
  obtain ⟨dx, D, h1, h2, h3⟩ := h
  obtain ⟨x, y, e, _⟩ := hR
  refine ⟨dx, D, B _ _ (fun z => ?_) h1, B _ _ (fun z => ?_) h2, h3⟩
  · rw [z, e] at h1
    cases h1
  · rw [z, e] at h2
    cases h2
theorem rg_ne {H : Hp} {r d : Addr} {kvs : List (Key × V)} (hR : Rg H r) (e : H d = some (.dK kvs)) : d ≠ r := fun z => by
  obtain ⟨x, y, e2, _⟩ := hR
  rw [z, e2] at e
  cases e
theorem none_of {H H' : Hp} {r a : Addr} (hR : Rg H r) (B : But r H H') (hR' : Rg H' r) (n : H' a = none) : H a = none := by
  cases e : H a with
  | none => rfl
  | some o =>
    by_cases h : a = r
    · obtain ⟨x, y, e2, _⟩ := hR'
      rw [h, e2] at n
      cases n
    · have z := B _ _ h e
      rw [n] at z
      cases z
structure PsB (ns : List Str) (b : Int) (es : Es) : Prop where
  nd : (es.map (·.1)).Nodup
  sub : ∀ q ∈ es, q.1 ∈ ns
  bd : ∀ q ∈ es, -b ≤ q.2 ∧ q.2 ≤ b
theorem mem_put {t : Es} {n : Str} {v : Int} {q : Str × Int} (h : q ∈ putE t n v) : q ∈ t ∨ q = (n, v) := mem_putE h
theorem PsB.put {ns : List Str} {b : Int} {es : Es} (h : PsB ns b es) {n : Str} {v : Int} (hn : n ∈ ns) (hv : -b ≤ v ∧ v ≤ b) : PsB ns b (putE es n v) := by
  refine ⟨nod_put h.nd n v, fun q hq => ?_, fun q hq => ?_⟩
  · rcases mem_put hq with z | z
    · exact h.sub q z
    · rw [z]; exact hn
  · rcases mem_put hq with z | z
    · exact h.bd q z
    · rw [z]; exact hv
theorem PsB.nil (ns : List Str) (b : Int) : PsB ns b [] := ⟨List.Pairwise.nil, (fun q h => nomatch h), (fun q h => nomatch h)⟩
theorem PsB.len {ns : List Str} {b : Int} {es : Es} (h : PsB ns b es) (P : Pool ns) : es.length ≤ 10 := by
  have z := sub_len (es.map (·.1)) ns h.nd fun x hx => by
    obtain ⟨q, hq, rfl⟩ := List.mem_map.mp hx
    exact h.sub q hq
  rw [List.length_map] at z
  have := P.ln
  omega
theorem md_newB {ns : List Str} {b : Int} {es rs : Es} (h : PsB ns b es) (b0 : 0 ≤ b) (sd : SdE rs) (lk : ∀ n, rs.lookup n = cz (g0 es n)) : Md ns b (g0 es) rs := by
  refine ⟨sd, lk, fun n hn => ?_, fun n => ?_⟩
  · unfold g0
    rw [g0_none fun z => ?_]
    · rfl
    · obtain ⟨q, hq, e⟩ := List.mem_map.mp z
      exact hn (by rw [← e]; exact h.sub q hq)
  · unfold g0
    cases e : es.lookup n with
    | none =>
      show -b ≤ 0 ∧ 0 ≤ b
      omega
    | some v =>
      obtain ⟨q, hq, e2⟩ := List.mem_map.mp (look_mem.mp (show (es.lookup n).isSome = true by rw [e]; rfl))
      have z := look_get h.nd (n := q.1) (v := q.2) hq
      rw [e2, e] at z
      show -b ≤ v ∧ v ≤ b
      rw [Option.some.inj z]
      exact h.bd q hq
abbrev sSz : Stmt := top 65
def spSz (C : Addr) : Sp := fun vs H Q _ => ∃ (r l : Addr) (ns : List Str), vs = [.ref r, .ref l] ∧ Rg H r ∧ l ≠ r ∧ H l = some (.lst (ns.map V.str)) ∧ Pool ns ∧
  ∀ (H' : Hp) (p : Addr) (es : Es) (f : Str → Int), But r H H' → Rg H' r → SizeAt C H' p es → Nw C H H' p → Md ns 9 f es → Q (.ref p) H'
def NSz : List Str := ["_law_rng_here", "_law_names_here", "_law_found", "_law_word"]
section
variable {P : Program} {w : World} {K : PySem.W.Frag} {mg : Str → Option Value} {base : Heap} {C : Addr}
theorem scSz : FnScope NSz ["_law_rng_here", "_law_names_here"] (defScope sSz) :=
  ⟨rfl, rfl, rfl, by decide +kernel, rfl, by decide +kernel, by decide +kernel⟩
theorem ok_sz {f fD fI : Addr} {fd fdD fdI : FuncData} (F : Fun K "_law_size" "_law_size" sSz f fd) (Tc : Ck K mg C)
    (GD : FnOk P w K mg base CX0 1 fD fdD ["_law_rng_here", "_law_bound"] spDraw) (kD : PySem.W.keepIn K (.ref fD) = true) (bD : Binds K fdD ["_law_rng_here", "_law_bound"] []) (gD : mg "_law_draw" = some (.ref fD))
    (M : Mk K C fI) (GI : FnOk P w K mg base CX0 3 fI fdI ["self", "exponents"] (spInit C)) (bI : Binds K fdI ["self", "exponents"] []) :
    FnOk P w K mg base CX0 5 f fd ["_law_rng_here", "_law_names_here"] (spSz C) := by
  have GD4 := GD.mono (k := 4) (by decide)
  refine F.ok scSz (fun vs H Q E h => ?_) (fun cdv A outer s H vs Q E hr h => ?_)
  · obtain ⟨r, l, ns, rfl, _⟩ := h
    rfl
  · obtain ⟨r, l, ns, rfl, hR, lr, hl, hP, q⟩ := h
    have hu : (A.deeper (envOfC "_law_size" (defScope sSz) s.heap.objs.size f cdv)).units + 1 < cLine := by have := hr.units; omega
    refine ⟨_, pss_cons (ps_set (i := 2) scSz.nd rfl (.inl rfl) pe_dnewK)
      (pss_cons (ps_for PassesOwn.never rfl (pi_list (pv 1)) (pg_name (i := 3) scSz.nd rfl (Or.inl rfl))
        (pss_one (ps_if (pt_cmpR op_gt (pe_call GD4 hr rfl gD kD bD .nil pass0 (pa_cons (pv 0) (pa_cons pe_int pa_nil))) pe_int (nomark _))
          (pss_one (ps_dput hu (pv 2) (pv 3) (pe_op op_sub (pe_call GD4 hr rfl gD kD bD .nil pass0 (pa_cons (pv 0) (pa_cons pe_int pa_nil))) pe_int) rfl)) pss_nil)))
      (pss_one (ps_ret (pe_make M GI hr rfl Tc.gC bI .nil pass0 (pa_cons (pv 2) pa_nil))))), ?_⟩
    intro p np
    have S0 := fresh_upd (o := .dK []) np
    have rp := hR.ne np
    refine ⟨_, rfl, l, rfl, ⟨_, SqL.of (S0 _ _ hl)⟩, for_it (walk_list (K := K) (a := l) (xs := ns.map V.str)) (fun i σ H2 => (∃ o3, σ = [some (.ref r), some (.ref l), some (.ref p), o3]) ∧ Rg H2 r ∧ But r H H2 ∧
      ∃ es, H2 p = some (.dK (kv es)) ∧ PsB ns 9 es)
      ⟨⟨none, rfl⟩, hR.same S0, But.of S0, [], upd_same, PsB.nil ns 9⟩ (fun i σ H2 _ h => SqL.of (h.2.2.1 _ _ lr hl)) ?_ ?_⟩
    · rintro i x σ H9 H2 hi ⟨⟨o3, rfl⟩, hR2, B2, es, hp2, hE⟩ ⟨rfl, hx⟩
      obtain ⟨n, hn, rfl⟩ := List.mem_map.mp (List.mem_of_getElem? hx)
      have hel := hE.len hP
      refine ⟨_, rfl, r, 4, rfl, hR2, by decide, by decide, fun H3 d d0 d1 hR3 B3 => ?_⟩
      refine ⟨_, _, rfl, rfl, _, rfl, ?_⟩
      have hp3 := B3 _ _ rp.symm hp2
      refine ite2 (fun _ => ?_) fun _ => ?_
      · refine ⟨_, rfl, r, 16, rfl, hR3, by decide, by decide, fun H4 c c0 c1 hR4 B4 => ?_⟩
        have hp4 := B4 _ _ rp.symm hp3
        refine ⟨_, _, rfl, rfl, ?_⟩
        refine ⟨_, rfl, _, rfl, p, _, rfl, .inl ⟨_, ky n, hp4, rfl, by rw [kv_len, sizeLine_eq]; omega, rfl⟩, ⟨_, rfl⟩, hR4.upd rp.symm, But.upd ((B2.trans B3).trans B4) np, putE es n (c - 6), by rw [upd_same, kv_put], hE.put hn ⟨by omega, by omega⟩⟩
      · exact ⟨⟨_, rfl⟩, hR3, B2.trans B3, es, hp3, hE⟩
    · rintro σ H2 ⟨⟨o3, rfl⟩, hR2, B2, es, hp2, hE⟩
      have hel := hE.len hP
      refine ⟨_, rfl, rd_make hp2 hE.nd (by omega) (fun q hq => hP.nm _ (hE.sub q hq)) fun H3 a rs S3 hz nw lk => ?_⟩
      obtain ⟨_, _, _, _, sd, _⟩ := id hz
      refine q H3 a rs (g0 es) (B2.trans (But.of S3)) (hR2.same S3) hz ?_ (md_newB hE (by decide) sd lk)
      obtain ⟨dx, D, w1, w2, w3⟩ := nw
      exact ⟨dx, D, w1, none_of hR B2 hR2 w2, none_of hR B2 hR2 w3⟩
end
end K17
set_option maxHeartbeats 8000000
namespace K17
open PySem PySem.Spec PyProof.Rows L2

/-! ### a * b, both instances of a class with an own def for it -/
def rOwnB (C : Addr) (sp : Sp) (E : XK) : R2 := fun x y H Q => ∃ (a dx : Addr) (fs : List (Str × V)) (b dy : Addr) (gs : List (Str × V)), x = .ref a ∧ H a = some (.ins C dx fs) ∧ y = .ref b ∧ H b = some (.ins C dy gs) ∧
  sp [.ref a, .ref b] H (fun v H' => ∃ r, v = .ref r ∧ Q (.ref r) H') E
section
variable {X : Cx} {CX : CXT} {C f : Addr} {fd : FuncData} {ps : List Str} {sp : Sp} {E : XK} {n : Nat}
theorem op_ownBin {op : Operator} (F : FnOk X.prog X.w X.K X.mg X.base CX n f fd ps sp) (hr : Room n X.A) (hc : PySem.W.selfFirst X.K C = true) (hs : PySem.W.findIn X.K (.ref C) (PySem.dunder op.info.2) = some (some (.ref f))) (hf : PySem.W.isFn X.K (.ref f) = true)
    (hb : Binds X.K fd ps []) (hx : Passes CX X E) : OpR X (binaryOp op) (rOwnB C sp E) := by
  intro pins s σ H x y v u Q I rx ry h
  obtain ⟨a, dx, fs, b, dy, gs, rfl, ha, rfl, hb', hsp⟩ := h
  cases rx
  cases ry
  obtain ⟨mA, J, _⟩ := ins_get I.hok ha
  obtain ⟨od, J, _⟩ := J.look
  obtain ⟨m, hF⟩ := I.fr
  refine PySem.W.binop_K (h₀ := X.base) hF I.ok.mod.kin J ((Oth.ins hb').looks I (show RelV (.ref b) (.ref b) from rfl)) hc hs hf ?_
  have hl := F.len _ _ _ _ hsp
  have r2 : Vals [V.ref a, V.ref b] [Value.ref a, .ref b] := .cons rfl (.cons rfl .nil)
  refine wpAny_call (codeAny_mono (F.run X.A X.stack s H ⟨[.ref a, .ref b], []⟩ [.ref a, .ref b] [.ref a, .ref b] _ E hr I.env0 (by
    have := hb s [.ref a, .ref b] I.kIn (by simpa using hl)
    simpa using this) r2 hsp) fun r s' hq => ?_)
  cases r with
  | error e => exact hx pins σ H s e s' I hq
  | ok fl =>
    cases fl with
    | ret w =>
      obtain ⟨z, H', I', rz, r, ez, ex⟩ := I.after hq
      subst ez
      cases rz
      exact ⟨.ref r, H', I', rfl, ex⟩
    | next => exact False.elim hq
    | brk => exact False.elim hq
    | cont => exact False.elim hq
end


/-! ### _law_whole, _law_raised -/
abbrev sWhl : Stmt := top 66
abbrev sRsd : Stmt := top 67
def spWhl (C : Addr) : Sp := fun vs H Q _ => ∃ (p : Addr) (es : Es) (ns : List Str) (b : Int) (f : Str → Int), vs = [.ref p] ∧ SizeAt C H p es ∧ Md ns b f es ∧ Pool ns ∧
  ∀ H' r rs, Same H H' → SizeAt C H' r rs → Nw C H H' r → Md ns b (fun n => ((f n).natAbs : Int)) rs → Q (.ref r) H'
/-- what stands of Size -/
structure Kw (P : Program) (w : World) (K : PySem.W.Frag) (mg : Str → Option Value) (base : Heap) (C : Addr) : Prop where
  tc : Ck K mg C
  top : ∃ p g fd, PropOf K C "top" p g ∧ FnOk P w K mg base CX0 5 g fd ["self"] (spPart C cTop (fun i => i)) ∧ Binds K fd ["self"] []
  bot : ∃ p g fd, PropOf K C "bottom" p g ∧ FnOk P w K mg base CX0 5 g fd ["self"] (spPart C cBot (fun i => -i)) ∧ Binds K fd ["self"] []
  mul : ∃ g fd, FnOk P w K mg base CX0 5 g fd ["self", "other"] (spMul C) ∧ PySem.W.selfFirst K C = true ∧ PySem.W.findIn K (.ref C) "__mul__" = some (some (.ref g)) ∧ PySem.W.isFn K (.ref g) = true ∧ Binds K fd ["self", "other"] []
section
variable {P : Program} {w : World} {K : PySem.W.Frag} {mg : Str → Option Value} {base : Heap} {C : Addr}
theorem scWhl : FnScope ["_law_size_here"] ["_law_size_here"] (defScope sWhl) :=
  ⟨rfl, rfl, rfl, by decide +kernel, rfl, by decide +kernel, by decide +kernel⟩
theorem md_part {ns : List Str} {b : Int} {f : Str → Int} {es rs : Es} {C p : Addr} {H : Hp} {c : Int → Bool} {g : Int → Int} (h : Md ns b f es) (hz : SizeAt C H p rs) (c0 : c 0 = false) (hg : ∀ i, g i = i ∨ g i = -i) (hb : 0 ≤ b)
    (lk : ∀ n, rs.lookup n = cz (if c (g0 es n) = true then g (g0 es n) else 0)) : Md ns b (fun n => if c (f n) = true then g (f n) else 0) rs := by
  refine Md.of hz (fun n => by rw [lk, h.g]) (fun n hn => by rw [h.sup n hn, c0]; rfl) fun n => ?_
  have := h.bd n
  split
  · rcases hg (f n) with e | e <;> omega
  · omega
theorem ok_whl {f : Addr} {fd : FuncData} (F : Fun K "_law_whole" "_law_whole" sWhl f fd) (Kk : Kw P w K mg base C) : FnOk P w K mg base CX0 7 f fd ["_law_size_here"] (spWhl C) := by
  obtain ⟨Tc, ⟨pt, gt, fdt, mt, Gt, bt⟩, ⟨pb, gb, fdb, mb, Gb, bb⟩, ⟨gm, fdm, Gm, sf, mm, im, bm⟩⟩ := Kk
  have Gm6 := Gm.mono (k := 6) (by decide)
  refine F.ok scWhl (fun vs H Q E h => ?_) (fun cdv A outer s H vs Q E hr h => ?_)
  · obtain ⟨p, es, ns, b, f, rfl, _⟩ := h
    rfl
  · obtain ⟨p, es, ns, b, f, rfl, hz, hM, hP, k⟩ := h
    refine ⟨_, pss_one (ps_ret (pe_op (op_ownBin Gm6 hr sf mm im bm pass0) (pe_prop (pv 0) Tc.cl mt Gt hr bt .nil pass0 rfl) (pe_prop (pv 0) Tc.cl mb Gb hr bb .nil pass0 rfl))), ?_⟩
    have hb : 0 ≤ b := by
      have := hM.bd ""
      omega
    obtain ⟨dx, D, z1, _⟩ := id hz
    refine ⟨_, rfl, p, dx, _, rfl, z1, p, es, rfl, hz, fun H1 r1 rs1 S1 hz1 lk1 => ?_⟩
    refine ⟨_, rfl, p, dx, _, rfl, S1 _ _ z1, p, es, rfl, hz.same S1, fun H2 r2 rs2 S2 hz2 lk2 => ?_⟩
    have m1 := md_part hM hz1 (by decide) (fun i => .inl rfl) hb lk1
    have m2 := md_part hM hz2 (by decide) (fun i => .inr rfl) hb lk2
    have l1 := m1.len hP
    have l2 := m2.len hP
    obtain ⟨dx1, D1, y1, _⟩ := id (hz1.same S2)
    obtain ⟨dx2, D2, y2, _⟩ := id hz2
    refine ⟨r1, dx1, _, r2, dx2, _, rfl, y1, rfl, y2, r1, r2, rs1, rs2, rfl, hz1.same S2, hz2, by omega, fun H3 r3 rs3 S3 hz3 nw3 lk3 => ⟨r3, rfl, ?_⟩⟩
    refine k H3 r3 rs3 (S1.trans (S2.trans S3)) hz3 (nw3.pre (S1.trans S2)) (Md.of hz3 (fun n => ?_) (fun n hn => ?_) fun n => ?_)
    · rw [lk3, m1.g, m2.g]
      congr 1
      unfold cTop cBot
      by_cases h1 : 0 < f n
      · rw [if_pos (decide_eq_true h1), if_neg (by simp; omega)]
        omega
      · by_cases h2 : f n < 0
        · rw [if_neg (by simpa using h1), if_pos (decide_eq_true h2)]
          omega
        · rw [if_neg (by simpa using h1), if_neg (by simpa using h2)]
          omega
    · rw [hM.sup n hn]
      rfl
    · have := hM.bd n
      omega
end
end K17
set_option maxHeartbeats 8000000
namespace K17
open PySem PySem.Spec PyProof.Rows L2

/-! ### _law_raised -/
def spRsd : Sp := fun vs H Q _ => ∃ (m : Int) (t : Nat), vs = [.int m, .int (t : Int)] ∧ -(2 ^ 64) < m ∧ m < 2 ^ 64 ∧ t ≤ 100000 ∧ Q (.int (m ^ t)) H
section
variable {P : Program} {w : World} {K : PySem.W.Frag} {mg : Str → Option Value} {base : Heap}
theorem scRsd : FnScope ["_law_number", "_law_times", "_law_found", "_law_turn"] ["_law_number", "_law_times"] (defScope sRsd) :=
  ⟨rfl, rfl, rfl, by decide +kernel, rfl, by decide +kernel, by decide +kernel⟩
theorem ok_rsd {f : Addr} {fd : FuncData} (F : Fun K "_law_raised" "_law_raised" sRsd f fd) (T : Nb mg) : FnOk P w K mg base CX0 1 f fd ["_law_number", "_law_times"] spRsd := by
  refine F.ok scRsd (fun vs H Q E h => ?_) (fun cdv A outer s H vs Q E hr h => ?_)
  · obtain ⟨m, t, rfl, _⟩ := h
    rfl
  · obtain ⟨m, t, rfl, h1, h2, ht, k⟩ := h
    refine ⟨_, pss_cons (ps_set (i := 2) scRsd.nd rfl (.inl rfl) pe_int)
      (pss_cons (ps_for PassesOwn.never rfl (pi_range1 (by rfl) T.range (pa_cons (pv 1) pa_nil)) (pg_name (i := 3) scRsd.nd rfl (Or.inl rfl))
        (pss_one (ps_set (i := 2) scRsd.nd rfl (.inl rfl) (pe_op op_mul (pv 2) (pv 0)))))
      (pss_one (ps_ret (pv 2)))), ?_⟩
    refine ⟨_, rfl, (t : Int), rfl, by omega, by omega, ?_⟩
    refine for_it (walk_range (lo := 0) (n := ((t : Int)).toNat)) (fun i σ H2 => (∃ o3, σ = [some (.int m), some (.int (t : Int)), some (.int (m ^ i)), o3]) ∧ H2 = H)
      ⟨⟨none, by rw [Int.pow_zero]; rfl⟩, rfl⟩ (fun _ _ _ _ _ => trivial) ?_ ?_
    · rintro i v σ H9 H2 hi ⟨⟨o3, rfl⟩, rfl⟩ ⟨rfl, rfl⟩
      refine ⟨_, rfl, _, rfl, _, _, rfl, rfl, .inr ⟨h1, h2⟩, ⟨some (.int (0 + (i : Int))), ?_⟩, rfl⟩
      rw [Int.pow_succ]
      rfl
    · rintro σ H2 ⟨⟨o3, rfl⟩, rfl⟩
      rw [Int.toNat_natCast]
      exact ⟨_, rfl, k⟩
end
end K17
set_option maxHeartbeats 8000000
namespace K17
open PySem PySem.Spec PyProof.Rows L2

/-! ### expressions that give a Size of a model: for _law_products_right and those behind it -/
/-- t gives, at H and every heap that holds more, a Size of model f -/
def GvS (C : Addr) (ns : List Str) (b : Int) (f : Str → Int) (t : TE) (σ : L2.St) (H : Hp) : Prop :=
  ∀ H1 (Q : VK), Same H H1 → (∀ H' r rs, Same H1 H' → SizeAt C H' r rs → Md ns b f rs → Q (.ref r) H') → t σ H1 Q
section
variable {C : Addr} {ns : List Str} {b c : Int} {f g : Str → Int} {ta tb : TE} {σ : L2.St} {H : Hp} {E : XK}
theorem GvS.up {H' : Hp} (h : GvS C ns b f ta σ H) (S : Same H H') : GvS C ns b f ta σ H' := fun H1 Q S1 k => h H1 Q (S.trans S1) k
theorem GvS.to (h : GvS C ns b f ta σ H) (e : ∀ n, f n = g n) (hb : b ≤ c) : GvS C ns c g ta σ H := fun H1 Q S k =>
  h H1 Q S fun H' r rs S' z m => k H' r rs S' z (m.congr e hb)
theorem gvs_var {i : Nat} {p : Addr} {es : Es} (e : σ[i]? = some (some (.ref p))) (z : SizeAt C H p es) (m : Md ns b f es) : GvS C ns b f (tVar i) σ H := fun H1 Q S k =>
  ⟨_, e, k H1 p es (Same.refl H1) (z.same S) m⟩
theorem b_nn {es : Es} (m : Md ns b f es) : 0 ≤ b := by
  have := m.bd ""
  omega
theorem gvs_mul (hP : Pool ns) (h1 : GvS C ns b f ta σ H) (h2 : GvS C ns c g tb σ H) : GvS C ns (b + c) (fun n => f n + g n) (tOp (rOwnB C (spMul C) E) ta tb) σ H := by
  intro H1 Q S k
  refine h1 H1 _ S fun H2 r1 es S2 z1 m1 => ?_
  refine h2 H2 _ (S.trans S2) fun H3 r2 fs S3 z2 m2 => ?_
  obtain ⟨dx1, D1, y1, _⟩ := id (z1.same S3)
  obtain ⟨dx2, D2, y2, _⟩ := id z2
  have l1 := m1.len hP
  have l2 := m2.len hP
  refine ⟨r1, dx1, _, r2, dx2, _, rfl, y1, rfl, y2, r1, r2, es, fs, rfl, z1.same S3, z2, by omega, fun H4 r3 rs S4 z3 nw lk => ⟨r3, rfl, ?_⟩⟩
  refine k H4 r3 rs (S2.trans (S3.trans S4)) z3 (Md.of z3 (fun n => by rw [lk, m1.g, m2.g]) (fun n hn => by rw [m1.sup n hn, m2.sup n hn]; rfl) fun n => ?_)
  have := m1.bd n
  have := m2.bd n
  omega
theorem gvs_over (hP : Pool ns) (h1 : GvS C ns b f ta σ H) (h2 : GvS C ns c g tb σ H) : GvS C ns (b + c) (fun n => f n - g n) (tMeth C "over" (spOver C) [] E ta (tCons tb tNil)) σ H := by
  intro H1 Q S k
  refine h1 H1 _ S fun H2 r1 es S2 z1 m1 => ?_
  obtain ⟨dx1, D1, y1, _⟩ := id z1
  refine ⟨r1, dx1, _, rfl, y1, rfl, ?_⟩
  refine h2 H2 _ (S.trans S2) fun H3 r2 fs S3 z2 m2 => ?_
  have l1 := m1.len hP
  have l2 := m2.len hP
  refine ⟨r1, r2, es, fs, rfl, z1.same S3, z2, by omega, fun H4 r3 rs S4 z3 nw lk => ?_⟩
  refine k H4 r3 rs (S2.trans (S3.trans S4)) z3 (Md.of z3 (fun n => by rw [lk, m1.g, m2.g]) (fun n hn => by rw [m1.sup n hn, m2.sup n hn]; rfl) fun n => ?_)
  have := m1.bd n
  have := m2.bd n
  omega
theorem gvs_power {m : Nat} (hm : (m : Int) < 2 ^ 64) (h1 : GvS C ns b f ta σ H) (h2 : ∀ H2 (Q : VK), Same H H2 → Q (.int (m : Int)) H2 → tb σ H2 Q) :
    GvS C ns (b * m) (fun n => f n * m) (tMeth C "power" (spPower C) [] E ta (tCons tb tNil)) σ H := by
  intro H1 Q S k
  refine h1 H1 _ S fun H2 r1 es S2 z1 m1 => ?_
  obtain ⟨dx1, D1, y1, _⟩ := id z1
  refine ⟨r1, dx1, _, rfl, y1, rfl, ?_⟩
  refine h2 H2 _ (S.trans S2) ?_
  refine ⟨r1, es, (m : Int), rfl, z1, by omega, hm, fun H4 r3 rs S4 z3 nw lk => ?_⟩
  refine k H4 r3 rs (S2.trans S4) z3 (Md.of z3 (fun n => by rw [lk, m1.g]) (fun n hn => by rw [m1.sup n hn, Int.zero_mul]) fun n => ?_)
  have hb := b_nn m1
  have hd := m1.bd n
  have k1 : f n * (m : Int) ≤ b * m := Int.mul_le_mul_of_nonneg_right hd.2 (by omega)
  have k2 : -f n * (m : Int) ≤ b * m := Int.mul_le_mul_of_nonneg_right (by omega) (by omega)
  rw [Int.neg_mul] at k2
  exact ⟨by omega, k1⟩
/-- two of them compared -/
theorem gvs_cmp {K : PySem.W.Frag} {q : Bool → Bool} (h1 : GvS C ns b f ta σ H) (h2 : GvS C ns c g tb σ H) {Q : VK}
    (k : ∀ H' d, Same H H' → (d = true ↔ ∀ n, f n = g n) → Q (.bl (q d)) H') : tOp (rOwn C (spEqS K C) E q) ta tb σ H Q := by
  refine h1 H _ (Same.refl H) fun H2 r1 es S2 z1 m1 => ?_
  refine h2 H2 _ S2 fun H3 r2 fs S3 z2 m2 => ?_
  obtain ⟨dx1, D1, y1, _⟩ := id (z1.same S3)
  obtain ⟨dx2, D2, y2, _⟩ := id z2
  refine ⟨r1, dx1, _, .ref C, rfl, y1, .ins y2, r1, es, .ref r2, rfl, z1.same S3, .inl ⟨r2, fs, rfl, z2, _, rfl, ?_⟩⟩
  refine k H3 _ (S2.trans S3) ⟨fun e n => ?_, fun e => decide_eq_true (m1.one m2 e)⟩
  have e' := of_decide_eq_true e
  rw [← m1.g, ← m2.g, e']
end
end K17
set_option maxHeartbeats 8000000
namespace K17
open PySem PySem.Spec PyProof.Rows L2

theorem rd_mk {C G : Addr} {R : Es} {H : Hp} {Qx : Addr → VK} (hG : H G = some (.dK (kv R))) (hn : (R.map (·.1)).Nodup) (hl : R.length < 64) (nmR : ∀ q ∈ R, isNm q.1 = true)
    (k : ∀ H' r rs dx D, Same H H' → SizeAt C H' r rs → (∀ n, rs.lookup n = cz (g0 R n)) → H r = none → H D = none → H' r = some (.ins C dx [("_exponents", .ref D)]) → Qx r .non H') :
    ∀ x dx, H x = none → H dx = none → dx ≠ x → spInit C (.ref x :: ([.ref G] ++ [])) (upd (upd H dx (.own x)) x (.ins C dx [])) (Qx x) E0 := by
  intro x ex nx ndx nex
  have Gx : G ≠ x := ne_of_none hG nx
  have Sx : Same H (upd (upd H ex (.own x)) x (.ins C ex [])) := fun b o e => by
    rw [upd_ne (ne_of_none e nx), upd_ne (ne_of_none e ndx)]
    exact e
  refine ⟨x, ex, .ref G, R, rfl, upd_same, .inr ⟨G, rfl, Gx, Sx _ _ hG⟩, hn, hl, nmR, fun H4 D4 R4 S4 hx4 nD4 hD4 sR4 lR4 zR4 => ?_⟩
  have nD : H D4 = none := by
    cases e : H D4 with
    | none => rfl
    | some o =>
      have z := Sx _ _ e
      rw [nD4] at z
      cases z
  exact k H4 x R4 ex D4 (fun b o e => S4 b o (ne_of_none e nx) (Sx _ _ e)) (size_of hx4 hD4 sR4 lR4 zR4 hl nmR) (fun n => by rw [lR4, nz_cz]) nx nD hx4
theorem rd_mk0 {C : Addr} {H : Hp} {Qx : Addr → VK} (k : ∀ H' r, Same H H' → SizeAt C H' r [] → Nw C H H' r → Qx r .non H') :
    ∀ x dx, H x = none → H dx = none → dx ≠ x → spInit C (.ref x :: [.non]) (upd (upd H dx (.own x)) x (.ins C dx [])) (Qx x) E0 := by
  intro x ex nx ndx nex
  have Sx : Same H (upd (upd H ex (.own x)) x (.ins C ex [])) := fun b o e => by
    rw [upd_ne (ne_of_none e nx), upd_ne (ne_of_none e ndx)]
    exact e
  refine ⟨x, ex, .non, [], rfl, upd_same, .inl ⟨rfl, rfl⟩, List.Pairwise.nil, by decide, (fun q h => nomatch h), fun H4 D4 R4 S4 hx4 nD4 hD4 sR4 lR4 zR4 => ?_⟩
  have e : R4 = [] := List.length_eq_zero_iff.mp (by simpa using zR4)
  subst e
  exact k H4 x (fun b o e => S4 b o (ne_of_none e nx) (Sx _ _ e)) (size_of hx4 hD4 sR4 lR4 zR4 (by decide) (fun q h => nomatch h)) ⟨ex, D4, hx4, nx, none_pre Sx nD4⟩
/-- t, a test, is false at H and every heap that holds more -/
def Fls (t : TT) (σ : L2.St) (H : Hp) : Prop := ∀ H1 Q, Same H H1 → (∀ H', Same H1 H' → Q false H') → t σ H1 Q
section
variable {C : Addr} {ns : List Str} {b c : Int} {f g : Str → Int} {ta tb : TE} {σ : L2.St} {H : Hp} {E : XK} {K : PySem.W.Frag}
theorem Fls.up {t : TT} {H' : Hp} (h : Fls t σ H) (S : Same H H') : Fls t σ H' := fun H1 Q S1 k => h H1 Q (S.trans S1) k
theorem fls_or {t u : TT} (h : Fls t σ H) (k : Fls u σ H) : Fls (tOr t u) σ H := fun H1 Q S q =>
  h H1 _ S fun H2 S2 => iteF (k H2 Q (S.trans S2) fun H3 S3 => q H3 (S2.trans S3))
theorem fls_ne (h1 : GvS C ns b f ta σ H) (h2 : GvS C ns c g tb σ H) (e : ∀ n, f n = g n) : Fls (tTest (tOp (rOwn C (spEqS K C) E not) ta tb)) σ H := fun H1 Q S q =>
  gvs_cmp (h1.up S) (h2.up S) fun H' d S' hd => ⟨_, rfl, by rw [hd.mpr e]; exact q H' S'⟩
theorem gvs_new : GvS C ns 0 (fun _ => 0) (tMake C (spInit C) [.non] E0 tNil) σ H := fun H1 Q S k =>
  rd_mk0 fun H' r S' z _ => ⟨rfl, k H' r [] S' z (Md.nil ns)⟩
theorem gvs_top (h1 : GvS C ns b f ta σ H) : GvS C ns b (fun n => if cTop (f n) = true then f n else 0) (tProp C (spPart C cTop (fun i => i)) [] E ta) σ H := by
  intro H1 Q S k
  refine h1 H1 _ S fun H2 r1 es S2 z1 m1 => ?_
  obtain ⟨dx1, D1, y1, _⟩ := id z1
  refine ⟨r1, dx1, _, rfl, y1, r1, es, rfl, z1, fun H3 r rs S3 z3 lk => ?_⟩
  exact k H3 r rs (S2.trans S3) z3 (md_part m1 z3 (by decide) (fun i => .inl rfl) (b_nn m1) lk)
theorem gvs_bot (h1 : GvS C ns b f ta σ H) : GvS C ns b (fun n => if cBot (f n) = true then -(f n) else 0) (tProp C (spPart C cBot (fun i => -i)) [] E ta) σ H := by
  intro H1 Q S k
  refine h1 H1 _ S fun H2 r1 es S2 z1 m1 => ?_
  obtain ⟨dx1, D1, y1, _⟩ := id z1
  refine ⟨r1, dx1, _, rfl, y1, r1, es, rfl, z1, fun H3 r rs S3 z3 lk => ?_⟩
  exact k H3 r rs (S2.trans S3) z3 (md_part m1 z3 (by decide) (fun i => .inr rfl) (b_nn m1) lk)
/-- is_whole of it, where no exponent is below 0 -/
theorem gvs_whole (h1 : GvS C ns b f ta σ H) {Q : VK} (k : ∀ H' d, Same H H' → (d = true ↔ ∀ n, 0 ≤ f n) → Q (.bl d) H') : tProp C (spWhole C) [] E ta σ H Q := by
  refine h1 H _ (Same.refl H) fun H2 r1 es S2 z1 m1 => ?_
  obtain ⟨dx1, D1, y1, _⟩ := id z1
  refine ⟨r1, dx1, _, rfl, y1, r1, es, rfl, z1, fun H3 S3 => ?_⟩
  refine k H3 _ (S2.trans S3) ⟨fun e n => ?_, fun e => List.all_eq_true.mpr fun q hq => decide_eq_true ?_⟩
  · by_cases h0 : f n = 0
    · omega
    · have z : (es.lookup n).isSome = true := by
        rw [m1.lk, cz, if_neg h0]
        rfl
      obtain ⟨q, hq, en⟩ := List.mem_map.mp (look_mem.mp z)
      have y := of_decide_eq_true (List.all_eq_true.mp e q hq)
      rw [(m1.at hq).1, en] at y
      exact y
  · rw [(m1.at hq).1]
    exact e _
end
end K17
set_option maxHeartbeats 8000000
namespace K17
open PySem PySem.Spec PyProof.Rows L2

/-! ### _law_products_right, its first six statements -/
abbrev sPrr : Stmt := top 68
def NPrr : List Str := ["_law_one", "_law_two", "_law_third", "_law_unit", "_law_word"]
/-- what the law asks of Size's products -/
structure Kp (P : Program) (w : World) (K : PySem.W.Frag) (mg : Str → Option Value) (base : Heap) (C : Addr) : Prop where
  kw : Kw P w K mg base C
  make : ∃ f fd, Mk K C f ∧ FnOk P w K mg base CX0 3 f fd ["self", "exponents"] (spInit C) ∧ Binds K fd ["self", "exponents"] [] ∧ Binds K fd ["self", "exponents"] [.none]
  over : ∃ f fd, Meth K C "over" f ∧ FnOk P w K mg base CX0 5 f fd ["self", "other"] (spOver C) ∧ Binds K fd ["self", "other"] []
  power : ∃ f fd, Meth K C "power" f ∧ FnOk P w K mg base CX0 5 f fd ["self", "count"] (spPower C) ∧ Binds K fd ["self", "count"] []
  eq : ∃ f fd, PySem.W.findIn K (.ref C) "__eq__" = some (some (.ref f)) ∧ PySem.W.isFn K (.ref f) = true ∧ FnOk P w K mg base CX0 1 f fd ["self", "other"] (spEqS K C) ∧ Binds K fd ["self", "other"] []
  ne : PySem.W.findIn K (.ref C) "__ne__" = some (some (.builtin "object.__ne__"))
section
variable {P : Program} {w : World} {K : PySem.W.Frag} {mg : Str → Option Value} {base : Heap} {C : Addr}
theorem scPrr : FnScope NPrr ["_law_one", "_law_two", "_law_third"] (defScope sPrr) :=
  ⟨rfl, rfl, rfl, by decide +kernel, rfl, by decide +kernel, by decide +kernel⟩
theorem prr_t1 (Kk : Kp P w K mg base C)
    {f : Addr} {cdv : Value} {A : Around} {outer : List Env} {s : Shared} {H0 : Hp}
    (hr : Room 6 (A.deeper (envOfC "_law_products_right" (defScope sPrr) s.heap.objs.size f cdv))) {t2 : TS}
    (ht : PSs (cxOf CX0 P w K mg base NPrr "_law_products_right" (defScope sPrr) f cdv A outer s H0 E0).nox ((defBody sPrr).drop 6) t2) :
    ∃ t, PSs (cxOf CX0 P w K mg base NPrr "_law_products_right" (defScope sPrr) f cdv A outer s H0 E0).nox (defBody sPrr) t ∧
      ∀ (D : Ends) (H : Hp) (v3 : Option V) (p1 p2 p3 : Addr) (ns : List Str) (e1 e2 e3 : Es) (b1 b2 b3 : Int) (f1 f2 f3 : Str → Int), Pool ns → SizeAt C H p1 e1 → SizeAt C H p2 e2 → SizeAt C H p3 e3 →
        Md ns b1 f1 e1 → Md ns b2 f2 e2 → Md ns b3 f3 e3 →
        (∀ H' p, Same H H' → SizeAt C H' p [] → t2 D [some (.ref p1), some (.ref p2), some (.ref p3), some (.ref p), none] H') →
        t D [some (.ref p1), some (.ref p2), some (.ref p3), v3, none] H := by
  obtain ⟨⟨Tc, _, _, ⟨gm, fdm, Gm, sf, mm, im, bm⟩⟩, ⟨fi, fdi, M, gi, bi, bi0⟩, ⟨fo, fdo, mo, go, bo⟩, ⟨fp, fdp, mp, gp, bp⟩, ⟨fe, fde, me, ie, ge, be⟩, hne⟩ := Kk
  have Gm6 := Gm.mono (k := 6) (by decide)
  have go6 := go.mono (k := 6) (by decide)
  have gp6 := gp.mono (k := 6) (by decide)
  have ge5 := ge.mono (k := 5) (by decide)
  have gi5 := gi.mono (k := 5) (by decide)
  refine ⟨_, pss_cons (ps_set (i := 3) scPrr.nd rfl (.inl rfl) (pe_make0 M gi5 hr rfl Tc.gC bi0 (.cons (show RelV .non .none from rfl) .nil) pass0))
    (pss_cons (ps_if (PW.pt (pw_or (pt_cmpR (op_ownNe ge5 hr me ie Tc.co hne be pass0 spEq_mono) (pe_op (op_ownBin Gm6 hr sf mm im bm pass0) (pv 0) (pv 1)) (pe_op (op_ownBin Gm6 hr sf mm im bm pass0) (pv 1) (pv 0)) (nomark _)) (pw_or (pt_cmpR (op_ownNe ge5 hr me ie Tc.co hne be pass0 spEq_mono) (pe_op (op_ownBin Gm6 hr sf mm im bm pass0) (pe_op (op_ownBin Gm6 hr sf mm im bm pass0) (pv 0) (pv 1)) (pv 2)) (pe_op (op_ownBin Gm6 hr sf mm im bm pass0) (pv 0) (pe_op (op_ownBin Gm6 hr sf mm im bm pass0) (pv 1) (pv 2))) (nomark _)) (pw_or1 (pt_cmpR (op_ownNe ge5 hr me ie Tc.co hne be pass0 spEq_mono) (pe_op (op_ownBin Gm6 hr sf mm im bm pass0) (pv 0) (pv 3)) (pv 0) (nomark _)))))) (pss_one (ps_ret pe_bl)) pss_nil)
    (pss_cons (ps_if (PW.pt (pw_or (pt_cmpR (op_ownNe ge5 hr me ie Tc.co hne be pass0 spEq_mono) (pe_meth (pe_op (op_ownBin Gm6 hr sf mm im bm pass0) (pv 0) (pv 1)) Tc.cl mo go6 hr bo .nil pass0 (pa_cons (pv 1) pa_nil)) (pv 0) (nomark _)) (pw_or (pt_cmpR (op_ownNe ge5 hr me ie Tc.co hne be pass0 spEq_mono) (pe_meth (pv 0) Tc.cl mo go6 hr bo .nil pass0 (pa_cons (pv 0) pa_nil)) (pv 3) (nomark _)) (pw_or1 (pt_cmpR (op_ownNe ge5 hr me ie Tc.co hne be pass0 spEq_mono) (pe_op (op_ownBin Gm6 hr sf mm im bm pass0) (pe_meth (pv 0) Tc.cl mo go6 hr bo .nil pass0 (pa_cons (pv 1) pa_nil)) (pv 1)) (pv 0) (nomark _)))))) (pss_one (ps_ret pe_bl)) pss_nil)
    (pss_cons (ps_if (PW.pt (pw_or (pt_cmpR (op_ownNe ge5 hr me ie Tc.co hne be pass0 spEq_mono) (pe_meth (pe_meth (pv 0) Tc.cl mo go6 hr bo .nil pass0 (pa_cons (pv 1) pa_nil)) Tc.cl mo go6 hr bo .nil pass0 (pa_cons (pv 2) pa_nil)) (pe_meth (pv 0) Tc.cl mo go6 hr bo .nil pass0 (pa_cons (pe_op (op_ownBin Gm6 hr sf mm im bm pass0) (pv 1) (pv 2)) pa_nil)) (nomark _)) (pw_or1 (pt_cmpR (op_ownNe ge5 hr me ie Tc.co hne be pass0 spEq_mono) (pe_meth (pv 3) Tc.cl mo go6 hr bo .nil pass0 (pa_cons (pe_meth (pv 3) Tc.cl mo go6 hr bo .nil pass0 (pa_cons (pv 0) pa_nil)) pa_nil)) (pv 0) (nomark _))))) (pss_one (ps_ret pe_bl)) pss_nil)
    (pss_cons (ps_if (PW.pt (pw_or (pt_cmpR (op_ownNe ge5 hr me ie Tc.co hne be pass0 spEq_mono) (pe_meth (pv 0) Tc.cl mp gp6 hr bp .nil pass0 (pa_cons pe_int pa_nil)) (pv 3) (nomark _)) (pw_or (pt_cmpR (op_ownNe ge5 hr me ie Tc.co hne be pass0 spEq_mono) (pe_meth (pv 0) Tc.cl mp gp6 hr bp .nil pass0 (pa_cons pe_int pa_nil)) (pv 0) (nomark _)) (pw_or1 (pt_cmpR (op_ownNe ge5 hr me ie Tc.co hne be pass0 spEq_mono) (pe_meth (pv 0) Tc.cl mp gp6 hr bp .nil pass0 (pa_cons pe_int pa_nil)) (pe_op (op_ownBin Gm6 hr sf mm im bm pass0) (pe_op (op_ownBin Gm6 hr sf mm im bm pass0) (pv 0) (pv 0)) (pv 0)) (nomark _)))))) (pss_one (ps_ret pe_bl)) pss_nil)
    (pss_cons (ps_if (PW.pt (pw_or (pt_cmpR (op_ownNe ge5 hr me ie Tc.co hne be pass0 spEq_mono) (pe_meth (pe_op (op_ownBin Gm6 hr sf mm im bm pass0) (pv 0) (pv 1)) Tc.cl mp gp6 hr bp .nil pass0 (pa_cons pe_int pa_nil)) (pe_op (op_ownBin Gm6 hr sf mm im bm pass0) (pe_meth (pv 0) Tc.cl mp gp6 hr bp .nil pass0 (pa_cons pe_int pa_nil)) (pe_meth (pv 1) Tc.cl mp gp6 hr bp .nil pass0 (pa_cons pe_int pa_nil))) (nomark _)) (pw_or1 (pt_cmpR (op_ownNe ge5 hr me ie Tc.co hne be pass0 spEq_mono) (pe_meth (pe_meth (pv 0) Tc.cl mp gp6 hr bp .nil pass0 (pa_cons pe_int pa_nil)) Tc.cl mp gp6 hr bp .nil pass0 (pa_cons pe_int pa_nil)) (pe_meth (pv 0) Tc.cl mp gp6 hr bp .nil pass0 (pa_cons pe_int pa_nil)) (nomark _))))) (pss_one (ps_ret pe_bl)) pss_nil)
    ht))))), ?_⟩
  intro D H v3 p1 p2 p3 ns e1 e2 e3 b1 b2 b3 f1 f2 f3 hP z1 z2 z3 m1 m2 m3 k
  refine rd_mk0 fun H1 p4 S1 z4 _ => ⟨rfl, ?_⟩
  refine next_ ?_
  obtain ⟨σ3, eσ⟩ : ∃ σ : L2.St, σ = List.set [some (V.ref p1), some (V.ref p2), some (V.ref p3), v3, none] 3 (some (V.ref p4)) := ⟨_, rfl⟩
  have o1 : GvS C ns b1 f1 (tVar 0) σ3 H1 := gvs_var (by rw [eσ]; rfl) (z1.same S1) m1
  have o2 : GvS C ns b2 f2 (tVar 1) σ3 H1 := gvs_var (by rw [eσ]; rfl) (z2.same S1) m2
  have o3 : GvS C ns b3 f3 (tVar 2) σ3 H1 := gvs_var (by rw [eσ]; rfl) (z3.same S1) m3
  have o4 : GvS C ns 0 (fun _ => 0) (tVar 3) σ3 H1 := gvs_var (by rw [eσ]; rfl) z4 (Md.nil ns)
  have pint : ∀ {m : Nat}, ∀ H2 (Q : VK), Same H1 H2 → Q (.int (m : Int)) H2 → tC (.int (m : Int)) σ3 H2 Q := fun {m} H2 Q _ q => q
  rw [← eσ]
  have F2 : Fls _ σ3 H1 := (fls_or (fls_ne (E := E0) (K := K) (gvs_mul (E := E0) hP o1 o2) (gvs_mul (E := E0) hP o2 o1) (fun n => by first | omega | (simp only [Int.natCast_zero, Nat.cast_ofNat, Int.cast_ofNat_Int]; omega) | (push_cast; omega))) (fls_or (fls_ne (E := E0) (K := K) (gvs_mul (E := E0) hP (gvs_mul (E := E0) hP o1 o2) o3) (gvs_mul (E := E0) hP o1 (gvs_mul (E := E0) hP o2 o3)) (fun n => by first | omega | (simp only [Int.natCast_zero, Nat.cast_ofNat, Int.cast_ofNat_Int]; omega) | (push_cast; omega))) (fls_ne (E := E0) (K := K) (gvs_mul (E := E0) hP o1 o4) o1 (fun n => by first | omega | (simp only [Int.natCast_zero, Nat.cast_ofNat, Int.cast_ofNat_Int]; omega) | (push_cast; omega)))))
  refine F2 _ _ (Same.refl H1) fun H2 S2 => iteF (next_ ?_)
  have F3 : Fls _ σ3 H1 := (fls_or (fls_ne (E := E0) (K := K) (gvs_over (E := E0) hP (gvs_mul (E := E0) hP o1 o2) o2) o1 (fun n => by first | omega | (simp only [Int.natCast_zero, Nat.cast_ofNat, Int.cast_ofNat_Int]; omega) | (push_cast; omega))) (fls_or (fls_ne (E := E0) (K := K) (gvs_over (E := E0) hP o1 o1) o4 (fun n => by first | omega | (simp only [Int.natCast_zero, Nat.cast_ofNat, Int.cast_ofNat_Int]; omega) | (push_cast; omega))) (fls_ne (E := E0) (K := K) (gvs_mul (E := E0) hP (gvs_over (E := E0) hP o1 o2) o2) o1 (fun n => by first | omega | (simp only [Int.natCast_zero, Nat.cast_ofNat, Int.cast_ofNat_Int]; omega) | (push_cast; omega)))))
  refine F3 _ _ ((Same.refl H1).trans S2) fun H3 S3 => iteF (next_ ?_)
  have F4 : Fls _ σ3 H1 := (fls_or (fls_ne (E := E0) (K := K) (gvs_over (E := E0) hP (gvs_over (E := E0) hP o1 o2) o3) (gvs_over (E := E0) hP o1 (gvs_mul (E := E0) hP o2 o3)) (fun n => by first | omega | (simp only [Int.natCast_zero, Nat.cast_ofNat, Int.cast_ofNat_Int]; omega) | (push_cast; omega))) (fls_ne (E := E0) (K := K) (gvs_over (E := E0) hP o4 (gvs_over (E := E0) hP o4 o1)) o1 (fun n => by first | omega | (simp only [Int.natCast_zero, Nat.cast_ofNat, Int.cast_ofNat_Int]; omega) | (push_cast; omega))))
  refine F4 _ _ (((Same.refl H1).trans S2).trans S3) fun H4 S4 => iteF (next_ ?_)
  have F5 : Fls _ σ3 H1 := (fls_or (fls_ne (E := E0) (K := K) (gvs_power (E := E0) (m := 0) (by decide) o1 pint) o4 (fun n => by first | omega | (simp only [Int.natCast_zero, Nat.cast_ofNat, Int.cast_ofNat_Int]; omega) | (push_cast; omega))) (fls_or (fls_ne (E := E0) (K := K) (gvs_power (E := E0) (m := 1) (by decide) o1 pint) o1 (fun n => by first | omega | (simp only [Int.natCast_zero, Nat.cast_ofNat, Int.cast_ofNat_Int]; omega) | (push_cast; omega))) (fls_ne (E := E0) (K := K) (gvs_power (E := E0) (m := 3) (by decide) o1 pint) (gvs_mul (E := E0) hP (gvs_mul (E := E0) hP o1 o1) o1) (fun n => by first | omega | (simp only [Int.natCast_zero, Nat.cast_ofNat, Int.cast_ofNat_Int]; omega) | (push_cast; omega)))))
  refine F5 _ _ ((((Same.refl H1).trans S2).trans S3).trans S4) fun H5 S5 => iteF (next_ ?_)
  have F6 : Fls _ σ3 H1 := (fls_or (fls_ne (E := E0) (K := K) (gvs_power (E := E0) (m := 2) (by decide) (gvs_mul (E := E0) hP o1 o2) pint) (gvs_mul (E := E0) hP (gvs_power (E := E0) (m := 2) (by decide) o1 pint) (gvs_power (E := E0) (m := 2) (by decide) o2 pint)) (fun n => by first | omega | (simp only [Int.natCast_zero, Nat.cast_ofNat, Int.cast_ofNat_Int]; omega) | (push_cast; omega))) (fls_ne (E := E0) (K := K) (gvs_power (E := E0) (m := 5) (by decide) (gvs_power (E := E0) (m := 2) (by decide) o1 pint) pint) (gvs_power (E := E0) (m := 10) (by decide) o1 pint) (fun n => by first | omega | (simp only [Int.natCast_zero, Nat.cast_ofNat, Int.cast_ofNat_Int]; omega) | (push_cast; omega))))
  refine F6 _ _ (((((Same.refl H1).trans S2).trans S3).trans S4).trans S5) fun H6 S6 => iteF (next_ ?_)
  have SS := ((((((Same.refl H1).trans S2).trans S3).trans S4).trans S5).trans S6)
  rw [eσ]

  exact k _ p4 (S1.trans SS) (z4.same SS)
end
end K17
set_option maxHeartbeats 8000000
namespace K17
open PySem PySem.Spec PyProof.Rows L2

/-! ### _law_products_right, its seventh statement -/
section
variable {C : Addr} {ns : List Str} {b : Int} {f : Str → Int} {ta : TE} {σ : L2.St} {H : Hp} {E : XK}
theorem fls_whole (h1 : GvS C ns b f ta σ H) (e : ∀ n, 0 ≤ f n) : Fls (tNot (tB (tProp C (spWhole C) [] E ta))) σ H := fun H1 Q S q =>
  gvs_whole (h1.up S) fun H' d S' hd => ⟨_, rfl, by rw [hd.mpr e]; exact q H' S'⟩
end
section
variable {P : Program} {w : World} {K : PySem.W.Frag} {mg : Str → Option Value} {base : Heap} {C : Addr}
theorem prr_t2 (Kk : Kp P w K mg base C) (wh : ∃ p g fd, PropOf K C "is_whole" p g ∧ FnOk P w K mg base CX0 1 g fd ["self"] (spWhole C) ∧ Binds K fd ["self"] [])
    {f : Addr} {cdv : Value} {A : Around} {outer : List Env} {s : Shared} {H0 : Hp}
    (hr : Room 6 (A.deeper (envOfC "_law_products_right" (defScope sPrr) s.heap.objs.size f cdv))) {t2 : TS}
    (ht : PSs (cxOf CX0 P w K mg base NPrr "_law_products_right" (defScope sPrr) f cdv A outer s H0 E0).nox ((defBody sPrr).drop 7) t2) :
    ∃ t, PSs (cxOf CX0 P w K mg base NPrr "_law_products_right" (defScope sPrr) f cdv A outer s H0 E0).nox ((defBody sPrr).drop 6) t ∧
      ∀ (D : Ends) (H : Hp) (p1 : Addr) (v2 v3 v4 v5 : Option V) (ns : List Str) (e1 : Es) (b1 : Int) (f1 : Str → Int), Pool ns → SizeAt C H p1 e1 → Md ns b1 f1 e1 →
        (∀ H', Same H H' → t2 D [some (.ref p1), v2, v3, v4, v5] H') →
        t D [some (.ref p1), v2, v3, v4, v5] H := by
  obtain ⟨⟨Tc, ⟨pt, gt, fdt, mt, Gt, bt⟩, ⟨pb, gb, fdb, mb, Gb, bb⟩, ⟨gm, fdm, Gm, sf, mm, im, bm⟩⟩, ⟨fi, fdi, M, gi, bi, bi0⟩, ⟨fo, fdo, mo, go, bo⟩, ⟨fp, fdp, mp, gp, bp⟩, ⟨fe, fde, me, ie, ge, be⟩, hne⟩ := Kk
  obtain ⟨pw, gw, fdw, mw, Gw, bw⟩ := wh
  have go6 := go.mono (k := 6) (by decide)
  have ge5 := ge.mono (k := 5) (by decide)
  have Gw5 := Gw.mono (k := 5) (by decide)
  refine ⟨_, pss_cons (ps_if (PW.pt (pw_or (pt_cmpR (op_ownNe ge5 hr me ie Tc.co hne be pass0 spEq_mono)
        (pe_meth (pe_prop (pv 0) Tc.cl mt Gt hr bt .nil pass0 rfl) Tc.cl mo go6 hr bo .nil pass0 (pa_cons (pe_prop (pv 0) Tc.cl mb Gb hr bb .nil pass0 rfl) pa_nil)) (pv 0) (nomark _))
      (pw_or (pt_not (pt_val (pe_prop (pe_prop (pv 0) Tc.cl mt Gt hr bt .nil pass0 rfl) Tc.cl mw Gw5 hr bw .nil pass0 rfl)))
      (pw_or1 (pt_not (pt_val (pe_prop (pe_prop (pv 0) Tc.cl mb Gb hr bb .nil pass0 rfl) Tc.cl mw Gw5 hr bw .nil pass0 rfl))))))) (pss_one (ps_ret pe_bl)) pss_nil) ht, ?_⟩
  intro D H p1 v2 v3 v4 v5 ns e1 b1 f1 hP z1 m1 k
  obtain ⟨σ3, eσ⟩ : ∃ σ : L2.St, σ = [some (V.ref p1), v2, v3, v4, v5] := ⟨_, rfl⟩
  have o1 : GvS C ns b1 f1 (tVar 0) σ3 H := gvs_var (by rw [eσ]; rfl) z1 m1
  rw [← eσ]
  have F : Fls _ σ3 H := fls_or (fls_ne (E := E0) (K := K) (gvs_over (E := E0) hP (gvs_top (E := E0) o1) (gvs_bot (E := E0) o1)) o1 (fun n => by
      simp only [cTop, cBot, decide_eq_true_eq]
      split <;> split <;> omega))
    (fls_or (fls_whole (E := E0) (gvs_top (E := E0) o1) (fun n => by
      simp only [cTop, decide_eq_true_eq]
      split <;> omega)) (fls_whole (E := E0) (gvs_bot (E := E0) o1) (fun n => by
      simp only [cBot, decide_eq_true_eq]
      split <;> omega)))
  refine F _ _ (Same.refl H) fun H2 S2 => iteF (next_ ?_)
  rw [eσ]
  exact k H2 S2
end
end K17
set_option maxHeartbeats 8000000
namespace K17
open PySem PySem.Spec PyProof.Rows L2

/-! ### repr of a bool; x in a Size -/
def boolT (b : Bool) : Str := if b then "True" else "False"
section
variable {X : Cx}
theorem call_reprB : CallR X (.builtin "repr") (fun xs H Q => ∃ b, xs = [.bl b] ∧ Q (.str (boolT b)) H) := by
  intro pins s σ H xs us Q I r h
  obtain ⟨b, rfl, q⟩ := h
  obtain ⟨u, rfl, ru⟩ := vals1 r
  cases ru
  exact PySem.P.repr_of_bool ⟨.str (boolT b), H, I.tok _, ⟨_, rfl⟩, q⟩
end
def rInO (C : Addr) (sp : Sp) (E : XK) : R2 := fun x y H Q => ∃ (a dx : Addr) (fs : List (Str × V)), y = .ref a ∧ H a = some (.ins C dx fs) ∧ sp [.ref a, x] H (fun v H' => ∃ b, v = .bl b ∧ Q (.bl b) H') E
section
variable {X : Cx} {CX : CXT} {C f : Addr} {fd : FuncData} {ps : List Str} {sp : Sp} {E : XK} {n : Nat}
theorem op_inO (F : FnOk X.prog X.w X.K X.mg X.base CX n f fd ps sp) (hr : Room n X.A) (hs : PySem.W.findIn X.K (.ref C) "__contains__" = some (some (.ref f))) (hf : PySem.W.isFn X.K (.ref f) = true)
    (hb : Binds X.K fd ps []) (hx : Passes CX X E) (hsq : ∀ vs H (Q Q' : VK), (∀ v H', Q v H' → Q' v H') → sp vs H Q E → sp vs H Q' E) : OpR X (compareOp .In) (rInO C sp E) := by
  intro pins s σ H x y v u Q I rx ry h
  obtain ⟨a, dx, fs, rfl, ha, hsp⟩ := h
  cases ry
  obtain ⟨mA, J, _⟩ := ins_get I.hok ha
  obtain ⟨od, J, _⟩ := J.look
  obtain ⟨m, hF⟩ := I.fr
  refine PySem.W.in_K hF I.ok.mod.kin J hs hf ?_
  refine wpAny_mono (run_own F hr rfl hb hx I rx (Q := fun b s' => EP X pins σ Q (.bool b) s') (hsq _ _ _ _ (fun v H' q => ?_) hsp)) (fun r s' z => ?_) fun _ _ e => e
  · obtain ⟨b, e, q⟩ := q
    exact ⟨b, e, fun s' I' => ⟨.bl b, H', I', rfl, q⟩⟩
  · obtain ⟨b, rfl, q⟩ := z
    exact wpAny_truthy_bool q
end
theorem spHas_mono {K : PySem.W.Frag} {C : Addr} {E : XK} : ∀ vs H (Q Q' : VK), (∀ v H', Q v H' → Q' v H') → spHas K C vs H Q E → spHas K C vs H Q' E := by
  rintro vs H Q Q' h ⟨p, es, v, e, h1, h2⟩
  refine ⟨p, es, v, e, h1, ?_⟩
  rcases h2 with ⟨n, e, hl, k⟩ | ⟨t, h3, h4, k⟩
  · exact .inl ⟨n, e, hl, fun H' S => h _ _ (k H' S)⟩
  · exact .inr ⟨t, h3, h4, h _ _ k⟩
end K17
set_option maxHeartbeats 8000000
namespace K17
open PySem PySem.Spec PyProof.Rows L2

/-! ### _law_products_right, its eighth statement -/
section
variable {P : Program} {w : World} {K : PySem.W.Frag} {mg : Str → Option Value} {base : Heap} {C : Addr}
theorem prr_t3 (reprN : mg "repr" = none) (Kk : Kp P w K mg base C) (wh : ∃ p g fd, PropOf K C "is_whole" p g ∧ FnOk P w K mg base CX0 1 g fd ["self"] (spWhole C) ∧ Binds K fd ["self"] [])
    (nam : ∃ f fd, Meth K C "names" f ∧ FnOk P w K mg base CX0 1 f fd ["self"] (spNames C) ∧ Binds K fd ["self"] [])
    (has : ∃ f fd, PySem.W.findIn K (.ref C) "__contains__" = some (some (.ref f)) ∧ PySem.W.isFn K (.ref f) = true ∧ FnOk P w K mg base CX0 2 f fd ["self", "name"] (spHas K C) ∧ Binds K fd ["self", "name"] [])
    {f : Addr} {cdv : Value} {A : Around} {outer : List Env} {s : Shared} {H0 : Hp}
    (hr : Room 6 (A.deeper (envOfC "_law_products_right" (defScope sPrr) s.heap.objs.size f cdv))) {t2 : TS}
    (ht : PSs (cxOf CX0 P w K mg base NPrr "_law_products_right" (defScope sPrr) f cdv A outer s H0 E0).nox ((defBody sPrr).drop 8) t2) :
    ∃ t, PSs (cxOf CX0 P w K mg base NPrr "_law_products_right" (defScope sPrr) f cdv A outer s H0 E0).nox ((defBody sPrr).drop 7) t ∧
      ∀ (D : Ends) (H : Hp) (p1 p4 : Addr) (v2 v3 : Option V) (ns : List Str) (e1 : Es) (b1 : Int) (f1 : Str → Int), Pool ns → SizeAt C H p1 e1 → Md ns b1 f1 e1 → SizeAt C H p4 [] → (∀ q ∈ e1, q.1.length ≤ 1000000) →
        (∀ H', Same H H' → t2 D [some (.ref p1), v2, v3, some (.ref p4), none] H') →
        t D [some (.ref p1), v2, v3, some (.ref p4), none] H := by
  obtain ⟨⟨Tc, ⟨pt, gt, fdt, mt, Gt, bt⟩, ⟨pb, gb, fdb, mb, Gb, bb⟩, _⟩, _, _, _, ⟨fe, fde, me, ie, ge, be⟩, hne⟩ := Kk
  obtain ⟨pw, gw, fdw, mw, Gw, bw⟩ := wh
  obtain ⟨fn, fdn, mn, gn, bn⟩ := nam
  obtain ⟨fh, fdh, mh, ih, gh, bh⟩ := has
  have ge6 := ge.mono (k := 6) (by decide)
  have gh6 := gh.mono (k := 6) (by decide)
  have gn6 := gn.mono (k := 6) (by decide)
  have Gw5 := Gw.mono (k := 5) (by decide)
  have hu : (A.deeper (envOfC "_law_products_right" (defScope sPrr) s.heap.objs.size f cdv)).units + 64 < cLine := by have := hr.units; omega
  refine ⟨_, pss_cons (ps_if (PW.pt (pw_or (pt_cmpR op_ne (pe_callB call_reprB (by rfl) reprN (by decide +kernel) (pa_cons (pe_prop (pv 0) Tc.cl mw Gw5 hr bw .nil pass0 rfl) pa_nil))
        (pe_callB call_reprB (by rfl) reprN (by decide +kernel) (pa_cons (pe_cmpR (op_own ge6 hr me ie be pass0 spEq_mono) (pe_prop (pv 0) Tc.cl mb Gb hr bb .nil pass0 rfl) (pv 3) (nomark _)) pa_nil)) (nomark _))
      (pw_or1 (pt_cmpR (op_neD hu) (pe_lc (own := [("_law_word", 4)]) (g := gName 4) (tt := tTest (tOp (rInO C (spHas K C) E0) (tVar 4) (tProp C (spPart C cBot (fun i => -i)) [] E0 (tVar 0)))) (te := tVar 4) rfl scPrr.nd
          (pi_list (pe_meth0 (pe_prop (pv 0) Tc.cl mt Gt hr bt .nil pass0 rfl) Tc.cl mn gn6 hr bn .nil pass0))
          (blkOk_by (own := [("_law_word", 4)]) (N := NPrr) (sc := defScope sPrr) (by decide +kernel)) (fun _ _ _ _ _ => pg_name (i := 4) scPrr.nd rfl (Or.inl rfl))
          (fun _ _ _ _ _ => pts_one (by exact pt_cmpR (op_inO gh6 hr mh ih bh pass0 spHas_mono) (pv 4) (pe_prop (pv 0) Tc.cl mb Gb hr bb .nil pass0 rfl) rfl)) (fun _ _ _ _ _ => by exact pv 4)) (pe_lst pa_nil) (nomark _))))) (pss_one (ps_ret pe_bl)) pss_nil) ht, ?_⟩
  intro D H p1 p4 v2 v3 ns e1 b1 f1 hP z1 m1 z4 hL1 k
  have o1 : GvS C ns b1 f1 (tVar 0) [some (V.ref p1), v2, v3, some (V.ref p4), none] H := gvs_var rfl z1 m1
  have o4 : GvS C ns 0 (fun _ => 0) (tVar 3) [some (V.ref p1), v2, v3, some (V.ref p4), none] H := gvs_var rfl z4 (Md.nil ns)
  refine gvs_whole (E := E0) o1 fun H1 d S1 hd => ⟨d, rfl, ?_⟩
  refine gvs_cmp (E := E0) (K := K) (q := id) (gvs_bot (E := E0) (o1.up S1)) (o4.up S1) fun H2 d' S2 hd' => ⟨d', rfl, ?_⟩
  have e : d = d' := Bool.eq_iff_iff.mpr ⟨fun h => hd'.mpr fun n => by
    have := hd.mp h n
    simp only [cBot, decide_eq_true_eq]
    split <;> omega, fun h => hd.mpr fun n => by
    have z := hd'.mp h n
    simp only [cBot, decide_eq_true_eq] at z
    split at z <;> omega⟩
  subst e
  have S12 := S1.trans S2
  refine ⟨rfl, ?_⟩
  rw [decide_eq_true rfl]
  refine ⟨_, rfl, iteF ?_⟩
  refine gvs_top (E := E0) (o1.up S12) H2 _ (Same.refl H2) fun H3 rt ts S3 zt mt' => ?_
  obtain ⟨dx, D0, y, _⟩ := id zt
  refine ⟨rt, dx, _, rfl, y, rfl, rt, ts, rfl, zt, fun l nl => ?_⟩
  have S4 := fresh_upd (o := .lst (ts.map fun q => V.str q.1)) nl
  refine ⟨l, rfl, ⟨_, SqL.of upd_same⟩, fun L nL => ?_⟩
  have S5 := fresh_upd (o := .lst []) nL
  refine lc_it (walk_list (K := K) (a := l) (xs := ts.map fun q => V.str q.1)) (fun j H7 => H7 L = some (.lst []) ∧ Same (upd H3 l (.lst (ts.map fun q => V.str q.1))) H7)
    ⟨upd_same, S5⟩ (fun i H7 _ h => SqL.of (h.2 _ _ upd_same)) ?_ ?_
  · rintro j v H7 H8 hj ⟨hL, S7⟩ ⟨rfl, hv⟩
    rw [List.length_map] at hj
    have ev : v = .str (ts[j]).1 := by
      rw [List.getElem?_map, List.getElem?_eq_getElem hj] at hv
      exact (Option.some.inj hv).symm
    subst ev
    have hq := List.getElem_mem hj
    have S07 := S12.trans (S3.trans (S4.trans S7))
    refine ⟨rfl, ?_⟩
    refine ⟨_, rfl, ?_⟩
    refine gvs_bot (E := E0) (gvs_var rfl (z1.same S07) m1) H8 _ (Same.refl H8) fun H9 rb bs S9 zb mb' => ?_
    obtain ⟨dy, D1, y2, _⟩ := id zb
    have ha := mt'.at hq
    have hlook : bs.lookup (ts[j]).1 = none := by
      rw [mb'.lk]
      have h0 := ha.2
      simp only [cTop, cBot, decide_eq_true_eq] at h0 ⊢
      split at h0
      · rw [if_neg (by omega)]
        rfl
      · exact absurd rfl h0
    have hlen : (ts[j]).1.length ≤ 1000000 := by
      have h0 := ha.2
      have h1 : f1 (ts[j]).1 ≠ 0 := fun z => h0 (by
        simp only [z]
        decide)
      have z : (e1.lookup (ts[j]).1).isSome = true := by
        rw [m1.lk, cz, if_neg h1]
        rfl
      obtain ⟨q, hq', en⟩ := List.mem_map.mp (look_mem.mp z)
      rw [← en]
      exact hL1 q hq'
    refine ⟨rb, dy, _, rfl, y2, rb, bs, _, rfl, zb, .inl ⟨_, rfl, hlen, fun H10 S10 => ⟨_, rfl, _, rfl, ?_⟩⟩⟩
    rw [hlook, Option.isSome_none, Bool.and_false]
    exact iteF ⟨S10 _ _ (S9 _ _ hL), S7.trans (S9.trans S10)⟩
  · rintro H7 ⟨hL, S7⟩
    refine ⟨by rw [sizeLine_eq]; show 0 ≤ 16777216; decide, fun l2 n2 => ?_⟩
    have S8 := fresh_upd (o := .lst []) n2
    refine ⟨.list [], .list [], .lst (SqL.of (S8 _ _ hL)) .nil, .lst (SqL.of upd_same) .nil, rfl, rfl, _, rfl, ?_⟩
    refine iteF (next_ ?_)
    exact k _ (S12.trans (S3.trans (S4.trans (S7.trans S8))))
end
end K17
set_option maxHeartbeats 8000000
namespace K17
open PySem PySem.Spec PyProof.Rows L2

/-! ### C.m(), m a classmethod with a star -/
section
variable {X : Cx} {CX : CXT} {k : Nat} {C p g : Addr} {mc : Value} {sp : Sp} {E : XK} {o : Expr} {m : Str} {pos apos : Pos} {ta : TE} {pl : Sem Bool}
theorem pe_cmeth0 (he : PE X o ta) (r : ClX.CRead X.K C mc) (c : ClX.CMet X.K C mc m p g) (F : FnR X.prog X.w X.K X.mg X.base CX k g sp) (hr : Room k X.A) (hx : Passes CX X E)
    (ht : eval (.Call (.Attribute o m apos) [] [] pos) X.env = (do
      let ov ← eval o X.env
      standAt apos.atName
      let (f, first) ← holding [ov] (getMethod ov m pl)
      callWith pos f first (backTo pos (starEach [] X.env)) (backToKw pos (keywordEach [] X.env))) := by rfl) :
    PE X (.Call (.Attribute o m apos) [] [] pos) (ClX.tCMeth C sp E ta tNil) := by
  refine ⟨fun pins s σ H Q I h => ?_⟩
  refine PySem.W.methodCall_KW (pl := pl) (thn (he.run pins s σ H _ I h) fun u s1 ⟨x, H1, I1, rx, ex, q⟩ => ?_) ht
  subst ex
  obtain rfl : u = Value.ref C := rx
  refine ClX.getmethcm_ok I1 r c fun s2 I2 => ?_
  refine PySem.W.callWith_of (P := PySem.W.MethP X.K s1.heap.objs.size g (.ref C)) rfl (PySem.W.keeps_M c.fi) (evalArgs_kw2_nil (kws := []) rfl (kwAll_nil ⟨⟨ClX.pin_at I2, I2.kIn⟩, ?_⟩))
  exact ClX.run_cm (us := []) F hr hx I2 .nil q
end

/-! ### _law_products_right -/
section
variable {C : Addr} {ns : List Str} {b1 b2 b3 : Int} {f1 f2 f3 : Str → Int} {ta tb td : TE} {σ : L2.St} {H : Hp} {E : XK}
theorem gvs_prod3 (hP : Pool ns) (h1 : GvS C ns b1 f1 ta σ H) (h2 : GvS C ns b2 f2 tb σ H) (h3 : GvS C ns b3 f3 td σ H) :
    GvS C ns (b1 + b2 + b3) (fun n => f1 n + (f2 n + (f3 n + 0))) (ClX.tCMeth C (spProd C) E (tC (.ref C)) (tCons ta (tCons tb (tCons td tNil)))) σ H := by
  intro H1 Q S k
  refine ⟨rfl, ?_⟩
  refine h1 H1 _ S fun H2 r1 es1 S2 z1 m1 => ?_
  refine h2 H2 _ (S.trans S2) fun H3 r2 es2 S3 z2 m2 => ?_
  refine h3 H3 _ (S.trans (S2.trans S3)) fun H4 r3 es3 S4 z3 m3 => ?_
  have l1 := m1.len hP
  have l2 := m2.len hP
  have l3 := m3.len hP
  refine ⟨[.ref r1, .ref r2, .ref r3], [es1, es2, es3], rfl, .cons (z1.same (S3.trans S4)) (.cons (z2.same S4) (.cons z3 .nil)), (show 3 ≤ 1000 by decide), ?_, fun H5 r rs S5 z lk => ?_⟩
  · show es1.length + (es2.length + (es3.length + 0)) < 64
    omega
  · refine k H5 r rs (S2.trans (S3.trans (S4.trans S5))) z (Md.of z (fun n => ?_) (fun n hn => by rw [m1.sup n hn, m2.sup n hn, m3.sup n hn]; rfl) fun n => ?_)
    · rw [lk]
      show cz (g0 es1 n + (g0 es2 n + (g0 es3 n + 0))) = _
      rw [m1.g, m2.g, m3.g]
    · have := m1.bd n
      have := m2.bd n
      have := m3.bd n
      omega
theorem gvs_prod0 : GvS C ns 0 (fun _ => 0) (ClX.tCMeth C (spProd C) E (tC (.ref C)) tNil) σ H := by
  intro H1 Q S k
  refine ⟨rfl, [], [], rfl, .nil, by decide, by decide, fun H5 r rs S5 z lk => ?_⟩
  exact k H5 r rs S5 z (Md.of z (fun n => lk n) (fun n hn => rfl) fun n => ⟨by decide, by decide⟩)
end
def spPrr (C : Addr) : Sp := fun vs H Q _ => ∃ (p1 p2 p3 : Addr) (ns : List Str) (e1 e2 e3 : Es) (b1 b2 b3 : Int) (f1 f2 f3 : Str → Int), vs = [.ref p1, .ref p2, .ref p3] ∧ Pool ns ∧ SizeAt C H p1 e1 ∧ SizeAt C H p2 e2 ∧ SizeAt C H p3 e3 ∧
  Md ns b1 f1 e1 ∧ Md ns b2 f2 e2 ∧ Md ns b3 f3 e3 ∧ ∀ H', Same H H' → Q (.bl true) H'
section
variable {P : Program} {w : World} {K : PySem.W.Frag} {mg : Str → Option Value} {base : Heap} {C : Addr}
theorem ok_prr {f : Addr} {fd : FuncData} (F : Fun K "_law_products_right" "_law_products_right" sPrr f fd) (reprN : mg "repr" = none) (Kk : Kp P w K mg base C)
    (wh : ∃ p g fd, PropOf K C "is_whole" p g ∧ FnOk P w K mg base CX0 1 g fd ["self"] (spWhole C) ∧ Binds K fd ["self"] [])
    (nam : ∃ f fd, Meth K C "names" f ∧ FnOk P w K mg base CX0 1 f fd ["self"] (spNames C) ∧ Binds K fd ["self"] [])
    (has : ∃ f fd, PySem.W.findIn K (.ref C) "__contains__" = some (some (.ref f)) ∧ PySem.W.isFn K (.ref f) = true ∧ FnOk P w K mg base CX0 2 f fd ["self", "name"] (spHas K C) ∧ Binds K fd ["self", "name"] [])
    (prod : ∃ mc, ClX.CRead K C mc ∧ ∃ p g, ClX.CMet K C mc "product" p g ∧ L2.FnR P w K mg base CX0 5 g (spProd C)) :
    FnOk P w K mg base CX0 7 f fd ["_law_one", "_law_two", "_law_third"] (spPrr C) := by
  refine F.ok scPrr (fun vs H Q E h => ?_) (fun cdv A outer s H vs Q E hr h => ?_)
  · obtain ⟨p1, p2, p3, ns, e1, e2, e3, b1, b2, b3, f1, f2, f3, rfl, _⟩ := h
    rfl
  · obtain ⟨p1, p2, p3, ns, e1, e2, e3, b1, b2, b3, f1, f2, f3, rfl, hP, z1, z2, z3, m1, m2, m3, k⟩ := h
    have t4 : ∃ t, PSs (cxOf CX0 P w K mg base NPrr "_law_products_right" (defScope sPrr) f cdv A outer s H E0).nox ((defBody sPrr).drop 8) t ∧
        ∀ (D : Ends) (H2 : Hp) (p4 : Addr), Same H H2 → SizeAt C H2 p4 [] → (∀ H', Same H2 H' → D.rt (.bl true) H') →
          t D [some (.ref p1), some (.ref p2), some (.ref p3), some (.ref p4), none] H2 := by
      obtain ⟨⟨Tc, _, _, ⟨gm, fdm, Gm, sf, mm, im, bm⟩⟩, _, _, _, ⟨fe, fde, me, ie, ge, be⟩, _⟩ := id Kk
      obtain ⟨mc, CR, pp, gp, CM, GP⟩ := prod
      have Gm6 := Gm.mono (k := 6) (by decide)
      have ge6 := ge.mono (k := 6) (by decide)
      have GP6 := GP.mono (k := 6) (by decide)
      refine ⟨_, pss_one (ps_ret (pe_and (pe_cmpR (op_own ge6 hr me ie be pass0 spEq_mono)
          (ClX.pe_cmeth (E := E0) (pe_glob (v := .ref C) (by rfl) Tc.gC rfl) CR CM GP6 hr pass0 (pa_cons (pv 0) (pa_cons (pv 1) (pa_cons (pv 2) pa_nil))))
          (pe_op (op_ownBin Gm6 hr sf mm im bm pass0) (pe_op (op_ownBin Gm6 hr sf mm im bm pass0) (pv 0) (pv 1)) (pv 2)) (nomark _))
        (pe_one (pe_cmpR (op_own ge6 hr me ie be pass0 spEq_mono) (pe_cmeth0 (E := E0) (pe_glob (v := .ref C) (by rfl) Tc.gC rfl) CR CM GP6 hr pass0) (pv 3) (nomark _))))), ?_⟩
      intro D H2 p4 S2 z4 q
      have o1 : GvS C ns b1 f1 (tVar 0) [some (V.ref p1), some (V.ref p2), some (V.ref p3), some (V.ref p4), none] H2 := gvs_var rfl (z1.same S2) m1
      have o2 : GvS C ns b2 f2 (tVar 1) [some (V.ref p1), some (V.ref p2), some (V.ref p3), some (V.ref p4), none] H2 := gvs_var rfl (z2.same S2) m2
      have o3 : GvS C ns b3 f3 (tVar 2) [some (V.ref p1), some (V.ref p2), some (V.ref p3), some (V.ref p4), none] H2 := gvs_var rfl (z3.same S2) m3
      have o4 : GvS C ns 0 (fun _ => 0) (tVar 3) [some (V.ref p1), some (V.ref p2), some (V.ref p3), some (V.ref p4), none] H2 := gvs_var rfl z4 (Md.nil ns)
      refine gvs_cmp (E := E0) (K := K) (q := id) (gvs_prod3 (E := E0) hP o1 o2 o3) (gvs_mul (E := E0) hP (gvs_mul (E := E0) hP o1 o2) o3) fun H3 d S3 hd => ⟨d, rfl, ?_⟩
      have ed : d = true := hd.mpr fun n => by omega
      subst ed
      refine iteT' rfl ?_
      refine gvs_cmp (E := E0) (K := K) (q := id) (gvs_prod0 (E := E0)) (o4.up S3) fun H4 d S4 hd => ?_
      have ed : d = true := hd.mpr fun n => rfl
      subst ed
      exact q H4 (S3.trans S4)
    obtain ⟨t4, h4, k4⟩ := t4
    obtain ⟨t3, h3, k3⟩ := prr_t3 reprN Kk wh nam has hr h4
    obtain ⟨t2, h2, k2⟩ := prr_t2 Kk wh hr h3
    obtain ⟨t1, h1, k1⟩ := prr_t1 Kk hr h2
    refine ⟨t1, h1, ?_⟩
    refine k1 _ H none p1 p2 p3 ns e1 e2 e3 b1 b2 b3 f1 f2 f3 hP z1 z2 z3 m1 m2 m3 fun H1 p4 S1 z4 => ?_
    refine k2 _ H1 p1 _ _ _ _ ns e1 b1 f1 hP (z1.same S1) m1 fun H2 S2 => ?_
    refine k3 _ H2 p1 p4 _ _ ns e1 b1 f1 hP (z1.same (S1.trans S2)) m1 (z4.same S2) (fun q hq => Nat.le_trans (nm_len (m1.nm hP q hq)) (by decide)) fun H3 S3 => ?_
    exact k4 _ H3 p4 (S1.trans (S2.trans S3)) (z4.same (S2.trans S3)) fun H' S' => k H' (S1.trans (S2.trans (S3.trans S')))
end
end K17
set_option maxHeartbeats 8000000
namespace K17
open PySem PySem.Spec PyProof.Rows L2

/-! ### the value at a point, by names -/
def dotN (ns : List Str) (f g : Str → Int) : Int := (ns.map fun n => f n * g n).sum
theorem dotN_add (f1 f2 g : Str → Int) : ∀ ns : List Str, dotN ns (fun n => f1 n + f2 n) g = dotN ns f1 g + dotN ns f2 g
  | [] => rfl
  | n :: r => by
    have ih := dotN_add f1 f2 g r
    unfold dotN at ih ⊢
    rw [List.map_cons, List.sum_cons, List.map_cons, List.sum_cons, List.map_cons, List.sum_cons, ih, Int.add_mul]
    omega
theorem dotN_sub (f1 f2 g : Str → Int) : ∀ ns : List Str, dotN ns (fun n => f1 n - f2 n) g = dotN ns f1 g - dotN ns f2 g
  | [] => rfl
  | n :: r => by
    have ih := dotN_sub f1 f2 g r
    unfold dotN at ih ⊢
    rw [List.map_cons, List.sum_cons, List.map_cons, List.sum_cons, List.map_cons, List.sum_cons, ih, Int.sub_mul]
    omega
theorem dotN_mul (f g : Str → Int) (m : Int) : ∀ ns : List Str, dotN ns (fun n => f n * m) g = m * dotN ns f g
  | [] => by
    show (0 : Int) = m * 0
    rw [Int.mul_zero]
  | n :: r => by
    have ih := dotN_mul f g m r
    unfold dotN at ih ⊢
    rw [List.map_cons, List.sum_cons, List.map_cons, List.sum_cons, ih]
    dsimp only
    rw [Int.mul_add, Int.mul_comm (f n) m, Int.mul_assoc]
theorem dotN_zero (g : Str → Int) : ∀ ns : List Str, dotN ns (fun _ => 0) g = 0
  | [] => rfl
  | n :: r => by
    have ih := dotN_zero g r
    unfold dotN at ih ⊢
    rw [List.map_cons, List.sum_cons, ih, Int.zero_mul]
    rfl
theorem dotN_out (a : Str) (v : Int) (g : Str → Int) : ∀ ns : List Str, a ∉ ns → dotN ns (fun n => if n = a then v else 0) g = 0
  | [], _ => rfl
  | n :: r, h => by
    have ih := dotN_out a v g r fun z => h (List.mem_cons_of_mem _ z)
    unfold dotN at ih ⊢
    rw [List.map_cons, List.sum_cons, ih]
    dsimp only
    rw [if_neg fun z => h (by rw [z]; exact List.mem_cons_self ..), Int.zero_mul]
    rfl
theorem dotN_one (a : Str) (v : Int) (g : Str → Int) : ∀ ns : List Str, ns.Nodup → a ∈ ns → dotN ns (fun n => if n = a then v else 0) g = v * g a
  | [], _, h => nomatch h
  | n :: r, hn, h => by
    have h2 := List.nodup_cons.mp hn
    by_cases e : n = a
    · have ih := dotN_out a v g r (by rw [← e]; exact h2.1)
      unfold dotN at ih ⊢
      rw [List.map_cons, List.sum_cons, ih]
      dsimp only
      rw [if_pos e, e, Int.add_zero]
    · have ih := dotN_one a v g r h2.2 (by
        rcases List.mem_cons.mp h with z | z
        · exact absurd z.symm e
        · exact z)
      unfold dotN at ih ⊢
      rw [List.map_cons, List.sum_cons, ih]
      dsimp only
      rw [if_neg e, Int.zero_mul, Int.zero_add]
theorem ptV_dot {ns : List Str} (hn : ns.Nodup) (ms : Es) : ∀ es : Es, (es.map (·.1)).Nodup → (∀ q ∈ es, q.1 ∈ ns) → ptV es ms = dotN ns (g0 es) (g0 ms)
  | [], _, _ => (dotN_zero (g0 ms) ns).symm
  | q :: r, hd, hs => by
    have h2 := List.nodup_cons.mp (show (q.1 :: r.map (·.1)).Nodup from hd)
    have ih := ptV_dot hn ms r h2.2 fun p hp => hs p (List.mem_cons_of_mem _ hp)
    have e : g0 (q :: r) = fun n => (if n = q.1 then q.2 else 0) + g0 r n := by
      funext n
      by_cases z : n = q.1
      · rw [if_pos z]
        have z2 : g0 r n = 0 := by
          unfold g0
          rw [g0_none (by rw [z]; exact h2.1)]
          rfl
        rw [z2, z]
        unfold g0
        rw [List.lookup_cons_self]
        show q.2 = q.2 + 0
        omega
      · rw [if_neg z]
        unfold g0
        rw [show (q :: r).lookup n = r.lookup n from by
          rw [List.lookup_cons]
          rw [show (n == q.1) = false from by simpa using z]]
        omega
    rw [e, dotN_add, dotN_one q.1 q.2 (g0 ms) ns hn (hs q (List.mem_cons_self ..)), ← ih]
    rfl
/-- at a point, a Size of model f -/
theorem ptV_md {ns : List Str} {b : Int} {f : Str → Int} {es : Es} (h : Md ns b f es) (hP : Pool ns) (ms : Es) : ptV es ms = dotN ns f (g0 ms) := by
  rw [ptV_dot hP.nd ms es h.sd.nodup fun q hq => h.key hq, show g0 es = f from funext h.g]
end K17
set_option maxHeartbeats 8000000
namespace K17
open PySem PySem.Spec PyProof.Rows L2

/-! ### at_point of an expression that gives a Size -/
/-- a point in a dict -/
structure PtD (H : Hp) (d : Addr) (ms : Es) : Prop where
  at_ : H d = some (.dK (kv ms))
  ln : ms.length ≤ 1000
  nd : (ms.map (·.1)).Nodup
  nm : ∀ p ∈ ms, isNm p.1 = true
  nn : ∀ p ∈ ms, 0 ≤ p.2
theorem PtD.same {H H' : Hp} {d : Addr} {ms : Es} (h : PtD H d ms) (S : Same H H') : PtD H' d ms := ⟨S _ _ h.at_, h.ln, h.nd, h.nm, h.nn⟩
section
variable {C : Addr} {ns : List Str} {b : Int} {f : Str → Int} {ta td : TE} {σ : L2.St} {H : Hp} {E : XK}
theorem gvs_atp {d : Addr} {ms : Es} (hP : Pool ns) (hb : b < 2 ^ 64) (h1 : GvS C ns b f ta σ H) (hd : PtD H d ms) (h2 : ∀ H2 (Q : VK), Same H H2 → Q (.ref d) H2 → td σ H2 Q) {Q : VK}
    (k : ∀ H', Same H H' → Q (.int (dotN ns f (g0 ms))) H') : tMeth C "at_point" (spAtP C) [] E ta (tCons td tNil) σ H Q := by
  refine h1 H _ (Same.refl H) fun H2 r es S2 z m => ?_
  obtain ⟨dx, D, y, _⟩ := id z
  refine ⟨r, dx, _, rfl, y, rfl, ?_⟩
  refine h2 H2 _ S2 ?_
  have p := hd.same S2
  refine ⟨r, d, es, ms, rfl, z, fun q hq => ?_, p.at_, p.ln, p.nd, p.nm, p.nn, fun H3 S3 => ?_⟩
  · have := m.bq hq
    exact ⟨by omega, by omega⟩
  · rw [ptV_md m hP ms]
    exact k H3 (S2.trans S3)
end
end K17
set_option maxHeartbeats 8000000
namespace K17
open PySem PySem.Spec PyProof.Rows L2

/-! ### the value of a whole size, by names -/
def prodN (ns : List Str) (f : Str → Nat) (N : Str → Nat) : Nat := ns.foldr (fun n r => N n ^ f n * r) 1
theorem prodN_cons (n : Str) (r : List Str) (f N : Str → Nat) : prodN (n :: r) f N = N n ^ f n * prodN r f N := rfl
theorem prodN_add (f g N : Str → Nat) : ∀ ns : List Str, prodN ns (fun n => f n + g n) N = prodN ns f N * prodN ns g N
  | [] => rfl
  | n :: r => by
    rw [prodN_cons, prodN_cons, prodN_cons, prodN_add f g N r, Nat.pow_add, Nat.mul_mul_mul_comm]
theorem prodN_zero (N : Str → Nat) : ∀ ns : List Str, prodN ns (fun _ => 0) N = 1
  | [] => rfl
  | n :: r => by rw [prodN_cons, prodN_zero N r, Nat.pow_zero]
theorem prodN_out (a : Str) (v : Nat) (N : Str → Nat) : ∀ ns : List Str, a ∉ ns → prodN ns (fun n => if n = a then v else 0) N = 1
  | [], _ => rfl
  | n :: r, h => by
    rw [prodN_cons, prodN_out a v N r fun z => h (List.mem_cons_of_mem _ z), if_neg fun z => h (by rw [z]; exact List.mem_cons_self ..), Nat.pow_zero]
theorem prodN_one (a : Str) (v : Nat) (N : Str → Nat) : ∀ ns : List Str, ns.Nodup → a ∈ ns → prodN ns (fun n => if n = a then v else 0) N = N a ^ v
  | [], _, h => nomatch h
  | n :: r, hn, h => by
    have h2 := List.nodup_cons.mp hn
    by_cases e : n = a
    · rw [prodN_cons, prodN_out a v N r (by rw [← e]; exact h2.1), if_pos e, e, Nat.mul_one]
    · rw [prodN_cons, prodN_one a v N r h2.2 (by
        rcases List.mem_cons.mp h with z | z
        · exact absurd z.symm e
        · exact z), if_neg e, Nat.pow_zero, Nat.one_mul]
theorem g0_cons {q : Str × Int} {r : Es} (h : q.1 ∉ r.map (·.1)) (n : Str) : g0 (q :: r) n = if n = q.1 then q.2 else g0 r n := by
  unfold g0
  by_cases z : n = q.1
  · rw [if_pos z, z, List.lookup_cons_self]
    rfl
  · rw [if_neg z, List.lookup_cons, show (n == q.1) = false from by simpa using z]
theorem upV_prod {ns : List Str} (hn : ns.Nodup) (N : Str → Nat) : ∀ es : Es, (es.map (·.1)).Nodup → (∀ q ∈ es, q.1 ∈ ns) → upV es N = prodN ns (fun n => (g0 es n).toNat) N
  | [], _, _ => (prodN_zero N ns).symm
  | q :: r, hd, hs => by
    have h2 := List.nodup_cons.mp (show (q.1 :: r.map (·.1)).Nodup from hd)
    have ih := upV_prod hn N r h2.2 fun p hp => hs p (List.mem_cons_of_mem _ hp)
    have e : (fun n => (g0 (q :: r) n).toNat) = fun n => (if n = q.1 then q.2.toNat else 0) + (g0 r n).toNat := by
      funext n
      rw [g0_cons h2.1]
      by_cases z : n = q.1
      · have z2 : g0 r n = 0 := by
          unfold g0
          rw [g0_none (by rw [z]; exact h2.1)]
          rfl
        rw [if_pos z, if_pos z, z2]
        rfl
      · rw [if_neg z, if_neg z, Nat.zero_add]
    rw [e, prodN_add, prodN_one q.1 q.2.toNat N ns hn (hs q (List.mem_cons_self ..)), ← ih]
    show (if 0 < q.2 then N q.1 ^ q.2.toNat else 1) * upV r N = _
    split
    · rfl
    · rw [show q.2.toNat = 0 by omega, Nat.pow_zero]
theorem dnV_one (N : Str → Nat) : ∀ es : Es, (∀ q ∈ es, 0 ≤ q.2) → dnV es N = 1
  | [], _ => rfl
  | q :: r, h => by
    show (if q.2 < 0 then N q.1 ^ (-q.2).toNat else 1) * dnV r N = 1
    rw [dnV_one N r fun p hp => h p (List.mem_cons_of_mem _ hp), if_neg (by have := h q (List.mem_cons_self ..); omega)]
/-- the value of a whole size of model f -/
theorem upV_md {ns : List Str} {b : Int} {f : Str → Int} {es : Es} (h : Md ns b f es) (hP : Pool ns) (N : Str → Nat) : upV es N = prodN ns (fun n => (f n).toNat) N := by
  rw [upV_prod hP.nd N es h.sd.nodup fun q hq => h.key hq]
  congr 1
  funext n
  rw [h.g]
theorem dnV_md {ns : List Str} {b : Int} {f : Str → Int} {es : Es} (h : Md ns b f es) (hf : ∀ n, 0 ≤ f n) (N : Str → Nat) : dnV es N = 1 :=
  dnV_one N es fun q hq => by
    rw [(h.at hq).1]
    exact hf _
end K17
set_option maxHeartbeats 8000000
namespace K17
open PySem PySem.Spec PyProof.Rows L2

/-! ### at of an expression that gives a whole size -/
theorem bnd_le {B : Nat} : ∀ es : Es, (∀ q ∈ es, q.2.natAbs ≤ B) → bnd es (fun _ => 30) ≤ es.length * (B * 30)
  | [], _ => Nat.zero_le _
  | q :: r, h => by
    have ih := bnd_le (B := B) r fun p hp => h p (List.mem_cons_of_mem _ hp)
    have h1 := Nat.mul_le_mul_right 30 (h q (List.mem_cons_self ..))
    show q.2.natAbs * 30 + bnd r _ ≤ (r.length + 1) * (B * 30)
    rw [Nat.add_mul]
    omega
section
variable {C CW : Addr} {ns : List Str} {b : Int} {f : Str → Int} {ta td : TE} {σ : L2.St} {H : Hp} {E : XK}
theorem gvs_at {d : Addr} {ms : Es} (hP : Pool ns) (hb : b ≤ 33) (hf : ∀ n, 0 ≤ f n) (h1 : GvS C ns b f ta σ H) (hd : NumD H d ms) (hk : ∀ n ∈ ns, n ∈ ms.map (·.1))
    (h2 : ∀ H2 (Q : VK), Same H H2 → Q (.ref d) H2 → td σ H2 Q) {Q : VK}
    (k : ∀ H', Same H H' → Q (.int ((prodN ns (fun n => (f n).toNat) (nOf ms) : Nat) : Int)) H') : tMeth C "at" (spAt C CW) [] E ta (tCons td tNil) σ H Q := by
  refine h1 H _ (Same.refl H) fun H2 r es S2 z m => ?_
  obtain ⟨dx, D, y, _⟩ := id z
  refine ⟨r, dx, _, rfl, y, rfl, ?_⟩
  refine h2 H2 _ S2 ?_
  have p := hd.same S2
  have hn : ∀ q ∈ es, q.1 ∈ ms.map (·.1) := fun q hq => hk _ (m.key hq)
  have hl := m.len hP
  have hB : bnd es (fun _ => 30) ≤ 10000 := by
    have z1 := bnd_le (B := 33) es fun q hq => by
      have := m.bq hq
      omega
    have z2 : es.length * (33 * 30) ≤ 10 * (33 * 30) := Nat.mul_le_mul_right _ hl
    omega
  refine ⟨r, d, es, ms, fun _ => 30, rfl, z, p, hn, hB, fun q hq => (p.look (hn q hq)).2.2, fun _ H3 S3 => ?_, fun hnd => ?_⟩
  · rw [dnV_md m hf, Nat.div_one, upV_md m hP]
    exact k H3 (S2.trans S3)
  · rw [dnV_md m hf] at hnd
    exact absurd (Nat.one_dvd _) hnd
end
end K17
set_option maxHeartbeats 8000000
namespace K17
open PySem PySem.Spec PyProof.Rows L2

/-! ### a set of texts -/
def txK (e : Int × Value) : Str := match e.2 with | .str k _ => k | _ => Str.empty
def TxE (w : World) (e : Int × Value) : Prop := ∃ (k : Str) (tk : Tok), e = (hashStr w k, Value.str k tk)
/-- the object of a set: its rows es hold the texts l, each once; it can be walked -/
structure TxRows (w : World) (es : Array (Int × Value)) (t : SetTable) (l : List Str) : Prop where
  nd : l.Nodup
  gd : ∀ e ∈ es.toList, TxE w e
  pm : (es.toList.map txK).Perm l
  ft : t.fits es.size = true
  rs : Ris t.place.toList
  ld : w.params.followText "set-order" = true ∨ t.led = true
def TxSet (w : World) (h : Heap) (a : Addr) (l : List Str) : Prop :=
  ∃ (o : Obj) (es : Array (Int × Value)) (ep : Nat) (t : SetTable), h.get? a = some o ∧ o.ExactSet ∧ o.data = .set es ep t ∧ TxRows w es t l
theorem TxRows.sz {w : World} {es : Array (Int × Value)} {t : SetTable} {l : List Str} (h : TxRows w es t l) : es.size = l.length := by
  rw [← h.pm.length_eq, List.length_map, Array.length_toList]
theorem TxSet.at {w : World} {h h' : Heap} {a : Addr} {l : List Str} (R : TxSet w h a l) (k : ∀ o, h.get? a = some o → h'.get? a = some o) : TxSet w h' a l := by
  obtain ⟨o, es, ep, t, ho, r⟩ := R
  exact ⟨o, es, ep, t, k o ho, r⟩
section
variable {P : Program} {w : World} {A : Around} {E : Value → Shared → Prop} {s : Shared} {a : Addr} {l : List Str}
theorem tx_is (k : Str) (u : Tok) : (PySem.strKind P w).is k (.str k u) = true := strKind_is _ _ _ _
theorem tx_elems {es : List (Int × Value)} (g : ∀ e ∈ es, TxE w e) : ElemsOf (PySem.strKind P w) es := fun e he => by
  obtain ⟨k, tk, rfl⟩ := g e he
  exact ⟨⟨k, tx_is k tk, rfl⟩, rfl⟩
theorem tx_key {e : Int × Value} {k : Str} (g : TxE w e) (h : (PySem.strKind P w).is k e.2 = true) : txK e = k := by
  obtain ⟨k0, tk, rfl⟩ := g
  exact (PySem.strKind P w).inj (.str k0 tk) k0 k (tx_is k0 tk) h
theorem tx_tail {gv : Bool → Sem Unit} (hgv : ∀ (b : Bool) (s₁ : Shared) (Q' : Unit → Shared → Prop), Q' () s₁ → wpAny (model P w) A (gv b) Q' E s₁)
    {o : Obj} {es0 : Array (Int × Value)} {ep : Nat} {t0 : SetTable} (ho : s.heap.get? a = some o) (hex : o.ExactSet) (hd : o.data = .set es0 ep t0)
    {es1 : Array (Int × Value)} {t2 : SetTable} (hr : TxRows w es1 t2 l) (hb1 : es1.size < scanBound) {wd : Bool} {R : Option Bool → Shared → Prop}
    (hR : ∀ h', Heap.SameBut a s.heap h' → TxSet w h' a l → R (some true) { s with heap := h' }) :
    wpAny (model P w) A (do
        storeSet a es1 t2
        if (!wd && t2.tooFull) = true then do
            gv (relayAll t2 es1 (SetTable.grown es1.size)).2.2
            storeSet a (relayAll t2 es1 (SetTable.grown es1.size)).1 (relayAll t2 es1 (SetTable.grown es1.size)).2.1
            pure (some true)
          else pure (some true)) R E s := by
  have ho1 := store_at (es' := es1) (t' := t2) ho hd
  have b1 := Heap.SameBut.update s.heap a (Obj.putSet es1 t2)
  refine wpAny_bind (wpAny_storeSet_of ho hd ?_ (fits_of_scanBound hb1))
  split
  · have p3 := relayAll_perm t2 es1 (SetTable.grown es1.size)
    have f3 := relayAll_fits t2 es1 (SetTable.grown es1.size)
    have r3 := relayAll_ris t2 es1 (SetTable.grown es1.size)
    have l3 := relayAll_led t2 es1 (SetTable.grown es1.size)
    generalize relayAll t2 es1 (SetTable.grown es1.size) = Z3 at p3 f3 r3 l3 ⊢
    obtain ⟨es2, t3, gave⟩ := Z3
    dsimp only at p3 f3 r3 l3 ⊢
    have z2 : es2.size = es1.size := by rw [← Array.length_toList, p3.length_eq, Array.length_toList]
    refine wpAny_bind (hgv _ _ _ (wpAny_bind (wpAny_storeSet_of ho1 rfl ?_ (fits_of_scanBound (by rw [z2]; exact hb1)))))
    have ho2 := store_at (es' := es2) (t' := t3) ho1 rfl
    refine wpAny_pure (hR _ (b1.trans (Heap.SameBut.update _ a _)) ⟨_, es2, _, t3, ho2, hex, rfl, hr.nd, fun e he => hr.gd e (p3.mem_iff.mp he), (p3.map txK).trans hr.pm, f3, r3, hr.ld.imp id fun z => by rw [l3]; exact z⟩)
  · exact wpAny_pure (hR _ b1 ⟨_, es1, _, t2, ho1, hex, rfl, hr⟩)
/-- one more text -/
theorem tx_add {k : Str} {tk : Tok} {Q : Bool → Shared → Prop} (R : TxSet w s.heap a l) (room : l.length + 1 < scanBound)
    (hQ : ∀ (b : Bool) h', Heap.SameBut a s.heap h' → TxSet w h' a (if k ∈ l then l else k :: l) → Q b { s with heap := h' }) :
    wpAny (model P w) A (setAddHashed a (.str k tk) ((PySem.strKind P w).hash k)) Q E s := by
  obtain ⟨o, es, ep, t, ho, hex, hd, hr⟩ := R
  have sz := hr.sz
  have hk := tx_is (P := P) (w := w) k tk
  have hel : ElemsOf (PySem.strKind P w) es.toList := tx_elems hr.gd
  have hb : es.size < scanBound := by omega
  unfold setAddHashed setAddHashedIn
  refine wpAny_holding (wpAny_bind (wpAny_setState_of ho hd hr.ft ?_))
  dsimp only
  rw [byScan_of (show (Value.str k tk).scannable = true from rfl) hb hel]
  simp only [↓reduceIte]
  unfold setAddByScan
  refine wpAny_bind (wpAny_bind (wpAny_rule (wpAny_bind (wpAny_setScan_of hk ho hd hr.ft hel ?_))))
  cases hfi : List.findIdx? (fun e => (PySem.strKind P w).is k e.2) es.toList with
  | some j =>
    dsimp only
    obtain ⟨hj, pj, _⟩ := List.findIdx?_eq_some_iff_getElem.mp hfi
    have hm : k ∈ l := hr.pm.mem_iff.mp (List.mem_map.mpr ⟨es.toList[j], List.getElem_mem hj, tx_key (hr.gd _ (List.getElem_mem hj)) pj⟩)
    have q := fun b => hQ b s.heap (Heap.SameBut.refl a s.heap) (by rw [if_pos hm]; exact ⟨o, es, ep, t, ho, hex, hd, hr⟩)
    exact wpAny_pure (wpAny_pure (q _))
  | none =>
    dsimp only
    have hm : k ∉ l := fun z => by
      obtain ⟨e, he, q⟩ := List.mem_map.mp (hr.pm.mem_iff.mpr z)
      have c := List.findIdx?_eq_none_iff.mp hfi e he
      obtain ⟨k0, tk0, rfl⟩ := hr.gd e he
      have q' : k0 = k := q
      subst q'
      rw [tx_is] at c
      cases c
    have hgw : ∀ (b : Bool) {s₁ : Shared} {Q' : Unit → Shared → Prop}, Q' () s₁ → wpAny (model P w) A (match b with | true => rule "set.scan.the-table-gave-way" | false => pure ()) Q' E s₁ :=
      fun b s₁ Q' q => by cases b <;> first | exact wpAny_pure q | exact wpAny_rule q
    have p1 := layNew_perm t es ((PySem.strKind P w).hash k) (.str k tk)
    have f1 := layNew_fits t es ((PySem.strKind P w).hash k) (.str k tk)
    have r1 := layNew_ris t es ((PySem.strKind P w).hash k) (.str k tk) hr.rs
    have l1 := layNew_led t es ((PySem.strKind P w).hash k) (.str k tk)
    generalize layNew t es ((PySem.strKind P w).hash k) (.str k tk) = Z1 at p1 f1 r1 l1 ⊢
    obtain ⟨es1, t1, wd, gave⟩ := Z1
    dsimp only at p1 f1 r1 l1 ⊢
    rw [Array.toList_push] at p1
    have pc : es1.toList.Perm (((PySem.strKind P w).hash k, Value.str k tk) :: es.toList) := p1.trans (List.perm_append_singleton _ _)
    have hsz : es1.size = es.size + 1 := by rw [← Array.length_toList, pc.length_eq, List.length_cons, Array.length_toList]
    have hb1 : es1.size < scanBound := by omega
    have fin : ∀ t2 : SetTable, t2.fits es1.size = true → Ris t2.place.toList → t2.led = t1.led → TxRows w es1 t2 (k :: l) := fun t2 y1 y2 y3 => by
      refine ⟨List.nodup_cons.mpr ⟨hm, hr.nd⟩, fun e he => ?_, (pc.map txK).trans (List.Perm.cons k hr.pm), y1, y2, hr.ld.imp id fun z => by rw [y3, l1]; exact z⟩
      rcases List.mem_cons.mp (pc.mem_iff.mp he) with z | z
      · rw [z]; exact ⟨k, tk, rfl⟩
      · exact hr.gd e z
    have kQ : ∀ h', Heap.SameBut a s.heap h' → TxSet w h' a (k :: l) → ∀ b, Q b { s with heap := h' } := fun h' sb r b => hQ b h' sb (by rw [if_neg hm]; exact r)
    refine wpAny_bind (hgw _ ?_)
    split
    · refine wpAny_bind ?_
      rw [hashByValue_scannable 8 (show (Value.str k tk).scannable = true from rfl)]
      refine wpAny_pure (tx_tail (l := k :: l) ?_ ho hex hd (fin _ ?_ ?_ ?_) hb1 fun h' sb r => ?_)
      · intro b s₁ Q' q; cases b <;> first | exact wpAny_pure q | exact wpAny_rule q
      · first | (split <;> first | exact f1 | exact SetTable.fits_plain_off f1) | exact f1
      · first | (split <;> exact r1) | exact r1
      · first | (split <;> rfl) | rfl
      · dsimp only; exact wpAny_pure (kQ h' sb r _)
    · refine wpAny_bind (wpAny_pure ?_)
      simp only [↓reduceIte]
      refine tx_tail (l := k :: l) ?_ ho hex hd (fin _ f1 r1 rfl) hb1 fun h' sb r => ?_
      · intro b s₁ Q' q; cases b <;> first | exact wpAny_pure q | exact wpAny_rule q
      · dsimp only; exact wpAny_pure (kQ h' sb r _)
end
end K17
set_option maxHeartbeats 8000000
namespace K17
open PySem PySem.Spec PyProof.Rows L2

/-! ### several things locked while a statement runs -/
def lockS : Nat → TS → TS
  | 0, t => t
  | n + 1, t => tLock (lockS n t)
def tLocks (t : TS) : TS := fun D σ H => ∃ n, lockS n t D σ H
theorem ps_locks {X : Cx} {st : Stmt} {t : TS} (h : PS X st t) : PS X st (tLocks t) := by
  have q : ∀ n, PS X st (lockS n t) := fun n => by
    induction n with
    | zero => exact h
    | succ n ih => exact ps_lock ih
  exact ⟨fun pins s σ H D I ⟨n, hn⟩ => (q n).run pins s σ H D I hn⟩
/-- the things of ds locked -/
def lockH (ds : List Addr) (H : Hp) (od : Addr → Obj) : Hp := fun b => if b ∈ ds then (H b).map (.frz (od b)) else H b
def openH (ds : List Addr) (H H' : Hp) : Hp := fun b => if b ∈ ds then H b else H' b
def lockD (ds : List Addr) (H : Hp) (od : Addr → Obj) (D : Ends) : Ends :=
  ⟨fun σ' H' => (∀ d ∈ ds, H' d = lockH ds H od d) ∧ D.nx σ' (openH ds H H'), fun v H' => (∀ d ∈ ds, H' d = lockH ds H od d) ∧ D.rt v (openH ds H H'),
    fun σ' H' => (∀ d ∈ ds, H' d = lockH ds H od d) ∧ D.bk σ' (openH ds H H'), fun σ' H' => (∀ d ∈ ds, H' d = lockH ds H od d) ∧ D.ct σ' (openH ds H H')⟩
theorem lockH_cons {d : Addr} {r : List Addr} {H : Hp} {u : HO} {o : Obj} {od : Addr → Obj} (hd : H d = some u) (hn : d ∉ r) : lockH (d :: r) H (fun b => if b = d then o else od b) = lockH r (upd H d (.frz o u)) od := by
  funext b
  unfold lockH
  by_cases e : b = d
  · subst e
    rw [if_pos (List.mem_cons_self ..), if_neg hn, hd, upd_same]
    show some (HO.frz (if b = b then o else od b) u) = _
    rw [if_pos rfl]
  · rw [upd_ne e]
    dsimp only
    rw [if_neg e]
    by_cases m : b ∈ r
    · rw [if_pos m, if_pos (List.mem_cons_of_mem _ m)]
    · rw [if_neg m, if_neg fun z => (List.mem_cons.mp z).elim e m]
theorem openH_cons {d : Addr} {r : List Addr} {H H' : Hp} {u : HO} {o : Obj} (hd : H d = some u) (hn : d ∉ r) : upd (openH r (upd H d (.frz o u)) H') d u = openH (d :: r) H H' := by
  funext b
  by_cases e : b = d
  · subst e
    unfold openH
    rw [upd_same, if_pos (List.mem_cons_self ..), hd]
  · rw [upd_ne e]
    unfold openH
    by_cases m : b ∈ r
    · rw [if_pos m, if_pos (List.mem_cons_of_mem _ m), upd_ne e]
    · rw [if_neg m, if_neg fun z => (List.mem_cons.mp z).elim e m]
theorem lock_step {d : Addr} {r : List Addr} {H H' : Hp} {u : HO} {o : Obj} {od : Addr → Obj} (hd : H d = some u) (hn : d ∉ r) {A : Hp → Prop} :
    ((∀ e ∈ d :: r, H' e = lockH (d :: r) H (fun b => if b = d then o else od b) e) ∧ A (openH (d :: r) H H')) =
    ((∀ e ∈ r, H' e = lockH r (upd H d (.frz o u)) od e) ∧ (openH r (upd H d (.frz o u)) H') d = some (.frz o u) ∧ A (upd (openH r (upd H d (.frz o u)) H') d u)) := by
  have e1 : (openH r (upd H d (.frz o u)) H') d = H' d := by
    unfold openH
    rw [if_neg hn]
  have e2 : lockH r (upd H d (.frz o u)) od d = some (.frz o u) := by
    unfold lockH
    rw [if_neg hn, upd_same]
  rw [lockH_cons hd hn, openH_cons hd hn, e1]
  refine propext ⟨fun ⟨h, k⟩ => ⟨fun e he => h e (List.mem_cons_of_mem _ he), (h d (List.mem_cons_self ..)).trans e2, k⟩, fun ⟨h, k, q⟩ => ⟨fun e he => ?_, q⟩⟩
  rcases List.mem_cons.mp he with z | z
  · rw [z, k, e2]
  · exact h e z
theorem rd_locks {t : TS} {σ : L2.St} : ∀ (ds : List Addr) (H : Hp) (D : Ends), ds.Nodup → (∀ d ∈ ds, ∃ u, H d = some u ∧ Mut (some u)) → (∀ od, t (lockD ds H od D) σ (lockH ds H od)) → lockS ds.length t D σ H
  | [], H, D, _, _, h => by
    have q := h (fun _ => default)
    have e1 : lockH [] H (fun _ => default) = H := by
      funext b
      unfold lockH
      rw [if_neg (by simp)]
    have e2 : lockD [] H (fun _ => default) D = D := by
      have e3 : ∀ H' : Hp, openH [] H H' = H' := fun H' => by
        funext b
        unfold openH
        rw [if_neg (by simp)]
      unfold lockD
      simp only [e3, List.not_mem_nil, false_imp_iff, implies_true, true_and]
    rw [e1, e2] at q
    exact q
  | d :: r, H, D, hn, hm, h => by
    obtain ⟨n1, n2⟩ := List.nodup_cons.mp hn
    obtain ⟨u, hd, mu⟩ := hm d (List.mem_cons_self ..)
    refine ⟨d, u, hd, mu, fun o => ?_⟩
    refine rd_locks r _ _ n2 (fun e he => ?_) fun od => ?_
    · rw [upd_ne fun z => n1 (by rw [← z]; exact he)]
      exact hm e (List.mem_cons_of_mem _ he)
    · have q := h (fun b => if b = d then o else od b)
      rw [lockH_cons hd n1] at q
      have eD : lockD (d :: r) H (fun b => if b = d then o else od b) D = lockD r (upd H d (.frz o u)) od ⟨fun σ' H' => H' d = some (.frz o u) ∧ D.nx σ' (upd H' d u), fun v H' => H' d = some (.frz o u) ∧ D.rt v (upd H' d u),
          fun σ' H' => H' d = some (.frz o u) ∧ D.bk σ' (upd H' d u), fun σ' H' => H' d = some (.frz o u) ∧ D.ct σ' (upd H' d u)⟩ := by
        unfold lockD
        refine Ends.mk.injEq .. |>.mpr ⟨?_, ?_, ?_, ?_⟩
        · funext σ' H'; exact lock_step hd n1 (A := fun H2 => D.nx σ' H2)
        · funext v H'; exact lock_step hd n1 (A := fun H2 => D.rt v H2)
        · funext σ' H'; exact lock_step hd n1 (A := fun H2 => D.bk σ' H2)
        · funext σ' H'; exact lock_step hd n1 (A := fun H2 => D.ct σ' H2)
      rw [eD] at q
      exact q
/-- any loop over a walk, from any heap -/
theorem lq_it {J : It} {n : Nat} {G : Hp → Prop} {Y : Nat → Hp → V → Hp → Prop} (w : Walk J n G Y) {B : V → Hp → (Hp → Prop) → Prop} {H0 : Hp} {Qd : Hp → Prop}
    (Pv : Nat → Hp → Prop) (h0 : Pv 0 H0) (hG : ∀ i H, i ≤ n → Pv i H → G H) (hs : ∀ i x H H', i < n → Pv i H → Y i H x H' → B x H' (Pv (i + 1))) (hd : ∀ H, Pv n H → Qd H) :
    ∃ W : Nat → Nat → Hp → Prop, (∃ m, W 0 m H0) ∧ ∀ i m H, W i m H → (J.stop i H ∧ Qd H) ∨ (J.go i H ∧ ∃ Nx : Hp → Prop, (∀ H', Nx H' → ∃ m', m' < m ∧ W (i + 1) m' H') ∧ ∀ x H', J.yld i H x H' → B x H' Nx) := by
  refine ⟨fun i m H => m = n - i ∧ i ≤ n ∧ Pv i H, ⟨n, (Nat.sub_zero n).symm, Nat.zero_le n, h0⟩, fun i m H ⟨em, hi, p⟩ => ?_⟩
  subst em
  have gd := hG i H hi p
  rcases Nat.lt_or_eq_of_le hi with hlt | rfl
  · exact .inr ⟨w.goes i H hlt gd, Pv (i + 1), fun H' p' => ⟨n - (i + 1), by omega, rfl, hlt, p'⟩, fun x H' y => hs i x H H' hlt p (w.yields i H x H' hlt gd y)⟩
  · exact .inl ⟨w.stops H gd, hd H p⟩
end K17
set_option maxHeartbeats 8000000
namespace K17
open PySem PySem.Spec PyProof.Rows L2

/-! ### numbers_of -/
abbrev sNof : Stmt := top 41
def p6n : List Nat := [2, 3, 5, 7, 11, 13]
theorem p6_nat (k : Nat) : (p6.take k).map V.int = (p6n.take k).map fun (b : Nat) => V.int (b : Int) := by
  have e : p6 = p6n.map fun (b : Nat) => (b : Int) := rfl
  rw [e, ← List.map_take, List.map_map]
  rfl
theorem p6_ok : ∀ b ∈ p6n, 0 < b ∧ b < 1000 := by decide
/-- the names of the points, one after another -/
def ptKeys (pss : List Es) : List Str := (pss.map fun es => es.map (·.1)).flatten
theorem ptKeys_snoc (pss : List Es) (es : Es) : ptKeys (pss ++ [es]) = ptKeys pss ++ es.map (·.1) := by
  unfold ptKeys
  rw [List.map_append, List.flatten_append]
  show _ ++ [es.map (·.1)].flatten = _
  rw [List.flatten_cons, List.flatten_nil, List.append_nil]
theorem ptKeys_len (pss : List Es) : ∀ i, (ptKeys (pss.take i)).length ≤ (ptKeys pss).length := fun i => by
  have e : ptKeys pss = ptKeys (pss.take i) ++ ptKeys (pss.drop i) := by
    unfold ptKeys
    rw [← List.flatten_append, ← List.map_append, List.take_append_drop]
  rw [e, List.length_append]
  omega
theorem mem_ptKeys {pss : List Es} {n : Str} : n ∈ ptKeys pss ↔ ∃ es ∈ pss, n ∈ es.map (·.1) := by
  unfold ptKeys
  rw [List.mem_flatten]
  constructor
  · rintro ⟨l, hl, hn⟩
    obtain ⟨es, he, rfl⟩ := List.mem_map.mp hl
    exact ⟨es, he, hn⟩
  · rintro ⟨es, he, hn⟩
    exact ⟨_, List.mem_map.mpr ⟨es, he, rfl⟩, hn⟩
def noE (k : Nat) (pss : List Es) (ns : List Str) : Es := ns.map fun n => (n, ((noV n (p6n.take k) pss : Nat) : Int))
theorem noE_keys (k : Nat) (pss : List Es) (ns : List Str) : (noE k pss ns).map (·.1) = ns := by
  unfold noE
  rw [List.map_map]
  exact List.map_id' ns
structure NofOk (H : Hp) (l : Addr) (ds : List Addr) (pss : List Es) : Prop where
  hl : H l = some (.lst (ds.map V.ref))
  pt : PtsAt H ds pss
  nd : ds.Nodup
  ln : ds.length ≤ 6
  kl : (ptKeys pss).length < 64
  gc : ∀ es ∈ pss, ∀ n, g0 es n ≤ 2000
  lt : ∀ n ∈ ptKeys pss, noV n (p6n.take ds.length) pss < 10 ^ 500
def NofQ (H : Hp) (ds : List Addr) (pss : List Es) (Q : VK) : Prop := ∀ H' d ns, Same H H' → H d = none → H' d = some (.dK (kv (noE ds.length pss ns))) → Sd ns → (∀ n, n ∈ ns ↔ n ∈ ptKeys pss) → ns.length < 64 → Q (.ref d) H'
def spNofT : Sp := fun vs H Q _ => ∃ (l T : Addr) (ds : List Addr) (pss : List Es), vs = [.ref l, .ref T] ∧ H T = some (.tup []) ∧ NofOk H l ds pss ∧ NofQ H ds pss Q
def NNof : List Str := ["points", "names", "name", "known", "bases", "point"]
structure Nz (mg : Str → Option Value) : Prop where
  list : mg "list" = none
  len : mg "len" = none
  sorted : mg "sorted" = none
  set : mg "set" = none
section
variable {P : Program} {w : World} {K : PySem.W.Frag} {mg : Str → Option Value} {base : Heap}
theorem pass0C {X : Cx} : Passes (CX X.prog X.w) X E0 := fun _ _ _ _ _ _ _ ⟨_, _, _, _, _, _, _, _, _, _, _, _, hE⟩ => hE.elim
theorem scNof : FnScope NNof ["points", "names"] (defScope sNof) :=
  ⟨rfl, rfl, rfl, by decide +kernel, rfl, by decide +kernel, by decide +kernel⟩
/-- the first comprehension's reading: the names of all points -/
theorem rd_known {l T : Addr} {ds : List Addr} {pss : List Es} {H : Hp} {D : Ends} {o2 : Option V} (h : NofOk H l ds pss)
    (k : ∀ H' L, Same H H' → H L = none → H' L = some (.lst ((ptKeys pss).map V.str)) → D.nx [some (.ref l), some (.ref T), o2, some (.ref L), none, none] H') :
    tLocks (tAsg (tLc2 (iList K (tVar 0)) (gName 5) tYes (iKeys (tVar 5)) (gName 2) tYes (tVar 2) [5, 2] [2]) (gName 3)) D [some (.ref l), some (.ref T), o2, none, none, none] H := by
  have hm : ∀ d ∈ ds, ∃ es, H d = some (.dK (kv es)) := fun d hd => by
    obtain ⟨i, hi, rfl⟩ := List.mem_iff_getElem.mp hd
    obtain ⟨es, _, q, _⟩ := h.pt.get hi
    exact ⟨es, q⟩
  refine ⟨ds.length, rd_locks ds H D h.nd (fun d hd => ?_) fun od => ?_⟩
  · obtain ⟨es, q⟩ := hm d hd
    exact ⟨_, q, trivial⟩
  have ldl : l ∉ ds := fun z => by
    obtain ⟨es, q⟩ := hm l z
    rw [h.hl] at q
    cases q
  have hl1 : lockH ds H od l = some (.lst (ds.map V.ref)) := by
    unfold lockH
    rw [if_neg ldl]
    exact h.hl
  refine ⟨_, rfl, l, rfl, ⟨_, SqL.of hl1⟩, fun L hL => ?_⟩
  have LH : H L = none := by
    unfold lockH at hL
    by_cases m : L ∈ ds
    · obtain ⟨es, q⟩ := hm L m
      rw [if_pos m, q] at hL
      cases hL
    · rw [if_neg m] at hL
      exact hL
  have Lds : L ∉ ds := fun m => by
    obtain ⟨es, q⟩ := hm L m
    rw [LH] at q
    cases q
  have S0 := fresh_upd (o := .lst []) hL
  refine lq_it (walk_list (K := K) (a := l) (xs := ds.map V.ref)) (fun i H2 => H2 L = some (.lst ((ptKeys (pss.take i)).map V.str)) ∧ ∀ b o, lockH ds H od b = some o → H2 b = some o)
    ⟨upd_same, S0⟩ (fun i H2 _ p => SqL.of (p.2 _ _ hl1)) ?_ ?_
  · rintro i x H2 H3 hi ⟨hL2, S2⟩ ⟨rfl, hx⟩
    rw [List.length_map] at hi
    have ex : x = .ref ds[i] := by
      rw [List.getElem?_map, List.getElem?_eq_getElem hi] at hx
      exact (Option.some.inj hx).symm
    subst ex
    obtain ⟨es, q0, q1, q2⟩ := h.pt.get hi
    have hdi : lockH ds H od ds[i] = some (.frz (od ds[i]) (.dK (kv es))) := by
      unfold lockH
      rw [if_pos (List.getElem_mem hi), q1]
      rfl
    have hd2 := S2 _ _ hdi
    have et : pss.take (i + 1) = pss.take i ++ [es] := by
      rw [List.take_add_one, q0]
      rfl
    have hkl := h.kl
    have hk1 := ptKeys_len pss (i + 1)
    rw [et, ptKeys_snoc, List.length_append] at hk1
    refine ⟨rfl, ?_⟩
    unfold tYes
    dsimp only
    rw [if_pos rfl]
    refine ⟨_, rfl, ds[i], od ds[i], rfl, .inl ⟨kv es, hd2, ?_⟩⟩
    refine lq_it (walk_keys (kvs := kv es)) (fun j H4 => H4 L = some (.lst ((ptKeys (pss.take i) ++ (es.map (·.1)).take j).map V.str)) ∧ ∀ b o, lockH ds H od b = some o → H4 b = some o)
      ⟨by rw [List.take_zero, List.append_nil]; exact hL2, S2⟩ (fun j H4 _ p => p.2 _ _ hdi) ?_ ?_
    · rintro j v H4 H5 hj ⟨hL4, S4⟩ ⟨rfl, k', v', e1, rfl⟩
      rw [kv_len] at hj
      have ei : (kv es)[j]? = some (ky es[j].1, V.int es[j].2) := by
        unfold kv
        rw [List.getElem?_map, List.getElem?_eq_getElem hj]
        rfl
      rw [ei] at e1
      cases e1
      refine ⟨rfl, ?_⟩
      dsimp only
      rw [if_pos rfl]
      refine ⟨_, rfl, _, hL4, ?_, ?_, fun b o e => ?_⟩
      · rw [List.length_map, List.length_append, sizeLine_eq]
        have : ((es.map (·.1)).take j).length ≤ (es.map (·.1)).length := List.length_take_le' ..
        omega
      · rw [upd_same, List.take_add_one, List.getElem?_map, List.getElem?_eq_getElem hj]
        show some (HO.lst (_ ++ [V.str es[j].1])) = some (HO.lst (List.map V.str (_ ++ (_ ++ [es[j].1]))))
        simp only [List.map_append, List.append_assoc, List.map_cons, List.map_nil]
      · rw [upd_ne (ne_of_none e hL)]
        exact S4 b o e
    · rintro H4 ⟨hL4, S4⟩
      refine ⟨?_, S4⟩
      rw [hL4, et, ptKeys_snoc, kv_len, show (es.map (·.1)).take es.length = es.map (·.1) from List.take_of_length_le (by rw [List.length_map]; exact Nat.le_refl _)]
  · rintro H2 ⟨hL2, S2⟩
    rw [List.length_map, List.take_of_length_le (by rw [← Paired.length h.pt]; exact Nat.le_refl _)] at hL2
    refine ⟨fun d hd => ?_, ?_⟩
    · obtain ⟨es, q⟩ := hm d hd
      have z : lockH ds H od d = some (.frz (od d) (.dK (kv es))) := by
        unfold lockH
        rw [if_pos hd, q]
        rfl
      rw [z]
      exact S2 _ _ z
    · refine k _ L (fun b o e => ?_) LH ?_
      · unfold openH
        by_cases m : b ∈ ds
        · rw [if_pos m]; exact e
        · rw [if_neg m]
          refine S2 b o ?_
          unfold lockH
          rw [if_neg m]
          exact e
      · unfold openH
        rw [if_neg Lds]
        exact hL2
end
end K17
set_option maxHeartbeats 8000000
namespace K17
open PySem PySem.Spec PyProof.Rows L2

/-! ### set(xs) of a list of texts; sorted of it -/
def adS (l : List Str) (k : Str) : List Str := if k ∈ l then l else k :: l
def adsS (xs : List Str) : List Str := xs.foldl adS []
theorem adsS_snoc (xs : List Str) (k : Str) : adsS (xs ++ [k]) = adS (adsS xs) k := by
  unfold adsS
  rw [List.foldl_append]
  rfl
theorem mem_adS {l : List Str} {k x : Str} : x ∈ adS l k ↔ x = k ∨ x ∈ l := by
  unfold adS
  split
  · rename_i h
    exact ⟨.inr, fun z => z.elim (fun e => e ▸ h) id⟩
  · exact List.mem_cons
theorem len_adS (l : List Str) (k : Str) : (adS l k).length ≤ l.length + 1 := by
  unfold adS
  split
  · omega
  · exact Nat.le_refl _
theorem mem_foldS {x : Str} : ∀ (xs l : List Str), x ∈ xs.foldl adS l ↔ x ∈ xs ∨ x ∈ l
  | [], l => by
    rw [List.foldl_nil]
    exact ⟨.inr, fun z => z.elim (fun e => nomatch e) id⟩
  | k :: r, l => by
    rw [List.foldl_cons, mem_foldS r, mem_adS, List.mem_cons]
    constructor
    · rintro (z | z | z)
      · exact .inl (.inr z)
      · exact .inl (.inl z)
      · exact .inr z
    · rintro ((z | z) | z)
      · exact .inr (.inl z)
      · exact .inl z
      · exact .inr (.inr z)
theorem mem_adsS {x : Str} (xs : List Str) : x ∈ adsS xs ↔ x ∈ xs := by
  unfold adsS
  rw [mem_foldS]
  exact ⟨fun z => z.elim id (fun e => nomatch e), .inl⟩
theorem len_adsS : ∀ (xs l : List Str), (xs.foldl adS l).length ≤ xs.length + l.length
  | [], l => by simp
  | k :: r, l => by
    have := len_adsS r (adS l k)
    have := len_adS l k
    rw [List.foldl_cons, List.length_cons]
    omega
abbrev nwSet (w : World) : Obj := { cls := .type "set", dict := none, data := .set #[] 0 (.fresh 0 0 (!w.params.followText "set-order")) }
theorem tx_new {w : World} {h : Heap} {a : Addr} (ho : h.get? a = some (nwSet w)) : TxSet w h a [] := by
  refine ⟨_, #[], 0, _, ho, ⟨rfl, rfl, rfl⟩, rfl, List.Pairwise.nil, (fun e he => by simp at he), by simp, rfl, List.Pairwise.nil, ?_⟩
  show _ ∨ (!w.params.followText "set-order") = true
  cases w.params.followText "set-order"
  · exact .inr rfl
  · exact .inl rfl
section
variable {P : Program} {w : World} {A : Around} {E : Value → Shared → Prop} {s : Shared}
theorem tx_loop {I : Addr} {fp wr : List Addr} {G : Array GenState → Array GenState → Prop} {n : Nat} {Pv : Nat → Value → Prop} {St : Nat → Shared → Prop} {R : Result → Shared → Prop}
    (W : WalksS P w A.in1 I fp wr G n Pv St) (S : Addr) (hSf : S ∉ fp) (xs : List Str) (hn : n = xs.length) (hb : xs.length + 1 < scanBound) (hval : ∀ i v, Pv i v → ∃ k t, xs[i]? = some k ∧ v = .str k t) :
    ∀ (m i : Nat) (s : Shared), n - i = m → i ≤ n → St i s → TxSet w s.heap S (adsS (xs.take i)) →
      (∀ s', Moved (S :: wr) G s s' → TxSet w s'.heap S (adsS xs) → R (.ok (.ret .none)) s') →
      codeAny (model P w) A (.builtin "set.update.loop" ⟨[.ref S, .ref I], []⟩) R s := by
  have hSw : S ∉ wr := fun h => hSf (W.sub _ h)
  have hsub : ∀ b ∈ wr, b ∈ S :: wr := fun b hb => List.mem_cons_of_mem _ hb
  intro m
  induction m with
  | zero =>
    intro i s hm0 hi hst hS hR
    have hin : i = n := by omega
    subst hin
    refine codeAny_builtin F.entry_set_update_loop ?_
    rw [Around.under_plainId F.plain_set_update_loop _]
    show wpAny _ A.in1 (pyNext (.ref I) >>= _) _ _ s
    refine wpAny_bind (W.done s _ _ hst fun s' hm => ?_)
    show wpAny _ A.in1 (ret Value.none) _ _ s'
    rw [List.take_of_length_le (by omega)] at hS
    exact wpAny_pure (hR s' (hm.mono hsub) (hS.at fun o e => hm.heap S o hSw e))
  | succ m ih =>
    intro i s hm1 hi hst hS hR
    have hlt : i < n := by omega
    refine codeAny_builtin F.entry_set_update_loop ?_
    rw [Around.under_plainId F.plain_set_update_loop _]
    show wpAny _ A.in1 (pyNext (.ref I) >>= _) _ _ s
    refine wpAny_bind (W.item i s _ _ hlt hst fun v s' hP hst' hm => ?_)
    obtain ⟨z, t, hz, rfl⟩ := hval i v hP
    have hS' : TxSet w s'.heap S (adsS (xs.take i)) := hS.at fun o e => hm.heap S o hSw e
    have hl : (adsS (xs.take i)).length ≤ xs.length := by
      have := len_adsS (xs.take i) []
      have z2 : (xs.take i).length ≤ xs.length := List.length_take_le' ..
      unfold adsS
      simp only [List.length_nil] at this
      omega
    show wpAny _ A.in1 (holding [Value.str z t] (setAdd S (.str z t)) >>= _) _ _ s'
    refine wpAny_bind (wpAny_holding ?_)
    unfold setAdd
    refine wpAny_holding (wpAny_bind ((PySem.strKind P w).pyHash (k := z) (tx_is _ _) ?_))
    refine tx_add (P := P) (s := { s' with toks := s'.toks + 1 }) hS' (by omega) fun bb h' hsb hS2 => ?_
    have hS3 : TxSet w h' S (adsS (xs.take (i + 1))) := by
      rw [List.take_add_one, hz]
      show TxSet w h' S (adsS (xs.take i ++ [z]))
      rw [adsS_snoc]
      exact hS2
    refine wpAny_pure ⟨plainId_quiet F.plain_set_update_loop _, ih (i + 1) _ (by omega) hlt (W.frame _ s' _ _ hst' (Nat.le_succ _) fun b hb o e => ?_) hS3 fun s'' hm'' hS'' => ?_⟩
    · rw [hsb.2 b (fun h : b = S => hSf (by rw [← h]; exact hb))]; exact e
    · refine hR s'' (Moved.trans W.gtrans ((hm.mono hsub).then_heap (Nat.le_succ _) fun b o hb e => ?_) hm'') hS''
      rw [hsb.2 b (fun h : b = S => hb (by rw [h]; exact List.mem_cons_self))]; exact e

set_option maxRecDepth 100000 in
set_option maxHeartbeats 3200000 in
theorem tx_call {l : Addr} {items : Array Value} (xs : List Str) {Q : Value → Shared → Prop} (hh : A.handled = none) (hl : s.heap.IsList l items) (hit : StrsAre items.toList xs) (hb : xs.length + 1 < scanBound)
    (h : ∀ (h' : Heap) (tk : Nat), TxSet w h' s.heap.objs.size (adsS xs) → (∀ b o, s.heap.get? b = some o → h'.get? b = some o) → Q (.ref s.heap.objs.size) { s with heap := h', toks := tk }) :
    wpAny (model P w) A (call (.type "set") [.ref l]) Q E s := by
  have hisz : items.size = xs.length := by rw [← Array.length_toList, StrsAre.len_eq hit]
  obtain ⟨c, tl, hmro⟩ := F.called_set.mro
  have hmade := F.called_set.made
  have hsub := F.called_set.sub
  refine wpAny_call (codeAny_of_tree ?_)
  show wpAny _ _ (callAny (.type "set") _) _ _ _
  refine wpAny_pure ⟨Code.quiet_builtin _ (by decide +kernel), codeAny_builtin F.entry_type_call ?_⟩
  rw [Around.under_plain (weight_type_call_type "set" [.ref l] []) rfl]
  have h1 := F.called_set.notType
  have h2 := F.called_set.canCreate
  have hct := F.typeCall_set_1 (.ref l)
  repeat (any_goals (first | assumption | wp_step))

  refine codeAny_mono (code_set_led1 (.ref l) (E := E) (Q₁ := fun obj s₁ => obj = .ref s.heap.objs.size ∧ s₁ = { s with heap := s.heap.push (nwSet w) }) ⟨rfl, rfl⟩) fun r s₁ hr => ?_
  cases r with
  | error e => exact hr
  | ok fl =>
    cases fl with
    | ret obj =>
      obtain ⟨rfl, rfl⟩ := hr
      have hS : (s.heap.push (nwSet w)).get? s.heap.objs.size = some (nwSet w) := Heap.get?_push_size _ rfl
      have hT : Shared.TypeIs { s with heap := s.heap.push (nwSet w) } (.ref s.heap.objs.size) "set" := ⟨_, hS, rfl⟩
      have hli := F.called_set.init.lookup
      have hbi := F.called_set.init.bind (.ref s.heap.objs.size)
      repeat (any_goals (first | assumption | wp_step))

      refine codeAny_mono (codeAny_call_builtin (R := wants (fun r s₂ => r = .none ∧ ∃ h' tk, s₂ = { s with heap := h', toks := tk } ∧ TxSet w h' s.heap.objs.size (adsS xs) ∧
          (∀ b o, s.heap.get? b = some o → h'.get? b = some o)) E) F.called_set.init.plain F.entry_set_init (check_set_init_1 hT ?_)) fun r₂ s₂ hr₂ => ?_
      · obtain ⟨ol, hol, hcl, nl, hdl⟩ := hl
        obtain ⟨ocls, odict, odata, oslots⟩ := ol
        simp only at hcl hdl
        subst hcl; subst hdl
        have hol' : (s.heap.push (nwSet w)).get? l = some { cls := .type "list", dict := odict, data := .seq items nl, slots := oslots } := Heap.get?_push_of_some _ hol
        have hsls := PySem.F.sub_list_set
        have hslf := PySem.F.sub_list_frozenset
        have hne : (Value.type "list" == Value.type "dict") = false := by decide
        have hl1 : (s.heap.push (nwSet w)).IsList l items := ⟨_, hol', rfl, nl, rfl⟩
        unfold Builtin.«set.__init__» noKeywords Builtin.Frozenset.updateFrom
        generalize hPI : pyIter = PI
        wp_walk
        subst hPI

        refine wpAny_pyIter_list hl1 (wpAny_bind (wpAny_runValue ?_))
        have hlS : l < s.heap.objs.size := Heap.lt_size hol
        have hh3 : A.in1.in1.in1.handled = none := by simp [hh]
        have hneI : l ≠ (s.heap.push (nwSet w)).objs.size := by
          rw [Heap.size_push]; exact Nat.ne_of_lt (Nat.lt_succ_of_lt hlS)
        have hSf : s.heap.objs.size ∉ [(s.heap.push (nwSet w)).objs.size, l] := by
          rw [Heap.size_push]; simp only [List.mem_cons, List.mem_singleton, List.not_mem_nil, or_false, not_or]
          exact ⟨Nat.ne_of_lt (Nat.lt_succ_self _), Nat.ne_of_gt hlS⟩
        have hval : ∀ (i : Nat) (v : Value), items[i]? = some v → ∃ k t, xs[i]? = some k ∧ v = .str k t := fun i v hv => by
          have hi : i < xs.length := by rw [← hisz]; exact (Array.getElem?_eq_some_iff.mp hv).1
          obtain ⟨t, e⟩ := SS.strs_at hit i v (by rw [Array.getElem?_toList]; exact hv)
          refine ⟨xs[i], t, List.getElem?_eq_getElem hi, ?_⟩
          rw [e, List.getD_eq_getElem?_getD, List.getElem?_eq_getElem hi] <;> rfl
        refine tx_loop (P := P) ((Walks.list hh3 _ l hneI items).toS) s.heap.objs.size
          hSf xs hisz hb hval (items.size - 0) 0 _ (by omega) (Nat.zero_le _)
          ⟨⟨_, Heap.get?_push_size _ rfl, rfl, rfl⟩, (hl1.push _)⟩ (tx_new (Heap.get?_push_of_some _ hS)) fun s' hm hS' => ?_
        obtain ⟨h', g2, d', tk', os'⟩ := s'
        have eg : g2 = s.gens := hm.gens
        have ed : d' = s.drawn := hm.drawn
        have eo : os' = s.os := hm.os
        subst eg; subst ed; subst eo
        show wpAny _ _ _ _ _ _
        refine wpAny_pure ?_
        show wpAny _ _ (ret Value.none) _ _ _
        refine wpAny_pure ⟨rfl, h', tk', rfl, hS', fun b o e => ?_⟩
        have hb0 : b < s.heap.objs.size := Heap.lt_size e
        have hb1 : b ≠ s.heap.objs.size := Nat.ne_of_lt hb0
        have hb2 : b ≠ (s.heap.push (nwSet w)).objs.size := by
          rw [Heap.size_push]; exact Nat.ne_of_lt (Nat.lt_succ_of_lt hb0)
        exact hm.heap b o (by simp only [List.mem_cons, List.mem_singleton, List.not_mem_nil, or_false, not_or]; exact ⟨hb1, hb2⟩) (Heap.get?_push_of_some _ (Heap.get?_push_of_some _ e))

      · cases r₂ with
        | error e => exact hr₂
        | ok fl₂ =>
          cases fl₂ with
          | ret r =>
            obtain ⟨rfl, h', tk, rfl, hS', hk'⟩ := hr₂
            repeat (any_goals (first | assumption | wp_step))
            exact h _ _ hS' hk'
          | _ => exact hr₂.elim
    | _ => exact hr.elim
theorem tx_strs : ∀ vs : List Value, (∀ v ∈ vs, ∃ k tk, v = Value.str k tk) → StrsAre vs (vs.map fun v => txK (0, v))
  | [], _ => .nil
  | v :: r, h => by
    obtain ⟨k, tk, rfl⟩ := h v List.mem_cons_self
    exact .cons k tk (tx_strs r fun u hu => h u (List.mem_cons_of_mem _ hu))
theorem tx_sorted {a : Addr} {l : List Str} {Q : Value → Shared → Prop} (R : TxSet w s.heap a l) (hh : A.handled = none) (h64 : l.length < 64)
    (hQ : ∀ s' p (out : Array Value) (c : Nat) (ns : List Str), (∀ b o, s.heap.get? b = some o → s'.heap.get? b = some o) → s'.gens = s.gens → s'.os = s.os → s.heap.objs.size ≤ p →
      s'.heap.get? p = some (seqObj "list" out c) → StrsAre out.toList ns → sortedS ns = true → ns.Perm l → Q (.ref p) s') :
    wpAny (model P w) A (call (.builtin "sorted") [.ref a]) Q E s := by
  obtain ⟨o, es, ep, t, ho, hex, hd, hr⟩ := R
  have sz := hr.sz
  have hb : es.size < scanBound := by unfold scanBound; omega
  refine Calls.call_function_entry kind_sorted plain_sorted entry_sorted (args_sorted1 _) ?_
  unfold Builtin.«sorted»
  refine wpAny_bind (m := checkCount "sorted" 1 1 _) (wpAny_pure ?_)
  refine wpAny_bind (collect_set (A := A.in1) hh ⟨o, ho, hex.1, hd⟩ hr.ft hb hr.rs hr.ld fun s1 vs k1 hz g1 o1 pm => ?_)
  have hvl : vs.length = l.length := by rw [pm.length_eq, List.length_map, Array.length_toList]; exact sz
  have hI := tx_strs vs fun v hv => by
    obtain ⟨e, he, q⟩ := List.mem_map.mp (pm.mem_iff.mp hv)
    obtain ⟨k, tk, rfl⟩ := hr.gd e he
    exact ⟨k, tk, q.symm⟩
  have pk : (vs.map fun v => txK (0, v)).Perm (es.toList.map txK) := by
    have q := pm.map fun v => txK (0, v)
    rw [List.map_map] at q
    exact q
  refine wpAny_bind (wpAny_newList ?_ (by rw [hvl, sizeLine_eq]; omega))
  have hoL : (s1.heap.push (seqObj "list" vs.toArray 0)).get? s1.heap.objs.size = some (seqObj "list" vs.toArray 0) := Heap.get?_push_size _ rfl
  refine wpAny_bind (wpAny_holding (wpAny_call_entry slot_list_sort ⟨_, hoL, rfl⟩ entry_list_sort (list_sort_treeK strKind_oneLt hoL hI.keysOf (fun v₁ v₂ rest e => keyKind_strs (by rw [← e]; exact hI)) (by rw [hvl]; exact h64) fun st' hp hs => ⟨_, rfl, ?_⟩) (args_list_sort _)))
  obtain ⟨ns, a1, a2, a3⟩ := sorted_out_str hI hp hs
  obtain ⟨c, hc⟩ := sortedHeap_at (vs := vs) (out := (arrOf st').map (·.2)) hoL
  refine wpAny_pure ⟨_, rfl, hQ _ s1.heap.objs.size _ c ns (fun b u e => ?_) g1 o1 hz hc a1 a3 (a2.trans (pk.trans hr.pm))⟩
  have q := k1 b u e
  have hlt := Heap.lt_size q
  show (sortedHeap (s1.heap.push (seqObj "list" vs.toArray 0)) s1.heap.objs.size vs _).get? b = some u
  rw [sortedHeap_old (Nat.ne_of_lt hlt) (by rw [size_push']; exact Nat.lt_succ_of_lt hlt)]
  exact Heap.get?_push_of_some _ q
end

/-- the set of the texts l at a -/
def TxO (w : World) (a : Addr) (l : List Str) : HO := .ext fun h => TxSet w h a l
theorem txO_new {w : World} {P : Program} {H : Hp} {h : Heap} {a : Addr} {l : List Str} (R : TxSet w h a l) : ObjOk P w H h a (TxO w a l) := by
  obtain ⟨o, _, _, _, ho, _⟩ := id R
  exact ⟨R, ⟨o, ho⟩, fun h1 h2 p k => TxSet.at p k⟩
section
variable {X : Cx}
def rSetTx (K : PySem.W.Frag) (w : World) : List V → Hp → VK → Prop := fun xs H Q => ∃ (l : Addr) (ks : List Str), xs = [V.ref l] ∧ SqL K H l (ks.map V.str) ∧ ks.length < 64 ∧
  ∀ a, H a = none → Q (.ref a) (upd H a (TxO w a (adsS ks)))
theorem cr_setTx (hc : X.calm = true) : CallR X (.type "set") (rSetTx X.K X.w) := by
  intro pins s σ H xs us Q I r h
  obtain ⟨l, ks, rfl, hl, hf, q⟩ := h
  rw [Vals.ref1 r]
  obtain ⟨its, rv, pl, hz⟩ := I.list hl
  have hn : H s.heap.objs.size = none := I.hok.fresh (Nat.le_refl _)
  refine tx_call (P := X.prog) (w := X.w) ks (I.ok.hd hc) pl.isList (by simpa using Vals.strs rv) (by unfold scanBound; omega) fun h' tk R k => ?_
  exact ⟨.ref s.heap.objs.size, upd H s.heap.objs.size (TxO X.w s.heap.objs.size (adsS ks)), I.laid (t' := tk) k (Nat.le_refl _) (txO_new R), rfl, q _ hn⟩
def rSortTx (w : World) : List V → Hp → VK → Prop := fun vs H Q => ∃ (a : Addr) (l : List Str), vs = [V.ref a] ∧ H a = some (TxO w a l) ∧ l.length < 64 ∧
  ∀ (ns : List Str) (p : Addr), Sd ns → (∀ x, x ∈ ns ↔ x ∈ l) → ns.length = l.length → H p = none → Q (.ref p) (upd H p (.lst (ns.map V.str)))
theorem cr_sortTx (hc : X.calm = true) : CallR X (.builtin "sorted") (rSortTx X.w) := by
  intro pins s σ H vs us Q I r h
  obtain ⟨a, l, rfl, ha, h64, q⟩ := h
  have R : TxSet X.w s.heap a l := (I.hok a _ ha).1
  rw [Vals.ref1 r]
  refine tx_sorted R (I.ok.hd hc) h64 fun s' p out c ns k g o hp hg hi hs pm => ?_
  have hl := pm.length_eq
  have hlen : (ns.map V.str).length ≤ sizeLine := by rw [List.length_map, hl, sizeLine_eq]; omega
  have hn : H p = none := I.hok.fresh hp
  have J : Inv X pins σ (upd H p (.lst (ns.map V.str))) { s with heap := s'.heap, gens := s'.gens, drawn := s'.drawn, toks := s'.toks } :=
    I.call (ch := []) (Un.laid k hp hn) (I.hok.laid k hp ⟨hlen, out.toList, c, vals_of_strs hi, hg⟩) (by rw [g]; exact I.bare) (fun _ z => nomatch z)
  have e : s' = { s with heap := s'.heap, gens := s'.gens, drawn := s'.drawn, toks := s'.toks } := by
    cases s'; cases s; cases o; rfl
  rw [e]
  obtain ⟨o2, es2, ep2, t2, _, _, _, hr2⟩ := R
  exact ⟨.ref p, _, J, rfl, q ns p (sd_of hs (pm.nodup_iff.mpr hr2.nd)) (fun x => pm.mem_iff) hl hn⟩
end
end K17
set_option maxHeartbeats 8000000
namespace K17
open PySem PySem.Spec PyProof.Rows L2

theorem noE_snoc (k : Nat) (pss : List Es) (ns : List Str) (n : Str) : noE k pss (ns ++ [n]) = noE k pss ns ++ [(n, ((noV n (p6n.take k) pss : Nat) : Int))] := by
  unfold noE
  rw [List.map_append]
  rfl
section
variable {P : Program} {w : World} {K : PySem.W.Frag} {mg : Str → Option Value} {base : Heap}
/-- numbers_of's last statement: the dict of the numbers -/
theorem rd_nof {l T L b : Addr} {ds : List Addr} {pss : List Es} {H0 H : Hp} {o2 : Option V} {Q : VK} {E : XK} (h : NofOk H0 l ds pss) (S : Same H0 H) (hT : H T = some (.tup []))
    (hL : H L = some (.lst ((ptKeys pss).map V.str))) (hb : H b = some (.lst ((p6n.take ds.length).map fun (b : Nat) => V.int (b : Int)))) (q : NofQ H0 ds pss Q) :
    tDc (iList K (tCB (rSortTx w) (tCons (tCB (rSetTx K w) (tCons (tOp rCat (tVar 3) (tCB (fun xs H Q => ∃ p ys, xs = [V.ref p] ∧ (SqL K H p ys ∨ SqT K H p ys) ∧ ∀ l, H l = none → Q (.ref l) (upd H l (.lst ys))) (tCons (tVar 1) tNil))) tNil)) tNil)))
      (gName 2) tYes (tVar 2) (tCall spNo [] E (tCons (tVar 2) (tCons (tVar 0) (tCons (tVar 4) tNil)))) [2] [some (.ref l), some (.ref T), o2, some (.ref L), some (.ref b), none] H Q := by
  have hkl := h.kl
  refine ⟨_, rfl, _, rfl, T, [], rfl, .inr (SqT.of hT), fun l2 n2 => ?_⟩
  have S2 := fresh_upd (o := .lst []) n2
  refine ⟨L, l2, _, [], rfl, rfl, S2 _ _ hL, upd_same, by rw [List.length_map, sizeLine_eq]; simp only [List.length_nil]; omega, fun p np => ?_⟩
  rw [List.append_nil]
  have S3 := fresh_upd (o := .lst ((ptKeys pss).map V.str)) np
  refine ⟨p, ptKeys pss, rfl, SqL.of upd_same, hkl, fun a na => ?_⟩
  have S4 := fresh_upd (o := TxO w a (adsS (ptKeys pss))) na
  have hal : (adsS (ptKeys pss)).length < 64 := by
    have := len_adsS (ptKeys pss) []
    unfold adsS
    simp only [List.length_nil] at this
    omega
  refine ⟨a, _, rfl, upd_same, hal, fun ns r hsd hmem hln nr => ?_⟩
  have S5 := fresh_upd (o := .lst (ns.map V.str)) nr
  refine ⟨r, rfl, ⟨_, SqL.of upd_same⟩, fun D hD => ?_⟩
  have SS : Same H0 (upd (upd (upd (upd H l2 (.lst [])) p (.lst ((ptKeys pss).map V.str))) a (TxO w a (adsS (ptKeys pss)))) r (.lst (ns.map V.str))) := S.trans (S2.trans (S3.trans (S4.trans S5)))
  have hbS : (upd (upd (upd (upd H l2 (.lst [])) p (.lst ((ptKeys pss).map V.str))) a (TxO w a (adsS (ptKeys pss)))) r (.lst (ns.map V.str))) b = _ := S5 _ _ (S4 _ _ (S3 _ _ (S2 _ _ hb)))
  have hr5 : (upd (upd (upd (upd H l2 (.lst [])) p (.lst ((ptKeys pss).map V.str))) a (TxO w a (adsS (ptKeys pss)))) r (.lst (ns.map V.str))) r = _ := upd_same
  generalize upd (upd (upd (upd H l2 (.lst [])) p (.lst ((ptKeys pss).map V.str))) a (TxO w a (adsS (ptKeys pss)))) r (.lst (ns.map V.str)) = HS at SS hbS hr5 hD ⊢
  have D0 : H0 D = none := by
    cases e : H0 D with
    | none => rfl
    | some o =>
      have z := SS _ _ e
      rw [hD] at z
      cases z
  have nmem : ∀ n, n ∈ ns ↔ n ∈ ptKeys pss := fun n => (hmem n).trans (mem_adsS _)
  have hp := Paired.length h.pt
  refine dc_it (walk_list (K := K) (a := r) (xs := ns.map V.str)) (fun i H3 => H3 D = some (.dK (kv (noE ds.length pss (ns.take i)))) ∧ Same HS H3)
    ⟨upd_same, fresh_upd hD⟩ (fun i H3 _ h => SqL.of (h.2 _ _ hr5)) ?_ ?_
  · rintro i x H3 H4 hi ⟨hD3, S6⟩ ⟨rfl, hx⟩
    rw [List.length_map] at hi
    have ex : x = .str ns[i] := by
      rw [List.getElem?_map, List.getElem?_eq_getElem hi] at hx
      exact (Option.some.inj hx).symm
    subst ex
    have SA := SS.trans S6
    refine ⟨rfl, ?_⟩
    unfold tYes
    dsimp only
    rw [if_pos rfl]
    refine ⟨_, rfl, _, rfl, _, rfl, _, rfl, ?_⟩
    refine ⟨ns[i], l, b, ds, pss, p6n.take ds.length, rfl, SA _ _ h.hl, h.pt.same SA, S6 _ _ hbS, ?_, hp, fun c hc => p6_ok c (List.mem_of_mem_take hc), fun es he => h.gc es he _, h.lt _ ((nmem _).mp (List.getElem_mem hi)), fun H5 S7 => ?_⟩
    · have := h.ln
      rw [List.length_take]
      show min ds.length 6 = ds.length
      omega
    have en : ns[i] ∉ (noE ds.length pss (ns.take i)).map (·.1) := fun z => by
      rw [noE_keys] at z
      obtain ⟨j, hj, e2⟩ := List.mem_take_iff_getElem.mp z
      exact List.pairwise_iff_getElem.mp hsd.nodup j i (by omega) hi (by omega) e2
    refine ⟨_, ky ns[i], rfl, S7 _ _ hD3, ?_, ?_, fun c o e => ?_⟩
    · rw [kv_len, sizeLine_eq]
      unfold noE
      rw [List.length_map]
      have : (ns.take i).length ≤ ns.length := List.length_take_le' ..
      omega
    · rw [upd_same, putK_new _ (val_none en), List.take_add_one, List.getElem?_eq_getElem hi]
      show _ = some (HO.dK (kv (noE _ _ (ns.take i ++ [ns[i]]))))
      rw [noE_snoc]
      unfold kv
      rw [List.map_append]
      rfl
    · rw [upd_ne (ne_of_none e hD)]
      exact S7 _ _ (S6 c o e)
  · rintro H3 ⟨hD3, S6⟩
    rw [List.length_map, List.take_length] at hD3
    exact q H3 D ns (SS.trans S6) D0 hD3 hsd nmem (by omega)
/-- the body -/
theorem rd_nofB {fC fN fP fO : Addr} {fdC fdN fdP fdO : FuncData} (T : Nz mg)
    (GC : FnOk P w K mg base CX0 4 fC fdC ["value"] spChPs) (kC : PySem.W.keepIn K (.ref fC) = true) (bC : Binds K fdC ["value"] []) (gC : mg "check_points" = some (.ref fC))
    (GN : FnOk P w K mg base CX0 1 fN fdN ["value"] (spIsName K)) (kN : PySem.W.keepIn K (.ref fN) = true) (bN : Binds K fdN ["value"] []) (gN : mg "is_name" = some (.ref fN))
    (GP : GFn P w K mg base 3 fP fdP ["many"] spPrimes) (kP : PySem.W.keepIn K (.ref fP) = true) (bP : Binds K fdP ["many"] []) (gP : mg "primes" = some (.ref fP))
    (GO : FnOk P w K mg base CX0 2 fO fdO ["name", "points", "bases"] spNo) (kO : PySem.W.keepIn K (.ref fO) = true) (bO : Binds K fdO ["name", "points", "bases"] []) (gO : mg "_number_of" = some (.ref fO))
    {f : Addr} {cdv : Value} {A : Around} {outer : List Env} {s : Shared} {H : Hp} {vs : List V} {Q : VK} {E : XK} (hr : Room 6 (A.deeper (envOfC "numbers_of" (defScope sNof) s.heap.objs.size f cdv))) (h : spNofT vs H Q E) :
    ∃ t, PSs (cxOf CX0 P w K mg base NNof "numbers_of" (defScope sNof) f cdv A outer s H E) (defBody sNof) t ∧ t { nx := fun _ H' => Q .non H', rt := Q } (start NNof vs) H := by
  have GC6 := GC.mono (k := 6) (by decide)
  have GN6 := GN.mono (k := 6) (by decide)
  have GO6 := GO.mono (k := 6) (by decide)
  have hr3 : Room 3 (A.deeper (envOfC "numbers_of" (defScope sNof) s.heap.objs.size f cdv)) := hr.mono (by decide)
  obtain ⟨l, T', ds, pss, rfl, hT, hok, q⟩ := h
  refine ⟨_, PSs.nox (pss_cons (ps_expr (pe_call GC6 hr rfl gC kC bC .nil pass0 (pa_cons (pv 0) pa_nil)))
    (pss_cons (ps_for PassesOwn.never rfl (pi_tup (pv 1)) (pg_name (i := 2) scNof.nd rfl (Or.inl rfl)) (pss_one (ps_if (pt_not (pt_val (pe_call GN6 hr rfl gN kN bN .nil pass0 (pa_cons (pv 2) pa_nil)))) (pss_one ps_no) pss_nil)))
    (pss_cons (ps_locks (ps_setLc2 (i := 3) (own := [("point", 5), ("name", 2)]) (vs1 := [2]) (g := gName 5) (tt := tYes) (wi1 := iKeys (tVar 5)) (g1 := gName 2) (tt1 := tYes) (te := tVar 2) rfl scNof.nd rfl rfl (sw_true rfl rfl rfl (by decide +kernel)) (pi_list (pv 0))
        (blkOk_by (own := [("point", 5), ("name", 2)]) (N := NNof) (sc := defScope sNof) (by decide +kernel)) (by decide) (fun _ _ _ _ _ => pg_name (i := 5) scNof.nd rfl (Or.inl rfl)) (fun _ _ _ _ _ => pts_nil) (fun _ _ _ _ _ => by exact pi_keys (pv 5))
        (fun _ _ _ _ _ => pg_name (i := 2) scNof.nd rfl (Or.inl rfl)) (fun _ _ _ _ _ => pts_nil) (fun _ _ _ _ _ => by exact pv 2)))
    (pss_cons (ps_set (i := 4) scNof.nd rfl (.inr rfl) (pe_listG (E := E0) (pgen_call (E := E0) GP hr3 rfl gP kP bP .nil (pa_cons (pe_callB call_len_seq (by rfl) T.len PySem.boot_len (pa_cons (pv 0) pa_nil)) pa_nil)) pass0C (fun _ _ _ z => z.elim) hr (by rfl) T.list (by decide +kernel)))
    (pss_one (ps_ret (pe_dc (own := [("name", 2)]) (g := gName 2) (tt := tYes) (tk := tVar 2) (tv := tCall spNo [] E0 (tCons (tVar 2) (tCons (tVar 0) (tCons (tVar 4) tNil)))) rfl scNof.nd
        (pi_list (pe_callB (cr_sortTx rfl) (by rfl) T.sorted (by decide +kernel) (pa_cons (pe_callTy (cr_setTx rfl) (by rfl) T.set (by decide +kernel) (pa_cons (pe_op op_cat (pv 3) (pe_callTy call_list_of (by rfl) T.list (by decide +kernel) (pa_cons (pv 1) pa_nil))) pa_nil)) pa_nil)))
        (blkOk_by (own := [("name", 2)]) (N := NNof) (sc := defScope sNof) (by decide +kernel)) (fun _ _ _ _ _ => pg_name (i := 2) scNof.nd rfl (Or.inl rfl)) (fun _ _ _ _ _ => pts_nil) (fun _ _ _ _ _ => by exact pv 2)
        (fun _ _ _ _ _ => by exact pe_call GO6 hr rfl gO kO bO .nil pass0 (pa_cons (pv 2) (pa_cons (pv 0) (pa_cons (pv 4) pa_nil))))))))))), ?_⟩
  refine ⟨_, rfl, l, ds, pss, rfl, hok.hl, hok.pt, fun H1 S1 => ?_⟩
  have hT1 := S1 _ _ hT
  refine ⟨_, rfl, T', rfl, ⟨[], SqT.of hT1⟩, for_it (walk_tup (K := K) (a := T') (xs := [])) (fun i σ H2 => σ = [some (.ref l), some (.ref T'), none, none, none, none] ∧ H2 = H1)
    ⟨rfl, rfl⟩ (fun i σ H2 _ h => by rw [h.2]; exact SqT.of hT1) (fun i x σ H9 H2 hi => absurd hi (Nat.not_lt_zero _)) ?_⟩
  rintro σ H2 ⟨rfl, rfl⟩
  have hok2 : NofOk H2 l ds pss := ⟨S1 _ _ hok.hl, hok.pt.same S1, hok.nd, hok.ln, hok.kl, hok.gc, hok.lt⟩
  refine rd_known (K := K) hok2 fun H3 L S3 nL hL => ?_
  have hl3 := S3 _ _ hok2.hl
  refine ⟨_, rfl, l, _, rfl, .inl (SqL.of hl3), ds.length, by rw [List.length_map]; rfl, hok.ln, fun H4 S4 p np => ?_⟩
  have S5 := fresh_upd (o := .lst ((p6.take ds.length).map V.int)) np
  refine rd_nof (w := w) (K := K) hok2 (S3.trans (S4.trans S5)) (S5 _ _ (S4 _ _ (S3 _ _ hT1))) (S5 _ _ (S4 _ _ hL)) (by rw [upd_same, p6_nat]) ?_
  intro H' d ns S' nd' hd' hsd hm hl
  refine q H' d ns (S1.trans S') ?_ hd' hsd hm hl
  cases e : H d with
  | none => rfl
  | some o =>
    have z := S1 _ _ e
    rw [nd'] at z
    cases z
end
end K17
set_option maxHeartbeats 8000000
namespace K17
open PySem PySem.Spec PyProof.Rows L2

/-! ### numbers_of, as it is called -/
theorem NofOk.same {H H' : Hp} {l : Addr} {ds : List Addr} {pss : List Es} (h : NofOk H l ds pss) (S : Same H H') : NofOk H' l ds pss :=
  ⟨S _ _ h.hl, h.pt.same S, h.nd, h.ln, h.kl, h.gc, h.lt⟩
theorem NofQ.pre {H H' : Hp} {ds : List Addr} {pss : List Es} {Q : VK} (q : NofQ H ds pss Q) (S : Same H H') : NofQ H' ds pss Q :=
  fun H2 d ns S2 n h2 sd m l => q H2 d ns (S.trans S2) (none_pre S n) h2 sd m l
def spNof : Sp := fun vs H Q _ => ∃ (l : Addr) (ds : List Addr) (pss : List Es), vs = [.ref l] ∧ NofOk H l ds pss ∧ NofQ H ds pss Q
/-- a call by keywords alone (or a classmethod's, the class ahead of them: us) -/
def FnKw (P : Program) (w : World) (K : PySem.W.Frag) (mg : Str → Option Value) (base : Heap) (k : Nat) (f : Addr) (us : List Value) (ks : List Str) (sp : Sp) : Prop :=
  ∀ (A : Around) (outer : List Env) (s : Shared) (H : Hp) (ws : List Value) (zs : List V) (Q : VK) (E : XK), Room k A → Env0 P w K mg base A outer s H → Vals zs ws → zs.length = ks.length → sp zs H Q E →
    codeAny (model P w) A (.call (.ref f) ⟨us, ks.zip ws⟩) (CR CX0 outer P w H s Q E) s
theorem FnKw.mono {P : Program} {w : World} {K : PySem.W.Frag} {mg : Str → Option Value} {base : Heap} {j k : Nat} {f : Addr} {us : List Value} {ks : List Str} {sp : Sp} (F : FnKw P w K mg base j f us ks sp) (h : j ≤ k) : FnKw P w K mg base k f us ks sp :=
  fun A outer s H ws zs Q E hr => F A outer s H ws zs Q E (hr.mono h)
theorem FnOk.kw {P : Program} {w : World} {K : PySem.W.Frag} {mg : Str → Option Value} {base : Heap} {k : Nat} {f : Addr} {fd : FuncData} {ps ks : List Str} {sp : Sp} (F : FnOk P w K mg base CX0 k f fd ps sp)
    (hb : ∀ (s : Shared) (ws : List Value), K.In s.heap → ws.length = ks.length → BindsTo s fd ⟨[], ks.zip ws⟩ (ps.zip ws)) : FnKw P w K mg base k f [] ks sp := fun A outer s H ws zs Q E hr e0 r hl h =>
  F.run A outer s H ⟨[], ks.zip ws⟩ ws zs Q E hr e0 (hb s ws (e0.mod.kin.keeps fun b o e => (e0.bs b o e).1) (r.length.symm.trans hl)) r h
section
variable {P : Program} {w : World} {K : PySem.W.Frag} {mg : Str → Option Value} {base : Heap}
theorem ok_nof {f fC fN fP fO : Addr} {fd fdC fdN fdP fdO : FuncData} (F : Fun K "numbers_of" "numbers_of" sNof f fd) (T : Nz mg)
    (GC : FnOk P w K mg base CX0 4 fC fdC ["value"] spChPs) (kC : PySem.W.keepIn K (.ref fC) = true) (bC : Binds K fdC ["value"] []) (gC : mg "check_points" = some (.ref fC))
    (GN : FnOk P w K mg base CX0 1 fN fdN ["value"] (spIsName K)) (kN : PySem.W.keepIn K (.ref fN) = true) (bN : Binds K fdN ["value"] []) (gN : mg "is_name" = some (.ref fN))
    (GP : GFn P w K mg base 3 fP fdP ["many"] spPrimes) (kP : PySem.W.keepIn K (.ref fP) = true) (bP : Binds K fdP ["many"] []) (gP : mg "primes" = some (.ref fP))
    (GO : FnOk P w K mg base CX0 2 fO fdO ["name", "points", "bases"] spNo) (kO : PySem.W.keepIn K (.ref fO) = true) (bO : Binds K fdO ["name", "points", "bases"] []) (gO : mg "_number_of" = some (.ref fO)) :
    FnR P w K mg base CX0 7 f spNof ∧ FnKw P w K mg base 7 f [] ["points"] spNof := by
  obtain ⟨oc, od, kV, doc, pm, an, cdv, ct, osl, ef, lk, hcd⟩ := F.ex
  subst ef
  have start_ : ∀ {H : Hp} {vs : List V} {Q : VK} {E : XK} {p : Addr}, spNof vs H Q E → H p = none → spNofT (vs ++ [V.ref p]) (upd H p (.tup [])) Q E := fun {H vs Q E p} h hp => by
    obtain ⟨l, ds, pss, rfl, hok, q⟩ := h
    have S0 := fresh_upd (o := .tup []) hp
    exact ⟨l, p, ds, pss, rfl, upd_same, hok.same S0, q.pre S0⟩
  have len1 : ∀ {H : Hp} {vs : List V} {Q : VK} {E : XK}, spNof vs H Q E → vs.length = 1 := fun h => by
    obtain ⟨l, ds, pss, rfl, _⟩ := h
    rfl
  refine ⟨fun A0 outer0 s0 H0 us0 vs0 Q0 E0' hr0 e00 r0 h0 => ?_, fun A0 outer0 s0 H0 ws0 zs0 Q0 E0' hr0 e00 r0 hl0 h0 => ?_⟩
  · refine StX.fn_star (P := P) (w := w) (mg := mg) (base := base) (CX := CX0) (k := 6) (ps := ["points"]) (pv := "names") (sp := spNofT) lk hcd scNof StX.cxUp_none
      (StX.bind_star1 (B := fun l => bindArgs (PySem.W.fnOf "numbers_of" "numbers_of" (defArgs sNof) (defBody sNof) (defScope sNof) .none kV doc pm an cdv ct) ⟨l, []⟩) (p1 := "points") (pv := "names") (fun _ => rfl) (fun _ _ _ => rfl))
      (fun A outer s H vs Q E hr h => rd_nofB T GC kC bC gC GN kN bN gN GP kP bP gP GO kO bO gO hr h) A0 outer0 s0 H0 us0 vs0 Q0 E0' hr0 e00 r0 ⟨vs0, [], (List.append_nil _).symm, len1 h0, Nat.zero_le _, fun p hp => start_ h0 hp⟩
  · have hn : H0 s0.heap.objs.size = none := e00.hok.fresh (Nat.le_refl _)
    obtain ⟨v, rfl⟩ : ∃ v, zs0 = [v] := by
      have := len1 h0
      match zs0, this with
      | [v], _ => exact ⟨v, rfl⟩
    obtain ⟨u, rfl, ru⟩ := vals1 r0
    refine StX.run_bnd (k := 6) (ps := ["points", "names"]) lk hcd scNof hr0 e00 (G := fun xs H2 => ∃ p, H0 p = none ∧ xs = [v, .ref p] ∧ H2 = upd H0 p (.tup [])) (fun A' Ex Q' hq => ?_) fun s2 H2 xs ⟨p, hp, ex, eH⟩ hr' => ?_
    · have e : bindArgs (PySem.W.fnOf "numbers_of" "numbers_of" (defArgs sNof) (defBody sNof) (defScope sNof) .none kV doc pm an cdv ct) ⟨[], (["points"] : List Str).zip [u]⟩ = (newTuple [] >>= fun t => pure [(("points" : Str), u), (("names" : Str), t)]) := rfl
      rw [e]
      refine wpAny_bind (wpAny_newTuple (wpAny_pure ?_) (Nat.zero_le _))
      have new : ObjOk P w (upd H0 s0.heap.objs.size (.tup [])) (s0.heap.push ({ cls := .type "tuple", data := .seq ([] : List Value).toArray } : Obj)) s0.heap.objs.size (.tup []) := ⟨Nat.zero_le _, [], .nil, ⟨_, Heap.get?_push_size _ rfl, rfl, _, rfl⟩⟩
      have un := StX.un_laid (fs := frs outer0) (s := s0) (o := ({ cls := .type "tuple", data := .seq ([] : List Value).toArray } : Obj)) (u := .tup []) hn
      exact hq _ _ [v, V.ref s0.heap.objs.size] [u, Value.ref s0.heap.objs.size] (StX.env0_laid e00 new) un rfl (fun e s' z => z.elim) (.cons ru (.cons rfl .nil)) rfl ⟨_, hn, rfl, rfl⟩
    · subst ex eH
      exact rd_nofB T GC kC bC gC GN kN bN gN GP kP bP gP GO kO bO gO hr' (start_ h0 hp)
end
end K17
set_option maxHeartbeats 8000000
namespace K17
open PySem PySem.Spec PyProof.Rows L2

/-! ### calls by keywords: of a def, a method, a class, a classmethod, a generator -/
def tKw (sp : Sp) (E : XK) (j : Nat) (t : TA) : TE := fun σ H Q => t σ H fun zs H2 => zs.length = j ∧ sp zs H2 Q E
def tCMethK (C : Addr) (sp : Sp) (E : XK) (m : Nat) (ta : TE) (t : TA) : TE := fun σ H Q => ta σ H fun x H1 => x = .ref C ∧ t σ H1 fun zs H2 => zs.length = m ∧ sp zs H2 Q E
def tMethK (C : Addr) (m : Str) (sp : Sp) (E : XK) (j : Nat) (ta : TE) (t : TA) : TE := fun σ H Q => ta σ H fun x H1 => ∃ a dx fs, x = .ref a ∧ H1 a = some (.ins C dx fs) ∧ fs.lookup m = none ∧
  t σ H1 fun zs H2 => zs.length = j ∧ sp (x :: zs) H2 Q E
def tMakeK (C : Addr) (sp : Sp) (E : XK) (j : Nat) (t : TA) : TE := fun σ H Q => t σ H fun zs H1 => zs.length = j ∧ ∀ x dx, H1 x = none → H1 dx = none → dx ≠ x →
  sp (.ref x :: zs) (upd (upd H1 dx (.own x)) x (.ins C dx [])) (fun v H2 => v = .non ∧ Q (.ref x) H2) E
def tGenK (sp : SpG) (E : XK) (j : Nat) (t : TA) : TGen := fun σ H cont => t σ H fun zs H1 => zs.length = j ∧ sp zs H1 cont E
section
variable {X : Cx} {CX : CXT} {k : Nat} {f C p g : Addr} {fd : FuncData} {ps ks : List Str} {mc : Value} {sp : Sp} {E : XK} {o : Expr} {kws : List Keyword} {x m : Str} {pn pos apos : Pos} {ta : TE} {t : TA} {pl : Sem Bool}
/-- f(k = v, ..) -/
theorem pe_kw (F : FnKw X.prog X.w X.K X.mg X.base k f [] ks sp) (hr : Room k X.A) (hg : Gl X x) (hm : X.mg x = some (.ref f)) (hk : PySem.W.keepIn X.K (.ref f) = true) (hkw : PK X kws t)
    (hall : (backToKw pos (keywordEach kws X.env)).all (·.1.isSome) = true := by rfl) (hks : (backToKw pos (keywordEach kws X.env)).filterMap (·.1) = ks := by rfl)
    (hdb : (x == ("__debug__" : Str)) = false := by decide) (hpl : ((backTo pos (starEach [] X.env)).any (·.1) || (backToKw pos (keywordEach kws X.env)).any (·.1.isNone)) = false := by rfl) :
    PE X (.Call (.Name x pn) [] kws pos) (tKw sp E ks.length t) := by
  refine ⟨fun pins s σ H Q I h => wpAny_Call_Name_kw (ld_glob I hg hm ?_ hdb)⟩
  refine PySem.W.callWith_KW0 (h₀ := X.base) I.ok.mod.kin hk hall (thn (hkw.run pos pins s σ H _ I h) fun ws s2 ⟨zs, H2, I2, rz, l1, q2⟩ => ⟨I2.kIn, ?_⟩) hpl
  rw [hks]
  refine wpAny_call (codeAny_mono (F X.A X.stack s2 H2 ws zs Q E hr I2.env0 rz l1 q2) fun r s' hq => ?_)
  match r, hq with
  | .ok (.ret u), hq => exact I2.after hq
/-- o.m(k = v, ..) -/
theorem pe_methK (he : PE X o ta) (c : Cls X.K C) (hm : Meth X.K C m f) (F : FnOk X.prog X.w X.K X.mg X.base CX k f fd ps sp) (hr : Room k X.A) (hb : ∀ (s : Shared) (a : Value) (ws : List Value), X.K.In s.heap → ws.length = ks.length → BindsTo s fd ⟨[a], ks.zip ws⟩ (ps.zip (a :: ws))) (hx : Passes CX X E) (hkw : PK X kws t)
    (hall : (backToKw pos (keywordEach kws X.env)).all (·.1.isSome) = true := by rfl) (hks : (backToKw pos (keywordEach kws X.env)).filterMap (·.1) = ks := by rfl)
    (hpl : ((backTo pos (starEach [] X.env)).any (·.1) || (backToKw pos (keywordEach kws X.env)).any (·.1.isNone)) = false := by rfl)
    (ht : eval (.Call (.Attribute o m apos) [] kws pos) X.env = (do
      let ov ← eval o X.env
      standAt apos.atName
      let (f, first) ← holding [ov] (getMethod ov m pl)
      callWith pos f first (backTo pos (starEach [] X.env)) (backToKw pos (keywordEach kws X.env))) := by rfl) :
    PE X (.Call (.Attribute o m apos) [] kws pos) (tMethK C m sp E ks.length ta t) := by
  refine ⟨fun pins s σ H Q I h => ?_⟩
  refine PySem.W.methodCall_KW (pl := pl) (thn (he.run pins s σ H _ I h) fun u s1 ⟨x, H1, I1, rx, a, dx, fs, ex, ea, l, q⟩ => ?_) ht
  subst ex
  obtain rfl : u = Value.ref a := rx
  refine getmeth_ok I1 ea c hm l ?_
  refine PySem.W.callWith_KW0 (h₀ := X.base) (first := [.ref a]) I.ok.mod.kin hm.kp hall (thn (hkw.run pos pins s1 σ H1 _ I1 q) fun ws s2 ⟨zs, H2, I2, rz, l1, q2⟩ => ⟨I2.kIn, ?_⟩) hpl
  rw [hks]
  refine wpAny_call (codeAny_mono (F.run X.A X.stack s2 H2 ⟨[.ref a], ks.zip ws⟩ (.ref a :: ws) (.ref a :: zs) Q E hr I2.env0 (hb s2 (.ref a) ws I2.kIn (rz.length.symm.trans l1)) (.cons rfl rz) q2) fun r s' hq => ?_)
  cases r with
  | error e => exact hx pins σ H2 s2 e s' I2 hq
  | ok fl =>
    match fl, hq with
    | .ret u, hq => exact I2.after hq
/-- C(k = v, ..) -/
theorem pe_makeK (M : Mk X.K C f) (F : FnOk X.prog X.w X.K X.mg X.base CX k f fd ps sp) (hr : Room (k + 1) X.A) (hg : Gl X x) (hm : X.mg x = some (.ref C)) {gg : List Value → List Value → List Value} (hb : KBn X.K fd ps 1 ks gg (fun vs zs => vs ++ zs)) (hx : Passes CX X E) (hkw : PK X kws t)
    (hall : (backToKw pos (keywordEach kws X.env)).all (·.1.isSome) = true := by rfl) (hks : (backToKw pos (keywordEach kws X.env)).filterMap (·.1) = ks := by rfl)
    (hdb : (x == ("__debug__" : Str)) = false := by decide) (hpl : ((backTo pos (starEach [] X.env)).any (·.1) || (backToKw pos (keywordEach kws X.env)).any (·.1.isNone)) = false := by rfl) :
    PE X (.Call (.Name x pn) [] kws pos) (tMakeK C sp E ks.length t) := by
  refine ⟨fun pins s σ H Q I h => wpAny_Call_Name_kw (ld_glob I hg hm ?_ hdb)⟩
  refine PySem.W.callWith_KW0 (h₀ := X.base) I.ok.mod.kin M.kp hall (thn (hkw.run pos pins s σ H _ I h) fun ws s2 ⟨zs, H2, I2, rz, l1, q2⟩ => ⟨I2.kIn, ?_⟩) hpl
  rw [hks]
  exact run_makeN (vs := []) (us := []) M F hr hb hx I2 .nil rz rfl l1 q2
theorem pe_cmethK (he : PE X o ta) (r : ClX.CRead X.K C mc) (c : ClX.CMet X.K C mc m p g) (F : FnKw X.prog X.w X.K X.mg X.base k g [.ref C] ks sp) (hr : Room k X.A) (hkw : PK X kws t)
    (hall : (backToKw pos (keywordEach kws X.env)).all (·.1.isSome) = true := by rfl) (hks : (backToKw pos (keywordEach kws X.env)).filterMap (·.1) = ks := by rfl)
    (hpl : ((backTo pos (starEach [] X.env)).any (·.1) || (backToKw pos (keywordEach kws X.env)).any (·.1.isNone)) = false := by rfl)
    (ht : eval (.Call (.Attribute o m apos) [] kws pos) X.env = (do
      let ov ← eval o X.env
      standAt apos.atName
      let (f, first) ← holding [ov] (getMethod ov m pl)
      callWith pos f first (backTo pos (starEach [] X.env)) (backToKw pos (keywordEach kws X.env))) := by rfl) :
    PE X (.Call (.Attribute o m apos) [] kws pos) (tCMethK C sp E ks.length ta t) := by
  refine ⟨fun pins s σ H Q I h => ?_⟩
  refine PySem.W.methodCall_KW (pl := pl) (thn (he.run pins s σ H _ I h) fun u s1 ⟨x, H1, I1, rx, ex, q⟩ => ?_) ht
  subst ex
  obtain rfl : u = Value.ref C := rx
  refine ClX.getmethcm_ok I1 r c fun s2 I2 => ?_
  refine PySem.W.callWith_of (P := PySem.W.MethP X.K s1.heap.objs.size g (.ref C)) hpl (PySem.W.keeps_M c.fi) (evalArgs_kw2_nil hall ?_)
  refine thn (hkw.run pos _ s2 σ H1 _ I2 q) fun ws s3 ⟨zs, H2, I3, rz, l1, q2⟩ => ⟨⟨ClX.pin_at I3, I3.kIn⟩, ?_⟩
  rw [hks]
  have z : wpAny (model X.prog X.w) X.A (call (.ref s1.heap.objs.size) [] (ks.zip ws)) (EP X ((s1.heap.objs.size, PySem.W.methodObj (.ref g) (.ref C)) :: pins) σ Q) X.xe s3 := by
    refine wpAny_call (PySem.W.method_call (ClX.pin_at I3) (codeAny_mono (F X.A X.stack s3 H2 ws zs Q E hr I3.env0 rz l1 q2) fun r s' hq => ?_))
    match r, hq with
    | .ok (.ret u), hq => exact I3.after hq
  exact thn z fun _ _ y => ClX.unpinE y
/-- f(k = v) of a generator def -/
theorem pgen_kw {spg : SpG} (F : GFn X.prog X.w X.K X.mg X.base k f fd ps spg) (hr : Room k X.A) (hg : Gl X x) (hm : X.mg x = some (.ref f)) (hk : PySem.W.keepIn X.K (.ref f) = true)
    (hb : ∀ (s : Shared) (ws : List Value), X.K.In s.heap → ws.length = ks.length → BindsTo s fd ⟨[], ks.zip ws⟩ (ps.zip ws)) (hkw : PK X kws t)
    (hall : (backToKw pos (keywordEach kws X.env)).all (·.1.isSome) = true := by rfl) (hks : (backToKw pos (keywordEach kws X.env)).filterMap (·.1) = ks := by rfl)
    (hdb : (x == ("__debug__" : Str)) = false := by decide) (hpl : ((backTo pos (starEach [] X.env)).any (·.1) || (backToKw pos (keywordEach kws X.env)).any (·.1.isNone)) = false := by rfl) :
    PGen X k (.Call (.Name x pn) [] kws pos) (tGenK spg E ks.length t) E := by
  refine ⟨fun pins s σ H cont I h => wpAny_Call_Name_kw (ld_glob I hg hm ?_ hdb)⟩
  refine PySem.W.callWith_KW0 (h₀ := X.base) I.ok.mod.kin hk hall (thn (hkw.run pos pins s σ H _ I h) fun ws s2 ⟨zs, H2, I2, rz, l1, q2⟩ => ⟨I2.kIn, ?_⟩) hpl
  rw [hks]
  refine wpAny_call (codeAny_mono (F.run X.A X.stack s2 H2 ⟨[], ks.zip ws⟩ ws zs cont E hr I2.env0 (hb s2 ws I2.kIn (rz.length.symm.trans l1)) rz q2) fun r s' hq => ?_)
  match r, hq with
  | .ok (.ret u), hq => exact ⟨H2, s2, [], I2, .nil, hq⟩
end
/-- what a def's keywords bind, every parameter by its name -/
theorem kw_binds {K : PySem.W.Frag} {x qual : Str} {st : Stmt} {f : Addr} {fd : FuncData} {ps ks : List Str} (F : Fun K x qual st f fd)
    (h : ∀ (kV doc pm : Value) (an : Option Addr) (cdv ct : Value) (ws : List Value), ws.length = ks.length → bindArgs (PySem.W.fnOf x qual (defArgs st) (defBody st) (defScope st) .none kV doc pm an cdv ct) ⟨[], ks.zip ws⟩ = pure (ps.zip ws)) :
    ∀ (s : Shared) (ws : List Value), K.In s.heap → ws.length = ks.length → BindsTo s fd ⟨[], ks.zip ws⟩ (ps.zip ws) := by
  obtain ⟨oc, od, kV, doc, pm, an, cdv, ct, osl, rfl, lk, hcd⟩ := F.ex
  exact fun s ws _ hl => .of_eq (h kV doc pm an cdv ct ws hl)
theorem kw_binds1 {K : PySem.W.Frag} {x qual : Str} {st : Stmt} {f : Addr} {fd : FuncData} {ps ks : List Str} (F : Fun K x qual st f fd)
    (h : ∀ (kV doc pm : Value) (an : Option Addr) (cdv ct a : Value) (ws : List Value), ws.length = ks.length → bindArgs (PySem.W.fnOf x qual (defArgs st) (defBody st) (defScope st) .none kV doc pm an cdv ct) ⟨[a], ks.zip ws⟩ = pure (ps.zip (a :: ws))) :
    ∀ (s : Shared) (a : Value) (ws : List Value), K.In s.heap → ws.length = ks.length → BindsTo s fd ⟨[a], ks.zip ws⟩ (ps.zip (a :: ws)) := by
  obtain ⟨oc, od, kV, doc, pm, an, cdv, ct, osl, rfl, lk, hcd⟩ := F.ex
  exact fun s a ws _ hl => .of_eq (h kV doc pm an cdv ct a ws hl)
theorem one_of {α : Type} {ws : List α} (h : ws.length = 1) : ∃ v, ws = [v] := by
  match ws, h with
  | [v], _ => exact ⟨v, rfl⟩
end K17
set_option maxHeartbeats 8000000
namespace K17
open PySem PySem.Spec PyProof.Rows L2

/-! ### xs != ys, two lists that are equal item by item (own == among them) -/
section
open PySem.MeetsSeq PySem.MeetsSeq2 PySem.MeetsSeq3
open PySem.AutoSeq1 (wpAny_loadPart')
variable {prog : Program} {w : World} {A : Around}
theorem ne_loopG {R : Result → Shared → Prop} (l b : Addr) (N : Nat) (I : Nat → Shared → Prop) (hl : GQ.ListI prog w A (fun e s' => R (.error e) s') l b N I)
    (fin : ∀ s, I N s → R (.ok (.ret (.bool false))) s) (m : Nat) : ∀ i : Nat, N - i = m → i ≤ N → ∀ s, I i s →
      wpAny (model prog w) A.in1 (Builtin.«list.__eq__.loop» ⟨[.ref l, .ref b, rawInt i, rawInt 3], []⟩) (GQ.FinOf prog w A R) (fun e s' => R (.error e) s') s := by
  induction m with
  | zero =>
    intro i hm hi s h
    obtain ⟨xs1, xs2, n, n2, hl1, hb1, hs1, hs2, _⟩ := hl _ _ h
    have hi' : i = N := by omega
    have hR : R (.ok (.ret (.bool false))) s := fin s (hi' ▸ h)
    obtain ⟨hp, g, d, tk, os⟩ := s
    wp_walk using wpAny_loadPart' hl1, wpAny_loadPart' hb1
    have z1 : xs1[((i : Nat) : Int).toNat]? = none := by simp; omega
    have z2 : xs2[((i : Nat) : Int).toNat]? = none := by simp; omega
    rw [z1, z2]
    wp_walk using wpAny_loadPart' hl1, wpAny_loadPart' hb1
    show R (.ok (.ret (.bool (xs1.size != xs2.size)))) _
    rw [hs1, hs2]
    simpa using hR
  | succ m ih =>
    intro i hm hi s h
    obtain ⟨xs1, xs2, n, n2, hl1, hb1, hs1, hs2, turn⟩ := hl _ _ h
    have l1 : i < xs1.size := by omega
    have l2 : i < xs2.size := by omega
    have ht := turn l1 l2
    obtain ⟨hp, g, d, tk, os⟩ := s
    wp_walk using wpAny_loadPart' hl1, wpAny_loadPart' hb1
    have z1 : xs1[((i : Nat) : Int).toNat]? = some xs1[i] := by simp [l1]
    have z2 : xs2[((i : Nat) : Int).toNat]? = some xs2[i] := by simp [l2]
    have hc : ((i : Int) + 1) = ((i + 1 : Nat) : Int) := by omega
    rw [z1, z2]
    refine wpAny_bind (wpAny_mono ht (fun r s2 h2 => ?_) fun _ _ x => x)
    obtain ⟨rfl, h2⟩ := h2
    have hrec := ih (i + 1) (by omega) (by omega) s2 h2
    obtain ⟨hp2, g2, d2, tk2, os2⟩ := s2
    wp_walk
    rw [hc]
    exact ⟨plainId_quiet plain_eq_loop _, codeAny_builtin entry_eq_loop (by rw [Around.under_plainId plain_eq_loop _]; exact hrec)⟩
theorem list_neG {R : Result → Shared → Prop} (l b : Addr) (N : Nat) (I : Nat → Shared → Prop) (hl : GQ.ListI prog w A (fun e s' => R (.error e) s') l b N I)
    (fin : ∀ s, I N s → R (.ok (.ret (.bool false))) s) {s : Shared} (h : I 0 s) :
    wpAny (model prog w) A.in1 (Builtin.«list.__ne__» ⟨[.ref l, .ref b], []⟩) (GQ.FinOf prog w A R) (fun e s' => R (.error e) s') s := by
  obtain ⟨xs1, xs2, n, n2, hl1, hb1, hs1, hs2, _⟩ := hl _ _ h
  have hrec := ne_loopG (A := A) (R := R) l b N I hl fin _ 0 rfl (Nat.zero_le _) s h
  obtain ⟨hp, g, d, tk, os⟩ := s
  have f3 := AutoSeq1.sub_list_list
  have hne : ¬ (xs1.size != xs2.size) = true := by simp [hs1, hs2]
  wp_walk using wpAny_loadPart' hl1, wpAny_loadPart' hb1
  exact ⟨plainId_quiet plain_eq_loop _, codeAny_builtin entry_eq_loop (by rw [Around.under_plainId plain_eq_loop _]; exact hrec)⟩
theorem rn_listG {E : Value → Shared → Prop} {s : Shared} {l b : Addr} {N : Nat} {Q : Value → Shared → Prop} (hu : A.units < cLine) (I : Nat → Shared → Prop) (hl : GQ.ListI prog w A E l b N I)
    (fin : ∀ s, I N s → Q (.bool false) s) (h : I 0 s) : wpAny (model prog w) A (richCompare .NotEq (.ref l) (.ref b)) Q E s := by
  obtain ⟨xs1, xs2, n, n2, hl1, hb1, _, _, _⟩ := hl _ _ h
  refine wpAny_richCompare_same_room (op := .NotEq) ⟨_, hl1, rfl⟩ ⟨_, hb1, rfl⟩ F.slot_list_ne (GQ.call_here F.slot_list_ne ⟨_, hl1, rfl⟩ F.entry_list_ne (F.args_list_ne_2 _ _) ?_) hu
  exact list_neG (R := wants (fun v s' => v ≠ .notImplemented ∧ Q v s') E) l b N I hl (fun s' q => ⟨(fun x => nomatch x), fin s' q⟩) h
end
def rNeG (D : Eqv) : R2 := fun x y H Q => DList D x y H ∧ ∀ H', Same H H' → Q (.bl false) H'
section
variable {X : Cx} {n : Nat} {D : Eqv}
theorem op_neG (hD : Mon D) (h : EqG X n D) (hr : Room (n + 1) X.A) : OpR X (compareOp .NotEq) (rNeG D) := by
  intro pins s σ H x y v u Q I rx ry hq
  obtain ⟨⟨a, b, xs, ys, rfl, rfl, ha, hb, p⟩, q⟩ := hq
  cases rx
  cases ry
  have sb : Sub X (n + 1) X.A := ⟨hr, rfl⟩
  show wpAny (model X.prog X.w) X.A (richCompare .NotEq (.ref a) (.ref b)) (EP X pins σ Q) X.xe s
  refine rn_listG (N := xs.length) sb.room.units0 (fun _ s' => LoopI X pins σ H s') (fun i s' z => ?_) (fun s' z => ?_) ⟨H, I, Ext.rfl'⟩
  · obtain ⟨H1, I1, e1⟩ := id z
    obtain ⟨z1, its, k, r, e⟩ := I1.hok a _ (e1 _ _ ha)
    obtain ⟨z2, its2, k2, r2, e2⟩ := I1.hok b _ (e1 _ _ hb)
    refine ⟨its.toArray, its2.toArray, k, k2, e, e2, by rw [List.size_toArray, ← r.length], by rw [List.size_toArray, ← r2.length, ← p.1], fun h1 h2 => ?_⟩
    exact turnG hD h sb p r r2 i h1 h2 s' z
  · obtain ⟨H1, I1, e1⟩ := z
    exact ⟨.bl false, H1, I1, rfl, q H1 e1⟩
end
end K17
set_option maxHeartbeats 8000000
namespace K17
open PySem PySem.Spec PyProof.Rows L2

/-! ### dict([(name, number), ..]) -/
def PsAt (H : Hp) (ps : List Addr) (es : Es) : Prop := Paired (fun p q => H p = some (.tup [V.str q.1, V.int q.2])) ps es
theorem PsAt.same {H H' : Hp} (S : ∀ b xs, H b = some (.tup xs) → H' b = some (.tup xs)) {ps : List Addr} {es : Es} (h : PsAt H ps es) : PsAt H' ps es :=
  Paired.mapP h fun _ _ e => S _ _ e
theorem PsAt.snoc {H : Hp} {ps : List Addr} {es : Es} {p : Addr} {q : Str × Int} (h : PsAt H ps es) (e : H p = some (.tup [V.str q.1, V.int q.2])) : PsAt H (ps ++ [p]) (es ++ [q]) :=
  Paired.snoc h e
theorem PsAt.pairs {K : PySem.W.Frag} {H : Hp} : ∀ {ps : List Addr} {es : Es}, PsAt H ps es → Paired (fun p kv => SqT K H p [kV kv.1, kv.2]) ps (kv es)
  | _, _, .nil => .nil
  | _, _, .cons h t => .cons (SqT.of h) (PsAt.pairs t)
theorem merge_new : ∀ {ys xs : Es}, ((xs ++ ys).map (·.1)).Nodup → mergeK (kv xs) (kv ys) = kv (xs ++ ys)
  | [], xs, _ => by
    rw [List.append_nil]
    rfl
  | (n, v) :: r, xs, h => by
    have e : xs ++ (n, v) :: r = (xs ++ [(n, v)]) ++ r := by simp
    have hn : n ∉ xs.map (·.1) := fun z => by
      rw [List.map_append, List.nodup_append] at h
      exact h.2.2 n z n (by simp) rfl
    have ih := merge_new (ys := r) (xs := xs ++ [(n, v)]) (by rw [← e]; exact h)
    show mergeK (putK (kv xs) (ky n) (.int v)) (kv r) = _
    rw [putK_new _ (val_none hn), e, ← ih]
    unfold kv
    rw [List.map_append]
    rfl
theorem merge_kv {es : Es} (h : (es.map (·.1)).Nodup) : mergeK [] (kv es) = kv es := merge_new (xs := []) h

/-! ### draws below great bounds -/
def spDrawW : Sp := fun vs H Q _ => ∃ (r : Addr) (m : Int), vs = [.ref r, .int m] ∧ Rg H r ∧ 0 < m ∧ m ≤ 10 ^ 25 ∧
  ∀ (H' : Hp) (d : Int), 0 ≤ d → d < m → Rg H' r → But r H H' → Q (.int d) H'
theorem big_draw {m : Int} (h : 0 < m) (h2 : m ≤ 10 ^ 25) : m.natAbs.log2 < 9000 := by
  have h3 : m.natAbs ≤ 10 ^ 25 := by omega
  have h4 : m.natAbs < 2 ^ 100 := Nat.lt_of_le_of_lt h3 (by decide)
  have h5 : m.natAbs.log2 < 100 := (Nat.log2_lt (by omega)).mpr h4
  omega
section
variable {P : Program} {w : World} {K : PySem.W.Frag} {mg : Str → Option Value} {base : Heap}
theorem ok_drawW {f : Addr} {fd : FuncData} (F : Fun K "_law_draw" "_law_draw" sDraw f fd) (T : Nb mg) :
    FnOk P w K mg base CX0 1 f fd ["_law_rng_here", "_law_bound"] spDrawW := by
  refine F.ok scDraw (fun vs H Q E h => ?_) (fun cdv A outer s H vs Q E hr h => ?_)
  · obtain ⟨r, m, rfl, _⟩ := h
    rfl
  · obtain ⟨r, m, rfl, ⟨x, y, hR, hx, hy, hy2⟩, hm, hm2, q⟩ := h
    refine ⟨_, pss_cons (ps_if (pt_cmpR op_gt (pe_ix ix_list (pv 0) pe_int (fun _ _ => rfl)) pe_int (nomark _))
        (pss_cons (ps_asg (pe_callB call_divmodW (by rfl) T.divmod (by decide +kernel)
            (pa_cons (pe_ix ix_list (pv 0) pe_int (fun _ _ => rfl)) (pa_cons (pv 1) pa_nil)))
          (pg_tup rfl (pgs_cons (pg_sub (pv 0) pe_int set_list) (pgs_cons (pg_name (i := 2) scDraw.nd rfl (Or.inl rfl)) pgs_nil))))
        (pss_one (ps_ret (pv 2)))) pss_nil)
      (pss_cons (ps_asg (pe_op op_mod (pe_callTy call_int1 (by rfl) T.int (by decide +kernel) (pa_cons
          (pe_op op_add (pe_op op_mul (pe_ix ix_list (pv 0) pe_int (fun _ _ => rfl)) pe_int) pe_int) pa_nil)) pe_int)
          (pg_sub (pv 0) pe_int set_list))
      (pss_one (ps_ret (pe_op op_mod (pe_op op_fdiv (pe_op op_mod (pe_callTy call_int1 (by rfl) T.int (by decide +kernel)
        (pa_cons (pe_op op_mul (pe_ix ix_list (pv 0) pe_int (fun _ _ => rfl)) (pe_ix ix_list (pv 0) pe_int (fun _ _ => rfl))) pa_nil))
        pe_int) pe_int) (pv 1))))), ?_⟩
    refine ⟨_, rfl, r, _, _, _, rfl, rfl, SqL.of hR, at0 x y, _, _, rfl, rfl, _, rfl, ?_⟩
    refine ite2 (fun hgt => ?_) fun _ => ?_
    · refine ⟨_, rfl, r, _, _, _, rfl, rfl, SqL.of hR, at0 x y, _, rfl, _, _, rfl, ⟨hm, PyProof.noPylong_of_log2 (big_draw hm hm2)⟩, fun p hp => ?_⟩
      have npr : p ≠ r := Ne.symm (ne_of_none hR hp)
      have hR1 : upd H p (.tup [.int (x / m), .int (x % m)]) r = some (.lst [.int x, .int y]) := by
        rw [upd_ne npr.symm]
        exact hR
      refine ⟨p, _, rfl, SqT.of upd_same, rfl, ?_⟩
      refine ⟨_, _, rfl, ⟨_, rfl, r, _, _, _, rfl, rfl, hR1, rfl, ?_⟩⟩
      refine ⟨_, _, rfl, rfl, ?_⟩
      refine ⟨_, rfl, ?_⟩
      refine q _ _ (Int.emod_nonneg _ (by omega)) (Int.emod_lt_of_pos _ hm) ⟨x / m, y, upd_same, Int.ediv_nonneg hx (by omega), hy, hy2⟩ ?_
      intro b o ne e
      rw [upd_ne ne, upd_ne (ne_of_none e hp)]
      exact e
    · have c1 := Int.emod_nonneg (y * 40693 + 27017) (show (2147483563 : Int) ≠ 0 by decide)
      have c2 := Int.emod_lt_of_pos (y * 40693 + 27017) (show (0 : Int) < 2147483563 by decide)
      refine ⟨_, rfl, r, _, _, _, rfl, rfl, SqL.of hR, at1 x y, _, _, rfl, rfl, .inl ⟨by omega, by omega⟩, _, _, rfl, rfl, .inl ⟨_, rfl, ?_⟩⟩
      refine ⟨_, _, rfl, rfl, (by show (0 : Int) < 2147483563; decide), ?_⟩
      refine ⟨_, rfl, r, _, _, _, rfl, rfl, hR, rfl, ?_⟩
      refine ⟨_, rfl, r, _, _, _, rfl, rfl, SqL.of upd_same, at1 x _, _, rfl, r, _, _, _, rfl, rfl, SqL.of upd_same, at1 x _, ?_⟩
      refine ⟨_, _, rfl, rfl, .inl ⟨by omega, by omega⟩, .inl ⟨_, rfl, ?_⟩⟩
      refine ⟨_, _, rfl, rfl, (by show (0 : Int) < 2147483477; decide), _, _, rfl, rfl, ⟨by decide, by decide⟩, _, rfl, _, _, rfl, rfl, hm, ?_⟩
      refine q _ _ (Int.emod_nonneg _ (by omega)) (Int.emod_lt_of_pos _ hm) ⟨x, _, upd_same, hx, c1, by omega⟩ ?_
      intro b o ne e
      rw [upd_ne ne]
      exact e

end
/-! ### dict([(name, draw) for name in names]) -/
section
variable {K : PySem.W.Frag} {te : TE} {lo hi : Int} {σ : L2.St} {H : Hp} {r l : Addr} {ns : List Str} {j : Nat}
theorem rd_pairs (hj : j < σ.length) (hl1 : σ[1]? = some (some (.ref l))) (hR : Rg H r) (lr : l ≠ r) (hl : H l = some (.lst (ns.map V.str))) (hP : Pool ns)
    (hte : ∀ (H2 : Hp) (n : Str) (Q : VK), Rg H2 r → But r H H2 → n ∈ ns → (∀ H' v, lo ≤ v → v ≤ hi → Rg H' r → But r H2 H' → Q (.int v) H') → te (σ.set j (some (.str n))) H2 Q)
    {Q : VK} (k : ∀ H' D ps es, But r H H' → Rg H' r → H D = none → H' D = some (.lst (ps.map V.ref)) → PsAt H' ps es → es.map (·.1) = ns → (∀ q ∈ es, lo ≤ q.2 ∧ q.2 ≤ hi) → Q (.ref D) H') :
    tLc (iList K (tVar 1)) (gName j) tYes (tTup (tCons (tVar j) (tCons te tNil))) [j] σ H Q := by
  refine ⟨_, hl1, l, rfl, ⟨_, SqL.of hl⟩, fun D hD => ?_⟩
  have rD := hR.ne hD
  refine lc_it (walk_list (K := K) (a := l) (xs := ns.map V.str)) (fun i H2 => Rg H2 r ∧ But r H H2 ∧ ∃ ps es, H2 D = some (.lst (ps.map V.ref)) ∧ PsAt H2 ps es ∧ es.map (·.1) = ns.take i ∧ ∀ q ∈ es, lo ≤ q.2 ∧ q.2 ≤ hi)
    ⟨hR.same (fresh_upd hD), But.of (fresh_upd hD), [], [], upd_same, .nil, rfl, fun q hq => nomatch hq⟩ (fun i H2 _ h => SqL.of (h.2.1 _ _ lr hl)) ?_ ?_
  · rintro i x H2 H2' hi ⟨hR2, B2, ps, es, hD2, hps, hk, hb⟩ ⟨rfl, hx⟩
    rw [List.length_map] at hi
    have ex : x = .str ns[i] := by
      rw [List.getElem?_map, List.getElem?_eq_getElem hi] at hx
      exact (Option.some.inj hx).symm
    subst ex
    have hlen : ps.length = i := by
      rw [Paired.length hps]
      have z := congrArg List.length hk
      rw [List.length_map, List.length_take] at z
      omega
    have hPl := hP.ln
    show wipe (((wipe σ []).set j none).set j (some (V.str ns[i]))) [j] = wipe σ [j] ∧ _
    have ew : ((wipe σ []).set j none).set j (some (V.str ns[i])) = σ.set j (some (V.str ns[i])) := List.set_set ..
    refine ⟨?_, ?_⟩
    · rw [ew]
      exact List.set_set ..
    show tYes ((wipe σ [j]).set j _) _ _
    rw [show (wipe σ [j]).set j (some (V.str ns[i])) = σ.set j (some (V.str ns[i])) from ew]
    unfold tYes
    dsimp only
    rw [if_pos rfl]
    refine ⟨.str ns[i], List.getElem?_set_self hj, hte _ ns[i] _ hR2 B2 (List.getElem_mem hi) fun H3 d d0 d1 hR3 B3 => ⟨by rw [sizeLine_eq]; show 2 ≤ 16777216; decide, fun T' nT => ?_⟩⟩
    have hD3 := B3 _ _ rD.symm hD2
    have DT : D ≠ T' := ne_of_none hD3 nT
    refine ⟨ps.map V.ref, (upd_ne DT).trans hD3, by rw [List.length_map, sizeLine_eq]; omega, ?_⟩
    have S4 := fresh_upd (o := .tup [V.str ns[i], V.int d]) nT
    have hps3 : PsAt H3 ps es := hps.same fun c xs e => B3 _ _ (fun z => by
      obtain ⟨x, y, e2, _⟩ := hR2
      rw [z, e2] at e
      cases e) e
    refine ⟨(hR3.same S4).upd rD.symm, ?_, ps ++ [T'], es ++ [(ns[i], d)], ?_, ?_, ?_, fun q hq => ?_⟩
    · exact But.upd ((B2.trans B3).trans (But.of S4)) hD
    · rw [upd_same, List.map_append]
      rfl
    · refine (hps3.same fun c xs e => ?_).snoc ?_
      · have cT : c ≠ T' := ne_of_none e nT
        have cD : c ≠ D := fun z => by
          rw [z, hD3] at e
          cases e
        rw [upd_ne cD, upd_ne cT]
        exact e
      · rw [upd_ne DT.symm]
        exact upd_same
    · rw [List.map_append, hk, List.take_add_one, List.getElem?_eq_getElem hi]
      rfl
    · rcases List.mem_append.mp hq with z | z
      · exact hb q z
      · rw [List.mem_singleton.mp z]
        exact ⟨d0, d1⟩
  · rintro H2 ⟨hR2, B2, ps, es, hD2, hps, hk, hb⟩
    rw [List.length_map, List.take_length] at hk
    exact k H2 D ps es B2 hR2 hD hD2 hps hk hb
def rDp (K : PySem.W.Frag) : List V → Hp → VK → Prop := fun xs H Q => ∃ (a : Addr) (ps : List Addr) (kvs : List (Key × V)), xs = [.ref a] ∧ SqL K H a (ps.map V.ref) ∧ Paired (fun p kv => SqT K H p [kV kv.1, kv.2]) ps kvs ∧ ∀ p, H p = none → Q (.ref p) (upd H p (.dK (mergeK [] kvs)))
theorem rd_dict (hj : j < σ.length) (hl1 : σ[1]? = some (some (.ref l))) (hR : Rg H r) (lr : l ≠ r) (hl : H l = some (.lst (ns.map V.str))) (hP : Pool ns)
    (hte : ∀ (H2 : Hp) (n : Str) (Q : VK), Rg H2 r → But r H H2 → n ∈ ns → (∀ H' v, lo ≤ v → v ≤ hi → Rg H' r → But r H2 H' → Q (.int v) H') → te (σ.set j (some (.str n))) H2 Q)
    {Q : VK} (k : ∀ H' R es, But r H H' → Rg H' r → H R = none → H' R = some (.dK (kv es)) → es.map (·.1) = ns → (∀ q ∈ es, lo ≤ q.2 ∧ q.2 ≤ hi) → Q (.ref R) H') :
    tCB (rDp K)
      (tCons (tLc (iList K (tVar 1)) (gName j) tYes (tTup (tCons (tVar j) (tCons te tNil))) [j]) tNil) σ H Q := by
  show tLc (iList K (tVar 1)) (gName j) tYes (tTup (tCons (tVar j) (tCons te tNil))) [j] σ H (fun x H1 => rDp K [x] H1 Q)
  refine rd_pairs (K := K) (lo := lo) (hi := hi) hj hl1 hR lr hl hP hte fun H2 D ps es B2 hR2 nD hD2 hps hk hb => ?_
  have hnd : (es.map (·.1)).Nodup := by
    rw [hk]
    exact hP.nd
  refine ⟨D, ps, _, rfl, SqL.of hD2, hps.pairs, fun R nR => ?_⟩
  have S7 : Same H2 (upd H2 R (.dK (mergeK [] (kv es)))) := fresh_upd nR
  have e7 : upd H2 R (.dK (mergeK [] (kv es))) R = some (.dK (kv es)) := by rw [upd_same, merge_kv hnd]
  generalize upd H2 R (.dK (mergeK [] (kv es))) = H3 at S7 e7
  exact k H3 R es (B2.trans (But.of S7)) (hR2.same S7) (none_of hR B2 hR2 nR) e7 hk hb
end
end K17
set_option maxHeartbeats 8000000
namespace K17
open PySem PySem.Spec PyProof.Rows L2

/-! ### expressions that give an integer -/
def GvI (v : Int) (t : TE) (σ : L2.St) (H : Hp) : Prop := ∀ H1 (Q : VK), Same H H1 → (∀ H', Same H1 H' → Q (.int v) H') → t σ H1 Q
section
variable {C CW : Addr} {ns : List Str} {b c v u : Int} {f g : Str → Int} {ta tb td : TE} {σ : L2.St} {H : Hp} {E : XK}
theorem GvI.up {H' : Hp} (h : GvI v ta σ H) (S : Same H H') : GvI v ta σ H' := fun H1 Q S1 k => h H1 Q (S.trans S1) k
theorem gvi_c : GvI v (tC (.int v)) σ H := fun H1 Q S k => k H1 (Same.refl H1)
theorem gvi_add (h1 : GvI v ta σ H) (h2 : GvI u tb σ H) : GvI (v + u) (tOp (rI0 fun i j => .int (i + j)) ta tb) σ H := fun H1 Q S k =>
  h1 H1 _ S fun H2 S2 => h2 H2 _ (S.trans S2) fun H3 S3 => ⟨v, u, rfl, rfl, k H3 (S2.trans S3)⟩
theorem gvi_sub (h1 : GvI v ta σ H) (h2 : GvI u tb σ H) : GvI (v - u) (tOp (rI0 fun i j => .int (i - j)) ta tb) σ H := fun H1 Q S k =>
  h1 H1 _ S fun H2 S2 => h2 H2 _ (S.trans S2) fun H3 S3 => ⟨v, u, rfl, rfl, k H3 (S2.trans S3)⟩
theorem gvi_mul (h1 : GvI v ta σ H) (h2 : GvI u tb σ H) (hv : CMul v u) : GvI (v * u) (tOp (rI CMul fun i j => .int (i * j)) ta tb) σ H := fun H1 Q S k =>
  h1 H1 _ S fun H2 S2 => h2 H2 _ (S.trans S2) fun H3 S3 => ⟨v, u, rfl, rfl, hv, k H3 (S2.trans S3)⟩
theorem gvi_mulW (h1 : GvI v ta σ H) (h2 : GvI u tb σ H) (hv : CMulW v u) : GvI (v * u) (tOp (rI CMulW fun i j => .int (i * j)) ta tb) σ H := fun H1 Q S k =>
  h1 H1 _ S fun H2 S2 => h2 H2 _ (S.trans S2) fun H3 S3 => ⟨v, u, rfl, rfl, hv, k H3 (S2.trans S3)⟩
theorem gvi_atp {i : Nat} {d : Addr} {ms : Es} (hP : Pool ns) (hb : b < 2 ^ 64) (h1 : GvS C ns b f ta σ H) (hd : PtD H d ms) (hi : σ[i]? = some (some (.ref d))) : GvI (dotN ns f (g0 ms)) (tMeth C "at_point" (spAtP C) [] E ta (tCons (tVar i) tNil)) σ H := fun H1 Q S k =>
  gvs_atp hP hb (h1.up S) (hd.same S) (fun H2 Q _ q => ⟨_, hi, q⟩) k
theorem gvi_at {i : Nat} {d : Addr} {ms : Es} (hP : Pool ns) (hb : b ≤ 33) (hf : ∀ n, 0 ≤ f n) (h1 : GvS C ns b f ta σ H) (hd : NumD H d ms) (hk : ∀ n ∈ ns, n ∈ ms.map (·.1)) (hi : σ[i]? = some (some (.ref d))) :
    GvI ((prodN ns (fun n => (f n).toNat) (nOf ms) : Nat) : Int) (tMeth C "at" (spAt C CW) [] E ta (tCons (tVar i) tNil)) σ H := fun H1 Q S k =>
  gvs_at hP hb hf (h1.up S) (hd.same S) hk (fun H2 Q _ q => ⟨_, hi, q⟩) k
/-- two of them are equal: != is false -/
theorem fls_nei (h1 : GvI v ta σ H) (h2 : GvI u tb σ H) (e : v = u) : Fls (tTest (tOp rNe ta tb)) σ H := fun H1 Q S q =>
  h1 H1 _ S fun H2 S2 => h2 H2 _ (S.trans S2) fun H3 S3 => ⟨rfl, _, rfl, by rw [e, decide_eq_true rfl]; exact q H3 (S2.trans S3)⟩
end

/-! ### bounds, powers of two -/
theorem prodN_le {N : Str → Nat} {f : Str → Nat} {B : Nat} : ∀ ns : List Str, (∀ n ∈ ns, N n < 2 ^ 30) → (∀ n ∈ ns, f n ≤ B) → prodN ns f N ≤ 2 ^ (30 * B * ns.length)
  | [], _, _ => Nat.le_refl 1
  | n :: r, h1, h2 => by
    have ih := prodN_le r (fun m hm => h1 m (List.mem_cons_of_mem _ hm)) (fun m hm => h2 m (List.mem_cons_of_mem _ hm))
    have a1 : N n ^ f n ≤ (2 ^ 30) ^ f n := Nat.pow_le_pow_left (Nat.le_of_lt (h1 n (List.mem_cons_self ..))) _
    have a2 : (2 ^ 30) ^ f n ≤ (2 ^ 30) ^ B := Nat.pow_le_pow_right (by decide) (h2 n (List.mem_cons_self ..))
    rw [prodN_cons, List.length_cons, Nat.mul_add, Nat.mul_one, Nat.pow_add, Nat.mul_comm, Nat.pow_mul 2 30 B]
    exact Nat.mul_le_mul ih (Nat.le_trans a1 a2)
theorem wide_prod {x y : Nat} {k : Nat} (hx : x ≤ 2 ^ k) (hy : y ≤ 2 ^ k) (hk : k ≤ 300000) : CMulW (x : Int) (y : Int) :=
  wm hy hx (Nat.lt_of_le_of_lt (Nat.pow_le_pow_right (by decide) hk) (Nat.pow_lt_pow_right (by decide) (by decide)))
theorem prodN_congr {N M f : Str → Nat} : ∀ ns : List Str, (∀ n ∈ ns, N n = M n) → prodN ns f N = prodN ns f M
  | [], _ => rfl
  | n :: r, h => by
    rw [prodN_cons, prodN_cons, h n (List.mem_cons_self ..), prodN_congr r fun m hm => h m (List.mem_cons_of_mem _ hm)]
theorem prodN_two (f c : Str → Nat) : ∀ ns : List Str, prodN ns f (fun n => 2 ^ c n) = 2 ^ (ns.map fun n => f n * c n).sum
  | [] => rfl
  | n :: r => by
    rw [prodN_cons, prodN_two f c r, List.map_cons, List.sum_cons, Nat.pow_add, ← Nat.pow_mul, Nat.mul_comm (c n)]
theorem dotN_nat {f : Str → Int} {g : Str → Int} : ∀ ns : List Str, (∀ n ∈ ns, 0 ≤ f n) → (∀ n ∈ ns, 0 ≤ g n) → dotN ns f g = (((ns.map fun n => (f n).toNat * (g n).toNat).sum : Nat) : Int)
  | [], _, _ => rfl
  | n :: r, h1, h2 => by
    have ih := dotN_nat r (fun m hm => h1 m (List.mem_cons_of_mem _ hm)) (fun m hm => h2 m (List.mem_cons_of_mem _ hm))
    unfold dotN at ih ⊢
    rw [List.map_cons, List.sum_cons, ih, List.map_cons, List.sum_cons, Int.natCast_add, Int.natCast_mul, Int.toNat_of_nonneg (h1 n (List.mem_cons_self ..)), Int.toNat_of_nonneg (h2 n (List.mem_cons_self ..))]
theorem sum_le {f : Str → Nat} {B : Nat} : ∀ ns : List Str, (∀ n ∈ ns, f n ≤ B) → (ns.map f).sum ≤ B * ns.length
  | [], _ => Nat.zero_le _
  | n :: r, h => by
    have ih := sum_le r fun m hm => h m (List.mem_cons_of_mem _ hm)
    have := h n (List.mem_cons_self ..)
    rw [List.map_cons, List.sum_cons, List.length_cons, Nat.mul_add, Nat.mul_one]
    omega
theorem noE_g0 {k : Nat} {pss : List Es} {ms : List Str} {n : Str} (h : n ∈ ms) : g0 (noE k pss ms) n = ((noV n (p6n.take k) pss : Nat) : Int) := by
  have e : (noE k pss ms).lookup n = some ((noV n (p6n.take k) pss : Nat) : Int) := by
    unfold noE
    induction ms with
    | nil => exact nomatch h
    | cons m r ih =>
      rw [List.map_cons, List.lookup_cons]
      by_cases z : n = m
      · subst z
        simp
      · have zb : (n == m) = false := by simpa using z
        rw [zb]
        exact ih ((List.mem_cons.mp h).resolve_left z)
  unfold g0
  rw [e]
  rfl
theorem noE_nOf {k : Nat} {pss : List Es} {ms : List Str} {n : Str} (h : n ∈ ms) : nOf (noE k pss ms) n = noV n (p6n.take k) pss := by
  unfold nOf
  rw [noE_g0 h, Int.toNat_natCast]
/-- the numbers that numbers_of gives are numbers for the names -/
theorem noE_num {H : Hp} {d : Addr} {k : Nat} {pss : List Es} {ms : List Str} (hd : H d = some (.dK (kv (noE k pss ms)))) (hs : Sd ms) (hl : ms.length < 64) (hn : ∀ n ∈ ms, isNm n = true) (hb : ∀ n ∈ ms, noV n (p6n.take k) pss < 1073741824) : NumD H d (noE k pss ms) := by
  have hq : ∀ q ∈ noE k pss ms, q.1 ∈ ms ∧ q.2 = ((noV q.1 (p6n.take k) pss : Nat) : Int) := fun q h => by
    obtain ⟨n, hn, rfl⟩ := List.mem_map.mp h
    exact ⟨hn, rfl⟩
  refine ⟨hd, ?_, by rw [noE_keys]; exact hs.nodup, fun q h => hn _ (hq q h).1, fun q h => ?_, fun q h => ?_⟩
  · unfold noE
    rw [List.length_map]
    omega
  · rw [(hq q h).2]
    have : 0 < noV q.1 (p6n.take k) pss := noV_pos fun c hc => (p6_ok c (List.mem_of_mem_take hc)).1
    omega
  · rw [(hq q h).2]
    have := hb _ (hq q h).1
    omega

/-! ### a call of a def with a star, nothing behind its own names -/
def tFn (sp : Sp) (E : XK) (t : TA) : TE := fun σ H Q => t σ H fun vs H1 => sp vs H1 Q E
theorem pe_fnr {X : Cx} {CX : CXT} {k : Nat} {f : Addr} {sp : Sp} {E : XK} {x : Str} {p pos : Pos} {e : Expr} {es : List Expr} {t : TA} (F : FnR X.prog X.w X.K X.mg X.base CX k f sp) (hr : Room k X.A) (hg : Gl X x) (hm : X.mg x = some (.ref f)) (hk : PySem.W.keepIn X.K (.ref f) = true) (hx : Passes CX X E) (ha : PA X (e :: es) t)
    (hdb : (x == ("__debug__" : Str)) = false := by decide) (he : starEach (e :: es) X.env = (false, eval e X.env) :: starEach es X.env := by rfl) (hpl : (backTo pos (starEach es X.env)).any (·.1) = false := by rfl) :
    PE X (.Call (.Name x p) (e :: es) [] pos) (tFn sp E t) := by
  refine ⟨fun pins s σ H Q I h => wpAny_Call_Name_kw (ld_glob I hg hm ?_ hdb)⟩
  exact PySem.W.callWith_K (h₀ := X.base) I.ok.mod.kin hk (thn (ha.run pos pins s σ H _ I h) fun us s1 ⟨vs, H1, I1, r, q⟩ => ⟨I1.kIn, wpAny_call (run_fnR F hr hx I1 r q)⟩) he hpl
end K17
set_option maxHeartbeats 8000000
namespace K17
open PySem PySem.Spec PyProof.Rows L2

/-! ### _law_values_right: the draws, its last three statements -/
abbrev sVr : Stmt := top 69
def NVr : List Str := ["_law_rng_here", "_law_names_here", "_law_one", "_law_two", "_law_first", "_law_second", "_law_given", "_law_spot", "_law_small", "_law_worth", "_law_word"]
def tPow (a b : Int) : TE := tOp (rI CPow fun i j => .int (i ^ j.toNat)) (tC (.int a)) (tC (.int b))
def tChs (ta tb tc : TE) : TE := tCall spChoice [] E0 (tCons (tVar 0) (tCons (tLst (tCons ta (tCons tb (tCons tc tNil)))) tNil))
def tDr1 : TE := tOp (rI0 fun i j => .int (i + j)) (tC (.int 1)) (tCall spDraw [] E0 (tCons (tVar 0) (tCons (tChs (tC (.int 3)) (tC (.int 1000)) (tPow 10 6)) tNil)))
def tDr2 : TE := tCall spDrawW [] E0 (tCons (tVar 0) (tCons (tChs (tC (.int 2)) (tC (.int 10)) (tPow 10 25)) tNil))
def tDr3 : TE := tCall spDraw [] E0 (tCons (tVar 0) (tCons (tC (.int 4)) tNil))
theorem rd_chs {σ : L2.St} {H : Hp} {r : Addr} {ta tb tc : TE} {a b c : Int} {Q : VK} (h0 : σ[0]? = some (some (.ref r))) (hR : Rg H r)
    (ha : ∀ Q : VK, Q (.int a) H → ta σ H Q) (hb : ∀ Q : VK, Q (.int b) H → tb σ H Q) (hc : ∀ Q : VK, Q (.int c) H → tc σ H Q)
    (k : ∀ H' m, m = a ∨ m = b ∨ m = c → Rg H' r → But r H H' → Q (.int m) H') : tChs ta tb tc σ H Q := by
  refine ⟨_, h0, ha _ (hb _ (hc _ ⟨by rw [sizeLine_eq]; show 3 ≤ 16777216; decide, fun p np => ?_⟩))⟩
  have S0 := fresh_upd (o := .lst [V.int a, V.int b, V.int c]) np
  refine ⟨r, p, _, rfl, hR.same S0, (hR.ne np).symm, upd_same, (by show 0 < 3; decide), (by show 3 < 1000000; decide), fun H' v hv hR' B' => ?_⟩
  have B2 := (But.of S0).trans B'
  rcases List.mem_cons.mp hv with z | hv
  · rw [z]; exact k H' a (.inl rfl) hR' B2
  · rcases List.mem_cons.mp hv with z | hv
    · rw [z]; exact k H' b (.inr (.inl rfl)) hR' B2
    · rw [List.mem_singleton.mp hv]; exact k H' c (.inr (.inr rfl)) hR' B2
theorem rd_pow {σ : L2.St} {H : Hp} {a : Int} {b : Nat} (hb : b ≤ 1000000) (ha : a.natAbs < 2 ^ 64) (Q : VK) (q : Q (.int (a ^ b)) H) : tPow a (b : Int) σ H Q := by
  refine ⟨_, _, rfl, rfl, ⟨by omega, by omega, ha⟩, ?_⟩
  dsimp only
  rw [Int.toNat_natCast]
  exact q
theorem rd_dr1 {σ : L2.St} {H2 : Hp} {r : Addr} {Q : VK} (h0 : σ[0]? = some (some (.ref r))) (hR : Rg H2 r) (k : ∀ H' v, 1 ≤ v → v ≤ 1000000 → Rg H' r → But r H2 H' → Q (.int v) H') : tDr1 σ H2 Q := by
  refine ⟨_, h0, rd_chs (a := 3) (b := 1000) (c := 10 ^ 6) h0 hR (fun _ q => q) (fun _ q => q) (fun Q q => rd_pow (b := 6) (by decide) (by decide) Q q) fun H' m hm hR' B' => ?_⟩
  have hm' : 0 < m ∧ m ≤ 1000000 := by
    rcases hm with z | z | z <;> subst z <;> decide
  refine ⟨r, m, rfl, hR', hm'.1, hm'.2, fun H'' d d0 d1 hR'' B'' => ⟨1, d, rfl, rfl, ?_⟩⟩
  exact k H'' (1 + d) (by omega) (by omega) hR'' (B'.trans B'')
theorem rd_dr2 {σ : L2.St} {H2 : Hp} {r : Addr} {Q : VK} (h0 : σ[0]? = some (some (.ref r))) (hR : Rg H2 r) (k : ∀ H' v, 0 ≤ v → v ≤ 10 ^ 25 → Rg H' r → But r H2 H' → Q (.int v) H') : tDr2 σ H2 Q := by
  refine ⟨_, h0, rd_chs (a := 2) (b := 10) (c := 10 ^ 25) h0 hR (fun _ q => q) (fun _ q => q) (fun Q q => rd_pow (b := 25) (by decide) (by decide) Q q) fun H' m hm hR' B' => ?_⟩
  have hm' : 0 < m ∧ m ≤ 10 ^ 25 := by
    rcases hm with z | z | z <;> subst z <;> decide
  refine ⟨r, m, rfl, hR', hm'.1, hm'.2, fun H'' d d0 d1 hR'' B'' => ?_⟩
  exact k H'' d d0 (by omega) hR'' (B'.trans B'')
theorem rd_dr3 {σ : L2.St} {H2 : Hp} {r : Addr} {Q : VK} (h0 : σ[0]? = some (some (.ref r))) (hR : Rg H2 r) (k : ∀ H' v, 0 ≤ v → v ≤ 3 → Rg H' r → But r H2 H' → Q (.int v) H') : tDr3 σ H2 Q :=
  ⟨_, h0, r, 4, rfl, hR, by decide, by decide, fun H'' d d0 d1 hR'' B'' => k H'' d d0 (by omega) hR'' B''⟩
/-- what the law asks of values -/
structure Kx (P : Program) (w : World) (K : PySem.W.Frag) (mg : Str → Option Value) (base : Heap) (C CW : Addr) : Prop where
  kp : Kp P w K mg base C
  at_ : ∃ f fd, Meth K C "at" f ∧ FnOk P w K mg base (L2.CX P w) 5 f fd ["self", "numbers"] (spAt C CW) ∧ Binds K fd ["self", "numbers"] []
  atp : ∃ f fd, Meth K C "at_point" f ∧ FnOk P w K mg base CX0 5 f fd ["self", "point"] (spAtP C) ∧ Binds K fd ["self", "point"] []
  nof : ∃ f, FnR P w K mg base CX0 7 f spNof ∧ PySem.W.keepIn K (.ref f) = true ∧ mg "numbers_of" = some (.ref f)
  rsd : ∃ f fd, FnOk P w K mg base CX0 1 f fd ["_law_number", "_law_times"] spRsd ∧ PySem.W.keepIn K (.ref f) = true ∧ Binds K fd ["_law_number", "_law_times"] [] ∧ mg "_law_raised" = some (.ref f)
  dict : mg "dict" = none
/-- the law's sizes, its names and its numbers -/
structure Vs (C : Addr) (H : Hp) (r l p1 p2 : Addr) (ns : List Str) (e1 e2 : Es) (f g : Str → Int) : Prop where
  hR : Rg H r
  lr : l ≠ r
  hl : H l = some (.lst (ns.map V.str))
  hP : Pool ns
  z1 : SizeAt C H p1 e1
  z2 : SizeAt C H p2 e2
  m1 : Md ns 9 f e1
  m2 : Md ns 9 g e2
section
variable {C : Addr} {H H' : Hp} {r l p1 p2 : Addr} {ns : List Str} {e1 e2 : Es} {f g : Str → Int}
theorem Vs.but (h : Vs C H r l p1 p2 ns e1 e2 f g) (B : But r H H') (hR : Rg H' r) : Vs C H' r l p1 p2 ns e1 e2 f g :=
  ⟨hR, h.lr, B _ _ h.lr h.hl, h.hP, h.z1.but h.hR B, h.z2.but h.hR B, h.m1, h.m2⟩
theorem Vs.same (h : Vs C H r l p1 p2 ns e1 e2 f g) (S : Same H H') : Vs C H' r l p1 p2 ns e1 e2 f g := h.but (But.of S) (h.hR.same S)
end
def absF (f : Str → Int) (n : Str) : Int := ((f n).natAbs : Int)
theorem Pool.len5 {ns : List Str} (h : Pool ns) : ns.length ≤ 10 := h.ln
theorem small_nof {H : Hp} {l d : Addr} {ns : List Str} {es : Es} (hP : Pool ns) (hl : H l = some (.lst [V.ref d])) (hd : H d = some (.dK (kv es))) (hk : es.map (·.1) = ns) (hb : ∀ q ∈ es, 0 ≤ q.2 ∧ q.2 ≤ 3) : NofOk H l [d] [es] := by
  have hn : (es.map (·.1)).Nodup := by rw [hk]; exact hP.nd
  have hlen : es.length ≤ 10 := by
    have z := congrArg List.length hk
    rw [List.length_map] at z
    have := hP.ln
    omega
  have hg : ∀ n, 0 ≤ g0 es n ∧ g0 es n ≤ 3 := fun n => by
    unfold g0
    cases e : es.lookup n with
    | none => exact ⟨Int.le_refl 0, by decide⟩
    | some v =>
      obtain ⟨q, hq, e2⟩ := List.mem_map.mp (look_mem.mp (show (es.lookup n).isSome = true by rw [e]; rfl))
      have z := look_get hn (n := q.1) (v := q.2) hq
      rw [e2, e] at z
      show 0 ≤ v ∧ v ≤ 3
      rw [Option.some.inj z]
      exact hb q hq
  refine ⟨hl, .cons ⟨hd, ⟨by omega, hn, fun q hq => hP.nm _ (by rw [← hk]; exact List.mem_map.mpr ⟨q, hq, rfl⟩), fun q hq => (hb q hq).1⟩⟩ .nil, List.nodup_cons.mpr ⟨(fun z => nomatch z), List.Pairwise.nil⟩, (by show 1 ≤ 6; decide), ?_, fun es' he n => ?_, fun n hn' => ?_⟩
  · show ([es.map (·.1)].flatten).length < 64
    rw [List.flatten_cons, List.flatten_nil, List.append_nil, List.length_map]
    omega
  · rw [List.mem_singleton.mp he]
    have := hg n
    omega
  · show 2 ^ (g0 es n).toNat * 1 < 10 ^ 500
    have h1 : (g0 es n).toNat ≤ 3 := by
      have := hg n
      omega
    have h2 : 2 ^ (g0 es n).toNat ≤ 2 ^ 3 := Nat.pow_le_pow_right (by decide) h1
    have h3 : (2 : Nat) ^ 3 * 1 < 10 ^ 500 := by decide +kernel
    omega
end K17
set_option maxHeartbeats 8000000
namespace K17
open PySem PySem.Spec PyProof.Rows L2

/-! ### _law_values_right, its last three statements -/
theorem seq_set {te : TE} {i : Nat} {t2 : TS} {D : Ends} {σ : L2.St} {H : Hp} (h : te σ H (fun x H1 => t2 D (σ.set i (some x)) H1)) : tSeq (tAsg te (gName i)) t2 D σ H := h
theorem keys_of {es : Es} {ns : List Str} (h : es.map (·.1) = ns) {n : Str} : n ∈ es.map (·.1) ↔ n ∈ ns := by rw [h]
/-- the model of a whole size -/
theorem md_abs {f : Str → Int} : ∀ n, 0 ≤ absF f n := fun n => by
  unfold absF
  omega
section
variable {P : Program} {w : World} {K : PySem.W.Frag} {mg : Str → Option Value} {base : Heap} {C CW : Addr}
theorem scVr : FnScope NVr ["_law_rng_here", "_law_names_here", "_law_one", "_law_two"] (defScope sVr) :=
  ⟨rfl, rfl, rfl, by decide +kernel, rfl, by decide +kernel, by decide +kernel⟩
variable {fr : Addr} {cdv : Value} {A : Around} {outer : List Env} {s : Shared} {H0 : Hp}
theorem vr_t3 (Kk : Kx P w K mg base C CW)
    {fD fC : Addr} {fdD fdC : FuncData} (GD : FnOk P w K mg base CX0 1 fD fdD ["_law_rng_here", "_law_bound"] spDraw) (kD : PySem.W.keepIn K (.ref fD) = true) (bD : Binds K fdD ["_law_rng_here", "_law_bound"] []) (gD : mg "_law_draw" = some (.ref fD))
    (hr : Room 7 (A.deeper (envOfC "_law_values_right" (defScope sVr) s.heap.objs.size fr cdv))) :
    ∃ t, PSs (cxOf CX0 P w K mg base NVr "_law_values_right" (defScope sVr) fr cdv A outer s H0 E0).nox ((defBody sVr).drop 8) t ∧
      ∀ (D : Ends) (H : Hp) (r l p1 p2 q1 q2 d d2 : Addr) (ns : List Str) (e1 e2 rs : Es) (f g : Str → Int), Vs C H r l p1 p2 ns e1 e2 f g → SizeAt C H q1 rs → Md ns 9 (absF f) rs →
        (∀ H', But r H H' → Rg H' r → D.rt (.bl true) H') →
        t D [some (.ref r), some (.ref l), some (.ref p1), some (.ref p2), some (.ref q1), some (.ref q2), some (.ref d), some (.ref d2), none, none, none] H := by
  obtain ⟨⟨⟨Tc, _, _, _⟩, _, _, _, _, _⟩, ⟨fa, fda, ma, Ga, ba⟩, ⟨fp, fdp, mp, Gp, bp⟩, ⟨fn, Fn, kn, gn⟩, ⟨fs, fds, Gs, ks, bs, gs⟩, dN⟩ := Kk
  have GD7 := GD.mono (k := 7) (by decide)
  have Ga7 := Ga.mono (k := 7) (by decide)
  have Gp7 := Gp.mono (k := 7) (by decide)
  have Gs7 := Gs.mono (k := 7) (by decide)
  refine ⟨_, pss_cons (ps_set (i := 8) scVr.nd rfl (.inl rfl) (pe_callTy (call_dictP rfl) (by rfl) dN (by decide +kernel) (pa_cons
      (pe_lc (own := [("_law_word", 10)]) (g := gName 10) (tt := tYes) (te := tTup (tCons (tVar 10) (tCons tDr3 tNil))) rfl scVr.nd (pi_list (pv 1))
        (blkOk_by (own := [("_law_word", 10)]) (N := NVr) (sc := defScope sVr) (by decide +kernel)) (fun _ _ _ _ _ => pg_name (i := 10) scVr.nd rfl (Or.inl rfl)) (fun _ _ _ _ _ => pts_nil)
        (fun _ _ _ _ _ => by exact pe_tup (pa_cons (pv 10) (pa_cons (pe_call GD7 hr rfl gD kD bD .nil pass0 (pa_cons (pv 0) (pa_cons pe_int pa_nil))) pa_nil)))) pa_nil)))
    (pss_cons (ps_set (i := 9) scVr.nd rfl (.inl rfl) (pe_meth (E := E0) (pv 4) Tc.cl ma Ga7 hr ba .nil pass0C (pa_cons (pe_fnr (E := E0) Fn hr (by rfl) gn kn pass0 (pa_cons (pe_lst (pa_cons (pv 8) pa_nil)) pa_nil)) pa_nil)))
    (pss_one (ps_ret (pe_cmpR op_eq (pv 9) (pe_call (E := E0) Gs7 hr rfl gs ks bs .nil pass0 (pa_cons pe_int (pa_cons (pe_meth (E := E0) (pv 4) Tc.cl mp Gp7 hr bp .nil pass0 (pa_cons (pv 8) pa_nil)) pa_nil))) (nomark _))))), ?_⟩
  intro D H r l p1 p2 q1 q2 d d2 ns e1 e2 rs f g h zq mq k
  have hP := h.hP
  have lP := hP.ln
  refine seq_set ?_
  refine rd_dict (K := K) (te := tDr3) (lo := 0) (hi := 3) (j := 10) (r := r) (l := l) (ns := ns) (σ := [some (.ref r), some (.ref l), some (.ref p1), some (.ref p2), some (.ref q1), some (.ref q2), some (.ref d), some (.ref d2), none, none, none]) (by show 10 < 11; decide) rfl h.hR h.lr h.hl hP (fun H2 n Q hR2 B2 hn q => rd_dr3 rfl hR2 q) fun H1 R es B1 hR1 nR hR' hk hb => ?_
  have h1 := h.but B1 hR1
  have zq1 := zq.but h.hR B1
  have hgs : ∀ n, 0 ≤ g0 es n ∧ g0 es n ≤ 3 := fun n => by
    unfold g0
    cases e : es.lookup n with
    | none => exact ⟨Int.le_refl 0, by decide⟩
    | some v =>
      obtain ⟨q, hq, e2⟩ := List.mem_map.mp (look_mem.mp (show (es.lookup n).isSome = true by rw [e]; rfl))
      have z := look_get (by rw [hk]; exact hP.nd) (n := q.1) (v := q.2) hq
      rw [e2, e] at z
      show 0 ≤ v ∧ v ≤ 3
      rw [Option.some.inj z]
      exact hb q hq
  obtain ⟨dx, D0, y, _⟩ := id zq1
  -- the numbers of the point
  refine ⟨_, rfl, q1, dx, _, rfl, y, rfl, ?_⟩
  refine ⟨_, rfl, by rw [sizeLine_eq]; show 1 ≤ 16777216; decide, fun L nL => ?_⟩
  have S2 := fresh_upd (o := .lst [V.ref R]) nL
  have h2 := h1.same S2
  have hR2 := S2 _ _ hR'
  refine ⟨L, [R], [es], rfl, small_nof hP upd_same hR2 hk hb, fun H3 d3 ms S3 nd3 hd3 hsd hmem hml => ?_⟩
  have hmem' : ∀ n, n ∈ ms ↔ n ∈ ns := fun n => by
    rw [hmem]
    show n ∈ [es.map (·.1)].flatten ↔ _
    rw [List.flatten_cons, List.flatten_nil, List.append_nil, hk]
  have hno : ∀ n, noV n (p6n.take 1) [es] = 2 ^ (g0 es n).toNat := fun n => by
    show 2 ^ (g0 es n).toNat * 1 = _
    rw [Nat.mul_one]
  have hlt : ∀ n, noV n (p6n.take 1) [es] < 1073741824 := fun n => by
    rw [hno]
    have := hgs n
    exact Nat.lt_of_le_of_lt (Nat.pow_le_pow_right (by decide) (show (g0 es n).toNat ≤ 3 by omega)) (by decide)
  have hN : NumD H3 d3 (noE 1 [es] ms) := noE_num hd3 hsd hml (fun n hn => hP.nm n ((hmem' n).mp hn)) fun n _ => hlt n
  have S23 := S2.trans S3
  have zq3 := zq1.same S23
  have l3 := mq.len hP
  -- its value there
  have hkn : ∀ q ∈ rs, q.1 ∈ (noE 1 [es] ms).map (·.1) := fun q hq => by
    rw [noE_keys]
    exact (hmem' _).mpr (mq.key hq)
  have hB : bnd rs (fun _ => 30) ≤ 10000 := by
    have z1 := bnd_le (B := 33) rs fun q hq => by
      have := mq.bq hq
      omega
    have z2 : rs.length * (33 * 30) ≤ 10 * (33 * 30) := Nat.mul_le_mul_right _ l3
    omega
  refine ⟨q1, d3, rs, noE 1 [es] ms, fun _ => 30, rfl, zq3, hN, hkn, hB, fun q hq => (hN.look (hkn q hq)).2.2, fun _ H4 S4 => ?_, fun hnd => ?_⟩
  rotate_left
  · rw [dnV_md mq md_abs] at hnd
    exact absurd (Nat.one_dvd _) hnd
  rw [dnV_md mq md_abs, Nat.div_one, upV_md mq hP]
  refine ⟨_, rfl, ?_⟩
  have zq4 := zq3.same S4
  have hR4 := S4 _ _ (S3 _ _ hR2)
  have hPt : PtD H4 R es := ⟨hR4, by
    have z := congrArg List.length hk
    rw [List.length_map] at z
    omega, by rw [hk]; exact hP.nd, fun q hq => hP.nm _ (by rw [← hk]; exact List.mem_map.mpr ⟨q, hq, rfl⟩), fun q hq => (hb q hq).1⟩
  refine gvs_atp (E := E0) (f := absF f) (b := 9) hP (by decide) (gvs_var (i := 4) rfl zq4 mq) hPt (fun H5 Q _ q => ⟨_, rfl, q⟩) fun H5 S5 => ?_
  have ed := dotN_nat (f := absF f) (g := g0 es) ns (fun n _ => md_abs n) (fun n _ => (hgs n).1)
  have hv : prodN ns (fun n => (absF f n).toNat) (nOf (noE 1 [es] ms)) = 2 ^ (ns.map fun n => (absF f n).toNat * (g0 es n).toNat).sum := by
    rw [← prodN_two]
    exact prodN_congr ns fun n hn => by rw [noE_nOf ((hmem' n).mpr hn), hno]
  rw [ed, hv]
  have hsum := sum_le (f := fun n => (absF f n).toNat * (g0 es n).toNat) (B := 27) ns fun n hn => by
    have a1 := mq.bd n
    have a2 := hgs n
    have b1 : (absF f n).toNat ≤ 9 := by omega
    have b2 : (g0 es n).toNat ≤ 3 := by omega
    exact Nat.le_trans (Nat.mul_le_mul b1 b2) (by decide)
  refine ⟨2, _, rfl, by decide, by decide, by omega, ?_⟩
  refine ⟨rfl, ?_⟩
  rw [show V.int ((2 ^ (ns.map fun n => (absF f n).toNat * (g0 es n).toNat).sum : Nat) : Int) = V.int ((2 : Int) ^ (ns.map fun n => (absF f n).toNat * (g0 es n).toNat).sum) from by rw [Int.natCast_pow]; rfl, decide_eq_true rfl]
  refine k H5 (B1.trans (But.of (S23.trans (S4.trans S5)))) ((hR1.same S23).same (S4.trans S5))
end
end K17
set_option maxHeartbeats 8000000
namespace K17
open PySem PySem.Spec PyProof.Rows L2

/-! ### _law_values_right, its fifth to eighth statements -/
section
variable {P : Program} {w : World} {K : PySem.W.Frag} {mg : Str → Option Value} {base : Heap} {C CW : Addr}
variable {fr : Addr} {cdv : Value} {A : Around} {outer : List Env} {s : Shared} {H0 : Hp}
theorem vr_t2 (Kk : Kx P w K mg base C CW)
    {fD fC : Addr} {fdD fdC : FuncData} (GD : FnOk P w K mg base CX0 1 fD fdD ["_law_rng_here", "_law_bound"] spDrawW) (kD : PySem.W.keepIn K (.ref fD) = true) (bD : Binds K fdD ["_law_rng_here", "_law_bound"] []) (gD : mg "_law_draw" = some (.ref fD))
    (GC : FnOk P w K mg base CX0 2 fC fdC ["_law_rng_here", "_law_some"] spChoice) (kC : PySem.W.keepIn K (.ref fC) = true) (bC : Binds K fdC ["_law_rng_here", "_law_some"] []) (gC : mg "_law_choice" = some (.ref fC))
    (hr : Room 7 (A.deeper (envOfC "_law_values_right" (defScope sVr) s.heap.objs.size fr cdv))) {t2 : TS}
    (ht : PSs (cxOf CX0 P w K mg base NVr "_law_values_right" (defScope sVr) fr cdv A outer s H0 E0).nox ((defBody sVr).drop 8) t2) :
    ∃ t, PSs (cxOf CX0 P w K mg base NVr "_law_values_right" (defScope sVr) fr cdv A outer s H0 E0).nox ((defBody sVr).drop 4) t ∧
      ∀ (D : Ends) (H : Hp) (r l p1 p2 q1 q2 d : Addr) (ns : List Str) (e1 e2 : Es) (f g : Str → Int), Vs C H r l p1 p2 ns e1 e2 f g →
        (∀ H' d2, But r H H' → Rg H' r → t2 D [some (.ref r), some (.ref l), some (.ref p1), some (.ref p2), some (.ref q1), some (.ref q2), some (.ref d), some (.ref d2), none, none, none] H') →
        t D [some (.ref r), some (.ref l), some (.ref p1), some (.ref p2), some (.ref q1), some (.ref q2), some (.ref d), none, none, none, none] H := by
  obtain ⟨⟨⟨Tc, _, _, ⟨gm, fdm, Gm, sf, mm, im, bm⟩⟩, ⟨fi, fdi, M, gi, bi, bi0⟩, ⟨fo, fdo, mo, go, bo⟩, ⟨fw, fdw, mw, gw, bw⟩, _, _⟩, _, ⟨fp, fdp, mp, Gp, bp⟩, _, _, dN⟩ := Kk
  have GD7 := GD.mono (k := 7) (by decide)
  have GC7 := GC.mono (k := 7) (by decide)
  have Gp7 := Gp.mono (k := 7) (by decide)
  have Gm7 := Gm.mono (k := 7) (by decide)
  have go7 := go.mono (k := 7) (by decide)
  have gw7 := gw.mono (k := 7) (by decide)
  have gi6 := gi.mono (k := 6) (by decide)
  refine ⟨_, pss_cons (ps_set (i := 7) scVr.nd rfl (.inl rfl) (pe_callTy (call_dictP rfl) (by rfl) dN (by decide +kernel) (pa_cons
      (pe_lc (own := [("_law_word", 10)]) (g := gName 10) (tt := tYes) (te := tTup (tCons (tVar 10) (tCons tDr2 tNil))) rfl scVr.nd (pi_list (pv 1))
        (blkOk_by (own := [("_law_word", 10)]) (N := NVr) (sc := defScope sVr) (by decide +kernel)) (fun _ _ _ _ _ => pg_name (i := 10) scVr.nd rfl (Or.inl rfl)) (fun _ _ _ _ _ => pts_nil)
        (fun _ _ _ _ _ => by exact pe_tup (pa_cons (pv 10) (pa_cons (pe_call GD7 hr rfl gD kD bD .nil pass0 (pa_cons (pv 0) (pa_cons
          (pe_call GC7 hr rfl gC kC bC .nil pass0 (pa_cons (pv 0) (pa_cons (pe_lst (pa_cons pe_int (pa_cons pe_int (pa_cons (pe_op op_pow pe_int pe_int) pa_nil)))) pa_nil))) pa_nil))) pa_nil)))) pa_nil)))
    (pss_cons (ps_if (pt_cmpR op_ne (pe_meth (pe_op (op_ownBin Gm7 hr sf mm im bm pass0) (pv 2) (pv 3)) Tc.cl mp Gp7 hr bp .nil pass0 (pa_cons (pv 7) pa_nil))
        (pe_op op_add (pe_meth (pv 2) Tc.cl mp Gp7 hr bp .nil pass0 (pa_cons (pv 7) pa_nil)) (pe_meth (pv 3) Tc.cl mp Gp7 hr bp .nil pass0 (pa_cons (pv 7) pa_nil))) (nomark _)) (pss_one (ps_ret pe_bl)) pss_nil)
    (pss_cons (ps_if (pt_cmpR op_ne (pe_meth (pe_meth (pv 2) Tc.cl mo go7 hr bo .nil pass0 (pa_cons (pv 3) pa_nil)) Tc.cl mp Gp7 hr bp .nil pass0 (pa_cons (pv 7) pa_nil))
        (pe_op op_sub (pe_meth (pv 2) Tc.cl mp Gp7 hr bp .nil pass0 (pa_cons (pv 7) pa_nil)) (pe_meth (pv 3) Tc.cl mp Gp7 hr bp .nil pass0 (pa_cons (pv 7) pa_nil))) (nomark _)) (pss_one (ps_ret pe_bl)) pss_nil)
    (pss_cons (ps_if (PW.pt (pw_or (pt_cmpR op_ne (pe_meth (pe_meth (pv 2) Tc.cl mw gw7 hr bw .nil pass0 (pa_cons pe_int pa_nil)) Tc.cl mp Gp7 hr bp .nil pass0 (pa_cons (pv 7) pa_nil))
        (pe_op op_mul pe_int (pe_meth (pv 2) Tc.cl mp Gp7 hr bp .nil pass0 (pa_cons (pv 7) pa_nil))) (nomark _))
      (pw_or1 (pt_cmpR op_ne (pe_meth (pe_make0 M gi6 hr rfl Tc.gC bi0 (.cons (show RelV .non .none from rfl) .nil) pass0) Tc.cl mp Gp7 hr bp .nil pass0 (pa_cons (pv 7) pa_nil)) pe_int (nomark _))))) (pss_one (ps_ret pe_bl)) pss_nil) ht))), ?_⟩
  intro D H r l p1 p2 q1 q2 d ns e1 e2 f g h k
  have hP := h.hP
  have lP := hP.ln
  refine seq_set ?_
  refine rd_dict (K := K) (te := tDr2) (lo := 0) (hi := 10 ^ 25) (j := 10) (r := r) (l := l) (ns := ns) (σ := [some (.ref r), some (.ref l), some (.ref p1), some (.ref p2), some (.ref q1), some (.ref q2), some (.ref d), none, none, none, none]) (by show 10 < 11; decide) rfl h.hR h.lr h.hl hP
    (fun H2 n Q hR2 B2 hn q => rd_dr2 rfl hR2 q) fun H1 R es B1 hR1 nR hR' hk hb => ?_
  have h1 := h.but B1 hR1
  have hPt : PtD H1 R es := ⟨hR', by
    have z := congrArg List.length hk
    rw [List.length_map] at z
    omega, by rw [hk]; exact hP.nd, fun q hq => hP.nm _ (by rw [← hk]; exact List.mem_map.mpr ⟨q, hq, rfl⟩), fun q hq => (hb q hq).1⟩
  obtain ⟨σ, eσ⟩ : ∃ σ : L2.St, σ = List.set [some (V.ref r), some (.ref l), some (.ref p1), some (.ref p2), some (.ref q1), some (.ref q2), some (.ref d), none, none, none, none] 7 (some (V.ref R)) := ⟨_, rfl⟩
  rw [← eσ]
  have o1 : GvS C ns 9 f (tVar 2) σ H1 := gvs_var (by rw [eσ]; rfl) h1.z1 h1.m1
  have o2 : GvS C ns 9 g (tVar 3) σ H1 := gvs_var (by rw [eσ]; rfl) h1.z2 h1.m2
  have h7 : σ[7]? = some (some (V.ref R)) := by rw [eσ]; rfl
  have pint : ∀ {m : Nat}, ∀ H2 (Q : VK), Same H1 H2 → Q (.int (m : Int)) H2 → tC (.int (m : Int)) σ H2 Q := fun {m} H2 Q _ q => q
  have i1 := gvi_atp (E := E0) hP (by decide) o1 hPt h7
  have i2 := gvi_atp (E := E0) hP (by decide) o2 hPt h7
  have F1 := fls_nei (gvi_atp (E := E0) hP (by decide) (gvs_mul (E := E0) hP o1 o2) hPt h7) (gvi_add i1 i2) (dotN_add f g (g0 es) ns)
  refine F1 _ _ (Same.refl H1) fun H2 S2 => iteF (next_ ?_)
  have F2 := fls_nei (gvi_atp (E := E0) hP (by decide) (gvs_over (E := E0) hP o1 o2) hPt h7) (gvi_sub i1 i2) (dotN_sub f g (g0 es) ns)
  refine F2 _ _ S2 fun H3 S3 => iteF (next_ ?_)
  have F3 := fls_or (fls_nei (gvi_atp (E := E0) hP (by decide) (gvs_power (E := E0) (m := 7) (by decide) o1 pint) hPt h7) (gvi_mul (v := 7) (gvi_c (v := 7)) i1 (.inl ⟨by decide, by decide⟩)) (dotN_mul f (g0 es) 7 ns))
    (fls_nei (gvi_atp (E := E0) hP (by decide) (gvs_new (C := C) (ns := ns) (σ := σ) (H := H1)) hPt h7) (gvi_c (v := 0)) (dotN_zero (g0 es) ns))
  refine F3 _ _ (S2.trans S3) fun H4 S4 => iteF (next_ ?_)
  rw [eσ]
  exact k H4 R (B1.trans (But.of (S2.trans (S3.trans S4)))) (hR1.same (S2.trans (S3.trans S4)))
end
end K17
set_option maxHeartbeats 8000000
namespace K17
open PySem PySem.Spec PyProof.Rows L2

/-! ### _law_values_right -/
def spVr (C : Addr) : Sp := fun vs H Q _ => ∃ (r l p1 p2 : Addr) (ns : List Str) (e1 e2 : Es) (f g : Str → Int), vs = [.ref r, .ref l, .ref p1, .ref p2] ∧ Vs C H r l p1 p2 ns e1 e2 f g ∧
  ∀ H', But r H H' → Rg H' r → Q (.bl true) H'
theorem numD_of {H : Hp} {d : Addr} {es : Es} {ns : List Str} (hP : Pool ns) (hd : H d = some (.dK (kv es))) (hk : es.map (·.1) = ns) (hb : ∀ q ∈ es, 1 ≤ q.2 ∧ q.2 ≤ 1000000) : NumD H d es := by
  refine ⟨hd, ?_, by rw [hk]; exact hP.nd, fun q hq => hP.nm _ (by rw [← hk]; exact List.mem_map.mpr ⟨q, hq, rfl⟩), fun q hq => (hb q hq).1, fun q hq => by have := hb q hq; omega⟩
  have z := congrArg List.length hk
  rw [List.length_map] at z
  have := hP.ln
  omega
section
variable {P : Program} {w : World} {K : PySem.W.Frag} {mg : Str → Option Value} {base : Heap} {C CW : Addr}
theorem vr_t1 {fr : Addr} {cdv : Value} {A : Around} {outer : List Env} {s : Shared} {H0 : Hp} (Kk : Kx P w K mg base C CW)
    {fD fC fW : Addr} {fdD fdC fdW : FuncData} (GD : FnOk P w K mg base CX0 1 fD fdD ["_law_rng_here", "_law_bound"] spDraw) (kD : PySem.W.keepIn K (.ref fD) = true) (bD : Binds K fdD ["_law_rng_here", "_law_bound"] []) (gD : mg "_law_draw" = some (.ref fD))
    (GC : FnOk P w K mg base CX0 2 fC fdC ["_law_rng_here", "_law_some"] spChoice) (kC : PySem.W.keepIn K (.ref fC) = true) (bC : Binds K fdC ["_law_rng_here", "_law_some"] []) (gC : mg "_law_choice" = some (.ref fC))
    (GW : FnOk P w K mg base CX0 7 fW fdW ["_law_size_here"] (spWhl C)) (kW : PySem.W.keepIn K (.ref fW) = true) (bW : Binds K fdW ["_law_size_here"] []) (gW : mg "_law_whole" = some (.ref fW))
    (hr : Room 7 (A.deeper (envOfC "_law_values_right" (defScope sVr) s.heap.objs.size fr cdv))) {t2 : TS}
    (ht : PSs (cxOf CX0 P w K mg base NVr "_law_values_right" (defScope sVr) fr cdv A outer s H0 E0).nox ((defBody sVr).drop 4) t2) :
    ∃ t, PSs (cxOf CX0 P w K mg base NVr "_law_values_right" (defScope sVr) fr cdv A outer s H0 E0).nox (defBody sVr) t ∧
      ∀ (D : Ends) (H : Hp) (r l p1 p2 : Addr) (ns : List Str) (e1 e2 : Es) (f g : Str → Int), Vs C H r l p1 p2 ns e1 e2 f g →
        (∀ H' q1 q2 d rs, But r H H' → Rg H' r → SizeAt C H' q1 rs → Md ns 9 (absF f) rs → t2 D [some (.ref r), some (.ref l), some (.ref p1), some (.ref p2), some (.ref q1), some (.ref q2), some (.ref d), none, none, none, none] H') →
        t D [some (.ref r), some (.ref l), some (.ref p1), some (.ref p2), none, none, none, none, none, none, none] H := by
  obtain ⟨⟨⟨Tc, _, _, ⟨gm, fdm, Gm, sf, mm, im, bm⟩⟩, _, _, ⟨fw, fdw, mw, gw, bw⟩, _, _⟩, ⟨fa, fda, ma, Ga, ba⟩, _, _, _, dN⟩ := Kk
  have GD7 := GD.mono (k := 7) (by decide)
  have GC7 := GC.mono (k := 7) (by decide)
  have Ga7 := Ga.mono (k := 7) (by decide)
  have Gm7 := Gm.mono (k := 7) (by decide)
  have gw7 := gw.mono (k := 7) (by decide)
  refine ⟨_, pss_cons (ps_par (i := 4) (j := 5) rfl scVr.nd rfl rfl (by decide) rfl rfl (pa_cons (pe_call GW hr rfl gW kW bW .nil pass0 (pa_cons (pv 2) pa_nil)) (pa_cons (pe_call GW hr rfl gW kW bW .nil pass0 (pa_cons (pv 3) pa_nil)) pa_nil)) (by rfl))
    (pss_cons (ps_set (i := 6) scVr.nd rfl (.inl rfl) (pe_callTy (call_dictP rfl) (by rfl) dN (by decide +kernel) (pa_cons
      (pe_lc (own := [("_law_word", 10)]) (g := gName 10) (tt := tYes) (te := tTup (tCons (tVar 10) (tCons tDr1 tNil))) rfl scVr.nd (pi_list (pv 1))
        (blkOk_by (own := [("_law_word", 10)]) (N := NVr) (sc := defScope sVr) (by decide +kernel)) (fun _ _ _ _ _ => pg_name (i := 10) scVr.nd rfl (Or.inl rfl)) (fun _ _ _ _ _ => pts_nil)
        (fun _ _ _ _ _ => by exact pe_tup (pa_cons (pv 10) (pa_cons (pe_op op_add pe_int (pe_call GD7 hr rfl gD kD bD .nil pass0 (pa_cons (pv 0) (pa_cons
          (pe_call GC7 hr rfl gC kC bC .nil pass0 (pa_cons (pv 0) (pa_cons (pe_lst (pa_cons pe_int (pa_cons pe_int (pa_cons (pe_op op_pow pe_int pe_int) pa_nil)))) pa_nil))) pa_nil)))) pa_nil)))) pa_nil)))
    (pss_cons (ps_if (pt_cmpR op_ne (pe_meth (E := E0) (pe_op (op_ownBin Gm7 hr sf mm im bm pass0) (pv 4) (pv 5)) Tc.cl ma Ga7 hr ba .nil pass0C (pa_cons (pv 6) pa_nil))
        (pe_op op_mulW (pe_meth (E := E0) (pv 4) Tc.cl ma Ga7 hr ba .nil pass0C (pa_cons (pv 6) pa_nil)) (pe_meth (E := E0) (pv 5) Tc.cl ma Ga7 hr ba .nil pass0C (pa_cons (pv 6) pa_nil))) (nomark _)) (pss_one (ps_ret pe_bl)) pss_nil)
    (pss_cons (ps_if (pt_cmpR op_ne (pe_meth (E := E0) (pe_meth (pv 4) Tc.cl mw gw7 hr bw .nil pass0 (pa_cons pe_int pa_nil)) Tc.cl ma Ga7 hr ba .nil pass0C (pa_cons (pv 6) pa_nil))
        (pe_op op_mulW (pe_meth (E := E0) (pv 4) Tc.cl ma Ga7 hr ba .nil pass0C (pa_cons (pv 6) pa_nil)) (pe_meth (E := E0) (pv 4) Tc.cl ma Ga7 hr ba .nil pass0C (pa_cons (pv 6) pa_nil))) (nomark _)) (pss_one (ps_ret pe_bl)) pss_nil) ht))), ?_⟩
  intro D H r l p1 p2 ns e1 e2 f g h k
  have hP := h.hP
  have lP := hP.ln
  refine ⟨_, rfl, p1, e1, ns, 9, f, rfl, h.z1, h.m1, hP, fun H1 q1 rs S1 zq1 nw1 mq1 => ?_⟩
  refine ⟨_, rfl, p2, e2, ns, 9, g, rfl, h.z2.same S1, h.m2, hP, fun H2 q2 us S2 zq2 nw2 mq2 => ?_⟩
  refine ⟨_, _, rfl, ?_⟩
  have S3 := Same.refl H2
  have S03 := S1.trans (S2.trans S3)
  have h3 := h.same S03
  refine (show tSeq (tAsg (tCB (rDp K) (tCons (tLc (iList K (tVar 1)) (gName 10) tYes (tTup (tCons (tVar 10) (tCons tDr1 tNil))) [10]) tNil)) (gName 6)) _ D _ H2 from seq_set ?_)
  refine rd_dict (K := K) (te := tDr1) (lo := 1) (hi := 1000000) (j := 10) (r := r) (l := l) (ns := ns) (σ := [some (.ref r), some (.ref l), some (.ref p1), some (.ref p2), some (.ref q1), some (.ref q2), none, none, none, none, none]) (by show 10 < 11; decide) rfl h3.hR h3.lr h3.hl hP
    (fun H2 n Q hR2 B2 hn q => rd_dr1 rfl hR2 q) fun H4 R es B4 hR4 nR hR' hk hb => ?_
  have h4 := h3.but B4 hR4
  have z1 := (zq1.same (S2.trans S3)).but h3.hR B4
  have z2 := (zq2.same S3).but h3.hR B4
  have hN := numD_of hP hR' hk hb
  have hkn : ∀ n ∈ ns, n ∈ es.map (·.1) := fun n hn => by rw [hk]; exact hn
  obtain ⟨σ, eσ⟩ : ∃ σ : L2.St, σ = List.set (List.set (List.set [some (V.ref r), some (.ref l), some (.ref p1), some (.ref p2), none, none, none, none, none, none, none] 4 (some (V.ref q1))) 5 (some (V.ref q2))) 6 (some (V.ref R)) := ⟨_, rfl⟩
  rw [← eσ]
  have o1 : GvS C ns 9 (absF f) (tVar 4) σ H4 := gvs_var (by rw [eσ]; rfl) z1 mq1
  have o2 : GvS C ns 9 (absF g) (tVar 5) σ H4 := gvs_var (by rw [eσ]; rfl) z2 mq2
  have h6 : σ[6]? = some (some (V.ref R)) := by rw [eσ]; rfl
  have pint : ∀ {m : Nat}, ∀ H2 (Q : VK), Same H4 H2 → Q (.int (m : Int)) H2 → tC (.int (m : Int)) σ H2 Q := fun {m} H2 Q _ q => q
  have i1 := gvi_at (E := E0) (CW := CW) hP (by decide) md_abs o1 hN hkn h6
  have i2 := gvi_at (E := E0) (CW := CW) hP (by decide) md_abs o2 hN hkn h6
  have lN : ∀ n ∈ ns, nOf es n < 2 ^ 30 := fun n hn => (hN.look (hkn n hn)).2.2
  have b1 : prodN ns (fun n => (absF f n).toNat) (nOf es) ≤ 2 ^ (30 * 9 * ns.length) := prodN_le ns lN fun n _ => by
    have := mq1.bd n
    show (absF f n).toNat ≤ 9
    unfold absF
    omega
  have b2 : prodN ns (fun n => (absF g n).toNat) (nOf es) ≤ 2 ^ (30 * 9 * ns.length) := prodN_le ns lN fun n _ => by
    have := mq2.bd n
    show (absF g n).toNat ≤ 9
    unfold absF
    omega
  have a1 : ∀ n, 0 ≤ absF f n + absF g n := fun n => by
    have := md_abs (f := f) n
    have := md_abs (f := g) n
    omega
  have a2 : ∀ n, 0 ≤ absF f n * ((2 : Nat) : Int) := fun n => by
    have := md_abs (f := f) n
    omega
  have F1 := fls_nei (gvi_at (E := E0) (CW := CW) hP (by decide) a1 (gvs_mul (E := E0) hP o1 o2) hN hkn h6) (gvi_mulW i1 i2 (wide_prod b1 b2 (by omega))) (by
    rw [← Int.natCast_mul, ← prodN_add]
    congr 2)
  refine F1 _ _ (Same.refl H4) fun H5 S5 => iteF (next_ ?_)
  have F2 := fls_nei (gvi_at (E := E0) (CW := CW) hP (by decide) a2 (gvs_power (E := E0) (m := 2) (by decide) o1 pint) hN hkn h6) (gvi_mulW i1 i1 (wide_prod b1 b1 (by omega))) (by
    rw [← Int.natCast_mul, ← prodN_add]
    congr 2
    funext n
    have := md_abs (f := f) n
    omega)
  refine F2 _ _ S5 fun H6 S6 => iteF (next_ ?_)
  rw [eσ]
  exact k H6 q1 q2 R rs ((But.of S03).trans (B4.trans (But.of (S5.trans S6)))) (hR4.same (S5.trans S6)) (z1.same (S5.trans S6)) mq1
theorem ok_vr {f : Addr} {fd : FuncData} (F : Fun K "_law_values_right" "_law_values_right" sVr f fd) (Kk : Kx P w K mg base C CW)
    {fD fC fW : Addr} {fdD fdC fdW : FuncData} (GD : FnOk P w K mg base CX0 1 fD fdD ["_law_rng_here", "_law_bound"] spDraw) (GDW : FnOk P w K mg base CX0 1 fD fdD ["_law_rng_here", "_law_bound"] spDrawW) (kD : PySem.W.keepIn K (.ref fD) = true) (bD : Binds K fdD ["_law_rng_here", "_law_bound"] []) (gD : mg "_law_draw" = some (.ref fD))
    (GC : FnOk P w K mg base CX0 2 fC fdC ["_law_rng_here", "_law_some"] spChoice) (kC : PySem.W.keepIn K (.ref fC) = true) (bC : Binds K fdC ["_law_rng_here", "_law_some"] []) (gC : mg "_law_choice" = some (.ref fC))
    (GW : FnOk P w K mg base CX0 7 fW fdW ["_law_size_here"] (spWhl C)) (kW : PySem.W.keepIn K (.ref fW) = true) (bW : Binds K fdW ["_law_size_here"] []) (gW : mg "_law_whole" = some (.ref fW)) :
    FnOk P w K mg base CX0 8 f fd ["_law_rng_here", "_law_names_here", "_law_one", "_law_two"] (spVr C) := by
  refine F.ok scVr (fun vs H Q E h => ?_) (fun cdv A outer s H vs Q E hr h => ?_)
  · obtain ⟨r, l, p1, p2, ns, e1, e2, f', g, rfl, _⟩ := h
    rfl
  · obtain ⟨r, l, p1, p2, ns, e1, e2, f', g, rfl, h, k⟩ := h
    obtain ⟨t3, h3, k3⟩ := vr_t3 (outer := outer) (H0 := H) (fC := fC) (fdC := fdC) Kk GD kD bD gD hr
    obtain ⟨t2, h2, k2⟩ := vr_t2 Kk GDW kD bD gD GC kC bC gC hr h3
    obtain ⟨t1, h1, k1⟩ := vr_t1 Kk GD kD bD gD GC kC bC gC GW kW bW gW hr h2
    refine ⟨t1, h1, ?_⟩
    refine k1 _ H r l p1 p2 ns e1 e2 f' g h fun H1 q1 q2 d rs B1 hR1 zq mq => ?_
    have h1 := h.but B1 hR1
    refine k2 _ H1 r l p1 p2 q1 q2 d ns e1 e2 f' g h1 fun H2 d2 B2 hR2 => ?_
    refine k3 _ H2 r l p1 p2 q1 q2 d d2 ns e1 e2 rs f' g (h1.but B2 hR2) (zq.but hR1 B2) mq fun H3 B3 hR3 => ?_
    exact k H3 (B1.trans (B2.trans B3)) hR3
end
end K17
set_option maxHeartbeats 8000000
namespace K17
open PySem PySem.Spec PyProof.Rows L2

/-! ### each name by a prime of its own -/
theorem cop_prod {p : Nat} {f N : Str → Nat} : ∀ ns : List Str, (∀ n ∈ ns, Nat.Coprime p (N n)) → Nat.Coprime p (prodN ns f N)
  | [], _ => Nat.coprime_one_right p
  | n :: r, h => by
    rw [prodN_cons]
    exact Nat.Coprime.mul_right (Nat.Coprime.pow_right _ (h n (List.mem_cons_self ..))) (cop_prod r fun m hm => h m (List.mem_cons_of_mem _ hm))
theorem not_dvd_cop {p x : Nat} (hp : 1 < p) (h : Nat.Coprime p x) : ¬ p ∣ x := fun z => by
  have e : Nat.gcd p x = p := Nat.gcd_eq_left z
  have e2 : Nat.gcd p x = 1 := h
  omega
theorem prodN_inj {N f g : Str → Nat} : ∀ ns : List Str, ns.Pairwise (fun a b => Nat.Coprime (N a) (N b)) → (∀ n ∈ ns, 1 < N n) → prodN ns f N = prodN ns g N → ∀ n ∈ ns, f n = g n
  | [], _, _, _, n, hn => nomatch hn
  | m :: r, hc, h1, he, n, hn => by
    obtain ⟨c1, c2⟩ := List.pairwise_cons.mp hc
    have hm := h1 m (List.mem_cons_self ..)
    rw [prodN_cons, prodN_cons] at he
    have o1 : IsOrd (N m ^ f m * prodN r f N) (N m) (f m) := ⟨_, rfl, not_dvd_cop hm (cop_prod r c1)⟩
    have o2 : IsOrd (N m ^ f m * prodN r f N) (N m) (g m) := ⟨_, he, not_dvd_cop hm (cop_prod r c1)⟩
    have e : f m = g m := o1.one hm o2
    rcases List.mem_cons.mp hn with z | z
    · rw [z]; exact e
    · rw [e] at he
      exact prodN_inj r c2 (fun x hx => h1 x (List.mem_cons_of_mem _ hx)) (Nat.eq_of_mul_eq_mul_left (Nat.pow_pos (by omega)) he) n z
def unE (n : Str) : Es := [(n, 1)]
theorem g0_un (m n : Str) : g0 (unE m) n = if n = m then 1 else 0 := by
  have h := g0_cons (q := (m, (1 : Int))) (r := []) (fun z => nomatch z) n
  exact h
theorem noV_skip {n m : Str} (h : n ≠ m) (b : Nat) (bs : List Nat) (r : List Es) : noV n (b :: bs) (unE m :: r) = noV n bs r := by
  show b ^ (g0 (unE m) n).toNat * noV n bs r = _
  rw [g0_un, if_neg h]
  show b ^ 0 * _ = _
  rw [Nat.pow_zero, Nat.one_mul]
theorem noV_out {n : Str} : ∀ (r : List Str) (bs : List Nat), n ∉ r → noV n bs (r.map unE) = 1
  | [], [], _ => rfl
  | [], b :: bs, _ => rfl
  | m :: r, [], _ => rfl
  | m :: r, b :: bs, h => by
    rw [List.map_cons, noV_skip fun z => h (by rw [z]; exact List.mem_cons_self ..)]
    exact noV_out r bs fun z => h (List.mem_cons_of_mem _ z)
theorem noV_hit {n : Str} {r : List Str} (h : n ∉ r) (b : Nat) (bs : List Nat) : noV n (b :: bs) ((n :: r).map unE) = b := by
  show b ^ (g0 (unE n) n).toNat * noV n bs (r.map unE) = _
  rw [g0_un, if_pos rfl, noV_out r bs h]
  show b ^ 1 * 1 = b
  rw [Nat.pow_one, Nat.mul_one]
theorem noV_mem {n : Str} : ∀ (r : List Str) (bs : List Nat), r.Nodup → bs.length = r.length → n ∈ r → noV n bs (r.map unE) ∈ bs
  | [], _, _, _, h => nomatch h
  | m :: r, [], _, hl, _ => by simp at hl
  | m :: r, b :: bs, hd, hl, h => by
    obtain ⟨d1, d2⟩ := List.nodup_cons.mp hd
    by_cases e : n = m
    · subst e
      rw [noV_hit d1]
      exact List.mem_cons_self ..
    · rw [List.map_cons, noV_skip e]
      exact List.mem_cons_of_mem _ (noV_mem r bs d2 (by simpa using hl) ((List.mem_cons.mp h).resolve_left e))
theorem noV_pw : ∀ (r : List Str) (bs : List Nat), r.Nodup → bs.length = r.length → bs.Pairwise Nat.Coprime → r.Pairwise fun a b => Nat.Coprime (noV a bs (r.map unE)) (noV b bs (r.map unE))
  | [], _, _, _, _ => List.Pairwise.nil
  | m :: r, [], _, hl, _ => by simp at hl
  | m :: r, b :: bs, hd, hl, hp => by
    obtain ⟨d1, d2⟩ := List.nodup_cons.mp hd
    obtain ⟨p1, p2⟩ := List.pairwise_cons.mp hp
    have hl' : bs.length = r.length := by simpa using hl
    refine List.pairwise_cons.mpr ⟨fun x hx => ?_, ?_⟩
    · rw [noV_hit d1, List.map_cons, noV_skip fun z => d1 (by rw [← z]; exact hx)]
      exact p1 _ (noV_mem r bs d2 hl' hx)
    · refine List.Pairwise.imp_of_mem (fun {x y} hx hy h => ?_) (noV_pw r bs d2 hl' p2)
      rw [List.map_cons, noV_skip (fun z => d1 (by rw [← z]; exact hx)), noV_skip (fun z => d1 (by rw [← z]; exact hy))]
      exact h
theorem p6_pw : p6n.Pairwise Nat.Coprime := by decide
theorem p6_gt : ∀ b ∈ p6n, 1 < b ∧ b < 1000 := by decide
/-- equal values at the primes: equal exponents -/
theorem values_one {ns : List Str} {f g : Str → Nat} (hn : ns.Nodup) (hl : ns.length ≤ 6) (M : Str → Nat) (hM : ∀ n ∈ ns, M n = noV n (p6n.take ns.length) (ns.map unE)) : prodN ns f M = prodN ns g M ↔ ∀ n ∈ ns, f n = g n := by
  have hlen : (p6n.take ns.length).length = ns.length := by
    rw [List.length_take]
    show min ns.length 6 = ns.length
    omega
  constructor
  · intro he
    refine prodN_inj ns ?_ (fun n h => ?_) he
    · refine List.Pairwise.imp_of_mem (fun {x y} hx hy h => ?_) (noV_pw ns (p6n.take ns.length) hn hlen (List.Pairwise.sublist (List.take_sublist ..) p6_pw))
      rw [hM x hx, hM y hy]
      exact h
    · rw [hM n h]
      exact (p6_gt _ (List.mem_of_mem_take (noV_mem ns _ hn hlen h))).1
  · intro he
    have e : ∀ ms : List Str, (∀ n ∈ ms, f n = g n) → prodN ms f M = prodN ms g M := fun ms => by
      induction ms with
      | nil => intro _; rfl
      | cons m r ih =>
        intro h
        rw [prodN_cons, prodN_cons, h m (List.mem_cons_self ..), ih fun x hx => h x (List.mem_cons_of_mem _ hx)]
    exact e ns he
theorem dotN_comm (f g : Str → Int) (ns : List Str) : dotN ns f g = dotN ns g f := by
  unfold dotN
  congr 1
  exact List.map_congr_left fun n _ => Int.mul_comm ..
theorem dotN_un {ns : List Str} {f : Str → Int} {n : Str} (hn : ns.Nodup) (h : n ∈ ns) : dotN ns f (g0 (unE n)) = f n := by
  rw [dotN_comm, show g0 (unE n) = fun m => if m = n then (1 : Int) else 0 from funext fun m => g0_un n m, dotN_one n 1 f ns hn h, Int.one_mul]
theorem units_nof {H : Hp} {l : Addr} {ds : List Addr} {ns : List Str} (hP : Pool ns) (h5 : ns.length ≤ 6) (hl : H l = some (.lst (ds.map V.ref))) (hnd : ds.Nodup) (hd : Paired (fun d n => H d = some (.dK (kv (unE n)))) ds ns) : NofOk H l ds (ns.map unE) := by
  have hlen := Paired.length hd
  have hpt : ∀ {ds : List Addr} {ms : List Str}, Paired (fun d n => H d = some (.dK (kv (unE n)))) ds ms → (∀ n ∈ ms, isNm n = true) → PtsAt H ds (ms.map unE) := fun {ds ms} h => by
    induction h with
    | nil => intro _; exact .nil
    | cons a t ih =>
      intro hn
      refine .cons ⟨a, ⟨(by show 1 ≤ 1000; decide), List.nodup_cons.mpr ⟨(fun z => nomatch z), List.Pairwise.nil⟩, fun q hq => ?_, fun q hq => ?_⟩⟩ (ih fun n hm => hn n (List.mem_cons_of_mem _ hm))
      · rw [List.mem_singleton.mp hq]
        exact hn _ (List.mem_cons_self ..)
      · rw [List.mem_singleton.mp hq]
        show (0 : Int) ≤ 1
        decide
  have hkeys : ∀ ms : List Str, ptKeys (ms.map unE) = ms := fun ms => by
    induction ms with
    | nil => rfl
    | cons m r ih =>
      unfold ptKeys at ih ⊢
      rw [List.map_cons, List.map_cons, List.flatten_cons, ih]
      rfl
  refine ⟨hl, hpt hd hP.nm, hnd, by omega, by rw [hkeys]; omega, fun es he n => ?_, fun n hn => ?_⟩
  · obtain ⟨m, _, rfl⟩ := List.mem_map.mp he
    rw [g0_un]
    split <;> decide
  · rw [hkeys] at hn
    have z := (p6_gt _ (List.mem_of_mem_take (noV_mem ns (p6n.take ds.length) hP.nd (by rw [List.length_take, hlen]; show min ns.length 6 = ns.length; omega) hn))).2
    exact Nat.lt_trans z (by decide +kernel)
theorem units_keys (ns : List Str) : ptKeys (ns.map unE) = ns := by
  induction ns with
  | nil => rfl
  | cons m r ih =>
    unfold ptKeys at ih ⊢
    rw [List.map_cons, List.map_cons, List.flatten_cons, ih]
    rfl
end K17
set_option maxHeartbeats 8000000
namespace K17
open PySem PySem.Spec PyProof.Rows L2

/-! ### _law_equal_right: what it makes -/
abbrev sEr : Stmt := top 70
def NEr : List Str := ["_law_names_here", "_law_one", "_law_two", "_law_given", "_law_first", "_law_second", "_law_due", "_law_same", "_law_word"]
theorem kv_un (n : Str) : mergeK [] (kv (unE n)) = kv (unE n) := merge_kv (List.nodup_cons.mpr ⟨(fun z => nomatch z), List.Pairwise.nil⟩)
theorem pairedL {α β : Type} {R : α → β → Prop} : ∀ {xs : List α} {ys : List β}, Paired R xs ys → ∀ {i : Nat} (hi : i < xs.length), ∃ y, ys[i]? = some y ∧ R xs[i] y
  | _, _, .nil, i, hi => absurd hi (Nat.not_lt_zero _)
  | _, _, .cons r t, 0, hi => ⟨_, rfl, r⟩
  | _, _, .cons r t, i + 1, hi => pairedL t (Nat.lt_of_succ_lt_succ hi)
/-- {name: 1} -/
theorem rd_un {i : Nat} {n : Str} {σ : L2.St} {H : Hp} {Q : VK} (hi : σ[i]? = some (some (.str n))) (k : ∀ p, H p = none → Q (.ref p) (upd H p (.dK (kv (unE n))))) : tDisp [(tVar i, tC (.int 1))] σ H Q := by
  refine fun p np => ⟨_, hi, ?_⟩
  refine ⟨upd_same, kv (unE n), rfl, by show 1 ≤ 15; decide, ?_⟩
  rw [kv_un, upd_upd]
  exact k p np
/-- [{name: 1} for name in names] -/
theorem rd_units {K : PySem.W.Frag} {j a : Nat} {σ : L2.St} {H : Hp} {l : Addr} {ns : List Str} {Q : VK} (hj : j < σ.length) (ha : σ[a]? = some (some (.ref l))) (hl : H l = some (.lst (ns.map V.str))) (hn : ns.length ≤ 100)
    (k : ∀ H' D ds, Same H H' → H D = none → H' D = some (.lst (ds.map V.ref)) → ds.Nodup → Paired (fun d n => H' d = some (.dK (kv (unE n)))) ds ns → Q (.ref D) H') :
    tLc (iList K (tVar a)) (gName j) tYes (tDisp [(tVar j, tC (.int 1))]) [j] σ H Q := by
  refine ⟨_, ha, l, rfl, ⟨_, SqL.of hl⟩, fun D hD => ?_⟩
  refine lc_it (walk_list (K := K) (a := l) (xs := ns.map V.str)) (fun i H2 => Same H H2 ∧ ∃ ds : List Addr, H2 D = some (.lst (ds.map V.ref)) ∧ ds.Nodup ∧ Paired (fun d n => H2 d = some (.dK (kv (unE n)))) ds (ns.take i))
    ⟨fresh_upd hD, [], upd_same, List.Pairwise.nil, .nil⟩ (fun i H2 _ h => SqL.of (h.1 _ _ hl)) ?_ ?_
  · rintro i x H2 H2' hi ⟨S2, ds, hD2, hnd, hps⟩ ⟨rfl, hx⟩
    rw [List.length_map] at hi
    have ex : x = .str ns[i] := by
      rw [List.getElem?_map, List.getElem?_eq_getElem hi] at hx
      exact (Option.some.inj hx).symm
    subst ex
    have hlen := Paired.length hps
    rw [List.length_take] at hlen
    have ew : ((wipe σ []).set j none).set j (some (V.str ns[i])) = σ.set j (some (V.str ns[i])) := List.set_set ..
    show wipe (((wipe σ []).set j none).set j (some (V.str ns[i]))) [j] = wipe σ [j] ∧ _
    refine ⟨?_, ?_⟩
    · rw [ew]
      exact List.set_set ..
    show tYes ((wipe σ [j]).set j _) _ _
    rw [show (wipe σ [j]).set j (some (V.str ns[i])) = σ.set j (some (V.str ns[i])) from ew]
    unfold tYes
    dsimp only
    rw [if_pos rfl]
    refine rd_un (n := ns[i]) (List.getElem?_set_self hj) fun p np => ?_
    have DT : D ≠ p := ne_of_none hD2 np
    refine ⟨ds.map V.ref, (upd_ne DT).trans hD2, by rw [List.length_map, sizeLine_eq]; omega, ?_⟩
    have S4 := fresh_upd (o := .dK (kv (unE ns[i]))) np
    have hmem : ∀ d ∈ ds, ∃ n, H2' d = some (.dK (kv (unE n))) := fun d hd => by
      obtain ⟨m, hm, rfl⟩ := List.mem_iff_getElem.mp hd
      obtain ⟨y, _, hy⟩ := pairedL hps hm
      exact ⟨y, hy⟩
    refine ⟨fun b o e => ?_, ds ++ [p], ?_, ?_, ?_⟩
    · rw [upd_ne (ne_of_none e hD)]
      exact S4 _ _ (S2 b o e)
    · rw [upd_same, List.map_append]
      rfl
    · refine List.nodup_append.mpr ⟨hnd, List.nodup_cons.mpr ⟨(fun z => nomatch z), List.Pairwise.nil⟩, fun d hd e he => ?_⟩
      rw [List.mem_singleton.mp he]
      obtain ⟨n, hn⟩ := hmem d hd
      exact ne_of_none hn np
    · rw [List.take_add_one, List.getElem?_eq_getElem hi]
      refine Paired.snoc (Paired.mapP hps fun d n e => ?_) ?_
      · rw [upd_ne fun z => by rw [z, hD2] at e; cases e]
        exact S4 _ _ e
      · rw [upd_ne DT.symm]
        exact upd_same
  · rintro H2 ⟨S2, ds, hD2, hnd, hps⟩
    rw [List.length_map, List.take_length] at hps
    exact k H2 D ds S2 hD hD2 hnd hps
section
variable {C : Addr} {ns : List Str} {b : Int} {f : Str → Int} {ta : TE} {σ : L2.St} {H : Hp} {E : XK}
/-- Size(one.exponents()) -/
theorem gvs_remake (hP : Pool ns) (h1 : GvS C ns b f ta σ H) : GvS C ns b f (tMake C (spInit C) [] E0 (tCons (tMeth C "exponents" (spExpo C) [] E ta tNil) tNil)) σ H := by
  intro H1 Q S k
  refine h1 H1 _ S fun H2 r es S2 z m => ?_
  obtain ⟨dx, D, y, _⟩ := id z
  refine ⟨r, dx, _, rfl, y, rfl, r, es, rfl, z, fun l nl => ?_⟩
  have S3 := fresh_upd (o := .dK (kv es)) nl
  have lm := m.len hP
  refine rd_mk (R := es) upd_same m.sd.nodup (by omega) (m.nm hP) fun H4 r4 rs dx4 D4 S4 z4 lk4 _ _ _ => ⟨rfl, ?_⟩
  obtain ⟨_, _, _, _, sd, _⟩ := id z4
  have e : rs = es := sd.one m.sd fun n => by rw [lk4, m.lk, m.g]
  subst e
  exact k H4 r4 rs (S2.trans (S3.trans S4)) z4 m
end
end K17
set_option maxHeartbeats 8000000
namespace K17
open PySem PySem.Spec PyProof.Rows L2

/-! ### _law_equal_right -/
def spEr (C : Addr) : Sp := fun vs H Q _ => ∃ (l p1 p2 : Addr) (ns : List Str) (e1 e2 : Es) (f g : Str → Int), vs = [.ref l, .ref p1, .ref p2] ∧ H l = some (.lst (ns.map V.str)) ∧ Pool ns ∧ ns.length ≤ 6 ∧
  SizeAt C H p1 e1 ∧ SizeAt C H p2 e2 ∧ Md ns 9 f e1 ∧ Md ns 9 g e2 ∧ ∀ H', Same H H' → Q (.bl true) H'
def dB2 (a b : Bool) : PyData := .list [.bool a, .bool b]
theorem dB2_ok (a b : Bool) : (dB2 a b).showable = true ∧ (dB2 a b).depth ≤ 60 ∧ (dB2 a b).shown.length ≤ sizeLine := by
  have h : ∀ a b : Bool, (dB2 a b).showable = true ∧ (dB2 a b).depth ≤ 60 ∧ (dB2 a b).shown.length ≤ 1000 := by decide +kernel
  obtain ⟨h1, h2, h3⟩ := h a b
  exact ⟨h1, h2, Nat.le_trans h3 (by rw [sizeLine_eq]; decide)⟩
theorem rd_rb2 {H : Hp} {a b : Bool} {Q : VK} (k : ∀ H', Same H H' → Q (.str (dB2 a b).shown) H') : ([V.bl a, V.bl b] : List V).length ≤ sizeLine ∧ ∀ p, H p = none → rRepr [.ref p] (upd H p (.lst [V.bl a, V.bl b])) Q := by
  refine ⟨by rw [sizeLine_eq]; show 2 ≤ 16777216; decide, fun p np => ?_⟩
  obtain ⟨h1, h2, h3⟩ := dB2_ok a b
  exact ⟨p, dB2 a b, rfl, .lst upd_same (.cons (.bl a) (.cons (.bl b) .nil)), h1, h2, h3, k _ (fresh_upd np)⟩
section
variable {P : Program} {w : World} {K : PySem.W.Frag} {mg : Str → Option Value} {base : Heap} {C CW : Addr}
theorem scEr : FnScope NEr ["_law_names_here", "_law_one", "_law_two"] (defScope sEr) :=
  ⟨rfl, rfl, rfl, by decide +kernel, rfl, by decide +kernel, by decide +kernel⟩
theorem er_t2 {fr : Addr} {cdv : Value} {A : Around} {outer : List Env} {s : Shared} {H0 : Hp} (Kk : Kx P w K mg base C CW) (reprN : mg "repr" = none) (allN : mg "all" = none)
    (exps : ∃ f fd, Meth K C "exponents" f ∧ FnOk P w K mg base CX0 1 f fd ["self"] (spExpo C) ∧ Binds K fd ["self"] [])
    (hr : Room 7 (A.deeper (envOfC "_law_equal_right" (defScope sEr) s.heap.objs.size fr cdv))) :
    ∃ t, PSs (cxOf CX0 P w K mg base NEr "_law_equal_right" (defScope sEr) fr cdv A outer s H0 E0).nox ((defBody sEr).drop 4) t ∧
      ∀ (D : Ends) (H : Hp) (l p1 p2 d q1 q2 : Addr) (bb : Bool) (ns : List Str) (e1 e2 : Es) (f g : Str → Int), H l = some (.lst (ns.map V.str)) → Pool ns → SizeAt C H p1 e1 → SizeAt C H p2 e2 → Md ns 9 f e1 → Md ns 9 g e2 →
        (∀ H', Same H H' → D.rt (.bl true) H') →
        t D [some (.ref l), some (.ref p1), some (.ref p2), some (.ref d), some (.ref q1), some (.ref q2), some (.bl bb), none, none] H := by
  obtain ⟨⟨⟨Tc, _, _, _⟩, ⟨fi, fdi, M, gi, bi, bi0⟩, _, _, ⟨fe, fde, me, ie, ge, be⟩, hne⟩, _, ⟨fp, fdp, mp, Gp, bp⟩, _, _, _⟩ := Kk
  obtain ⟨fx, fdx, mx, Gx, bx⟩ := exps
  have ge7 := ge.mono (k := 7) (by decide)
  have Gp7 := Gp.mono (k := 7) (by decide)
  have Gx7 := Gx.mono (k := 7) (by decide)
  have gi6 := gi.mono (k := 6) (by decide)
  refine ⟨_, pss_cons (ps_setLc (i := 7) (own := [("_law_word", 8)]) (g := gName 8) (tt := tYes)
      (te := tOp rEq (tMeth C "at_point" (spAtP C) [] E0 (tVar 1) (tCons (tDisp [(tVar 8, tC (.int 1))]) tNil)) (tMeth C "at_point" (spAtP C) [] E0 (tVar 2) (tCons (tDisp [(tVar 8, tC (.int 1))]) tNil))) rfl scEr.nd rfl rfl (sw_true rfl rfl rfl (by decide +kernel)) (pi_list (pv 0))
      (blkOk_by (own := [("_law_word", 8)]) (N := NEr) (sc := defScope sEr) (by decide +kernel)) (fun _ _ _ _ _ => pg_name (i := 8) scEr.nd rfl (Or.inl rfl)) (fun _ _ _ _ _ => pts_nil)
      (fun _ _ _ _ _ => by
        refine pe_cmpR op_eq ?_ ?_ (nomark _)
        · exact pe_meth (pv 1) Tc.cl mp Gp7 hr bp .nil pass0 (pa_cons (pe_disp (pps_cons (pv 8) pe_int pps_nil) (by rfl) (by rfl) (fun z => by cases z) (by decide)) pa_nil)
        · exact pe_meth (pv 2) Tc.cl mp Gp7 hr bp .nil pass0 (pa_cons (pe_disp (pps_cons (pv 8) pe_int pps_nil) (by rfl) (by rfl) (fun z => by cases z) (by decide)) pa_nil)))
    (pss_one (ps_ret (pe_and (pe_cmpR op_eq (pe_callB call_reprB (by rfl) reprN (by decide +kernel) (pa_cons (pe_cmpR (op_own ge7 hr me ie be pass0 spEq_mono) (pv 1) (pv 2) (nomark _)) pa_nil))
        (pe_callB call_reprB (by rfl) reprN (by decide +kernel) (pa_cons (pe_callB (cr_all rfl) (by rfl) allN (by decide +kernel) (pa_cons (pv 7) pa_nil)) pa_nil)) (nomark _))
      (pe_one (pe_cmpR (op_own ge7 hr me ie be pass0 spEq_mono) (pv 1) (pe_make M gi6 hr rfl Tc.gC bi .nil pass0 (pa_cons (pe_meth0 (pv 1) Tc.cl mx Gx7 hr bx .nil pass0) pa_nil)) (nomark _)))))), ?_⟩
  intro D H l p1 p2 d q1 q2 bb ns e1 e2 f g hl hP z1 z2 m1 m2 k
  have lP := hP.ln
  refine ⟨_, rfl, l, rfl, ⟨_, SqL.of hl⟩, fun L hL => ?_⟩
  refine lc_it (walk_list (K := K) (a := l) (xs := ns.map V.str)) (fun i H2 => H2 L = some (.lst (((ns.take i).map fun n => decide (f n = g n)).map V.bl)) ∧ Same H H2)
    ⟨upd_same, fresh_upd hL⟩ (fun i H2 _ h => SqL.of (h.2 _ _ hl)) ?_ ?_
  · rintro i x H2 H2' hi ⟨hL2, S2⟩ ⟨rfl, hx⟩
    rw [List.length_map] at hi
    have ex : x = .str ns[i] := by
      rw [List.getElem?_map, List.getElem?_eq_getElem hi] at hx
      exact (Option.some.inj hx).symm
    subst ex
    have hin := List.getElem_mem hi
    have hpt : ∀ {H3 : Hp} {p : Addr}, H3 p = some (.dK (kv (unE ns[i]))) → PtD H3 p (unE ns[i]) := fun {H3 p} e => ⟨e, by show 1 ≤ 1000; decide, List.nodup_cons.mpr ⟨(fun z => nomatch z), List.Pairwise.nil⟩,
      fun q hq => by rw [List.mem_singleton.mp hq]; exact hP.nm _ hin, fun q hq => by rw [List.mem_singleton.mp hq]; show (0 : Int) ≤ 1; decide⟩
    refine ⟨rfl, ?_⟩
    unfold tYes
    dsimp only
    rw [if_pos rfl]
    -- the two exponents
    have ex : ∀ {j : Nat} {p : Addr} {es : Es} {h : Str → Int} {H3 : Hp} {σ : L2.St} {Q : VK}, σ[j]? = some (some (.ref p)) → σ[8]? = some (some (.str ns[i])) → SizeAt C H3 p es → Md ns 9 h es → (∀ H4, Same H3 H4 → Q (.int (h ns[i])) H4) →
        tMeth C "at_point" (spAtP C) [] E0 (tVar j) (tCons (tDisp [(tVar 8, tC (.int 1))]) tNil) σ H3 Q := fun {j p es h H3 σ Q} hj h8 z m q => by
      obtain ⟨dx, D0, y, _⟩ := id z
      refine ⟨_, hj, p, dx, _, rfl, y, rfl, ?_⟩
      refine rd_un h8 fun t nt => ?_
      have St := fresh_upd (o := .dK (kv (unE ns[i]))) nt
      have pt := hpt (upd_same (H := H3) (a := t) (o := .dK (kv (unE ns[i]))))
      refine ⟨p, t, es, unE ns[i], rfl, z.same St, fun u hu => ?_, pt.at_, pt.ln, pt.nd, pt.nm, pt.nn, fun H4 S4 => ?_⟩
      · have := m.bq hu
        exact ⟨by omega, by omega⟩
      · rw [ptV_md m hP, dotN_un hP.nd hin]
        exact q H4 (St.trans S4)
    refine ex (j := 1) rfl rfl (z1.same S2) m1 fun H3 S3 => ?_
    refine ex (j := 2) rfl rfl (z2.same (S2.trans S3)) m2 fun H4 S4 => ?_
    refine ⟨rfl, _, S4 _ _ (S3 _ _ hL2), ?_, ?_, fun b o e => ?_⟩
    · rw [List.length_map, List.length_map, sizeLine_eq]
      have : (ns.take i).length ≤ ns.length := List.length_take_le' ..
      omega
    · rw [upd_same, List.take_add_one, List.getElem?_eq_getElem hi]
      simp only [Option.toList_some, List.map_append, List.map_cons, List.map_nil, V.int.injEq]
    · rw [upd_ne (ne_of_none e hL)]
      exact S4 _ _ (S3 _ _ (S2 b o e))
  · rintro H2 ⟨hL2, S2⟩
    rw [List.length_map, List.take_length] at hL2
    obtain ⟨σ, eσ⟩ : ∃ σ : L2.St, σ = List.set [some (V.ref l), some (.ref p1), some (.ref p2), some (.ref d), some (.ref q1), some (.ref q2), some (.bl bb), none, none] 7 (some (V.ref L)) := ⟨_, rfl⟩
    have o1 : GvS C ns 9 f (tVar 1) σ H2 := gvs_var (by rw [eσ]; rfl) (z1.same S2) m1
    have o2 : GvS C ns 9 g (tVar 2) σ H2 := gvs_var (by rw [eσ]; rfl) (z2.same S2) m2
    unfold gName
    dsimp only
    rw [← eσ]
    refine gvs_cmp (E := E0) (K := K) (q := id) o1 o2 fun H3 e S3 he => ⟨e, rfl, ?_⟩
    refine ⟨_, by rw [eσ]; rfl, L, _, rfl, SqL.of (S3 _ _ hL2), _, rfl, ?_⟩
    have ee : e = ((ns.map fun n => decide (f n = g n)).all id) := by
      rw [Bool.eq_iff_iff, he, List.all_eq_true]
      constructor
      · intro h x hx
        obtain ⟨n, hn, rfl⟩ := List.mem_map.mp hx
        exact decide_eq_true (h n)
      · intro h n
        by_cases hn : n ∈ ns
        · exact of_decide_eq_true (h _ (List.mem_map.mpr ⟨n, hn, rfl⟩))
        · rw [m1.sup n hn, m2.sup n hn]
    rw [← ee]
    refine ⟨rfl, ?_⟩
    rw [decide_eq_true rfl]
    refine ⟨_, rfl, iteT' rfl ?_⟩
    refine gvs_cmp (E := E0) (K := K) (q := id) (o1.up S3) (gvs_remake (E := E0) hP (o1.up S3)) fun H4 e' S4 he' => ?_
    have e'' : e' = true := he'.mpr fun n => rfl
    subst e''
    exact k H4 (S2.trans (S3.trans S4))
end
end K17
set_option maxHeartbeats 8000000
namespace K17
open PySem PySem.Spec PyProof.Rows L2

/-! ### _law_equal_right, its first four statements -/
theorem fn1 {sp : Sp} {E : XK} {te : TE} {σ : L2.St} {H : Hp} {Q : VK} (h : te σ H (fun x H1 => sp [x] H1 Q E)) : tFn sp E (tCons te tNil) σ H Q := h
section
variable {P : Program} {w : World} {K : PySem.W.Frag} {mg : Str → Option Value} {base : Heap} {C CW : Addr}
theorem er_t1 {fr : Addr} {cdv : Value} {A : Around} {outer : List Env} {s : Shared} {H0 : Hp} (Kk : Kx P w K mg base C CW) (reprN : mg "repr" = none) (hsys : (K.lookup sysModules).isSome = true)
    {fW : Addr} {fdW : FuncData} (GW : FnOk P w K mg base CX0 7 fW fdW ["_law_size_here"] (spWhl C)) (kW : PySem.W.keepIn K (.ref fW) = true) (bW : Binds K fdW ["_law_size_here"] []) (gW : mg "_law_whole" = some (.ref fW))
    (hgu : (A.deeper (envOfC "_law_equal_right" (defScope sEr) s.heap.objs.size fr cdv)).guards = some [])
    (hr : Room 7 (A.deeper (envOfC "_law_equal_right" (defScope sEr) s.heap.objs.size fr cdv))) {t2 : TS}
    (ht : PSs (cxOf CX0 P w K mg base NEr "_law_equal_right" (defScope sEr) fr cdv A outer s H0 E0).nox ((defBody sEr).drop 4) t2) :
    ∃ t, PSs (cxOf CX0 P w K mg base NEr "_law_equal_right" (defScope sEr) fr cdv A outer s H0 E0).nox (defBody sEr) t ∧
      ∀ (D : Ends) (H : Hp) (l p1 p2 : Addr) (ns : List Str) (e1 e2 : Es) (f g : Str → Int), H l = some (.lst (ns.map V.str)) → Pool ns → ns.length ≤ 6 → SizeAt C H p1 e1 → SizeAt C H p2 e2 → Md ns 9 f e1 → Md ns 9 g e2 →
        (∀ H' d q1 q2 bb, Same H H' → t2 D [some (.ref l), some (.ref p1), some (.ref p2), some (.ref d), some (.ref q1), some (.ref q2), some (.bl bb), none, none] H') →
        t D [some (.ref l), some (.ref p1), some (.ref p2), none, none, none, none, none, none] H := by
  obtain ⟨⟨⟨Tc, _, _, _⟩, _, _, _, ⟨fe, fde, me, ie, ge, be⟩, hne⟩, ⟨fa, fda, ma, Ga, ba⟩, _, ⟨fn, Fn, kn, gn⟩, _, _⟩ := Kk
  have ge7 := ge.mono (k := 7) (by decide)
  have ge6 := ge.mono (k := 6) (by decide)
  have Ga7 := Ga.mono (k := 7) (by decide)
  refine ⟨_, pss_cons (ps_set (i := 3) scEr.nd rfl (.inl rfl) (pe_fnr (E := E0) Fn hr (by rfl) gn kn pass0 (pa_cons
      (pe_lc (own := [("_law_word", 8)]) (g := gName 8) (tt := tYes) (te := tDisp [(tVar 8, tC (.int 1))]) rfl scEr.nd (pi_list (pv 0))
        (blkOk_by (own := [("_law_word", 8)]) (N := NEr) (sc := defScope sEr) (by decide +kernel)) (fun _ _ _ _ _ => pg_name (i := 8) scEr.nd rfl (Or.inl rfl)) (fun _ _ _ _ _ => pts_nil)
        (fun _ _ _ _ _ => by exact pe_disp (pps_cons (pv 8) pe_int pps_nil) (by rfl) (by rfl) (fun z => by cases z) (by decide))) pa_nil)))
    (pss_cons (ps_par (i := 4) (j := 5) rfl scEr.nd rfl rfl (by decide) rfl rfl (pa_cons (pe_call GW hr rfl gW kW bW .nil pass0 (pa_cons (pv 1) pa_nil)) (pa_cons (pe_call GW hr rfl gW kW bW .nil pass0 (pa_cons (pv 2) pa_nil)) pa_nil)) (by rfl))
    (pss_cons (ps_set (i := 6) scEr.nd rfl (.inl rfl) (pe_cmpR op_eq (pe_meth (E := E0) (pv 4) Tc.cl ma Ga7 hr ba .nil pass0C (pa_cons (pv 3) pa_nil)) (pe_meth (E := E0) (pv 5) Tc.cl ma Ga7 hr ba .nil pass0C (pa_cons (pv 3) pa_nil)) (nomark _)))
    (pss_cons (ps_if (pt_cmpR op_ne (pe_callB (call_reprD hgu hr.units hsys) (by rfl) reprN (by decide +kernel) (pa_cons (pe_lst (pa_cons (pe_cmpR (op_own ge7 hr me ie be pass0 spEq_mono) (pv 4) (pv 5) (nomark _))
          (pa_cons (pe_cmpR (op_ownNe ge6 hr me ie Tc.co hne be pass0 spEq_mono) (pv 4) (pv 5) (nomark _)) pa_nil))) pa_nil))
        (pe_callB (call_reprD hgu hr.units hsys) (by rfl) reprN (by decide +kernel) (pa_cons (pe_lst (pa_cons (pv 6) (pa_cons (pe_not (pv 6)) pa_nil))) pa_nil)) (nomark _)) (pss_one (ps_ret pe_bl)) pss_nil) ht))), ?_⟩
  intro D H l p1 p2 ns e1 e2 f g hl hP h6 z1 z2 m1 m2 k
  have lP := hP.ln
  refine seq_set ?_
  refine fn1 ?_
  refine (rd_units (K := K) (j := 8) (a := 0) (l := l) (ns := ns) (by show 8 < 9; decide) rfl hl (by omega) fun H1 L ds S1 nL hL hnd hps => ?_)
  have hlen := Paired.length hps
  refine ⟨L, ds, ns.map unE, rfl, units_nof hP h6 hL hnd hps, fun H2 d ms S2 nd hd hsd hmem hml => ?_⟩
  have hmem' : ∀ n, n ∈ ms ↔ n ∈ ns := fun n => by rw [hmem, units_keys]
  have hN : NumD H2 d (noE ds.length (ns.map unE) ms) := noE_num hd hsd hml (fun n hn => hP.nm n ((hmem' n).mp hn)) fun n hn => by
    have z := (p6_gt _ (List.mem_of_mem_take (noV_mem ns (p6n.take ds.length) hP.nd (by rw [List.length_take, hlen]; show min ns.length 6 = ns.length; omega) ((hmem' n).mp hn)))).2
    omega
  have S02 := S1.trans S2
  refine ⟨_, rfl, p1, e1, ns, 9, f, rfl, z1.same S02, m1, hP, fun H3 q1 rs S3 zq1 nw1 mq1 => ?_⟩
  refine ⟨_, rfl, p2, e2, ns, 9, g, rfl, z2.same (S02.trans S3), m2, hP, fun H4 q2 us S4 zq2 nw2 mq2 => ?_⟩
  refine ⟨_, _, rfl, ?_⟩
  have hN4 := hN.same (S3.trans S4)
  have hkn : ∀ n ∈ ns, n ∈ (noE ds.length (ns.map unE) ms).map (·.1) := fun n hn => by
    rw [noE_keys]
    exact (hmem' n).mpr hn
  obtain ⟨σ, eσ⟩ : ∃ σ : L2.St, σ = List.set (List.set (List.set [some (V.ref l), some (.ref p1), some (.ref p2), none, none, none, none, none, none] 3 (some (V.ref d))) 4 (some (V.ref q1))) 5 (some (V.ref q2)) := ⟨_, rfl⟩
  have o1 : GvS C ns 9 (absF f) (tVar 4) σ H4 := gvs_var (by rw [eσ]; rfl) (zq1.same S4) mq1
  have o2 : GvS C ns 9 (absF g) (tVar 5) σ H4 := gvs_var (by rw [eσ]; rfl) zq2 mq2
  have h3 : σ[3]? = some (some (V.ref d)) := by rw [eσ]; rfl
  have i1 := gvi_at (E := E0) (CW := CW) hP (by decide) md_abs o1 hN4 hkn h3
  have i2 := gvi_at (E := E0) (CW := CW) hP (by decide) md_abs o2 hN4 hkn h3
  rw [← eσ]
  refine i1 _ _ (Same.refl H4) fun H5 S5 => ?_
  refine i2 _ _ S5 fun H6 S6 => ⟨rfl, ?_⟩
  have S56 := S5.trans S6
  have hone := values_one (f := fun n => (absF f n).toNat) (g := fun n => (absF g n).toNat) hP.nd h6 (nOf (noE ds.length (ns.map unE) ms)) fun n hn => by
    rw [noE_nOf ((hmem' n).mpr hn), hlen]
  have hiff : (decide (V.int ((prodN ns (fun n => (absF f n).toNat) (nOf (noE ds.length (ns.map unE) ms)) : Nat) : Int) = V.int ((prodN ns (fun n => (absF g n).toNat) (nOf (noE ds.length (ns.map unE) ms)) : Nat) : Int))) = true ↔ ∀ n, absF f n = absF g n := by
    rw [decide_eq_true_eq, V.int.injEq, Int.ofNat_inj, hone]
    constructor
    · intro h n
      by_cases hn : n ∈ ns
      · have := h n hn
        have := md_abs (f := f) n
        have := md_abs (f := g) n
        omega
      · unfold absF
        rw [m1.sup n hn, m2.sup n hn]
    · intro h n hn
      rw [h n]
  generalize decide (V.int ((prodN ns (fun n => (absF f n).toNat) (nOf (noE ds.length (ns.map unE) ms)) : Nat) : Int) = V.int ((prodN ns (fun n => (absF g n).toNat) (nOf (noE ds.length (ns.map unE) ms)) : Nat) : Int)) = bb at hiff ⊢
  show tSeq (tIfS (tTest (tOp rNe (tCB rRepr (tCons (tLst (tCons (tOp (rOwn C (spEqS K C) E0 id) (tVar 4) (tVar 5)) (tCons (tOp (rOwn C (spEqS K C) E0 not) (tVar 4) (tVar 5)) tNil))) tNil)) (tCB rRepr (tCons (tLst (tCons (tVar 6) (tCons (tNotV (tVar 6)) tNil))) tNil)))) (tRet (tC (V.bl false))) tNext) t2 D (σ.set 6 (some (V.bl bb))) H6
  obtain ⟨τ, eτ⟩ : ∃ τ : L2.St, τ = σ.set 6 (some (V.bl bb)) := ⟨_, rfl⟩
  rw [← eτ]
  have u1 : GvS C ns 9 (absF f) (tVar 4) τ H6 := gvs_var (by rw [eτ, eσ]; rfl) ((zq1.same S4).same S56) mq1
  have u2 : GvS C ns 9 (absF g) (tVar 5) τ H6 := gvs_var (by rw [eτ, eσ]; rfl) (zq2.same S56) mq2
  refine gvs_cmp (E := E0) (K := K) (q := id) u1 u2 fun H7 b1 S7 hb1 => ?_
  refine gvs_cmp (E := E0) (K := K) (q := not) (u1.up S7) (u2.up S7) fun H8 b2 S8 hb2 => ?_
  have e1' : b1 = bb := by rw [Bool.eq_iff_iff, hb1, hiff]
  have e2' : b2 = bb := by rw [Bool.eq_iff_iff, hb2, hiff]
  subst e1'
  subst e2'
  have ok := dB2_ok b2 (!b2)
  refine ⟨by rw [sizeLine_eq]; show 2 ≤ 16777216; decide, fun p np => ⟨p, dB2 b2 (!b2), rfl, .lst upd_same (.cons (.bl b2) (.cons (.bl (!b2)) .nil)), ok.1, ok.2.1, ok.2.2, ?_⟩⟩
  have S9 := fresh_upd (o := .lst [V.bl b2, V.bl (!b2)]) np
  refine ⟨_, by rw [eτ, eσ]; rfl, _, by rw [eτ, eσ]; rfl, _, rfl, ?_⟩
  refine ⟨by rw [sizeLine_eq]; show 2 ≤ 16777216; decide, fun q nq => ⟨q, dB2 b2 (!b2), rfl, .lst upd_same (.cons (.bl b2) (.cons (.bl (!b2)) .nil)), ok.1, ok.2.1, ok.2.2, ?_⟩⟩
  have S10 := fresh_upd (o := .lst [V.bl b2, V.bl (!b2)]) nq
  refine ⟨rfl, ?_⟩
  rw [decide_eq_true rfl]
  refine ⟨_, rfl, iteF (next_ ?_)⟩
  rw [eτ, eσ]
  exact k _ d q1 q2 b2 (S02.trans (S3.trans (S4.trans (S56.trans (S7.trans (S8.trans (S9.trans S10)))))))
theorem ok_er {f : Addr} {fd : FuncData} (F : Fun K "_law_equal_right" "_law_equal_right" sEr f fd) (Kk : Kx P w K mg base C CW) (reprN : mg "repr" = none) (allN : mg "all" = none) (hsys : (K.lookup sysModules).isSome = true)
    (exps : ∃ f fd, Meth K C "exponents" f ∧ FnOk P w K mg base CX0 1 f fd ["self"] (spExpo C) ∧ Binds K fd ["self"] [])
    {fW : Addr} {fdW : FuncData} (GW : FnOk P w K mg base CX0 7 fW fdW ["_law_size_here"] (spWhl C)) (kW : PySem.W.keepIn K (.ref fW) = true) (bW : Binds K fdW ["_law_size_here"] []) (gW : mg "_law_whole" = some (.ref fW)) :
    FnG P w K mg base 8 f fd ["_law_names_here", "_law_one", "_law_two"] (spEr C) := by
  refine F.okG scEr (fun vs H Q h => ?_) (fun cdv A outer s H vs Q hgu hr h => ?_)
  · obtain ⟨l, p1, p2, ns, e1, e2, f', g, rfl, _⟩ := h
    rfl
  · obtain ⟨l, p1, p2, ns, e1, e2, f', g, rfl, hl, hP, h6, z1, z2, m1, m2, k⟩ := h
    have hgu' : (A.deeper (envOfC "_law_equal_right" (defScope sEr) s.heap.objs.size f cdv)).guards = some [] := hgu
    obtain ⟨t2, h2, k2⟩ := er_t2 (outer := outer) (H0 := H) Kk reprN allN exps hr
    obtain ⟨t1, h1, k1⟩ := er_t1 Kk reprN hsys GW kW bW gW hgu' hr h2
    refine ⟨t1, h1, ?_⟩
    refine k1 _ H l p1 p2 ns e1 e2 f' g hl hP h6 z1 z2 m1 m2 fun H1 d q1 q2 bb S1 => ?_
    exact k2 _ H1 l p1 p2 d q1 q2 bb ns e1 e2 f' g (S1 _ _ hl) hP (z1.same S1) (z2.same S1) m1 m2 fun H2 S2 => k H2 (S1.trans S2)
end
end K17
set_option maxHeartbeats 8000000
namespace K17
open PySem PySem.Spec PyProof.Rows L2 TL

/-! ### texts of models, read back -/
theorem len_app (x y : Str) : (x ++ y).length = x.length + y.length := by
  rw [len_tl, len_tl, len_tl, tl_append, List.length_append]
theorem big_of {v : Int} (h : -9 ≤ v ∧ v ≤ 9) : Big v := by
  have h60 : (9 : Int) < 10 ^ 60 := by decide
  unfold Big
  generalize (10 : Int) ^ 60 = T at *
  omega
theorem dec_small {v : Int} (h : -9 ≤ v ∧ v ≤ 9) : (decS v).length ≤ 2 := by
  have z : ∀ i : Fin 19, (decS ((i.val : Int) - 9)).length ≤ 2 := by decide +kernel
  have q := z ⟨(v + 9).toNat, by omega⟩
  have e : (((v + 9).toNat : Nat) : Int) - 9 = v := by omega
  dsimp only at q
  rw [e] at q
  exact q
theorem md_big {ns : List Str} {f : Str → Int} {es : Es} (h : Md ns 9 f es) : ∀ q ∈ es, Big q.2 := fun q hq => big_of (h.bq hq)
theorem md_val {ns : List Str} {f : Str → Int} {es : Es} (hP : Pool ns) (h : Md ns 9 f es) : Val (texE es) es := ⟨rfl, h.sd, h.nm hP, h.nz⟩
theorem md_sht {ns : List Str} {f : Str → Int} {es : Es} (hP : Pool ns) (h : Md ns 9 f es) : Sht (texE es) := by
  have hl := h.len hP
  have hx := tex_len (fun q hq => ⟨nm_len (h.nm hP q hq), md_big h q hq⟩) (show es.length < 64 by omega)
  by_cases h0 : es = []
  · subst h0
    have e : texE [] = "1" := rfl
    rw [e]
    refine ⟨by decide, by decide, fun p hp => ?_⟩
    have z := sub_len2 (split_sub sepS hp)
    have hnd : nDg p ≤ p.length := by
      rw [len_tl]
      exact List.length_filter_le _ _
    have e2 : ("1" : Str).length = 1 := by decide
    omega
  · have hw := (md_val hP h).words h0
    refine ⟨by omega, ?_, fun p hp => ?_⟩
    · have z := split_len sepS (texE es)
      rw [hw, List.length_map] at z
      omega
    · rw [hw] at hp
      obtain ⟨q, hq, rfl⟩ := List.mem_map.mp hp
      have hnd : nDg (pwT q.1 q.2) ≤ (pwT q.1 q.2).length := by
        rw [len_tl]
        exact List.length_filter_le _ _
      have z1 := nm_len (h.nm hP q hq)
      have z2 := dec_small (h.bq hq)
      have z3 : (pwT q.1 q.2).length ≤ 40 := by
        unfold pwT
        split
        · omega
        · rw [len_app, len_app]
          have e1 : ("^" : Str).length = 1 := by decide
          omega
      omega
section
variable {P : Program} {w : World} {K : PySem.W.Frag} {mg : Str → Option Value} {base : Heap}
/-- a def that may raise, called by keywords where it does not -/
theorem FnOk.kwx {k : Nat} {f : Addr} {fd : FuncData} {ps ks : List Str} {sp : Sp} {us : List Value} {xs : List V} (F : FnOk P w K mg base (L2.CX P w) k f fd ps sp) (hv : Vals xs us)
    (hb : ∀ (s : Shared) (ws : List Value), K.In s.heap → ws.length = ks.length → BindsTo s fd ⟨us, ks.zip ws⟩ (ps.zip (us ++ ws))) : FnKw P w K mg base k f us ks (fun zs H Q _ => sp (xs ++ zs) H Q E0) := fun A outer s H ws zs Q E hr e0 r hl h =>
  codeAny_mono (F.run A outer s H ⟨us, ks.zip ws⟩ (us ++ ws) (xs ++ zs) Q E0 hr e0 (hb s ws (e0.mod.kin.keeps fun b o e => (e0.bs b o e).1) (r.length.symm.trans hl)) (hv.append r) h) fun r s' hq => by
    match r, hq with
    | .ok (.ret u), hq => exact hq
    | .error e, hq =>
      obtain ⟨_, _, _, _, _, _, _, _, _, _, _, _, hE⟩ := hq
      exact hE.elim
/-- Size(exponents = ..) -/
theorem init_kb {f : Addr} {fd : FuncData} (F : FnD K "__init__" "Size.__init__" sInit [.non] f fd) : ∃ gg, KBn K fd ["self", "exponents"] 1 ["exponents"] gg (fun vs zs => vs ++ zs) := by
  obtain ⟨its, h⟩ := FunD.kbindsD (ps := ["self", "exponents"]) F 1 ["exponents"] (fun us _ ws => us ++ ws) (fun z => nomatch z) (fun r _ rz => r.append rz) fun T kV doc pm an cdv ct us its ws l1 l2 l3 => by
    obtain ⟨u, rfl⟩ := one_of l1
    obtain ⟨i, rfl⟩ := one_of (ws := its) l2
    obtain ⟨v, rfl⟩ := one_of (ws := ws) l3
    exact ⟨_, rfl, rfl⟩
  exact ⟨_, h⟩
end
section
variable {C CT : Addr} {ns : List Str} {b : Int} {f : Str → Int} {ta tb : TE} {σ : L2.St} {H : Hp} {E : XK} {K : PySem.W.Frag}
/-- Size.read(text = str(one)) -/
theorem gvs_read (hP : Pool ns) (h1 : GvS C ns 9 f ta σ H) : GvS C ns 9 f (tCMethK C (fun zs H Q _ => spRead K C CT ([V.ref C] ++ zs) H Q E0) E 1 (tC (.ref C)) (tCons (tCB (rStrO C (spStr C) E0) (tCons ta tNil)) tNil)) σ H := by
  intro H1 Q S k
  refine ⟨rfl, ?_⟩
  refine h1 H1 _ S fun H2 r es S2 z m => ?_
  obtain ⟨dx, D, y, _⟩ := id z
  refine ⟨r, dx, _, rfl, y, r, es, rfl, z, md_big m, fun H3 S3 => ⟨_, rfl, rfl, ?_⟩⟩
  refine ⟨_, rfl, .inl ⟨_, rfl, md_sht hP m, fun fs hv H4 q S4 z4 => ?_, fun hno => absurd (md_val hP m) (hno es)⟩⟩
  have e : fs = es := hv.uniq (md_val hP m)
  subst e
  exact k H4 q fs (S2.trans (S3.trans S4)) z4 m
/-- Size(exponents = one.exponents()), Size(exponents = None) -/
theorem gvs_makeK (hP : Pool ns) (h1 : GvS C ns b f ta σ H) : GvS C ns b f (tMakeK C (spInit C) E0 1 (tCons (tMeth C "exponents" (spExpo C) [] E ta tNil) tNil)) σ H := by
  intro H1 Q S k
  refine h1 H1 _ S fun H2 r es S2 z m => ?_
  obtain ⟨dx, D, y, _⟩ := id z
  refine ⟨r, dx, _, rfl, y, rfl, r, es, rfl, z, fun l nl => ⟨rfl, ?_⟩⟩
  have S3 := fresh_upd (o := .dK (kv es)) nl
  have lm := m.len hP
  refine rd_mk (R := es) upd_same m.sd.nodup (by omega) (m.nm hP) fun H4 r4 rs dx4 D4 S4 z4 lk4 _ _ _ => ⟨rfl, ?_⟩
  obtain ⟨_, _, _, _, sd, _⟩ := id z4
  have e : rs = es := sd.one m.sd fun n => by rw [lk4, m.lk, m.g]
  subst e
  exact k H4 r4 rs (S2.trans (S3.trans S4)) z4 m
theorem gvs_makeK0 : GvS C ns 0 (fun _ => 0) (tMakeK C (spInit C) E0 1 (tCons (tC .non) tNil)) σ H := fun H1 Q S k =>
  ⟨rfl, rd_mk0 fun H' r S' z _ => ⟨rfl, k H' r [] S' z (Md.nil ns)⟩⟩
/-- methods by keywords -/
theorem gvs_overK (hP : Pool ns) {c : Int} {g : Str → Int} (h1 : GvS C ns b f ta σ H) (h2 : GvS C ns c g tb σ H) : GvS C ns (b + c) (fun n => f n - g n) (tMethK C "over" (spOver C) E 1 ta (tCons tb tNil)) σ H := by
  intro H1 Q S k
  refine h1 H1 _ S fun H2 r1 es S2 z1 m1 => ?_
  obtain ⟨dx1, D1, y1, _⟩ := id z1
  refine ⟨r1, dx1, _, rfl, y1, rfl, ?_⟩
  refine h2 H2 _ (S.trans S2) fun H3 r2 fs S3 z2 m2 => ⟨rfl, ?_⟩
  have l1 := m1.len hP
  have l2 := m2.len hP
  refine ⟨r1, r2, es, fs, rfl, z1.same S3, z2, by omega, fun H4 r3 rs S4 z3 nw lk => ?_⟩
  refine k H4 r3 rs (S2.trans (S3.trans S4)) z3 (Md.of z3 (fun n => by rw [lk, m1.g, m2.g]) (fun n hn => by rw [m1.sup n hn, m2.sup n hn]; rfl) fun n => ?_)
  have := m1.bd n
  have := m2.bd n
  omega
theorem gvs_powerK {m : Nat} (hm : (m : Int) < 2 ^ 64) (h1 : GvS C ns b f ta σ H) : GvS C ns (b * m) (fun n => f n * m) (tMethK C "power" (spPower C) E 1 ta (tCons (tC (.int (m : Int))) tNil)) σ H := by
  intro H1 Q S k
  refine h1 H1 _ S fun H2 r1 es S2 z1 m1 => ?_
  obtain ⟨dx1, D1, y1, _⟩ := id z1
  refine ⟨r1, dx1, _, rfl, y1, rfl, rfl, ?_⟩
  refine ⟨r1, es, (m : Int), rfl, z1, by omega, hm, fun H4 r3 rs S4 z3 nw lk => ?_⟩
  refine k H4 r3 rs (S2.trans S4) z3 (Md.of z3 (fun n => by rw [lk, m1.g]) (fun n hn => by rw [m1.sup n hn, Int.zero_mul]) fun n => ?_)
  have hb := b_nn m1
  have hd := m1.bd n
  have k1 : f n * (m : Int) ≤ b * m := Int.mul_le_mul_of_nonneg_right hd.2 (by omega)
  have k2 : -f n * (m : Int) ≤ b * m := Int.mul_le_mul_of_nonneg_right (by omega) (by omega)
  rw [Int.neg_mul] at k2
  exact ⟨by omega, k1⟩
theorem gvi_exp {n : Str} {i : Nat} (hn : isNm n = true) (h1 : GvS C ns b f ta σ H) (hi : σ[i]? = some (some (.str n))) : GvI (f n) (tMeth C "exponent" (spExp1 C) [] E ta (tCons (tVar i) tNil)) σ H := by
  intro H1 Q S k
  refine h1 H1 _ S fun H2 r es S2 z m => ?_
  obtain ⟨dx, D, y, _⟩ := id z
  refine ⟨r, dx, _, rfl, y, rfl, _, hi, r, es, n, rfl, z, hn, fun H3 S3 => ?_⟩
  rw [m.g]
  exact k H3 (S2.trans S3)
theorem gvi_expK {n : Str} {i : Nat} (hn : isNm n = true) (h1 : GvS C ns b f ta σ H) (hi : σ[i]? = some (some (.str n))) : GvI (f n) (tMethK C "exponent" (spExp1 C) E 1 ta (tCons (tVar i) tNil)) σ H := by
  intro H1 Q S k
  refine h1 H1 _ S fun H2 r es S2 z m => ?_
  obtain ⟨dx, D, y, _⟩ := id z
  refine ⟨r, dx, _, rfl, y, rfl, _, hi, rfl, r, es, n, rfl, z, hn, fun H3 S3 => ?_⟩
  rw [m.g]
  exact k H3 (S2.trans S3)
theorem gvi_atpK {i : Nat} {d : Addr} {ms : Es} (hP : Pool ns) (hb : b < 2 ^ 64) (h1 : GvS C ns b f ta σ H) (hd : PtD H d ms) (hi : σ[i]? = some (some (.ref d))) : GvI (dotN ns f (g0 ms)) (tMethK C "at_point" (spAtP C) E 1 ta (tCons (tVar i) tNil)) σ H := by
  intro H1 Q S k
  refine h1 H1 _ S fun H2 r es S2 z m => ?_
  obtain ⟨dx, D, y, _⟩ := id z
  have p := hd.same (S.trans S2)
  refine ⟨r, dx, _, rfl, y, rfl, _, hi, rfl, r, d, es, ms, rfl, z, fun q hq => ?_, p.at_, p.ln, p.nd, p.nm, p.nn, fun H3 S3 => ?_⟩
  · have := m.bq hq
    exact ⟨by omega, by omega⟩
  · rw [ptV_md m hP ms]
    exact k H3 (S2.trans S3)
theorem gvi_atK {CW : Addr} {i : Nat} {d : Addr} {ms : Es} (hP : Pool ns) (hb : b ≤ 33) (hf : ∀ n, 0 ≤ f n) (h1 : GvS C ns b f ta σ H) (hd : NumD H d ms) (hk : ∀ n ∈ ns, n ∈ ms.map (·.1)) (hi : σ[i]? = some (some (.ref d))) :
    GvI ((prodN ns (fun n => (f n).toNat) (nOf ms) : Nat) : Int) (tMethK C "at" (spAt C CW) E 1 ta (tCons (tVar i) tNil)) σ H := by
  intro H1 Q S k
  refine h1 H1 _ S fun H2 r es S2 z m => ?_
  obtain ⟨dx, D, y, _⟩ := id z
  refine ⟨r, dx, _, rfl, y, rfl, _, hi, rfl, ?_⟩
  have p := hd.same (S.trans S2)
  have hn : ∀ q ∈ es, q.1 ∈ ms.map (·.1) := fun q hq => hk _ (m.key hq)
  have hl := m.len hP
  have hB : bnd es (fun _ => 30) ≤ 10000 := by
    have z1 := bnd_le (B := 33) es fun q hq => by
      have := m.bq hq
      omega
    have z2 : es.length * (33 * 30) ≤ 10 * (33 * 30) := Nat.mul_le_mul_right _ hl
    omega
  refine ⟨r, d, es, ms, fun _ => 30, rfl, z, p, hn, hB, fun q hq => (p.look (hn q hq)).2.2, fun _ H3 S3 => ?_, fun hnd => ?_⟩
  · rw [dnV_md m hf, Nat.div_one, upV_md m hP]
    exact k H3 (S2.trans S3)
  · rw [dnV_md m hf] at hnd
    exact absurd (Nat.one_dvd _) hnd
end
end K17
set_option maxHeartbeats 8000000
namespace K17
open PySem PySem.Spec PyProof.Rows L2

/-! ### _law_named_right, its last two statements -/
abbrev sNr : Stmt := top 71
def NNr : List Str := ["_law_rng_here", "_law_names_here", "_law_one", "_law_two", "_law_word", "_law_spot", "_law_given", "_law_first", "_law_told", "_law_due", "_law_label"]
def KB (K : PySem.W.Frag) (fd : FuncData) (ks ps : List Str) : Prop := ∀ (s : Shared) (a : Value) (ws : List Value), K.In s.heap → ws.length = ks.length → BindsTo s fd ⟨[a], ks.zip ws⟩ (ps.zip (a :: ws))
/-- what stands of calls by keywords -/
structure Kn (P : Program) (w : World) (K : PySem.W.Frag) (mg : Str → Option Value) (base : Heap) (C CW CT : Addr) : Prop where
  kx : Kx P w K mg base C CW
  nofK : ∃ f, FnKw P w K mg base 7 f [] ["points"] spNof ∧ PySem.W.keepIn K (.ref f) = true ∧ mg "numbers_of" = some (.ref f)
  exp1 : ∃ f fd, Meth K C "exponent" f ∧ FnOk P w K mg base CX0 2 f fd ["self", "name"] (spExp1 C) ∧ Binds K fd ["self", "name"] [] ∧ KB K fd ["name"] ["self", "name"]
  over : ∃ f fd, Meth K C "over" f ∧ FnOk P w K mg base CX0 5 f fd ["self", "other"] (spOver C) ∧ Binds K fd ["self", "other"] [] ∧ KB K fd ["other"] ["self", "other"]
  power : ∃ f fd, Meth K C "power" f ∧ FnOk P w K mg base CX0 5 f fd ["self", "count"] (spPower C) ∧ Binds K fd ["self", "count"] [] ∧ KB K fd ["count"] ["self", "count"]
  at_ : ∃ f fd, Meth K C "at" f ∧ FnOk P w K mg base (L2.CX P w) 5 f fd ["self", "numbers"] (spAt C CW) ∧ Binds K fd ["self", "numbers"] [] ∧ KB K fd ["numbers"] ["self", "numbers"]
  atp : ∃ f fd, Meth K C "at_point" f ∧ FnOk P w K mg base CX0 5 f fd ["self", "point"] (spAtP C) ∧ Binds K fd ["self", "point"] [] ∧ KB K fd ["point"] ["self", "point"]
  init : ∃ f fd gg, Mk K C f ∧ FnOk P w K mg base CX0 3 f fd ["self", "exponents"] (spInit C) ∧ KBn K fd ["self", "exponents"] 1 ["exponents"] gg (fun vs zs => vs ++ zs)
  exps : ∃ f fd, Meth K C "exponents" f ∧ FnOk P w K mg base CX0 1 f fd ["self"] (spExpo C) ∧ Binds K fd ["self"] []
  read : ∃ mc, ClX.CRead K C mc ∧ ∃ p g, ClX.CMet K C mc "read" p g ∧ FnKw P w K mg base 6 g [.ref C] ["text"] (fun zs H Q _ => spRead K C CT ([V.ref C] ++ zs) H Q E0)
  str : ∃ f fd, FnOk P w K mg base CX0 5 f fd ["self"] (spStr C) ∧ PySem.W.findIn K (.ref C) "__str__" = some (some (.ref f)) ∧ PySem.W.isFn K (.ref f) = true ∧ Binds K fd ["self"] []
  primes : ∃ f fd, GFn P w K mg base 3 f fd ["many"] spPrimes ∧ PySem.W.keepIn K (.ref f) = true ∧ mg "primes" = some (.ref f) ∧ ∀ (s : Shared) (ws : List Value), K.In s.heap → ws.length = 1 → BindsTo s fd ⟨[], (["many"] : List Str).zip ws⟩ ((["many"] : List Str).zip ws)
  isname : ∃ f, FnKw P w K mg base 7 f [] ["value"] (spIsName K) ∧ PySem.W.keepIn K (.ref f) = true ∧ mg "is_name" = some (.ref f)
  isnum : ∃ f, FnKw P w K mg base 7 f [] ["value"] spIsNum ∧ PySem.W.keepIn K (.ref f) = true ∧ mg "is_numbers" = some (.ref f)
  ispt : ∃ f, FnKw P w K mg base 7 f [] ["value"] spIsPt ∧ PySem.W.keepIn K (.ref f) = true ∧ mg "is_point" = some (.ref f)
  strN : mg "str" = none
  listN : mg "list" = none
  reprN : mg "repr" = none
def dB3 : PyData := .list [.bool true, .bool true, .bool true]
theorem dB3_ok : dB3.showable = true ∧ dB3.depth ≤ 60 ∧ dB3.shown.length ≤ sizeLine := by
  have h : dB3.showable = true ∧ dB3.depth ≤ 60 ∧ dB3.shown.length ≤ 1000 := by decide +kernel
  exact ⟨h.1, h.2.1, Nat.le_trans h.2.2 (by rw [sizeLine_eq]; decide)⟩
section
variable {P : Program} {w : World} {K : PySem.W.Frag} {mg : Str → Option Value} {base : Heap} {C CW CT : Addr}
theorem scNr : FnScope NNr ["_law_rng_here", "_law_names_here", "_law_one", "_law_two"] (defScope sNr) :=
  ⟨rfl, rfl, rfl, by decide +kernel, rfl, by decide +kernel, by decide +kernel⟩
theorem nr_t3 {fr : Addr} {cdv : Value} {A : Around} {outer : List Env} {s : Shared} {H0 : Hp} (Kk : Kn P w K mg base C CW CT) (hsys : (K.lookup sysModules).isSome = true)
    (hgu : (A.deeper (envOfC "_law_named_right" (defScope sNr) s.heap.objs.size fr cdv)).guards = some [])
    (hr : Room 7 (A.deeper (envOfC "_law_named_right" (defScope sNr) s.heap.objs.size fr cdv))) :
    ∃ t, PSs (cxOf CX0 P w K mg base NNr "_law_named_right" (defScope sNr) fr cdv A outer s H0 E0).nox ((defBody sNr).drop 5) t ∧
      ∀ (D : Ends) (H : Hp) (x0 x1 x3 x7 x8 x9 : Option V) (p1 d5 d6 : Addr) (n : Str) (ns : List Str) (e1 ms5 ms6 : Es) (f : Str → Int), Pool ns → n ∈ ns → SizeAt C H p1 e1 → Md ns 9 f e1 → PtD H d5 ms5 → NumD H d6 ms6 →
        (∀ H', Same H H' → D.rt (.bl true) H') →
        t D [x0, x1, some (.ref p1), x3, some (.str n), some (.ref d5), some (.ref d6), x7, x8, x9, none] H := by
  obtain ⟨⟨⟨⟨Tc, _, _, _⟩, ⟨fi, fdi, M, gi, bi, bi0⟩, _, _, ⟨fe, fde, me, ie, ge, be⟩, hne⟩, _, _, _, _, _⟩, _, _, _, _, _, _, ⟨fk, fdk, gg, Mk', gk, bk⟩, _, ⟨mc, CR, pr, gr, CM, FR⟩, ⟨fs, fds, Gs, ms, is, bs⟩, ⟨fp, fdp, Gp, kp, mp, bp⟩, ⟨f1, F1, k1, m1⟩, ⟨f2, F2, k2, m2⟩, ⟨f3, F3, k3, m3⟩, strN, listN, reprN⟩ := Kk
  have ge6 := ge.mono (k := 6) (by decide)
  have gi6 := gi.mono (k := 6) (by decide)
  have gk6 := gk.mono (k := 6) (by decide)
  have hr3 : Room 3 (A.deeper (envOfC "_law_named_right" (defScope sNr) s.heap.objs.size fr cdv)) := hr.mono (by decide)
  have hr6 : Room 6 (A.deeper (envOfC "_law_named_right" (defScope sNr) s.heap.objs.size fr cdv)) := hr.mono (by decide)
  refine ⟨_, pss_cons (ps_if (PW.pt (pw_or (pt_cmpR (op_ownNe ge6 hr me ie Tc.co hne be pass0 spEq_mono) (pe_cmethK (E := E0) (pe_glob (v := .ref C) (by rfl) Tc.gC rfl) CR CM FR hr6 (pk_cons (pe_callTy (call_strO (E := E0) Gs hr ms is bs pass0) (by rfl) strN (by decide +kernel) (pa_cons (pv 2) pa_nil)) pk_nil)) (pv 2) (nomark _))
      (pw_or (pt_cmpR (op_neD hr.units) (pe_listG (E := E0) (pgen_kw (E := E0) (ks := ["many"]) Gp hr3 (by rfl) mp kp bp (pk_cons pe_int pk_nil)) pass0C (fun _ _ _ z => z.elim) hr6 (by rfl) listN (by decide +kernel)) (pe_lst (pa_cons pe_int (pa_cons pe_int (pa_cons pe_int pa_nil)))) (nomark _))
      (pw_or1 (pt_cmpR (op_ownNe ge6 hr me ie Tc.co hne be pass0 spEq_mono) (pe_makeK (E := E0) Mk' gk6 hr (by rfl) Tc.gC bk pass0 (pk_cons pe_non pk_nil)) (pe_make0 M gi6 hr rfl Tc.gC bi0 (.cons (show RelV .non .none from rfl) .nil) pass0) (nomark _)))))) (pss_one (ps_ret pe_bl)) pss_nil)
    (pss_one (ps_ret (pe_cmpR op_eq (pe_callB (call_reprD hgu hr.units hsys) (by rfl) reprN (by decide +kernel) (pa_cons (pe_lst (pa_cons (pe_kw (E := E0) F1 hr (by rfl) m1 k1 (pk_cons (pv 4) pk_nil)) (pa_cons (pe_kw (E := E0) F2 hr (by rfl) m2 k2 (pk_cons (pv 6) pk_nil)) (pa_cons (pe_kw (E := E0) F3 hr (by rfl) m3 k3 (pk_cons (pv 5) pk_nil)) pa_nil)))) pa_nil))
        (pe_callB (call_reprD hgu hr.units hsys) (by rfl) reprN (by decide +kernel) (pa_cons (pe_lst (pa_cons pe_bl (pa_cons pe_bl (pa_cons pe_bl pa_nil)))) pa_nil)) (nomark _)))), ?_⟩
  intro D H x0 x1 x3 x7 x8 x9 p1 d5 d6 n ns e1 ms5 ms6 f hP hn z1 m1' h5 h6 k
  have o1 : GvS C ns 9 f (tVar 2) [x0, x1, some (V.ref p1), x3, some (V.str n), some (V.ref d5), some (V.ref d6), x7, x8, x9, none] H := gvs_var rfl z1 m1'
  refine fls_ne (E := E0) (K := K) (gvs_read (E := E0) (K := K) (CT := CT) hP o1) o1 (fun _ => rfl) H _ (Same.refl H) fun H1 S1 => iteF ?_
  -- list(primes(many = 3)) != [2, 3, 5]
  refine ⟨rfl, 3, rfl, by decide, fun H2 S2 p np => ?_⟩
  have S3 := fresh_upd (o := .lst ((p6.take 3).map V.int)) np
  refine ⟨by rw [sizeLine_eq]; show 3 ≤ 16777216; decide, fun q nq => ?_⟩
  have S4 := fresh_upd (o := .lst [V.int 2, V.int 3, V.int 5]) nq
  refine ⟨.list [.int 2, .int 3, .int 5], .list [.int 2, .int 3, .int 5], .lst (SqL.of (S4 _ _ upd_same)) (.cons (.int 2) (.cons (.int 3) (.cons (.int 5) .nil))), .lst (SqL.of upd_same) (.cons (.int 2) (.cons (.int 3) (.cons (.int 5) .nil))), by decide, by decide, _, rfl, ?_⟩
  refine iteF ?_
  have S14 := S1.trans (S2.trans (S3.trans S4))
  refine fls_ne (E := E0) (K := K) (ns := ns) (gvs_makeK0 (C := C)) (gvs_new (C := C)) (fun _ => rfl) _ _ (Same.refl _) fun H5 S5 => iteF (next_ ?_)
  have S15 := S14.trans S5
  have hnm := hP.nm n hn
  have h5' := h5.same S15
  refine ⟨_, rfl, rfl, .inl ⟨n, rfl, by have := nm_len hnm; omega, fun H6 S6 => ?_⟩⟩
  have h6' := (h6.same S15).same S6
  rw [hnm]
  refine ⟨_, rfl, rfl, d6, ms6, rfl, h6'.at_, h6'.len, h6'.nd, h6'.nm, h6'.pos, fun H7 S7 => ?_⟩
  have h5'' := h5'.same (S6.trans S7)
  refine ⟨_, rfl, rfl, d5, ms5, rfl, h5''.at_, h5''.ln, h5''.nd, h5''.nm, h5''.nn, fun H8 S8 => ?_⟩
  refine ⟨by rw [sizeLine_eq]; show 3 ≤ 16777216; decide, fun r nr => ⟨r, dB3, rfl, .lst upd_same (.cons (.bl true) (.cons (.bl true) (.cons (.bl true) .nil))), dB3_ok.1, dB3_ok.2.1, dB3_ok.2.2, ?_⟩⟩
  have S9 := fresh_upd (o := .lst [V.bl true, V.bl true, V.bl true]) nr
  refine ⟨by rw [sizeLine_eq]; show 3 ≤ 16777216; decide, fun r' nr' => ⟨r', dB3, rfl, .lst upd_same (.cons (.bl true) (.cons (.bl true) (.cons (.bl true) .nil))), dB3_ok.1, dB3_ok.2.1, dB3_ok.2.2, ?_⟩⟩
  have S10 := fresh_upd (o := .lst [V.bl true, V.bl true, V.bl true]) nr'
  refine ⟨rfl, ?_⟩
  rw [decide_eq_true rfl]
  exact k _ (S15.trans (S6.trans (S7.trans (S8.trans (S9.trans S10)))))
end
end K17
set_option maxHeartbeats 8000000
namespace K17
open PySem PySem.Spec PyProof.Rows L2

/-! ### _law_named_right, its third to fifth statements -/
def SzR (C : Addr) (a b : Addr) (H : Hp) : Prop := ∃ es, SizeAt C H a es ∧ SizeAt C H b es
def DNr (C : Addr) : Eqv := fun x y H => DFlat x y H ∨ DIns C (SzR C) x y H
theorem mon_nr (C : Addr) : Mon (DNr C) := mon_flat.or (mon_ins fun a b H H' e ⟨es, h1, h2⟩ => ⟨es, h1.same e, h2.same e⟩)
theorem dnr_int {C : Addr} {H : Hp} (i : Int) : DNr C (.int i) (.int i) H := .inl ⟨rfl, rfl, beq_self_eq_true i⟩
theorem dnr_sz {C : Addr} {H : Hp} {a b : Addr} {es : Es} (h1 : SizeAt C H a es) (h2 : SizeAt C H b es) : DNr C (.ref a) (.ref b) H := by
  obtain ⟨dx, D, y1, _⟩ := id h1
  obtain ⟨dy, D2, y2, _⟩ := id h2
  exact .inr ⟨a, b, dx, dy, _, _, rfl, rfl, y1, y2, es, h1, h2⟩
section
variable {P : Program} {w : World} {K : PySem.W.Frag} {mg : Str → Option Value} {base : Heap} {C CW CT : Addr}
theorem eqG_nr {X : Cx} {f : Addr} {fd : FuncData} {n : Nat} (F : FnOk X.prog X.w X.K X.mg X.base CX0 n f fd ["self", "other"] (spEqS X.K C)) (hs : PySem.W.findIn X.K (.ref C) "__eq__" = some (some (.ref f))) (hf : PySem.W.isFn X.K (.ref f) = true)
    (hb : Binds X.K fd ["self", "other"] []) : EqG X n (DNr C) := by
  have F' : FnOk X.prog X.w X.K X.mg X.base CX0 n f fd ["self", "other"] (spEq (SzR C)) := F.imp fun vs H Q E ⟨a, b, e, ⟨es, h1, h2⟩, k⟩ => ⟨a, es, .ref b, e, h1, .inl ⟨b, es, rfl, h2, by rw [decide_eq_true rfl]; exact k H Ext.rfl'⟩⟩
  exact (eqG_flat.mono (Nat.zero_le n)).or (eqG_ins (E := E0) F' hs hf hb pass0)
theorem nr_t2 {fr : Addr} {cdv : Value} {A : Around} {outer : List Env} {s : Shared} {H0 : Hp} (Kk : Kn P w K mg base C CW CT)
    (hr : Room 7 (A.deeper (envOfC "_law_named_right" (defScope sNr) s.heap.objs.size fr cdv))) {t2 : TS}
    (ht : PSs (cxOf CX0 P w K mg base NNr "_law_named_right" (defScope sNr) fr cdv A outer s H0 E0).nox ((defBody sNr).drop 5) t2) :
    ∃ t, PSs (cxOf CX0 P w K mg base NNr "_law_named_right" (defScope sNr) fr cdv A outer s H0 E0).nox ((defBody sNr).drop 2) t ∧
      ∀ (D : Ends) (H : Hp) (x0 x1 : Option V) (p1 p2 d5 d6 q1 : Addr) (n : Str) (ns : List Str) (e1 e2 rs ms5 ms6 : Es) (f g : Str → Int), Pool ns → n ∈ ns → SizeAt C H p1 e1 → Md ns 9 f e1 → SizeAt C H p2 e2 → Md ns 9 g e2 → SizeAt C H q1 rs → Md ns 9 (absF f) rs → PtD H d5 ms5 → NumD H d6 ms6 → (∀ n ∈ ns, n ∈ ms6.map (·.1)) →
        (∀ H' x8 x9, Same H H' → t2 D [x0, x1, some (.ref p1), some (.ref p2), some (.str n), some (.ref d5), some (.ref d6), some (.ref q1), x8, x9, none] H') →
        t D [x0, x1, some (.ref p1), some (.ref p2), some (.str n), some (.ref d5), some (.ref d6), some (.ref q1), none, none, none] H := by
  obtain ⟨⟨⟨⟨Tc, _, _, _⟩, _, _, _, ⟨fe, fde, me, ie, ge, be⟩, hne⟩, _, _, _, _, _⟩, _, ⟨f1, fd1, m1, G1, b1, k1⟩, ⟨f2, fd2, m2, G2, b2, k2⟩, ⟨f3, fd3, m3, G3, b3, k3⟩, ⟨f4, fd4, m4, G4, b4, k4⟩, ⟨f5, fd5, m5, G5, b5, k5⟩, ⟨fk, fdk, gg, Mk', gk, bk⟩, ⟨fx, fdx, mx, Gx, bx⟩, _, _, _, _, _, _, _, _, _⟩ := Kk
  have ge6 := ge.mono (k := 6) (by decide)
  have G17 := G1.mono (k := 7) (by decide)
  have G27 := G2.mono (k := 7) (by decide)
  have G37 := G3.mono (k := 7) (by decide)
  have G47 := G4.mono (k := 7) (by decide)
  have G57 := G5.mono (k := 7) (by decide)
  have Gx7 := Gx.mono (k := 7) (by decide)
  have gk6 := gk.mono (k := 6) (by decide)
  refine ⟨_, pss_cons (ps_set (i := 8) scNr.nd rfl (.inl rfl) (pe_lst (pa_cons (pe_methK (E := E0) (pv 2) Tc.cl m1 G17 hr k1 pass0 (pk_cons (pv 4) pk_nil)) (pa_cons (pe_methK (E := E0) (pv 2) Tc.cl m2 G27 hr k2 pass0 (pk_cons (pv 3) pk_nil))
      (pa_cons (pe_methK (E := E0) (pv 2) Tc.cl m3 G37 hr k3 pass0 (pk_cons pe_int pk_nil)) (pa_cons (pe_methK (E := E0) (pv 7) Tc.cl m4 G47 hr k4 pass0C (pk_cons (pv 6) pk_nil)) pa_nil))))))
    (pss_cons (ps_set (i := 9) scNr.nd rfl (.inl rfl) (pe_lst (pa_cons (pe_meth (E := E0) (pv 2) Tc.cl m1 G17 hr b1 .nil pass0 (pa_cons (pv 4) pa_nil)) (pa_cons (pe_meth (E := E0) (pv 2) Tc.cl m2 G27 hr b2 .nil pass0 (pa_cons (pv 3) pa_nil))
      (pa_cons (pe_meth (E := E0) (pv 2) Tc.cl m3 G37 hr b3 .nil pass0 (pa_cons pe_int pa_nil)) (pa_cons (pe_meth (E := E0) (pv 7) Tc.cl m4 G47 hr b4 .nil pass0C (pa_cons (pv 6) pa_nil)) pa_nil))))))
    (pss_cons (ps_if (PW.pt (pw_or (pt_cmpR (op_neG (mon_nr C) (eqG_nr ge6 me ie be) hr) (pv 8) (pv 9) (nomark _))
      (pw_or (pt_cmpR op_ne (pe_methK (E := E0) (pv 2) Tc.cl m5 G57 hr k5 pass0 (pk_cons (pv 5) pk_nil)) (pe_meth (E := E0) (pv 2) Tc.cl m5 G57 hr b5 .nil pass0 (pa_cons (pv 5) pa_nil)) (nomark _))
      (pw_or1 (pt_cmpR (op_ownNe ge6 hr me ie Tc.co hne be pass0 spEq_mono) (pe_makeK (E := E0) Mk' gk6 hr (by rfl) Tc.gC bk pass0 (pk_cons (pe_meth0 (E := E0) (pv 2) Tc.cl mx Gx7 hr bx .nil pass0) pk_nil)) (pv 2) (nomark _)))))) (pss_one (ps_ret pe_bl)) pss_nil) ht)), ?_⟩
  intro D H x0 x1 p1 p2 d5 d6 q1 n ns e1 e2 rs ms5 ms6 f g hP hn z1 mz1 z2 mz2 zq mzq h5 h6 hk k
  have hnm := hP.nm n hn
  have sup := md_abs (f := f)
  -- both lists
  have o1 : GvS C ns 9 f (tVar 2) [x0, x1, some (V.ref p1), some (V.ref p2), some (V.str n), some (V.ref d5), some (V.ref d6), some (V.ref q1), none, none, none] H := gvs_var rfl z1 mz1
  have o2 : GvS C ns 9 g (tVar 3) [x0, x1, some (V.ref p1), some (V.ref p2), some (V.str n), some (V.ref d5), some (V.ref d6), some (V.ref q1), none, none, none] H := gvs_var rfl z2 mz2
  have o7 : GvS C ns 9 (absF f) (tVar 7) [x0, x1, some (V.ref p1), some (V.ref p2), some (V.str n), some (V.ref d5), some (V.ref d6), some (V.ref q1), none, none, none] H := gvs_var rfl zq mzq
  refine gvi_expK (E := E0) (i := 4) hnm o1 rfl H _ (Same.refl H) fun H1 S1 => ?_
  refine gvs_overK (E := E0) hP o1 o2 H1 _ S1 fun H2 r1 u1 S2 w1 v1 => ?_
  refine gvs_powerK (E := E0) (m := 2) (by decide) o1 H2 _ (S1.trans S2) fun H3 r2 u2 S3 w2 v2 => ?_
  refine gvi_atK (E := E0) (CW := CW) (i := 6) hP (by decide) sup o7 h6 hk rfl H3 _ (S1.trans (S2.trans S3)) fun H4 S4 => ?_
  refine ⟨by rw [sizeLine_eq]; show 4 ≤ 16777216; decide, fun L1 nL1 => ?_⟩
  have S5 := fresh_upd (o := .lst [V.int (f n), V.ref r1, V.ref r2, V.int ((prodN ns (fun n => (absF f n).toNat) (nOf ms6) : Nat) : Int)]) nL1
  have eL1 := upd_same (H := H4) (a := L1) (o := .lst [V.int (f n), V.ref r1, V.ref r2, V.int ((prodN ns (fun n => (absF f n).toNat) (nOf ms6) : Nat) : Int)])
  generalize upd H4 L1 (.lst [V.int (f n), V.ref r1, V.ref r2, V.int ((prodN ns (fun n => (absF f n).toNat) (nOf ms6) : Nat) : Int)]) = H5 at S5 eL1
  have S05 : Same H H5 := S1.trans (S2.trans (S3.trans (S4.trans S5)))
  have t1 : GvS C ns 9 f (tVar 2) [x0, x1, some (V.ref p1), some (V.ref p2), some (V.str n), some (V.ref d5), some (V.ref d6), some (V.ref q1), some (V.ref L1), none, none] H5 := gvs_var rfl (z1.same S05) mz1
  have t2' : GvS C ns 9 g (tVar 3) [x0, x1, some (V.ref p1), some (V.ref p2), some (V.str n), some (V.ref d5), some (V.ref d6), some (V.ref q1), some (V.ref L1), none, none] H5 := gvs_var rfl (z2.same S05) mz2
  have t7 : GvS C ns 9 (absF f) (tVar 7) [x0, x1, some (V.ref p1), some (V.ref p2), some (V.str n), some (V.ref d5), some (V.ref d6), some (V.ref q1), some (V.ref L1), none, none] H5 := gvs_var rfl (zq.same S05) mzq
  refine gvi_exp (E := E0) (i := 4) hnm t1 rfl H5 _ (Same.refl H5) fun H6 S6 => ?_
  refine gvs_over (E := E0) hP t1 t2' H6 _ S6 fun H7 r3 u3 S7 w3 v3 => ?_
  refine gvs_power (E := E0) (m := 2) (by decide) t1 (fun H2 Q _ q => q) H7 _ (S6.trans S7) fun H8 r4 u4 S8 w4 v4 => ?_
  refine gvi_at (E := E0) (CW := CW) (i := 6) hP (by decide) sup t7 (h6.same S05) hk rfl H8 _ (S6.trans (S7.trans S8)) fun H9 S9 => ?_
  refine ⟨by rw [sizeLine_eq]; show 4 ≤ 16777216; decide, fun L2' nL2 => ?_⟩
  have S10 := fresh_upd (o := .lst [V.int (f n), V.ref r3, V.ref r4, V.int ((prodN ns (fun n => (absF f n).toNat) (nOf ms6) : Nat) : Int)]) nL2
  have eL2 := upd_same (H := H9) (a := L2') (o := .lst [V.int (f n), V.ref r3, V.ref r4, V.int ((prodN ns (fun n => (absF f n).toNat) (nOf ms6) : Nat) : Int)])
  generalize upd H9 L2' (.lst [V.int (f n), V.ref r3, V.ref r4, V.int ((prodN ns (fun n => (absF f n).toNat) (nOf ms6) : Nat) : Int)]) = H10 at S10 eL2
  have S510 : Same H5 H10 := S6.trans (S7.trans (S8.trans (S9.trans S10)))
  have e13 : u1 = u3 := v1.one v3 fun _ => rfl
  have e24 : u2 = u4 := v2.one v4 fun _ => rfl
  subst e13
  subst e24
  refine ⟨_, rfl, _, rfl, ⟨⟨L1, L2', _, _, rfl, rfl, S510 _ _ eL1, eL2, ?_⟩, fun H11 S11 => ⟨_, rfl, iteF ?_⟩⟩⟩
  · refine Prs.cons (dnr_int _) (Prs.cons (dnr_sz (w1.same (S3.trans (S4.trans (S5.trans S510)))) (w3.same (S8.trans (S9.trans S10)))) (Prs.cons (dnr_sz (w2.same (S4.trans (S5.trans S510))) (w4.same (S9.trans S10))) (Prs.cons (dnr_int _) Prs.nil)))
  have S011 := S05.trans (S510.trans S11)
  have y1 : GvS C ns 9 f (tVar 2) [x0, x1, some (V.ref p1), some (V.ref p2), some (V.str n), some (V.ref d5), some (V.ref d6), some (V.ref q1), some (V.ref L1), some (V.ref L2'), none] H11 := gvs_var rfl (z1.same S011) mz1
  refine fls_nei (gvi_atpK (E := E0) (i := 5) hP (by decide) y1 (h5.same S011) rfl) (gvi_atp (E := E0) (i := 5) hP (by decide) y1 (h5.same S011) rfl) rfl H11 _ (Same.refl H11) fun H12 S12 => iteF ?_
  refine fls_ne (E := E0) (K := K) (gvs_makeK (E := E0) hP y1) y1 (fun _ => rfl) H12 _ S12 fun H13 S13 => iteF (next_ ?_)
  exact k H13 _ _ (S011.trans (S12.trans S13))
end
end K17
set_option maxHeartbeats 8000000
namespace K17
open PySem PySem.Spec PyProof.Rows L2

/-! ### _law_named_right -/
def spNr (C : Addr) : Sp := fun vs H Q _ => ∃ (r l p1 p2 : Addr) (ns : List Str) (e1 e2 : Es) (f g : Str → Int), vs = [.ref r, .ref l, .ref p1, .ref p2] ∧ Vs C H r l p1 p2 ns e1 e2 f g ∧ 0 < ns.length ∧
  ∀ H', But r H H' → Rg H' r → Q (.bl true) H'
section
variable {P : Program} {w : World} {K : PySem.W.Frag} {mg : Str → Option Value} {base : Heap} {C CW CT : Addr}
theorem nr_t1 {fr : Addr} {cdv : Value} {A : Around} {outer : List Env} {s : Shared} {H0 : Hp} (Kk : Kn P w K mg base C CW CT)
    {fC fW : Addr} {fdC fdW : FuncData} (GC : FnOk P w K mg base CX0 2 fC fdC ["_law_rng_here", "_law_some"] spChoice) (kC : PySem.W.keepIn K (.ref fC) = true) (bC : Binds K fdC ["_law_rng_here", "_law_some"] []) (gC : mg "_law_choice" = some (.ref fC))
    (GW : FnOk P w K mg base CX0 7 fW fdW ["_law_size_here"] (spWhl C)) (kW : PySem.W.keepIn K (.ref fW) = true) (bW : Binds K fdW ["_law_size_here"] []) (gW : mg "_law_whole" = some (.ref fW))
    (hr : Room 7 (A.deeper (envOfC "_law_named_right" (defScope sNr) s.heap.objs.size fr cdv))) {t2 : TS}
    (ht : PSs (cxOf CX0 P w K mg base NNr "_law_named_right" (defScope sNr) fr cdv A outer s H0 E0).nox ((defBody sNr).drop 2) t2) :
    ∃ t, PSs (cxOf CX0 P w K mg base NNr "_law_named_right" (defScope sNr) fr cdv A outer s H0 E0).nox (defBody sNr) t ∧
      ∀ (D : Ends) (H : Hp) (r l p1 p2 : Addr) (ns : List Str) (e1 e2 : Es) (f g : Str → Int), Vs C H r l p1 p2 ns e1 e2 f g → 0 < ns.length →
        (∀ H' n d5 d6 q1 rs ms5 ms6, But r H H' → Rg H' r → n ∈ ns → SizeAt C H' q1 rs → Md ns 9 (absF f) rs → PtD H' d5 ms5 → NumD H' d6 ms6 → (∀ n ∈ ns, n ∈ ms6.map (·.1)) →
          t2 D [some (.ref r), some (.ref l), some (.ref p1), some (.ref p2), some (.str n), some (.ref d5), some (.ref d6), some (.ref q1), none, none, none] H') →
        t D [some (.ref r), some (.ref l), some (.ref p1), some (.ref p2), none, none, none, none, none, none, none] H := by
  obtain ⟨⟨_, _, _, _, _, dN⟩, ⟨fn, Fn, kn, gn⟩, _, _, _, _, _, _, _, _, _, _, _, _, _, _, _, _⟩ := Kk
  have GC7 := GC.mono (k := 7) (by decide)
  refine ⟨_, pss_cons (ps_par (i := 4) (j := 5) rfl scNr.nd rfl rfl (by decide) rfl rfl (pa_cons (pe_call GC7 hr rfl gC kC bC .nil pass0 (pa_cons (pv 0) (pa_cons (pv 1) pa_nil)))
      (pa_cons (pe_callTy (call_dictP rfl) (by rfl) dN (by decide +kernel) (pa_cons
        (pe_lc (own := [("_law_label", 10)]) (g := gName 10) (tt := tYes) (te := tTup (tCons (tVar 10) (tCons (tC (.int 2)) tNil))) rfl scNr.nd (pi_list (pv 1))
          (blkOk_by (own := [("_law_label", 10)]) (N := NNr) (sc := defScope sNr) (by decide +kernel)) (fun _ _ _ _ _ => pg_name (i := 10) scNr.nd rfl (Or.inl rfl)) (fun _ _ _ _ _ => pts_nil)
          (fun _ _ _ _ _ => by exact pe_tup (pa_cons (pv 10) (pa_cons pe_int pa_nil)))) pa_nil)) pa_nil)) (by rfl))
    (pss_cons (ps_par (i := 6) (j := 7) rfl scNr.nd rfl rfl (by decide) rfl rfl (pa_cons (pe_kw (E := E0) Fn hr (by rfl) gn kn (pk_cons (pe_lst (pa_cons (pv 5) pa_nil)) pk_nil)) (pa_cons (pe_call GW hr rfl gW kW bW .nil pass0 (pa_cons (pv 2) pa_nil)) pa_nil)) (by rfl)) ht), ?_⟩
  intro D H r l p1 p2 ns e1 e2 f g h hne k
  have hP := h.hP
  have lP := hP.ln
  refine ⟨_, rfl, _, rfl, r, l, _, rfl, h.hR, h.lr, h.hl, by rw [List.length_map]; exact hne, by rw [List.length_map]; omega, fun H1 v hv hR1 B1 => ?_⟩
  obtain ⟨n, hn, rfl⟩ := List.mem_map.mp hv
  have h1 := h.but B1 hR1
  refine (show tCB (rDp K) (tCons (tLc (iList K (tVar 1)) (gName 10) tYes (tTup (tCons (tVar 10) (tCons (tC (.int 2)) tNil))) [10]) tNil) [some (.ref r), some (.ref l), some (.ref p1), some (.ref p2), none, none, none, none, none, none, none] H1 _ from
    rd_dict (K := K) (lo := 2) (hi := 2) (r := r) (l := l) (ns := ns) (by show 10 < 11; decide) rfl h1.hR h1.lr h1.hl hP (fun H2 m Q hR2 B2 hm q => q H2 2 (Int.le_refl 2) (Int.le_refl 2) hR2 (But.refl r H2)) fun H2 R es B2 hR2 nR hR' hk hb => ?_)
  refine ⟨_, _, rfl, ?_⟩
  have h2 := h1.but B2 hR2
  refine ⟨_, rfl, by rw [sizeLine_eq]; show 1 ≤ 16777216; decide, fun L nL => ⟨rfl, ?_⟩⟩
  have S3 := fresh_upd (o := .lst [V.ref R]) nL
  have hR3 := S3 _ _ hR'
  refine ⟨L, [R], [es], rfl, small_nof hP upd_same hR3 hk (fun q hq => by have := hb q hq; omega), fun H4 d ms S4 nd hd hsd hmem hml => ?_⟩
  have hmem' : ∀ n, n ∈ ms ↔ n ∈ ns := fun n => by
    rw [hmem]
    show n ∈ [es.map (·.1)].flatten ↔ _
    rw [List.flatten_cons, List.flatten_nil, List.append_nil, hk]
  have hg2 : ∀ n, (g0 es n).toNat ≤ 2 := fun n => by
    unfold g0
    cases e : es.lookup n with
    | none => exact Nat.zero_le _
    | some v =>
      obtain ⟨q, hq, e2⟩ := List.mem_map.mp (look_mem.mp (show (es.lookup n).isSome = true by rw [e]; rfl))
      have z := look_get (by rw [hk]; exact hP.nd) (n := q.1) (v := q.2) hq
      rw [e2, e] at z
      show v.toNat ≤ 2
      rw [Option.some.inj z]
      have := hb q hq
      omega
  have hN : NumD H4 d (noE 1 [es] ms) := noE_num hd hsd hml (fun n hn => hP.nm n ((hmem' n).mp hn)) fun n _ => by
    show 2 ^ (g0 es n).toNat * 1 < 1073741824
    rw [Nat.mul_one]
    exact Nat.lt_of_le_of_lt (Nat.pow_le_pow_right (by decide) (hg2 n)) (by decide)
  have S34 := S3.trans S4
  have h4 := h2.same S34
  refine ⟨_, rfl, p1, e1, ns, 9, f, rfl, h4.z1, h4.m1, hP, fun H5 q1 rs S5 zq nw mq => ?_⟩
  refine ⟨_, _, rfl, ?_⟩
  have hR5 := S5 _ _ (S4 _ _ hR3)
  have hPt : PtD H5 R es := ⟨hR5, by
    have z := congrArg List.length hk
    rw [List.length_map] at z
    omega, by rw [hk]; exact hP.nd, fun q hq => hP.nm _ (by rw [← hk]; exact List.mem_map.mpr ⟨q, hq, rfl⟩), fun q hq => by have := hb q hq; omega⟩
  exact k H5 n R d q1 rs es (noE 1 [es] ms) (B1.trans (B2.trans (But.of (S34.trans S5)))) (hR2.same (S34.trans S5)) hn zq mq hPt (hN.same S5) fun m hm => by
    rw [noE_keys]
    exact (hmem' m).mpr hm
theorem ok_nr {f : Addr} {fd : FuncData} (F : Fun K "_law_named_right" "_law_named_right" sNr f fd) (Kk : Kn P w K mg base C CW CT) (hsys : (K.lookup sysModules).isSome = true)
    {fC fW : Addr} {fdC fdW : FuncData} (GC : FnOk P w K mg base CX0 2 fC fdC ["_law_rng_here", "_law_some"] spChoice) (kC : PySem.W.keepIn K (.ref fC) = true) (bC : Binds K fdC ["_law_rng_here", "_law_some"] []) (gC : mg "_law_choice" = some (.ref fC))
    (GW : FnOk P w K mg base CX0 7 fW fdW ["_law_size_here"] (spWhl C)) (kW : PySem.W.keepIn K (.ref fW) = true) (bW : Binds K fdW ["_law_size_here"] []) (gW : mg "_law_whole" = some (.ref fW)) :
    FnG P w K mg base 8 f fd ["_law_rng_here", "_law_names_here", "_law_one", "_law_two"] (spNr C) := by
  refine F.okG scNr (fun vs H Q h => ?_) (fun cdv A outer s H vs Q hgu hr h => ?_)
  · obtain ⟨r, l, p1, p2, ns, e1, e2, f', g, rfl, _⟩ := h
    rfl
  · obtain ⟨r, l, p1, p2, ns, e1, e2, f', g, rfl, h, hne, k⟩ := h
    have hgu' : (A.deeper (envOfC "_law_named_right" (defScope sNr) s.heap.objs.size f cdv)).guards = some [] := hgu
    obtain ⟨t3, h3, k3⟩ := nr_t3 (outer := outer) (H0 := H) Kk hsys hgu' hr
    obtain ⟨t2, h2, k2⟩ := nr_t2 Kk hr h3
    obtain ⟨t1, h1, k1⟩ := nr_t1 Kk GC kC bC gC GW kW bW gW hr h2
    refine ⟨t1, h1, ?_⟩
    refine k1 _ H r l p1 p2 ns e1 e2 f' g h hne fun H1 n d5 d6 q1 rs ms5 ms6 B1 hR1 hn zq mq h5 h6 hk => ?_
    have h1 := h.but B1 hR1
    refine k2 _ H1 _ _ p1 p2 d5 d6 q1 n ns e1 e2 rs ms5 ms6 f' g h1.hP hn h1.z1 h1.m1 h1.z2 h1.m2 zq mq h5 h6 hk fun H2 x8 x9 S2 => ?_
    refine k3 _ H2 _ _ _ _ _ _ p1 d5 d6 n ns e1 ms5 ms6 f' h1.hP hn (h1.z1.same S2) h1.m1 (h5.same S2) (h6.same S2) fun H3 S3 => ?_
    exact k H3 (B1.trans (But.of (S2.trans S3))) (hR1.same (S2.trans S3))
end
end K17
set_option maxHeartbeats 8000000
namespace K17
open PySem PySem.Spec PyProof.Rows L2

/-! ### repr of a list of Sizes -/
section
open PySem.W
theorem under_by {M : Model} {A : Around} {E : Value → Shared → Prop} {s : Shared} {K : Frag} {x C f : Addr} {ox : Obj} {od : Option Obj} {name : Str} {last : Value → List Value → Sem Value} {Q : Option Value → Shared → Prop} (X : K.In s.heap) (I : InstAt s.heap x ox C od)
    (hs : findIn K (.ref C) name = some (some (.ref f))) (hf : isFn K (.ref f) = true) (h : wpAny M A (last (.ref f) [.ref x]) (fun v => Q (some v)) E s) : wpAny M A (callSpecialIfBoundBy? last (.ref x) name) Q E s := by
  have fin : wpAny M A (last (.ref f) [.ref x] >>= fun v => pure (some v)) Q E s := wpAny_bind (wpAny_mono h (fun v s' h' => wpAny_pure h') fun _ _ h' => h')
  simp only [callSpecialIfBoundBy?, bindSpecialIfBound?]
  refine wpAny_holding (wpAny_bind (wpAny_bind (wpAny_bind (I.type.here ((looks_findIn X hs).here (wpAny_bind (wpAny_askSetting (wpAny_ite ?_))))))))
  split
  · exact wpAny_bind ((bind_fn X _ (beq_iff_eq.mp hf)).here (wpAny_pure fin))
  · exact wpAny_tryCatch (wpAny_bind ((bind_fn X _ (beq_iff_eq.mp hf)).here (wpAny_pure fin)))
theorem under_obj {prog : Program} {w : World} {A : Around} {E : Value → Shared → Prop} {s : Shared} {K : Frag} {x C f : Addr} {ox : Obj} {od : Option Obj} {b : Nat} {Q : Str → Shared → Prop} (hb : b ≤ sizeLine) (hu : A.units < cLine) (X : K.In s.heap) (I : InstAt s.heap x ox C od)
    (hs : findIn K (.ref C) "__repr__" = some (some (.ref f))) (hf : isFn K (.ref f) = true) (h : wpAny (model prog w) A (call (.ref f) [.ref x]) (fun v s' => ∃ y u, v = .str y u ∧ Q y s') E s) : wpAny (model prog w) A (pyReprUnder b (.ref x)) Q E s := by
  refine wpAny_pyReprUnder_ref hb ?_
  unfold pyReprObjUnder pyReprObjBy
  refine wpAny_bind (wpAny_cRoomFor hu (wpAny_bind (wpAny_bind (I.type.here ((looks_findIn X hs).here ?_)))))
  show wpAny _ _ (if (some (Value.ref f)).isNone = true then _ else _) _ _ _
  rw [if_neg (by simp)]
  refine wpAny_bind (under_by X I hs hf (wpAny_mono h (fun v s' hv => ?_) fun _ _ y => y))
  obtain ⟨y, u, rfl, q⟩ := hv
  exact wpAny_bind (wpAny_isInstance (typeIs_str _ _ _) isSubtype_str_str (by
    first
      | exact wpAny_pure ⟨_, _, rfl, q⟩
      | (rw [if_pos rfl]; exact wpAny_pure ⟨_, _, rfl, q⟩)))
end
theorem strs_done : ∀ {us : List Value} {xs : List Str}, StrsAre us xs → ∃ done : List (Str × Tok), us = strValues done ∧ done.map (·.1) = xs
  | _, _, .nil => ⟨[], rfl, rfl⟩
  | _, _, .cons n t h => by
    obtain ⟨done, e1, e2⟩ := strs_done h
    refine ⟨(n, t) :: done, ?_, ?_⟩
    · rw [e1]
      rfl
    · rw [List.map_cons, e2]
theorem sub_loop {X : Cx} {n : Nat} {A : Around} (s : Sub X (n + 1) A) (args : Args) : Sub X n (A.under (.builtin "list.__repr__.loop" args)) := by
  have hu := units_under_list_loop A args
  refine ⟨⟨?_, ?_, ?_⟩, ?_⟩
  · have := s.room.hd
    exact this
  · have := s.room.dp
    have e : (A.under (.builtin "list.__repr__.loop" args)).depth = A.depth + 1 := by
      first | rfl | simp [Around.under, Code.weight, Code.isCreation, Code.isGuard, Code.isCaller, Code.frames, Code.isFrame, guardIds]
    rw [e]
    omega
  · have := s.room.un
    rw [hu]
    omega
  · exact s.fr
def repT (es : Es) : Str := reprS (texE es)
section
variable {X : Cx} {C f : Addr} {fd : FuncData} {n : Nat}
theorem rep_loop (F : FnOk X.prog X.w X.K X.mg X.base CX0 n f fd ["self"] (spRepr C)) (hs : PySem.W.findIn X.K (.ref C) "__repr__" = some (some (.ref f))) (hf : PySem.W.isFn X.K (.ref f) = true) (hb : Binds X.K fd ["self"] [])
    {A : Around} (sb : Sub X (n + 1) A) {pins : List (Addr × Obj)} {σ : L2.St} {a P : Addr} {H0 : Hp} {ps : List Addr} {ess : List Es} {R : Result → Shared → Prop} (ha : H0 a = some (.lst (ps.map V.ref))) (hP : H0 P = none)
    (hz : Paired (fun p es => SizeAt C H0 p es ∧ ∀ q ∈ es, Big q.2) ps ess) (hsz : (listText (ess.map repT)).length ≤ 1000000)
    (hR : ∀ (s' : Shared) (H' : Hp) (u : Tok), Inv X pins σ H' s' → Same H0 H' → R (.ok (.ret (.str (listText (ess.map repT)) u))) s') :
    ∀ (m i : Nat) (s : Shared) (H : Hp), ps.length - i = m → i ≤ ps.length → Inv X pins σ H s → Same H0 H → H P = some (.lst (((ess.map repT).take i).map V.str)) →
      codeAny (model X.prog X.w) A (.builtin "list.__repr__.loop" ⟨[.ref a, rawInt i, .ref P, rawInt ((piled ((ess.map repT).take i) : Nat) : Int)], []⟩) R s := by
  have hlen := Paired.length hz
  have hX : (listText (ess.map repT)).length = (textFrom 0 "[" (ess.map repT)).length + 1 := by
    show (textFrom 0 "[" (ess.map repT) ++ "]").length = _
    rw [strLen_append]
    rfl
  have hL := textFrom_len (ess.map repT) 0 "["
  have hp3 := piled_le_listText (ess.map repT)
  have h1L := hL.1
  rw [if_neg (Nat.lt_irrefl 0), List.length_map] at h1L
  have hbig : (1000000 : Nat) ≤ sizeLine := by rw [sizeLine_eq]; decide
  intro m
  induction m with
  | zero =>
    intro i s H hm hi I S hPl
    have hin : i = ps.length := by omega
    obtain ⟨za, its, na, rv, hoa⟩ := (show ObjOk X.prog X.w H s.heap a (.lst (ps.map V.ref)) from I.hok a _ (S _ _ ha))
    obtain ⟨zP, jts, nP, rP, hoP⟩ := (show ObjOk X.prog X.w H s.heap P (.lst (((ess.map repT).take i).map V.str)) from I.hok P _ hPl)
    have hil : its.length = ps.length := by rw [← rv.length, List.length_map]
    refine codeAny_builtin PySem.F.entry_list_repr_loop ?_
    show wpAny _ _ (Builtin.«list.__repr__.loop» ⟨[.ref a, .int i 0, .ref P, .int ((piled ((ess.map repT).take i) : Nat) : Int) 0], []⟩) _ _ s
    rw [repr_loop_tree]
    refine wpAny_bind (wpAny_listItems hoa rfl ?_)
    have hnone : its.toArray[(i : Int).toNat]? = none := by
      rw [Int.toNat_natCast, List.getElem?_toArray]
      exact List.getElem?_eq_none (by omega)
    simp only [hnone]
    unfold reprEnd
    refine wpAny_bind (wpAny_listItems hoP rfl ?_)
    obtain ⟨done, e1, e2⟩ := strs_done rP.strs
    show wpAny _ _ (forIn (jts.toArray.toList.zipIdx 0) ("[" : Str) reprBody >>= _) _ _ _
    rw [List.toList_toArray, e1, PySem.repr_fold]
    refine wpAny_bind (wpAny_pure ?_)
    rw [e2, List.take_of_length_le (by rw [List.length_map]; omega)]
    refine wpAny_bind (wpAny_mkStr (wpAny_pure ?_) (by show (listText (ess.map repT)).length ≤ sizeLine; omega))
    exact hR _ H _ (I.tok _) S
  | succ m ih =>
    intro i s H hm hi I S hPl
    have hlt : i < ps.length := by omega
    obtain ⟨za, its, na, rv, hoa⟩ := (show ObjOk X.prog X.w H s.heap a (.lst (ps.map V.ref)) from I.hok a _ (S _ _ ha))
    have hil : its.length = ps.length := by rw [← rv.length, List.length_map]
    obtain ⟨u, hu, ru⟩ := rv.get (i := i) (x := V.ref ps[i]) (by rw [List.getElem?_map, List.getElem?_eq_getElem hlt]; rfl)
    obtain rfl : u = Value.ref ps[i] := ru
    obtain ⟨es, he, hzi, hbi⟩ := pairedL hz hlt
    have hti : (ess.map repT)[i]? = some (repT es) := by rw [List.getElem?_map, he]; rfl
    have hp1 := piled_take_succ hti
    have hp2 := piled_take_le (ess.map repT) (i + 1)
    have hmem : repT es ∈ ess.map repT := List.mem_of_getElem? hti
    have htl := hL.2.1 _ hmem
    refine codeAny_builtin PySem.F.entry_list_repr_loop ?_
    show wpAny _ _ (Builtin.«list.__repr__.loop» ⟨[.ref a, .int i 0, .ref P, .int ((piled ((ess.map repT).take i) : Nat) : Int) 0], []⟩) _ _ s
    rw [repr_loop_tree]
    refine wpAny_bind (wpAny_listItems hoa rfl ?_)
    have hsome : its.toArray[(i : Int).toNat]? = some (.ref ps[i]) := by
      rw [Int.toNat_natCast, List.getElem?_toArray]
      exact hu
    simp only [hsome]
    rw [Int.toNat_natCast]
    have sbl := sub_loop sb ⟨[.ref a, rawInt i, .ref P, rawInt ((piled ((ess.map repT).take i) : Nat) : Int)], []⟩
    have hzH := hzi.same S
    obtain ⟨dx, D, y1, y2⟩ := id hzH
    obtain ⟨mA, J, _⟩ := ins_get I.hok y1
    obtain ⟨od, J, _⟩ := J.look
    refine wpAny_bind (wpAny_holding (under_obj (K := X.K) (by omega) sbl.room.units0 I.kIn J hs hf ?_))
    have hsp : spRepr C [.ref ps[i]] H (fun v H' => v = .str (repT es) ∧ Same H H') E0 := ⟨ps[i], es, rfl, hzH, hbi, fun H' S' => ⟨rfl, S'⟩⟩
    have e0 : Env0 X.prog X.w X.K X.mg X.base (A.under (.builtin "list.__repr__.loop" ⟨[.ref a, rawInt i, .ref P, rawInt ((piled ((ess.map repT).take i) : Nat) : Int)], []⟩)) X.stack s H := by
      have e := I.env0
      exact ⟨by rw [sbl.fr]; exact e.frames, e.mod, e.bs, e.bsz, e.funs, e.frf, e.hok, e.bare⟩
    have r2 : Vals [V.ref ps[i]] [Value.ref ps[i]] := .cons rfl .nil
    refine wpAny_call (codeAny_mono (F.run _ X.stack s H ⟨[.ref ps[i]], []⟩ [.ref ps[i]] [.ref ps[i]] _ E0 sbl.room e0 (by
      have := hb s [.ref ps[i]] I.kIn rfl
      simpa using this) r2 hsp) fun r s1 hq => ?_)
    cases r with
    | error e => exact hq.elim
    | ok fl =>
      match fl, hq with
      | .ret v, hq =>
        obtain ⟨z, H1, I1, rz, ez, S1⟩ := I.after hq
        subst ez
        obtain ⟨t, rfl⟩ := (show ∃ t, v = Value.str (repT es) t from rz)
        refine ⟨_, _, rfl, ?_⟩
        refine wpAny_bind (wpAny_mkStr ?_ (by omega))
        have hP1 := S1 _ _ hPl
        have I2 : Inv X pins σ H1 { s1 with toks := s1.toks + 1 } := I1.tok _
        obtain ⟨zP, jts, nP, rP, hoP⟩ := (show ObjOk X.prog X.w H1 s1.heap P (.lst (((ess.map repT).take i).map V.str)) from I1.hok P _ hP1)
        have hjl : jts.length ≤ 1000000 := by
          rw [← rP.length, List.length_map]
          have : ((ess.map repT).take i).length ≤ (ess.map repT).length := List.length_take_le' ..
          rw [List.length_map] at this
          omega
        refine wpAny_bind ?_
        show wpAny _ _ (updateSeq P _) _ _ _
        refine wpAny_updateSeq (s := { s1 with toks := s1.toks + 1 }) hoP rfl (wpAny_pure ⟨PySem.F.quiet_list_repr_loop _, ?_⟩) (by rw [List.size_toArray]; omega)
        have e1 : ((i : Int) + 1) = ((i + 1 : Nat) : Int) := by omega
        have e2 : piled ((ess.map repT).take i) + ((repT es).length + 2) = piled ((ess.map repT).take (i + 1)) := by omega
        rw [e1, e2]
        have I3 := I2.lset (t' := s1.toks + 1) (f := fun xs => xs.push (.str (repT es) s1.toks)) (its' := jts ++ [.str (repT es) s1.toks]) (ys := ((ess.map repT).take (i + 1)).map V.str) hP1 hoP (by simp) (by
          rw [List.take_add_one, hti]
          show Vals (List.map V.str ((ess.map repT).take i ++ [repT es])) _
          rw [List.map_append]
          exact rP.append (.cons ⟨_, rfl⟩ .nil)) (by
          rw [List.length_map]
          have : ((ess.map repT).take (i + 1)).length ≤ (ess.map repT).length := List.length_take_le' ..
          rw [List.length_map] at this
          omega)
        refine ih (i + 1) _ _ (by omega) hlt I3 (fun c o ec => ?_) upd_same
        rw [upd_ne fun z => by rw [z, hP] at ec; cases ec]
        exact S1 _ _ (S c o ec)
end
end K17
set_option maxHeartbeats 8000000
namespace K17
open PySem PySem.Spec PyProof.Rows L2

def rRepL (C : Addr) : List V → Hp → VK → Prop := fun xs H Q => ∃ (a : Addr) (ps : List Addr) (ess : List Es), xs = [.ref a] ∧ H a = some (.lst (ps.map V.ref)) ∧ 0 < ps.length ∧ Paired (fun p es => SizeAt C H p es ∧ ∀ q ∈ es, Big q.2) ps ess ∧
  (listText (ess.map repT)).length ≤ 1000000 ∧ ∀ H', Same H H' → Q (.str (listText (ess.map repT))) H'
section
variable {X : Cx} {C f : Addr} {fd : FuncData} {n : Nat}
theorem call_reprL (FR : FnOk X.prog X.w X.K X.mg X.base CX0 n f fd ["self"] (spRepr C)) (hs : PySem.W.findIn X.K (.ref C) "__repr__" = some (some (.ref f))) (hf : PySem.W.isFn X.K (.ref f) = true) (hb : Binds X.K fd ["self"] [])
    (hr : Room (n + 4) X.A) (hgu : X.A.guards = some []) : CallR X (.builtin "repr") (rRepL C) := by
  intro pins s σ H xs us Q I r h
  obtain ⟨a, ps, ess, rfl, ha, hne, hz, hsz, q⟩ := h
  obtain ⟨u, rfl, ru⟩ := vals1 r
  obtain rfl : u = Value.ref a := ru
  obtain ⟨za, its, na, rv, hoa⟩ := (show ObjOk X.prog X.w H s.heap a (.lst (ps.map V.ref)) from I.hok a _ ha)
  have hil : its.length = ps.length := by rw [← rv.length, List.length_map]
  have hun := hr.un
  have hT : s.TypeIs (.ref a) "list" := ⟨_, hoa, rfl⟩
  have sb1 : L2.Sub X (n + 3) X.A.in1 := Sub.in1 (n := n + 3) ⟨hr, rfl⟩
  have sb2 : L2.Sub X (n + 2) X.A.in1.in1 := Sub.in1 sb1
  refine call_repr_slot (by omega) hT PySem.F.slot_list_repr.toG ?_
  obtain ⟨x, l, ei⟩ : ∃ x l, its = x :: l := by
    cases its with
    | nil => simp at hil; omega
    | cons x l => exact ⟨x, l, rfl⟩
  subst ei
  refine wpAny_call (codeAny_call_builtin PySem.F.slot_list_repr.plain PySem.F.entry_list_repr (PySem.F.slot_list_repr.check _ _ _ _ _ _ _ _ hT (PySem.F.args_list_repr_1 _) ?_))
  refine wpAny_list_repr_head (A := X.A.in1.in1) (b := 0) (g := []) hgu (fun v rest kw hm => nomatch hm) hoa rfl ?_
  refine wpAny_bind (m := newList []) (wpAny_newObj_type ?_)
  refine wpAny_pure ⟨PySem.F.quiet_list_repr_loop _, ?_⟩
  have hn : H s.heap.objs.size = none := I.hok.fresh (Nat.le_refl _)
  have new : ObjOk X.prog X.w (upd H s.heap.objs.size (.lst [])) (s.heap.push { cls := .type "list", data := .seq ([] : List Value).toArray }) s.heap.objs.size (.lst []) := ⟨Nat.zero_le _, [], 0, .nil, Heap.get?_push_size _ rfl⟩
  have I1 : Inv X pins σ (upd H s.heap.objs.size (.lst [])) { s with heap := s.heap.push { cls := .type "list", data := .seq ([] : List Value).toArray } } := I.laid (t' := s.toks) (fun b u e => Heap.get?_push_of_some _ e) (Nat.le_refl _) new
  refine rep_loop FR hs hf hb (A := X.A.in1) (Sub.mono sb1 (by omega)) ha hn hz hsz (fun s' H' t I' S' => ⟨_, _, rfl, .str _, H', I', ⟨t, rfl⟩, q H' S'⟩) _ 0 _ _ rfl (Nat.zero_le _) I1 (fresh_upd hn) ?_
  rw [upd_same]
  rfl
end
theorem rep3_len {ns : List Str} {es : Es} {f : Str → Int} (hP : Pool ns) (h : Md ns 9 f es) : (repT es).length ≤ 20000 := by
  have hl := h.len hP
  have hx := tex_len (fun q hq => ⟨nm_len (h.nm hP q hq), md_big h q hq⟩) (show es.length < 64 by omega)
  unfold repT reprS
  rw [len_app, len_app]
  have e1 : ("Size('" : Str).length = 6 := by decide
  have e2 : ("')" : Str).length = 2 := by decide
  omega
end K17
set_option maxHeartbeats 8000000
namespace K17
open PySem PySem.Spec PyProof.Rows L2 TL

/-! ### _law_right -/
abbrev sRi : Stmt := top 72
def NRi : List Str := ["_law_rng_here", "_law_names_here", "_law_one", "_law_two", "_law_third", "_law_before"]
def spRi : Sp := fun vs H Q _ => ∃ r : Addr, vs = [.ref r] ∧ Rg H r ∧ ∀ H', But r H H' → Rg H' r → Q (.bl true) H'
theorem list3_len (a b c : Str) : (listText [a, b, c]).length = a.length + b.length + c.length + 6 := by
  have e1 : ("[" : Str).length = 1 := by decide
  have e2 : ("]" : Str).length = 1 := by decide
  have e3 : (", " : Str).length = 2 := by decide
  have e4 : ("" : Str).length = 0 := by decide
  show (((("[" ++ ("" : Str) ++ a : Str) ++ (", " : Str) ++ b : Str) ++ (", " : Str) ++ c : Str) ++ ("]" : Str)).length = _
  simp only [len_app, e1, e2, e3, e4]
  omega
def tx3 (e1 e2 e3 : Es) : Str := listText ([e1, e2, e3].map repT)
theorem tx3_len {ns : List Str} {e1 e2 e3 : Es} {f g h : Str → Int} (hP : Pool ns) (m1 : Md ns 9 f e1) (m2 : Md ns 9 g e2) (m3 : Md ns 9 h e3) : (tx3 e1 e2 e3).length ≤ 1000000 := by
  have h1 := rep3_len hP m1
  have h2 := rep3_len hP m2
  have h3 := rep3_len hP m3
  show (listText [repT e1, repT e2, repT e3]).length ≤ _
  rw [list3_len]
  omega
/-- what stands of the law's own defs -/
structure Kr (P : Program) (w : World) (K : PySem.W.Frag) (mg : Str → Option Value) (base : Heap) (C : Addr) : Prop where
  tc : Ck K mg C
  draw : ∃ f fd, FnOk P w K mg base CX0 1 f fd ["_law_rng_here", "_law_bound"] spDraw ∧ PySem.W.keepIn K (.ref f) = true ∧ Binds K fd ["_law_rng_here", "_law_bound"] [] ∧ mg "_law_draw" = some (.ref f)
  names : ∃ f fd, FnOk P w K mg base CX0 3 f fd ["_law_rng_here", "_law_bound", "_law_taken"] spNm ∧ PySem.W.keepIn K (.ref f) = true ∧ Binds K fd ["_law_rng_here", "_law_bound", "_law_taken"] [] ∧ mg "_law_names" = some (.ref f)
  size : ∃ f fd, FnOk P w K mg base CX0 5 f fd ["_law_rng_here", "_law_names_here"] (spSz C) ∧ PySem.W.keepIn K (.ref f) = true ∧ Binds K fd ["_law_rng_here", "_law_names_here"] [] ∧ mg "_law_size" = some (.ref f)
  prr : ∃ f fd, FnOk P w K mg base CX0 7 f fd ["_law_one", "_law_two", "_law_third"] (spPrr C) ∧ PySem.W.keepIn K (.ref f) = true ∧ Binds K fd ["_law_one", "_law_two", "_law_third"] [] ∧ mg "_law_products_right" = some (.ref f)
  vr : ∃ f fd, FnOk P w K mg base CX0 8 f fd ["_law_rng_here", "_law_names_here", "_law_one", "_law_two"] (spVr C) ∧ PySem.W.keepIn K (.ref f) = true ∧ Binds K fd ["_law_rng_here", "_law_names_here", "_law_one", "_law_two"] [] ∧ mg "_law_values_right" = some (.ref f)
  er : ∃ f fd, FnG P w K mg base 8 f fd ["_law_names_here", "_law_one", "_law_two"] (spEr C) ∧ PySem.W.keepIn K (.ref f) = true ∧ Binds K fd ["_law_names_here", "_law_one", "_law_two"] [] ∧ mg "_law_equal_right" = some (.ref f)
  nr : ∃ f fd, FnG P w K mg base 8 f fd ["_law_rng_here", "_law_names_here", "_law_one", "_law_two"] (spNr C) ∧ PySem.W.keepIn K (.ref f) = true ∧ Binds K fd ["_law_rng_here", "_law_names_here", "_law_one", "_law_two"] [] ∧ mg "_law_named_right" = some (.ref f)
  make : ∃ f fd, Mk K C f ∧ FnOk P w K mg base CX0 3 f fd ["self", "exponents"] (spInit C) ∧ Binds K fd ["self", "exponents"] []
  exps : ∃ f fd, Meth K C "exponents" f ∧ FnOk P w K mg base CX0 1 f fd ["self"] (spExpo C) ∧ Binds K fd ["self"] []
  repr : ∃ f fd, FnOk P w K mg base CX0 5 f fd ["self"] (spRepr C) ∧ PySem.W.findIn K (.ref C) "__repr__" = some (some (.ref f)) ∧ PySem.W.isFn K (.ref f) = true ∧ Binds K fd ["self"] []
  reprN : mg "repr" = none
section
variable {P : Program} {w : World} {K : PySem.W.Frag} {mg : Str → Option Value} {base : Heap} {C : Addr}
theorem scRi : FnScope NRi ["_law_rng_here"] (defScope sRi) :=
  ⟨rfl, rfl, rfl, by decide +kernel, rfl, by decide +kernel, by decide +kernel⟩
theorem ri_t2 {fr : Addr} {cdv : Value} {A : Around} {outer : List Env} {s : Shared} {H0 : Hp} (Kk : Kr P w K mg base C)
    (hgu : (A.deeper (envOfC "_law_right" (defScope sRi) s.heap.objs.size fr cdv)).guards = some []) (hr : Room 9 (A.deeper (envOfC "_law_right" (defScope sRi) s.heap.objs.size fr cdv))) :
    ∃ t, PSs (cxOf CX0 P w K mg base NRi "_law_right" (defScope sRi) fr cdv A outer s H0 E0).nox ((defBody sRi).drop 4) t ∧
      ∀ (D : Ends) (H : Hp) (r l p1 p2 p3 : Addr) (ns : List Str) (e1 e2 e3 : Es) (f g h : Str → Int), Vs C H r l p1 p2 ns e1 e2 f g → SizeAt C H p3 e3 → Md ns 9 h e3 → 0 < ns.length → ns.length ≤ 6 →
        (∀ H', But r H H' → Rg H' r → D.rt (.bl true) H') →
        t D [some (.ref r), some (.ref l), some (.ref p1), some (.ref p2), some (.ref p3), some (.str (tx3 e1 e2 e3))] H := by
  obtain ⟨Tc, _, _, _, ⟨fp, fdp, Gp, kp, bp, gp⟩, ⟨fv, fdv, Gv, kv', bv, gv⟩, ⟨fe, fde, Ge, ke, be, ge⟩, ⟨fn, fdn, Gn, kn, bn, gn⟩, _, _, ⟨fq, fdq, Gq, hsq, hfq, bq⟩, reprN⟩ := Kk
  have Gp9 := Gp.mono (k := 9) (by decide)
  have Gv9 := Gv.mono (k := 9) (by decide)
  have hr8 : Room 8 (A.deeper (envOfC "_law_right" (defScope sRi) s.heap.objs.size fr cdv)) := hr.mono (by decide)
  refine ⟨_, pss_cons (ps_if (PW.pt (pw_or (pt_not (pt_val (pe_call Gp9 hr rfl gp kp bp .nil pass0 (pa_cons (pv 2) (pa_cons (pv 3) (pa_cons (pv 4) pa_nil))))))
        (pw_or1 (pt_not (pt_val (pe_call Gp9 hr rfl gp kp bp .nil pass0 (pa_cons (pv 4) (pa_cons (pv 2) (pa_cons (pv 2) pa_nil))))))))) (pss_one (ps_ret pe_bl)) pss_nil)
    (pss_cons (ps_if (PW.pt (pw_or (pt_not (pt_val (pe_call Gv9 hr rfl gv kv' bv .nil pass0 (pa_cons (pv 0) (pa_cons (pv 1) (pa_cons (pv 2) (pa_cons (pv 3) pa_nil)))))))
        (pw_or1 (pt_not (pt_val (pe_call Gv9 hr rfl gv kv' bv .nil pass0 (pa_cons (pv 0) (pa_cons (pv 1) (pa_cons (pv 3) (pa_cons (pv 4) pa_nil)))))))))) (pss_one (ps_ret pe_bl)) pss_nil)
    (pss_cons (ps_if (PW.pt (pw_or (pt_not (pt_val (pe_callG Ge hgu hr8 rfl ge ke be (pa_cons (pv 1) (pa_cons (pv 2) (pa_cons (pv 3) pa_nil))))))
        (pw_or1 (pt_not (pt_val (pe_callG Ge hgu hr8 rfl ge ke be (pa_cons (pv 1) (pa_cons (pv 2) (pa_cons (pv 4) pa_nil))))))))) (pss_one (ps_ret pe_bl)) pss_nil)
    (pss_one (ps_ret (pe_and (pe_callG Gn hgu hr8 rfl gn kn bn (pa_cons (pv 0) (pa_cons (pv 1) (pa_cons (pv 2) (pa_cons (pv 3) pa_nil)))))
      (pe_one (pe_cmpR op_eq (pe_callB (call_reprL Gq hsq hfq bq hr hgu) (by rfl) reprN (by decide +kernel) (pa_cons (pe_lst (pa_cons (pv 2) (pa_cons (pv 3) (pa_cons (pv 4) pa_nil)))) pa_nil)) (pv 5) (nomark _)))))))), ?_⟩
  intro D H r l p1 p2 p3 ns e1 e2 e3 f g h v z3 m3 hne h6 k
  have hP := v.hP
  refine ⟨_, rfl, _, rfl, _, rfl, p1, p2, p3, ns, e1, e2, e3, 9, 9, 9, f, g, h, rfl, hP, v.z1, v.z2, z3, v.m1, v.m2, m3, fun H1 S1 => ⟨_, rfl, iteF ?_⟩⟩
  have v1 := v.same S1
  have z31 := z3.same S1
  refine ⟨_, rfl, _, rfl, _, rfl, p3, p1, p1, ns, e3, e1, e1, 9, 9, 9, h, f, f, rfl, hP, z31, v1.z1, v1.z1, m3, v.m1, v.m1, fun H2 S2 => ⟨_, rfl, iteF (next_ ?_)⟩⟩
  have v2 := v1.same S2
  have z32 := z31.same S2
  refine ⟨_, rfl, _, rfl, _, rfl, _, rfl, r, l, p1, p2, ns, e1, e2, f, g, rfl, v2, fun H3 B3 hR3 => ⟨_, rfl, iteF ?_⟩⟩
  have v3 := v2.but B3 hR3
  have z33 := z32.but v2.hR B3
  refine ⟨_, rfl, _, rfl, _, rfl, _, rfl, r, l, p2, p3, ns, e2, e3, g, h, rfl, ⟨v3.hR, v3.lr, v3.hl, hP, v3.z2, z33, v3.m2, m3⟩, fun H4 B4 hR4 => ⟨_, rfl, iteF (next_ ?_)⟩⟩
  have v4 := v3.but B4 hR4
  have z34 := z33.but v3.hR B4
  refine ⟨_, rfl, _, rfl, _, rfl, l, p1, p2, ns, e1, e2, f, g, rfl, v4.hl, hP, h6, v4.z1, v4.z2, v4.m1, v4.m2, fun H5 S5 => ⟨_, rfl, iteF ?_⟩⟩
  have v5 := v4.same S5
  have z35 := z34.same S5
  refine ⟨_, rfl, _, rfl, _, rfl, l, p1, p3, ns, e1, e3, f, h, rfl, v5.hl, hP, h6, v5.z1, z35, v5.m1, m3, fun H6 S6 => ⟨_, rfl, iteF (next_ ?_)⟩⟩
  have v6 := v5.same S6
  have z36 := z35.same S6
  refine ⟨_, rfl, _, rfl, _, rfl, _, rfl, r, l, p1, p2, ns, e1, e2, f, g, rfl, v6, hne, fun H7 B7 hR7 => ⟨_, rfl, iteT' rfl ?_⟩⟩
  have v7 := v6.but B7 hR7
  have z37 := z36.but v6.hR B7
  refine ⟨_, rfl, _, rfl, _, rfl, by rw [sizeLine_eq]; show 3 ≤ 16777216; decide, fun L nL => ?_⟩
  have S8 := fresh_upd (o := .lst [V.ref p1, V.ref p2, V.ref p3]) nL
  have v8 := v7.same S8
  refine ⟨L, [p1, p2, p3], [e1, e2, e3], rfl, upd_same, by show 0 < 3; decide, .cons ⟨v8.z1, md_big v.m1⟩ (.cons ⟨v8.z2, md_big v.m2⟩ (.cons ⟨z37.same S8, md_big m3⟩ .nil)), tx3_len hP v.m1 v.m2 m3, fun H9 S9 => ?_⟩
  refine ⟨_, rfl, rfl, ?_⟩
  rw [show V.str (listText ([e1, e2, e3].map repT)) = V.str (tx3 e1 e2 e3) from rfl, decide_eq_true rfl]
  exact k H9 ((But.of (S1.trans S2)).trans (B3.trans (B4.trans ((But.of (S5.trans S6)).trans (B7.trans (But.of (S8.trans S9))))))) (hR7.same (S8.trans S9))
end
end K17
set_option maxHeartbeats 8000000
namespace K17
open PySem PySem.Spec PyProof.Rows L2

section
variable {P : Program} {w : World} {K : PySem.W.Frag} {mg : Str → Option Value} {base : Heap} {C : Addr}
theorem ri_t1 {fr : Addr} {cdv : Value} {A : Around} {outer : List Env} {s : Shared} {H0 : Hp} (Kk : Kr P w K mg base C)
    (hgu : (A.deeper (envOfC "_law_right" (defScope sRi) s.heap.objs.size fr cdv)).guards = some []) (hr : Room 9 (A.deeper (envOfC "_law_right" (defScope sRi) s.heap.objs.size fr cdv))) {t2 : TS}
    (ht : PSs (cxOf CX0 P w K mg base NRi "_law_right" (defScope sRi) fr cdv A outer s H0 E0).nox ((defBody sRi).drop 4) t2) :
    ∃ t, PSs (cxOf CX0 P w K mg base NRi "_law_right" (defScope sRi) fr cdv A outer s H0 E0).nox (defBody sRi) t ∧
      ∀ (D : Ends) (H : Hp) (r : Addr), Rg H r →
        (∀ (H' : Hp) (l p1 p2 p3 : Addr) (ns : List Str) (e1 e2 e3 : Es) (f g h : Str → Int), But r H H' → Vs C H' r l p1 p2 ns e1 e2 f g → SizeAt C H' p3 e3 → Md ns 9 h e3 → 0 < ns.length → ns.length ≤ 6 →
          t2 D [some (.ref r), some (.ref l), some (.ref p1), some (.ref p2), some (.ref p3), some (.str (tx3 e1 e2 e3))] H') →
        t D [some (.ref r), none, none, none, none, none] H := by
  obtain ⟨Tc, ⟨fd, fdd, Gd, kd, bd, gd⟩, ⟨fn, fdn, Gn, kn, bn, gn⟩, ⟨fs, fds, Gs, ks, bs, gs⟩, _, _, _, _, ⟨fm, fdm, M, Gm, bm⟩, ⟨fx, fdx, mX, Gx, bx⟩, ⟨fq, fdq, Gq, hsq, hfq, bq⟩, reprN⟩ := Kk
  have Gd9 := Gd.mono (k := 9) (by decide)
  have Gn9 := Gn.mono (k := 9) (by decide)
  have Gs9 := Gs.mono (k := 9) (by decide)
  have Gm9 := Gm.mono (k := 8) (by decide)
  have Gx9 := Gx.mono (k := 9) (by decide)
  refine ⟨_, pss_cons (ps_set (i := 1) scRi.nd rfl (.inl rfl) (pe_call Gn9 hr rfl gn kn bn .nil pass0 (pa_cons (pv 0) (pa_cons (pe_op op_add pe_int (pe_call Gd9 hr rfl gd kd bd .nil pass0 (pa_cons (pv 0) (pa_cons pe_int pa_nil)))) (pa_cons (pe_lst pa_nil) pa_nil)))))
    (pss_cons (ps_par3 (i := 2) (j := 3) (l := 4) rfl scRi.nd rfl rfl rfl (by decide) (by decide) (by decide) rfl rfl rfl
        (pa_cons (pe_call Gs9 hr rfl gs ks bs .nil pass0 (pa_cons (pv 0) (pa_cons (pv 1) pa_nil)))
        (pa_cons (pe_call Gs9 hr rfl gs ks bs .nil pass0 (pa_cons (pv 0) (pa_cons (pv 1) pa_nil)))
        (pa_cons (pe_call Gs9 hr rfl gs ks bs .nil pass0 (pa_cons (pv 0) (pa_cons (pv 1) pa_nil))) pa_nil))) rfl)
    (pss_cons (ps_if (pt_cmpR op_eq (pe_call Gd9 hr rfl gd kd bd .nil pass0 (pa_cons (pv 0) (pa_cons pe_int pa_nil))) pe_int (nomark _))
      (pss_one (ps_set (i := 3) scRi.nd rfl (.inl rfl) (pe_make M Gm9 hr rfl Tc.gC bm .nil pass0 (pa_cons (pe_meth0 (pv 2) Tc.cl mX Gx9 hr bx .nil pass0) pa_nil)))) pss_nil)
    (pss_cons (ps_set (i := 5) scRi.nd rfl (.inl rfl) (pe_callB (call_reprL Gq hsq hfq bq hr hgu) (by rfl) reprN (by decide +kernel) (pa_cons (pe_lst (pa_cons (pv 2) (pa_cons (pv 3) (pa_cons (pv 4) pa_nil)))) pa_nil))) ht))), ?_⟩
  intro D H r hR k
  have fin : ∀ (H' : Hp) (l p1 p2 p3 : Addr) (ns : List Str) (e1 e2 e3 : Es) (f g h : Str → Int), But r H H' → Vs C H' r l p1 p2 ns e1 e2 f g → SizeAt C H' p3 e3 → Md ns 9 h e3 → 0 < ns.length → ns.length ≤ 6 →
      ∀ (L : Addr), H' L = none → rRepL C [.ref L] (upd H' L (.lst [V.ref p1, V.ref p2, V.ref p3])) (fun x H2 => t2 D ([some (.ref r), some (.ref l), some (.ref p1), some (.ref p2), some (.ref p3), some x]) H2) := by
    intro H' l p1 p2 p3 ns e1 e2 e3 f g h B v z3 m3 h0 h6 L nL
    have hP := v.hP
    have S8 := fresh_upd (o := .lst [V.ref p1, V.ref p2, V.ref p3]) nL
    have v8 := v.same S8
    refine ⟨L, [p1, p2, p3], [e1, e2, e3], rfl, upd_same, by show 0 < 3; decide, .cons ⟨v8.z1, md_big v.m1⟩ (.cons ⟨v8.z2, md_big v.m2⟩ (.cons ⟨z3.same S8, md_big m3⟩ .nil)), tx3_len hP v.m1 v.m2 m3, fun H9 S9 => ?_⟩
    exact k H9 l p1 p2 p3 ns e1 e2 e3 f g h (B.trans (But.of (S8.trans S9))) (v8.same S9) (z3.same (S8.trans S9)) m3 h0 h6
  refine ⟨_, rfl, _, rfl, r, 5, rfl, hR, by decide, by decide, fun H1 d d0 d1 hR1 B1 => ⟨1, d, rfl, rfl, ?_⟩⟩
  refine ⟨by rw [sizeLine_eq]; show 0 ≤ 16777216; decide, fun T nT => ?_⟩
  have S1 := fresh_upd (o := .lst []) nT
  refine ⟨r, 1 + d, T, rfl, hR1.same S1, by omega, by omega, (hR1.ne nT).symm, upd_same, fun H2 l ns B2 hR2 nl hl hP hn => ?_⟩
  have B02 := B1.trans ((But.of S1).trans B2)
  have lr : l ≠ r := fun z => by
    subst z
    have := (hR1.same S1).ne nl
    exact this rfl
  refine ⟨_, rfl, _, rfl, r, l, ns, rfl, hR2, lr, hl, hP, fun H3 p1 e1 f B3 hR3 z1 _ m1 => ?_⟩
  have hl3 := B3 _ _ lr hl
  refine ⟨_, rfl, _, rfl, r, l, ns, rfl, hR3, lr, hl3, hP, fun H4 p2 e2 g B4 hR4 z2 _ m2 => ?_⟩
  have hl4 := B4 _ _ lr hl3
  refine ⟨_, rfl, _, rfl, r, l, ns, rfl, hR4, lr, hl4, hP, fun H5 p3 e3 h B5 hR5 z3 _ m3 => ?_⟩
  have hl5 := B5 _ _ lr hl4
  have z15 := (z1.but hR3 B4).but hR4 B5
  have z25 := z2.but hR4 B5
  refine ⟨_, _, _, rfl, ?_⟩
  refine ⟨_, rfl, r, 3, rfl, hR5, by decide, by decide, fun H6 c c0 c1 hR6 B6 => ?_⟩
  have z16 := z15.but hR5 B6
  have z26 := z25.but hR5 B6
  have z36 := z3.but hR5 B6
  have hl6 := B6 _ _ lr hl5
  have B06 := B02.trans (B3.trans (B4.trans (B5.trans B6)))
  refine ⟨rfl, _, rfl, ?_⟩
  refine ite2 (fun _ => ?_) fun _ => ?_
  · obtain ⟨dx, D1, y, _⟩ := id z16
    refine ⟨_, rfl, p1, dx, _, rfl, y, rfl, p1, e1, rfl, z16, fun u nu => ?_⟩
    have S7 := fresh_upd (o := .dK (kv e1)) nu
    have lm := m1.len hP
    refine rd_mk (R := e1) upd_same m1.sd.nodup (by omega) (m1.nm hP) fun H8 r8 rs dx8 D8 S8 z8 lk8 _ _ _ => ⟨rfl, ?_⟩
    obtain ⟨_, _, _, _, sd, _⟩ := id z8
    have e : rs = e1 := sd.one m1.sd fun n => by rw [lk8, m1.lk, m1.g]
    subst e
    have S78 := S7.trans S8
    refine ⟨_, rfl, _, rfl, _, rfl, by rw [sizeLine_eq]; show 3 ≤ 16777216; decide, fun L nL => ?_⟩
    exact fin H8 l p1 r8 p3 ns rs rs e3 f f h (B06.trans (But.of S78)) ⟨hR6.same S78, lr, S78 _ _ hl6, hP, z16.same S78, z8, m1, m1⟩ (z36.same S78) m3 (by omega) (by omega) L nL
  · refine ⟨_, rfl, _, rfl, _, rfl, by rw [sizeLine_eq]; show 3 ≤ 16777216; decide, fun L nL => ?_⟩
    exact fin H6 l p1 p2 p3 ns e1 e2 e3 f g h B06 ⟨hR6, lr, hl6, hP, z16, z26, m1, m2⟩ z36 m3 (by omega) (by omega) L nL
theorem ok_ri {f : Addr} {fd : FuncData} (F : Fun K "_law_right" "_law_right" sRi f fd) (Kk : Kr P w K mg base C) :
    FnG P w K mg base 10 f fd ["_law_rng_here"] spRi := by
  refine F.okG scRi (fun vs H Q h => ?_) (fun cdv A outer s H vs Q hgu hr h => ?_)
  · obtain ⟨r, rfl, _⟩ := h
    rfl
  · obtain ⟨r, rfl, hR, k⟩ := h
    have hgu' : (A.deeper (envOfC "_law_right" (defScope sRi) s.heap.objs.size f cdv)).guards = some [] := hgu
    obtain ⟨t2, h2, k2⟩ := ri_t2 (outer := outer) (H0 := H) Kk hgu' hr
    obtain ⟨t1, h1, k1⟩ := ri_t1 Kk hgu' hr h2
    refine ⟨t1, h1, ?_⟩
    refine k1 _ H r hR fun H1 l p1 p2 p3 ns e1 e2 e3 f g h B v z3 m3 h0 h6 => ?_
    exact k2 _ H1 r l p1 p2 p3 ns e1 e2 e3 f g h v z3 m3 h0 h6 fun H2 B2 hR2 => k H2 (B.trans B2) hR2
end
end K17
set_option maxHeartbeats 8000000
namespace K17
open PySem PySem.Spec PyProof.Rows L2

/-! ### law -/
abbrev sLw : Stmt := top 73
def NLa : List Str := ["_law_script", "_law_k"]
def spLaw (K : PySem.W.Frag) : Sp := fun vs H Q _ => ∃ (a : Addr) (ns : List Int), vs = [.ref a] ∧ SqL K H a (ns.map V.int) ∧ ns.length ≤ 1000 ∧
  ∀ H', Q (.bl true) H'
theorem many_nat (n : Nat) : (if (if (n : Int) < 4 then (n : Int) else 4) > 1 then (if (n : Int) < 4 then (n : Int) else 4) else 1) = ((max 1 (min 4 n) : Nat) : Int) := by
  split <;> split <;> omega
theorem many_nat' (n : Nat) : (if (if (4 : Int) < (n : Int) then (4 : Int) else (n : Int)) > 1 then (if (4 : Int) < (n : Int) then (4 : Int) else (n : Int)) else 1) = ((max 1 (min 4 n) : Nat) : Int) := by
  split <;> split <;> omega
theorem all_trues (n : Nat) : (List.replicate n true).all id = true := by
  rw [List.all_eq_true]
  intro x hx
  exact List.eq_of_mem_replicate hx
section
variable {P : Program} {w : World} {K : PySem.W.Frag} {mg : Str → Option Value} {base : Heap}
theorem scLw : FnScope NLa ["_law_script"] (defScope sLw) :=
  ⟨rfl, rfl, rfl, by decide +kernel, rfl, by decide +kernel, by decide +kernel⟩
theorem ok_law {f fG fR : Addr} {fd fdG fdR : FuncData} (F : Fun K "law" "law" sLw f fd) (T : Nb mg) (allN : mg "all" = none)
    (GG : FnOk P w K mg base CX0 1 fG fdG ["_law_script", "_law_k"] (spRng K)) (kG : PySem.W.keepIn K (.ref fG) = true)
    (bG : Binds K fdG ["_law_script", "_law_k"] []) (gG : mg "_law_rng" = some (.ref fG))
    (GR : FnG P w K mg base 10 fR fdR ["_law_rng_here"] spRi) (kR : PySem.W.keepIn K (.ref fR) = true)
    (bR : Binds K fdR ["_law_rng_here"] []) (gR : mg "_law_right" = some (.ref fR)) :
    FnG P w K mg base 11 f fd ["_law_script"] (spLaw K) := by
  have GG9 := GG.mono (k := 10) (by decide)
  refine F.okG scLw (fun vs H Q h => ?_) (fun cdv A outer s H vs Q hgu hr h => ?_)
  · obtain ⟨a, ns, rfl, _⟩ := h
    rfl
  · obtain ⟨a, ns, rfl, hS, hn, q⟩ := h
    have hgu' : (A.deeper (envOfC "law" (defScope sLw) s.heap.objs.size f cdv)).guards = some [] := hgu
    refine ⟨_, pss_one (ps_ret (pe_callB (cr_all rfl) (by rfl) allN (by decide +kernel) (pa_cons
      (pe_lc (own := [("_law_k", 1)]) (g := gName 1) (tt := tYes)
        (te := tCall spRi [] E0 (tCons (tCall (spRng K) [] E0 (tCons (tVar 0) (tCons (tVar 1) tNil))) tNil)) rfl scLw.nd
        (pi_range1 (by rfl) T.range (pa_cons (pe_callB (call_max2 rfl) (by rfl) T.max (by decide +kernel) (pa_cons pe_int (pa_cons
          (pe_callB (call_min2 rfl) (by rfl) T.min (by decide +kernel) (pa_cons
            (pe_callB call_len_seq (by rfl) T.len PySem.boot_len (pa_cons (pv 0) pa_nil)) (pa_cons pe_int pa_nil))) pa_nil))) pa_nil))
        (blkOk_by (own := [("_law_k", 1)]) (N := NLa) (sc := defScope sLw) (by decide +kernel)) (fun _ _ _ _ _ => pg_name (i := 1) scLw.nd rfl (Or.inl rfl))
        (fun _ _ _ _ _ => pts_nil) (fun _ _ _ _ _ => by
          exact pe_callG GR hgu' hr rfl gR kR bR (pa_cons (pe_call GG9 hr rfl gG kG bG .nil pass0 (pa_cons (pv 0) (pa_cons (pv 1) pa_nil))) pa_nil))) pa_nil))), ?_⟩
    refine ⟨_, rfl, a, _, rfl, .inl hS, _, _, rfl, _, _, rfl, ?_⟩
    first
      | rw [many_nat]
      | rw [many_nat']
    have hm4 : max 1 (min 4 (ns.map V.int).length) ≤ 4 := by omega
    generalize max 1 (min 4 (ns.map V.int).length) = m at hm4
    refine ⟨m, rfl, by omega, by omega, fun D hD => ?_⟩
    refine lc_range (lo := 0) (n := m) (fun i H2 => H2 D = some (.lst (List.replicate i (V.bl true))) ∧ Same H H2)
      ⟨upd_same, fresh_upd hD⟩ ?_ ?_
    · rintro i H2 hi ⟨hD2, S2'⟩
      refine ⟨rfl, ?_⟩
      unfold tYes
      dsimp only
      rw [if_pos rfl]
      refine ⟨_, rfl, _, rfl, a, ns, _, rfl, S2'.seq hS, by omega, by omega, hn, fun p x y hp h0 h1 h2 => ?_⟩
      refine ⟨p, rfl, ⟨x, y, upd_same, h0, h1, h2⟩, fun H3' hB _ => ?_⟩
      have S3' : Same H2 H3' := fun b o e => hB b o (ne_of_none e hp) ((upd_ne (ne_of_none e hp)).trans e)
      refine ⟨_, S3' _ _ hD2, by rw [List.length_replicate, sizeLine_eq]; omega, ?_, fun b o e => ?_⟩
      · rw [upd_same, List.replicate_succ']
      · rw [upd_ne (ne_of_none e hD)]
        exact S3' b o (S2' b o e)
    · rintro H2 ⟨hD2, S2'⟩
      refine ⟨D, List.replicate m true, rfl, SqL.of (by rw [List.map_replicate]; exact hD2), ?_⟩
      rw [all_trues]
      exact q _
end
end K17
set_option maxHeartbeats 8000000
namespace K17
open PySem PySem.Spec PyProof.Rows L2 He

/-! ### what is looked at behind the top -/
/-- an object that a namespace names -/
def gNs (g : Addr → Option Obj) (ns : Addr) (x : Str) : Addr := match g ns with
  | some ⟨_, _, .dict es _, _⟩ => (match es.toList.find? (·.key.isStr x) with
    | some e => (match e.val with
      | .ref a => a
      | _ => 0)
    | none => 0)
  | _ => 0
/-- a function, its code, its defaults -/
def gFn (g : Addr → Option Obj) (f : Addr) : List Addr := f :: (match g f with
  | some ⟨_, _, .func fd, _⟩ => (match fd.code with
    | .ref c => [c]
    | _ => []) ++ (match fd.defaults with
    | .ref t => [t]
    | _ => []) ++ fd.closure.map (·.2)
  | _ => [])
/-- .., or a record over it -/
def gMb (g : Addr → Option Obj) (p : Addr) : List Addr := match g p with
  | some ⟨_, _, .fields vs, _⟩ => (match vs[0]? with
    | some (Value.ref f) => p :: gFn g f
    | _ => [p])
  | _ => gFn g p
def meths : List (Str × Nat) := [("is_whole", 4), ("top", 5), ("bottom", 6), ("names", 7), ("exponents", 8), ("exponent", 9), ("over", 10), ("power", 11), ("at", 12), ("at_point", 13), ("__mul__", 14), ("__contains__", 15), ("__eq__", 17), ("__str__", 18), ("__repr__", 19), ("product", 3), ("read", 2)]
def gCl (g : Addr → Option Obj) (C : Addr) : List Addr := C :: (match g C with
  | some ⟨_, _, .cls cd, _⟩ => cd.ns :: gMb g (gNs g cd.ns "__init__") ++ meths.flatMap fun p => gMb g (gNs g cd.ns p.1)
  | _ => [])
def xCl (g : Addr → Option Obj) (C : Addr) : List Addr := C :: (match g C with
  | some ⟨_, _, .cls cd, _⟩ => cd.ns :: gFn g (gNs g cd.ns "__init__")
  | _ => [])
def fns0 : List (Str × Nat) := [("added", 2), ("is_integer", 18), ("is_count", 19), ("is_list", 20), ("raised", 22), ("orders", 23), ("coprime_bases", 24), ("order_in", 25), ("_refined", 26), ("_sharing", 27), ("is_name", 34), ("is_numbers", 35), ("is_point", 36), ("check_numbers", 37), ("check_point", 38), ("check_points", 39)]
def fns1 : List (Str × Nat) := [("primes", 40), ("numbers_of", 41), ("_number_of", 42), ("_has_no_divisor", 43), ("decimal_text", 48), ("read_decimal", 49), ("exponents_text", 51), ("read_exponents", 52), ("_power_text", 53), ("check_size", 56), ("check_sizes", 57), ("_is_exponents", 58), ("_times", 59), ("_law_rng", 61), ("_law_draw", 62), ("_law_choice", 63)]
def fns2 : List (Str × Nat) := [("_law_names", 64), ("_law_size", 65), ("_law_whole", 66), ("_law_raised", 67), ("_law_products_right", 68), ("_law_values_right", 69), ("_law_equal_right", 70), ("_law_named_right", 71), ("_law_right", 72), ("law", 73)]
def fns : List (Str × Nat) := fns0 ++ fns1 ++ fns2
def xcs : List Str := ["AnyshapeError", "InvalidText", "StateError", "NotWhole"]
def addrs (g : Addr → Option Obj) : List Addr := [mainGlobals, sysModules, cStatics] ++ gCl g (gNs g mainGlobals "Size") ++ (xcs.flatMap fun x => xCl g (gNs g mainGlobals x)) ++ fns.flatMap fun p => gFn g (gNs g mainGlobals p.1)
def KX (g : Addr → Option Obj) : PySem.W.Frag := He.frG g (addrs g)

/-! ### the facts -/
abbrev FnX : Type := Option (Str × Str × Arguments × FuncBody × Scope × Addr × Addr)
def fnX (K : PySem.W.Frag) (f : Addr) : FnX := match K.lookup f with
  | some ⟨_, _, .func fd, _⟩ => some (fd.name, fd.qualname, fd.params, fd.body, fd.scope, fd.globals, fd.builtins)
  | _ => none
def fnT (x qual : Str) (st : Stmt) : FnX := some (x, qual, defArgs st, .stmts (defBody st), defScope st, mainGlobals, builtinsNs)
def fnB (K : PySem.W.Frag) (f : Addr) (qual : Str) : Bool := PySem.W.keepIn K (.ref f) && match K.lookup f with
  | some ⟨_, _, .func fd, _⟩ => (match fd.closure, fd.defaults with
    | [], .none => PySem.W.codeIn K fd.code qual
    | _, _ => false)
  | _ => false
theorem fun_of {K : PySem.W.Frag} {f : Addr} {x qual : Str} {st : Stmt} (e : fnX K f = fnT x qual st) (c : fnB K f qual = true) : ∃ fd, Fun K x qual st f fd := by
  unfold fnB at c
  obtain ⟨kp, c2⟩ := Bool.and_eq_true_iff.mp c
  unfold fnX at e
  cases q : K.lookup f with
  | none =>
    rw [q] at c2
    cases c2
  | some o =>
    obtain ⟨oc, od, dt, osl⟩ := o
    rw [q] at c2 e
    cases dt with
    | func fd =>
      obtain ⟨n1, n2, n3, n4, n5, n6, n7, n8, n9, n10, n11, n12, n13, n14, n15⟩ := fd
      have e2 : (some (n1, n2, n3, n4, n5, n6, n15) : FnX) = some (x, qual, defArgs st, .stmts (defBody st), defScope st, mainGlobals, builtinsNs) := e
      simp only [Option.some.injEq, Prod.mk.injEq] at e2
      obtain ⟨h1, h2, h3, h4, h5, h6, h7⟩ := e2
      subst h1 h2 h3 h4 h5 h6 h7
      dsimp only at c2
      split at c2
      · exact ⟨_, ⟨oc, od, n9, n10, n11, n12, n13, n14, osl, rfl, q, c2⟩, kp⟩
      · cases c2
    | _ => cases c2
/-- a def whose one default is None -/
def fnD (K : PySem.W.Frag) (f : Addr) (qual : Str) : Bool := PySem.W.keepIn K (.ref f) && match K.lookup f with
  | some ⟨_, _, .func fd, _⟩ => (match fd.closure, fd.defaults with
    | [], .ref T => PySem.W.codeIn K fd.code qual && (match K.lookup T with
      | some ⟨_, _, .seq its _, _⟩ => decide (its = #[Value.none])
      | _ => false)
    | _, _ => false)
  | _ => false
theorem fund_of {K : PySem.W.Frag} {f : Addr} {x qual : Str} {st : Stmt} (e : fnX K f = fnT x qual st) (c : fnD K f qual = true) : ∃ fd, FnD K x qual st [.non] f fd := by
  unfold fnD at c
  obtain ⟨kp, c2⟩ := Bool.and_eq_true_iff.mp c
  unfold fnX at e
  cases q : K.lookup f with
  | none =>
    rw [q] at c2
    cases c2
  | some o =>
    obtain ⟨oc, od, dt, osl⟩ := o
    rw [q] at c2 e
    cases dt with
    | func fd =>
      obtain ⟨n1, n2, n3, n4, n5, n6, n7, n8, n9, n10, n11, n12, n13, n14, n15⟩ := fd
      have e2 : (some (n1, n2, n3, n4, n5, n6, n15) : FnX) = some (x, qual, defArgs st, .stmts (defBody st), defScope st, mainGlobals, builtinsNs) := e
      simp only [Option.some.injEq, Prod.mk.injEq] at e2
      obtain ⟨h1, h2, h3, h4, h5, h6, h7⟩ := e2
      subst h1 h2 h3 h4 h5 h6 h7
      dsimp only at c2
      split at c2
      · rename_i T
        obtain ⟨c3, c4⟩ := Bool.and_eq_true_iff.mp c2
        split at c4
        · rename_i a1 a2 its n a4 q2
          have ei := of_decide_eq_true c4
          subst ei
          exact ⟨_, ⟨⟨oc, od, .ref T, _, _, _, _, _, _, osl, rfl, q, c3, .inr ⟨(fun z => nomatch z), T, _, [.none], n, rfl, q2, rfl, .cons rfl .nil⟩, .inl rfl⟩, kp⟩⟩
        · cases c4
      · cases c2
    | _ => cases c2
abbrev caK (K : PySem.W.Frag) : Addr := ga K "Size"
def eO (a b : Option (Option Value)) : Bool := decide (a = b)
def eB (a b : Option Bool) : Bool := decide (a = b)
/-- the function of a record -/
def rcF (K : PySem.W.Frag) (p : Addr) (T : String) : Addr := match PySem.W.recIn K p T with
  | some (.ref g :: _) => g
  | _ => 0
def rcB (K : PySem.W.Frag) (p : Addr) (T : String) : Bool := match PySem.W.recIn K p T with
  | some (.ref _ :: _) => true
  | _ => false
theorem rec_ok {K : PySem.W.Frag} {p : Addr} {T : String} (h : rcB K p T = true) : ∃ rest, PySem.W.recIn K p T = some (.ref (rcF K p T) :: rest) := by
  unfold rcB at h
  unfold rcF
  split at h
  · rename_i g r e
    rw [e]
    exact ⟨r, rfl⟩
  · cases h
def cmB (K : PySem.W.Frag) (m : Str) : Bool := match PySem.W.findCls K (.ref (caK K)) (.type "type") m with
  | some (.get g a o t) => decide (g = .builtin "classmethod.__get__") && (decide (a = .ref (ma K (caK K) m)) && (decide (o = .none) && decide (t = .ref (caK K))))
  | _ => false
theorem cm_ok {K : PySem.W.Frag} {m : Str} (h : cmB K m = true) : PySem.W.findCls K (.ref (caK K)) (.type "type") m = some (.get (.builtin "classmethod.__get__") (.ref (ma K (caK K) m)) .none (.ref (caK K))) := by
  unfold cmB at h
  split at h
  · rename_i g a o t e
    rw [Bool.and_eq_true, Bool.and_eq_true, Bool.and_eq_true] at h
    obtain ⟨h1, h2, h3, h4⟩ := h
    rw [e, of_decide_eq_true h1, of_decide_eq_true h2, of_decide_eq_true h3, of_decide_eq_true h4]
  · cases h
/-- a method's function -/
def meA (K : PySem.W.Frag) (m : Str) : Addr := ma K (caK K) m
def props : List Str := ["is_whole", "top", "bottom"]
def cms : List Str := ["product", "read"]
def plain : List Str := ["names", "exponents", "exponent", "over", "power", "at", "at_point", "__mul__", "__contains__", "__eq__", "__str__", "__repr__", "__init__"]
def faM (K : PySem.W.Frag) (m : Str) : Addr := if decide (m ∈ props) then rcF K (meA K m) "property" else if decide (m ∈ cms) then rcF K (meA K m) "classmethod" else meA K m
def quM (m : Str) : Str := ("Size." : Str) ++ m
def clB (K : PySem.W.Frag) : Bool :=
  eO (PySem.W.nsIn K mainGlobals "Size") (some (some (.ref (caK K)))) &&
  (PySem.W.plainGet K (caK K) Str.empty &&
  (PySem.W.hasDictIn K (caK K) &&
  (PySem.W.plainOver K (caK K) &&
  (eO (PySem.W.findIn K (.ref (caK K)) "__setattr__") (some (some (.builtin "object.__setattr__"))) &&
  (eO (PySem.W.findIn K (.ref (caK K)) "_exponents") (some none) &&
  (eO (PySem.W.findIn K (.ref (caK K)) "__class__") (some (some (.builtin "object.__class__"))) &&
  (eB (PySem.W.mroIn K (caK K) (.type "object")) (some true) &&
  (PySem.W.makesIn K (caK K) &&
  (PySem.W.keepIn K (.ref (caK K)) &&
  (PySem.W.selfFirst K (caK K) &&
  (eO (PySem.W.findIn K (.ref (caK K)) "__ne__") (some (some (.builtin "object.__ne__"))) &&
  (PySem.W.readsIn K (caK K) (.type "type") &&
  (eO (PySem.W.specialIn K (.ref (caK K)) "__getattribute__") (some (some (.builtin "type.__getattribute__"))) &&
  (eB (PySem.W.kitOne K (.ref (caK K)) (.type "str")) (some false) &&
  (eB (PySem.W.kitOne K (.type "int") (.ref (caK K))) (some false) &&
  (eB (PySem.W.kitOne K (.type "str") (.ref (caK K))) (some false) &&
  (eB (PySem.W.kitOne K (.type "dict") (.ref (caK K))) (some false))))))))))))))))))
def plB (K : PySem.W.Frag) (m : Str) : Bool := eO (PySem.W.findIn K (.ref (caK K)) m) (some (some (.ref (meA K m)))) && PySem.W.isFn K (.ref (meA K m))
def prB (K : PySem.W.Frag) (m : Str) : Bool := eO (PySem.W.findIn K (.ref (caK K)) m) (some (some (.ref (meA K m)))) && (eO (PySem.W.specialIn K (.ref (meA K m)) "__get__") (some (some (.builtin "property.__get__"))) &&
  (eB (PySem.W.takesIn K (.ref (meA K m))) (some true) && rcB K (meA K m) "property"))
def cmmB (K : PySem.W.Frag) (m : Str) : Bool := cmB K m && (rcB K (meA K m) "classmethod" && PySem.W.fnIn K (rcF K (meA K m) "classmethod"))
def bltN : List Str := ["len", "max", "min", "abs", "int", "divmod", "repr", "isinstance", "range", "enumerate", "all", "any", "bool", "str", "dict", "sorted", "list", "sum", "super", "zip", "set", "tuple"]
def conB (K : PySem.W.Frag) : Bool := (match PySem.W.nsIn K mainGlobals "LETTERS" with
  | some (some (.str x _)) => decide (x = abc)
  | _ => false) && ((match PySem.W.nsIn K mainGlobals "LONGEST_NAME" with
  | some (some (.int i _)) => decide (i = 8)
  | _ => false) && ((match PySem.W.nsIn K mainGlobals "DIGITS" with
  | some (some (.str x _)) => decide (x = dgT)
  | _ => false) && ((match PySem.W.nsIn K mainGlobals "CHUNK" with
  | some (some (.int i _)) => decide (i = 10 ^ 60)
  | _ => false) && ((match PySem.W.nsIn K mainGlobals "GREATEST_COUNT" with
  | some (some (.int i _)) => decide (i = 2000)
  | _ => false) && ((match PySem.W.nsIn K mainGlobals "TOO_GREAT" with
  | some (some (.int i _)) => decide (i = 10 ^ 500)
  | _ => false))))))

/-! ### own exceptions -/
def inB (K : PySem.W.Frag) (file : Str) (C f : Addr) (qual : Str) : Bool := match K.lookup f with
  | some ⟨_, _, .func fd, _⟩ => (match fd.closure, fd.defaults, fd.code with
    | [(x, cc)], .none, .ref cda => decide (x = "__class__") && (match K.lookup cc with
      | some ⟨_, _, .cell (some (.ref D)), _⟩ => decide (D = C)
      | _ => false) && PySem.W.codeIn K (.ref cda) qual && (match K.lookup cda with
      | some ⟨_, _, .fields vs, _⟩ => (match vs[2]? with
        | some (Value.str fl _) => file == fl
        | _ => false)
      | _ => false)
    | _, _, _ => false)
  | _ => false
/-- what stands of an own class' __init__ -/
structure InX (file : Str) (K : PySem.W.Frag) (C fI : Addr) (cc cda : Addr) (qual : Str) (params : Arguments) (body : List Stmt) (scope : Scope) : Prop where
  fn : ∃ (oc : Value) (od : Option Addr) (kV doc pm ct : Value) (an : Option Addr) (osl : Array (Option Value)), K.lookup fI = some ⟨oc, od,
      .func (PySem.W.ksFn "__init__" qual params body scope .none kV doc pm an (.ref cda) ct cc), osl⟩
  cod : PySem.W.codeIn K (.ref cda) qual = true
  code : ∃ ccl cdd vs ccs fl tf, K.lookup cda = some ⟨ccl, cdd, .fields vs, ccs⟩ ∧ vs[2]? = some (.str fl tf) ∧ (file == fl) = true
  cell : ∃ cl cld csl, K.lookup cc = some ⟨cl, cld, .cell (some (.ref C)), csl⟩
theorem in_of {file : Str} {K : PySem.W.Frag} {C f : Addr} {qual : Str} {st : Stmt} (e : fnX K f = fnT "__init__" qual st) (c : inB K file C f qual = true) :
    ∃ cc cda, InX file K C f cc cda qual (defArgs st) (defBody st) (defScope st) := by
  unfold inB at c
  unfold fnX at e
  cases q : K.lookup f with
  | none =>
    rw [q] at c
    cases c
  | some o =>
    obtain ⟨oc, od, dt, osl⟩ := o
    rw [q] at c e
    cases dt with
    | func fd =>
      obtain ⟨n1, n2, n3, n4, n5, n6, n7, n8, n9, n10, n11, n12, n13, n14, n15⟩ := fd
      have e2 : (some (n1, n2, n3, n4, n5, n6, n15) : FnX) = some (("__init__" : Str), qual, defArgs st, .stmts (defBody st), defScope st, mainGlobals, builtinsNs) := e
      simp only [Option.some.injEq, Prod.mk.injEq] at e2
      obtain ⟨h1, h2, h3, h4, h5, h6, h7⟩ := e2
      subst h1 h2 h3 h4 h5 h6 h7
      dsimp only at c
      split at c
      · rename_i x cc cda
        rw [Bool.and_eq_true, Bool.and_eq_true, Bool.and_eq_true] at c
        obtain ⟨⟨⟨c1, c2⟩, c3⟩, c4⟩ := c
        have ex := of_decide_eq_true c1
        subst ex
        refine ⟨cc, cda, ⟨oc, od, n9, n10, n11, n14, n12, osl, q⟩, c3, ?_, ?_⟩
        · split at c4
          · rename_i a1 a2 vs a4 q2
            split at c4
            · rename_i fl tf q3
              exact ⟨_, _, vs, _, fl, tf, q2, q3, c4⟩
            · cases c4
          · cases c4
        · split at c2
          · rename_i a1 a2 D a4 q2
            have eD := of_decide_eq_true c2
            subst eD
            exact ⟨_, _, _, q2⟩
          · cases c2
      · cases c
    | _ => cases c
def bmL (B : String) : List Value := [.type B, .type "Exception", .type "BaseException", .type "object"]
def fileK : Str := PySem.Challenge.pw_anyshape_k17_whole_sizes_by_points.main.file
def xB (K : PySem.W.Frag) (nm qu : Str) (B nw it : String) (fs : List Str) : Bool :=
  eO (PySem.W.nsIn K mainGlobals nm) (some (some (.ref (ga K nm)))) &&
  (eO (PySem.W.findIn K (.ref (ga K nm)) "__init__") (some (some (.ref (ma K (ga K nm) "__init__")))) &&
  (decide (PySem.W.typeIn K (.ref (ma K (ga K nm) "__init__")) = some (.type "function")) &&
  (inB K fileK (ga K nm) (ma K (ga K nm) "__init__") qu &&
  (PySem.W.excInitIn K (ga K nm) (bmL B) nw &&
  (PySem.W.excOver K (ga K nm) (bmL B) &&
  (PySem.W.hasDictIn K (ga K nm) &&
  (eO (PySem.W.findIn K (.ref (ga K nm)) "__setattr__") (some (some (.builtin "object.__setattr__"))) &&
  (PySem.W.keepIn K (.ref (ga K nm)) &&
  ((PySem.W.clsIn K (ga K nm)).isSome &&
  (eB (PySem.W.mroIn K (ga K nm) (.ref (ga K nm))) (some true) &&
  (eB (PySem.W.subIn K (.ref (ga K nm)) (.type B)) (some true) &&
  (eO (PySem.W.ks_superIn K (ga K nm) (ga K nm) "__init__") (some (some (.builtin it))) &&
  (eO (PySem.W.findIn K (.ref (ga K nm)) "__getattribute__") (some (some (.builtin "BaseException.__getattribute__"))) &&
  (eO (PySem.W.findIn K (.ref (ga K nm)) "__getattr__") (some none) &&
  (eB (PySem.W.subIn K (.ref (ga K nm)) (.type "BaseException")) (some true) &&
  (eO (PySem.W.findIn K (.ref (ga K nm)) "__class__") (some (some (.builtin "object.__class__"))) &&
  (eB (PySem.W.mroIn K (ga K nm) (.type "object")) (some true) &&
  (decide (PySem.W.typeIn K (.ref (ga K nm)) = some (.type "type")) &&
  (fs.all fun f => decide (PySem.W.findIn K (.ref (ga K nm)) f = some none))))))))))))))))))))
def exB (K : PySem.W.Frag) : Bool := xB K "InvalidText" "InvalidText.__init__" "ValueError" "ValueError.__new__" "ValueError.__init__" ["line"] && (xB K "NotWhole" "NotWhole.__init__" "RuntimeError" "RuntimeError.__new__" "RuntimeError.__init__" ["size"] && (eO (PySem.W.nsIn K mainGlobals "gcd") (some (some (.builtin "math.gcd"))) && (eO (PySem.W.nsIn K cStatics "thirdparty.any") (some none))))
def gloB (K : PySem.W.Frag) : Bool :=
  bltN.all (fun x => eO (PySem.W.nsIn K mainGlobals x) (some none)) &&
  (fns.all (fun p => eO (PySem.W.nsIn K mainGlobals p.1) (some (some (.ref (ga K p.1)))) && fnB K (ga K p.1) p.1) &&
  ((K.lookup sysModules).isSome &&
  (eO (PySem.W.specialIn K (.builtin "object.__class__") "__get__") (some (some (.builtin "getset_descriptor.__get__"))) &&
  (eB (PySem.W.takesIn K (.builtin "object.__class__")) (some true) &&
  (conB K &&
  (fnD K (meA K "__init__") "Size.__init__" &&
  (meths.all (fun p => fnB K (faM K p.1) (quM p.1)) &&
  (plain.all (plB K) &&
  (props.all (prB K) &&
  (cms.all (cmmB K)))))))))))
def allB (K : PySem.W.Frag) : Bool := gloB K && (clB K && exB K)
def obF (K : PySem.W.Frag) : List FnX := fnX K (meA K "__init__") :: fnX K (ma K (ga K "InvalidText") "__init__") :: fnX K (ma K (ga K "NotWhole") "__init__") :: meths.foldr (fun p r => fnX K (faM K p.1) :: r) (fns.foldr (fun p r => fnX K (ga K p.1) :: r) [])
abbrev sXInvalidText : Stmt := inClass (top 11) 0
abbrev sXNotWhole : Stmt := inClass (top 15) 0
def vaF : List FnX := fnT "__init__" "Size.__init__" sInit :: fnT "__init__" "InvalidText.__init__" sXInvalidText :: fnT "__init__" "NotWhole.__init__" sXNotWhole :: ((meths.map fun p => fnT p.1 (quM p.1) (inClass sSize p.2)) ++ fns.map fun p => fnT p.1 p.1 (top p.2))
abbrev AlX : Type := Bool × List FnX
def obK (K : PySem.W.Frag) : AlX := (allB K, obF K)
def vaX : AlX := (true, vaF)
def hk : PySem.W.Hook where
  α := AlX
  obs := fun s => obK (KX s.heap.get?)
  val := fun _ => vaX
  says := fun _ h => ∃ K : PySem.W.Frag, K.In h ∧ obK K = vaX
  of := fun _ _ e => ⟨_, frG_in, e⟩
  keeps := fun _ _ _ ⟨K, hK, c⟩ k => ⟨K, PySem.W.Frag.In.keeps hK k, c⟩
def ob (s : PySem.W.SharedT) : AlX := obK (KX (HandSHeadRun.getT s))
theorem ob_eq (s : PySem.W.SharedT) : ob s = hk.obs s.abs := by
  have e : HandSHeadRun.getT s = s.abs.heap.get? := funext (HandSHeadRun.getT_eq s)
  show obK (KX (HandSHeadRun.getT s)) = obK (KX s.abs.heap.get?)
  rw [e]
end K17
set_option maxHeartbeats 0
namespace K17
open PySem PySem.W PySem.Calls PyProof.Rows
abbrev R : OpenRow := OpenLaw.row PySem.Challenge.rw_anyshape_k17_whole_sizes_by_points
abbrev qv : Program := view R.prog [0, 73]
def names1 : List PySem.Str := ["added", "AnyshapeError", "InvalidName", "InvalidSize", "InvalidCount", "InvalidNumbers", "InvalidPoint", "InvalidPoints", "InvalidText", "StateError", "LimitError", "NotWhole", "TooMany", "is_integer", "is_count", "is_list", "raised", "orders", "coprime_bases", "order_in", "_refined", "_sharing", "LETTERS", "LONGEST_NAME"]
def names2 : List PySem.Str := ["MOST_DIGITS", "TOO_GREAT", "GREATEST_COUNT", "is_name", "is_numbers", "is_point", "check_numbers", "check_point", "check_points", "primes", "numbers_of", "_number_of", "_has_no_divisor", "DIGITS", "CHUNK_DIGITS", "CHUNK", "decimal_text", "read_decimal", "exponents_text", "read_exponents", "_power_text", "Size", "check_size", "check_sizes"]
def names3 : List PySem.Str := ["_is_exponents", "_times", "_law_rng", "_law_draw", "_law_choice", "_law_names", "_law_size", "_law_whole", "_law_raised", "_law_products_right", "_law_values_right", "_law_equal_right", "_law_named_right", "_law_right"]
def names : List PySem.Str := names1 ++ names2 ++ names3
theorem run (w : World) : HandSHeadRun.RunEqI R qv hk ob 12500 names w := by
  show _ = _
  kernel_rfl
end K17
set_option maxHeartbeats 8000000
namespace K17
open PySem PySem.Spec PyProof.Rows L2 He

/-! ### what the facts say -/
theorem foldr_map {α β : Type} (f : α → β) (t : List β) : ∀ l : List α, l.foldr (fun a r => f a :: r) t = l.map f ++ t
  | [] => rfl
  | a :: l => congrArg (f a :: ·) (foldr_map f t l)
theorem facts_of {K : PySem.W.Frag} (c : obK K = vaX) : allB K = true ∧ fnX K (meA K "__init__") = fnT "__init__" "Size.__init__" sInit ∧ fnX K (ma K (ga K "InvalidText") "__init__") = fnT "__init__" "InvalidText.__init__" sXInvalidText ∧ fnX K (ma K (ga K "NotWhole") "__init__") = fnT "__init__" "NotWhole.__init__" sXNotWhole ∧ (∀ p ∈ meths, fnX K (faM K p.1) = fnT p.1 (quM p.1) (inClass sSize p.2)) ∧
    ∀ p ∈ fns, fnX K (ga K p.1) = fnT p.1 p.1 (top p.2) := by
  have c1 : allB K = true := congrArg (fun z : AlX => z.1) c
  have c2 : obF K = vaF := congrArg (fun z : AlX => z.2) c
  unfold obF vaF at c2
  rw [foldr_map, foldr_map, List.append_nil] at c2
  obtain ⟨h0, h⟩ := List.cons.inj c2
  obtain ⟨x0, h⟩ := List.cons.inj h
  obtain ⟨x1, h⟩ := List.cons.inj h
  obtain ⟨h1, h2⟩ := List.append_inj h (by rw [List.length_map, List.length_map])
  exact ⟨c1, h0, x0, x1, List.map_inj_left.mp h1, List.map_inj_left.mp h2⟩
theorem eO_ok {a b : Option (Option Value)} (h : eO a b = true) : a = b := of_decide_eq_true h
theorem eB_ok {a b : Option Bool} (h : eB a b = true) : a = b := of_decide_eq_true h
theorem ba2 {a b : Bool} (h : (a && b) = true) : a = true ∧ b = true := Bool.and_eq_true_iff.mp h
structure CF (K : PySem.W.Frag) : Prop where
  glo : PySem.W.nsIn K mainGlobals "Size" = some (some (.ref (caK K)))
  pg : PySem.W.plainGet K (caK K) Str.empty = true
  hd : PySem.W.hasDictIn K (caK K) = true
  po : PySem.W.plainOver K (caK K) = true
  sa : PySem.W.findIn K (.ref (caK K)) "__setattr__" = some (some (.builtin "object.__setattr__"))
  nE : PySem.W.findIn K (.ref (caK K)) "_exponents" = some none
  cc : PySem.W.findIn K (.ref (caK K)) "__class__" = some (some (.builtin "object.__class__"))
  co : PySem.W.mroIn K (caK K) (.type "object") = some true
  mkI : PySem.W.makesIn K (caK K) = true
  kp : PySem.W.keepIn K (.ref (caK K)) = true
  s1 : PySem.W.selfFirst K (caK K) = true
  ne : PySem.W.findIn K (.ref (caK K)) "__ne__" = some (some (.builtin "object.__ne__"))
  rd : PySem.W.readsIn K (caK K) (.type "type") = true
  ga : PySem.W.specialIn K (.ref (caK K)) "__getattribute__" = some (some (.builtin "type.__getattribute__"))
  k1 : PySem.W.kitOne K (.ref (caK K)) (.type "str") = some false
  k2 : PySem.W.kitOne K (.type "int") (.ref (caK K)) = some false
  k3 : PySem.W.kitOne K (.type "str") (.ref (caK K)) = some false
  k4 : PySem.W.kitOne K (.type "dict") (.ref (caK K)) = some false
theorem cf_of {K : PySem.W.Frag} (h : clB K = true) : CF K := by
  unfold clB at h
  obtain ⟨h1, h⟩ := ba2 h
  obtain ⟨h2, h⟩ := ba2 h
  obtain ⟨h3, h⟩ := ba2 h
  obtain ⟨h4, h⟩ := ba2 h
  obtain ⟨h5, h⟩ := ba2 h
  obtain ⟨h6, h⟩ := ba2 h
  obtain ⟨h7, h⟩ := ba2 h
  obtain ⟨h8, h⟩ := ba2 h
  obtain ⟨h9, h⟩ := ba2 h
  obtain ⟨h10, h⟩ := ba2 h
  obtain ⟨h11, h⟩ := ba2 h
  obtain ⟨h12, h⟩ := ba2 h
  obtain ⟨h13, h⟩ := ba2 h
  obtain ⟨h14, h⟩ := ba2 h
  obtain ⟨h15, h⟩ := ba2 h
  obtain ⟨h16, h⟩ := ba2 h
  obtain ⟨h17, h⟩ := ba2 h
  exact ⟨eO_ok h1, h2, h3, h4, eO_ok h5, eO_ok h6, eO_ok h7, eB_ok h8, h9, h10, h11, eO_ok h12, h13, eO_ok h14, eB_ok h15, eB_ok h16, eB_ok h17, eB_ok h⟩
structure XF (K : PySem.W.Frag) (nm qu : Str) (B nw it : String) (fs : List Str) : Prop where
  glo : PySem.W.nsIn K mainGlobals nm = some (some (.ref (ga K nm)))
  ini : PySem.W.findIn K (.ref (ga K nm)) "__init__" = some (some (.ref (ma K (ga K nm) "__init__")))
  tyI : PySem.W.typeIn K (.ref (ma K (ga K nm) "__init__")) = some (.type "function")
  inb : inB K fileK (ga K nm) (ma K (ga K nm) "__init__") qu = true
  exI : PySem.W.excInitIn K (ga K nm) (bmL B) nw = true
  exO : PySem.W.excOver K (ga K nm) (bmL B) = true
  hd : PySem.W.hasDictIn K (ga K nm) = true
  sa : PySem.W.findIn K (.ref (ga K nm)) "__setattr__" = some (some (.builtin "object.__setattr__"))
  kp : PySem.W.keepIn K (.ref (ga K nm)) = true
  cls : (PySem.W.clsIn K (ga K nm)).isSome = true
  slf : PySem.W.mroIn K (ga K nm) (.ref (ga K nm)) = some true
  isB : PySem.W.subIn K (.ref (ga K nm)) (.type B) = some true
  sup : PySem.W.ks_superIn K (ga K nm) (ga K nm) "__init__" = some (some (.builtin it))
  gat : PySem.W.findIn K (.ref (ga K nm)) "__getattribute__" = some (some (.builtin "BaseException.__getattribute__"))
  gga : PySem.W.findIn K (.ref (ga K nm)) "__getattr__" = some none
  exb : PySem.W.subIn K (.ref (ga K nm)) (.type "BaseException") = some true
  cc : PySem.W.findIn K (.ref (ga K nm)) "__class__" = some (some (.builtin "object.__class__"))
  co : PySem.W.mroIn K (ga K nm) (.type "object") = some true
  tyC : PySem.W.typeIn K (.ref (ga K nm)) = some (.type "type")
  nf : ∀ f ∈ fs, PySem.W.findIn K (.ref (ga K nm)) f = some none
theorem xf_of {K : PySem.W.Frag} {nm qu : Str} {B nw it : String} {fs : List Str} (h : xB K nm qu B nw it fs = true) : XF K nm qu B nw it fs := by
  unfold xB at h
  obtain ⟨h1, h⟩ := ba2 h
  obtain ⟨h2, h⟩ := ba2 h
  obtain ⟨h3, h⟩ := ba2 h
  obtain ⟨h4, h⟩ := ba2 h
  obtain ⟨h5, h⟩ := ba2 h
  obtain ⟨h6, h⟩ := ba2 h
  obtain ⟨h7, h⟩ := ba2 h
  obtain ⟨h8, h⟩ := ba2 h
  obtain ⟨h9, h⟩ := ba2 h
  obtain ⟨h10, h⟩ := ba2 h
  obtain ⟨h11, h⟩ := ba2 h
  obtain ⟨h12, h⟩ := ba2 h
  obtain ⟨h13, h⟩ := ba2 h
  obtain ⟨h14, h⟩ := ba2 h
  obtain ⟨h15, h⟩ := ba2 h
  obtain ⟨h16, h⟩ := ba2 h
  obtain ⟨h17, h⟩ := ba2 h
  obtain ⟨h18, h⟩ := ba2 h
  obtain ⟨h19, h⟩ := ba2 h
  exact ⟨eO_ok h1, eO_ok h2, of_decide_eq_true h3, h4, h5, h6, h7, eO_ok h8, h9, h10, eB_ok h11, eB_ok h12, eO_ok h13, eO_ok h14, eO_ok h15, eB_ok h16, eO_ok h17, eB_ok h18, of_decide_eq_true h19, fun f hf => of_decide_eq_true (List.all_eq_true.mp h f hf)⟩
structure GF (K : PySem.W.Frag) : Prop where
  blt : ∀ x ∈ bltN, PySem.W.nsIn K mainGlobals x = some none
  fng : ∀ p ∈ fns, PySem.W.nsIn K mainGlobals p.1 = some (some (.ref (ga K p.1)))
  fnb : ∀ p ∈ fns, fnB K (ga K p.1) p.1 = true
  sys : (K.lookup sysModules).isSome = true
  cn : PySem.W.specialIn K (.builtin "object.__class__") "__get__" = some (some (.builtin "getset_descriptor.__get__"))
  ct : PySem.W.takesIn K (.builtin "object.__class__") = some true
  con : conB K = true
  ini : fnD K (meA K "__init__") "Size.__init__" = true
  mes : ∀ p ∈ meths, fnB K (faM K p.1) (quM p.1) = true
  pl : ∀ m ∈ plain, plB K m = true
  pr : ∀ m ∈ props, prB K m = true
  cm : ∀ m ∈ cms, cmmB K m = true
theorem gf_of {K : PySem.W.Frag} (h : gloB K = true) : GF K := by
  unfold gloB at h
  obtain ⟨h1, h⟩ := ba2 h
  obtain ⟨h2, h⟩ := ba2 h
  obtain ⟨h3, h⟩ := ba2 h
  obtain ⟨h4, h⟩ := ba2 h
  obtain ⟨h5, h⟩ := ba2 h
  obtain ⟨h6, h⟩ := ba2 h
  obtain ⟨h7, h⟩ := ba2 h
  obtain ⟨h8, h⟩ := ba2 h
  obtain ⟨h9, h⟩ := ba2 h
  obtain ⟨h10, h⟩ := ba2 h
  exact ⟨fun x hx => eO_ok (List.all_eq_true.mp h1 x hx), fun p hp => eO_ok (ba2 (List.all_eq_true.mp h2 p hp)).1, fun p hp => (ba2 (List.all_eq_true.mp h2 p hp)).2, h3, eO_ok h4, eB_ok h5, h6, h7,
    List.all_eq_true.mp h8, List.all_eq_true.mp h9, List.all_eq_true.mp h10, List.all_eq_true.mp h⟩
theorem con_ok {K : PySem.W.Frag} (h : conB K = true) : (∃ t, PySem.W.nsIn K mainGlobals "LETTERS" = some (some (.str abc t))) ∧ (∃ t, PySem.W.nsIn K mainGlobals "LONGEST_NAME" = some (some (.int (8) t))) ∧ (∃ t, PySem.W.nsIn K mainGlobals "DIGITS" = some (some (.str dgT t))) ∧ (∃ t, PySem.W.nsIn K mainGlobals "CHUNK" = some (some (.int (10 ^ 60) t))) ∧ (∃ t, PySem.W.nsIn K mainGlobals "GREATEST_COUNT" = some (some (.int (2000) t))) ∧ (∃ t, PySem.W.nsIn K mainGlobals "TOO_GREAT" = some (some (.int (10 ^ 500) t))) := by
  unfold conB at h
  obtain ⟨h1, h⟩ := ba2 h
  obtain ⟨h2, h⟩ := ba2 h
  obtain ⟨h3, h⟩ := ba2 h
  obtain ⟨h4, h⟩ := ba2 h
  obtain ⟨h5, h⟩ := ba2 h
  refine ⟨?_, ?_, ?_, ?_, ?_, ?_⟩
  · split at h1
    · rename_i x t e
      exact ⟨t, by rw [e, of_decide_eq_true h1]⟩
    · cases h1
  · split at h2
    · rename_i x t e
      exact ⟨t, by rw [e, of_decide_eq_true h2]⟩
    · cases h2
  · split at h3
    · rename_i x t e
      exact ⟨t, by rw [e, of_decide_eq_true h3]⟩
    · cases h3
  · split at h4
    · rename_i x t e
      exact ⟨t, by rw [e, of_decide_eq_true h4]⟩
    · cases h4
  · split at h5
    · rename_i x t e
      exact ⟨t, by rw [e, of_decide_eq_true h5]⟩
    · cases h5
  · split at h
    · rename_i x t e
      exact ⟨t, by rw [e, of_decide_eq_true h]⟩
    · cases h
abbrev PG : Program := PySem.Challenge.pw_anyshape_k17_whole_sizes_by_points
section
variable {w : World} {K : PySem.W.Frag} {mg : Str → Option Value} {h : Heap}
theorem pl_ok {m : Str} (h : plB K m = true) : PySem.W.findIn K (.ref (caK K)) m = some (some (.ref (meA K m))) ∧ PySem.W.isFn K (.ref (meA K m)) = true := ⟨eO_ok (ba2 h).1, (ba2 h).2⟩
theorem pr_ok {m : Str} (h : prB K m = true) : PropOf K (caK K) m (meA K m) (rcF K (meA K m) "property") := by
  unfold prB at h
  obtain ⟨h1, h⟩ := ba2 h
  obtain ⟨h2, h⟩ := ba2 h
  obtain ⟨h3, h4⟩ := ba2 h
  exact ⟨eO_ok h1, eO_ok h2, eB_ok h3, rec_ok h4⟩
theorem cmm_ok {m : Str} (h : cmmB K m = true) : ClX.CMet K (caK K) (.type "type") m (meA K m) (rcF K (meA K m) "classmethod") := by
  unfold cmmB at h
  obtain ⟨h1, h⟩ := ba2 h
  obtain ⟨h2, h3⟩ := ba2 h
  exact ⟨cm_ok h1, rec_ok h2, h3⟩
theorem init_b {f : Addr} {fd : FuncData} (F : FnD K "__init__" "Size.__init__" sInit [.non] f fd) : Binds K fd ["self", "exponents"] [] ∧ Binds K fd ["self", "exponents"] [.none] := by
  obtain ⟨ds, r, b⟩ := FunD.binds1 (ps := ["self", "exponents"]) F 2 1 (fun z => nomatch z) rfl (fun T kV doc pm an cdv ct us its h1 h2 => match us, its, h1, h2 with
    | [_, _], [_], _, _ => ⟨_, rfl, rfl⟩)
  obtain ⟨ds2, r2, b2⟩ := FunD.binds1 (ps := ["self", "exponents"]) F 1 0 (fun z => nomatch z) rfl (fun T kV doc pm an cdv ct us its h1 h2 => match us, its, h1, h2 with
    | [_], [_], _, _ => ⟨_, rfl, rfl⟩)
  have e1 : ds = [] := by
    have := r.length
    exact List.length_eq_zero_iff.mp this.symm
  have r2' : Vals [V.non] ds2 := r2
  obtain ⟨u, e2, ru⟩ := vals1 r2'
  have e3 : u = Value.none := ru
  subst e1
  rw [e2, e3] at b2
  exact ⟨b, b2⟩
end
theorem tk_of {K : PySem.W.Frag} {C : Addr} {f : Str} (h : PySem.W.findIn K (.ref C) f = some none) : PySem.W.takerIn K C f = some none := by
  unfold PySem.W.takerIn
  rw [h]
  rfl
section
open Xc
variable {w : World} {K : PySem.W.Frag} {mg : Str → Option Value} {C fI cc cda : Addr} {B newId initId : String} {bmB : List Value}
variable {qual msg f1 f2 f3 : Str} {j : Nat} {p0 p1 p2 p3 p4 p5 a0 a1 a2 a3 q1 q2 q3 q4 r1 r2 r3 r4 u1 u2 u3 u4 : Pos} {ar : Arguments} {bo : List Stmt} {sc : Scope}
theorem fs1 {fs : List (Str × Value)} (h : fs.map (·.1) = [f1]) : ∃ v, fs = [(f1, v)] := by
  match fs, h with
  | [(a, v)], h =>
    injection h with h1 _
    exact ⟨v, by rw [show a = f1 from h1]⟩
theorem fs2 {fs : List (Str × Value)} (h : fs.map (·.1) = [f2, f1]) : ∃ v1 v2, fs = [(f2, v2), (f1, v1)] := by
  match fs, h with
  | [(a, v), (b, u)], h =>
    injection h with h1 h
    injection h with h2 _
    exact ⟨u, v, by rw [show a = f2 from h1, show b = f1 from h2]⟩
theorem fs3 {fs : List (Str × Value)} (h : fs.map (·.1) = [f3, f2, f1]) : ∃ v1 v2 v3, fs = [(f3, v3), (f2, v2), (f1, v1)] := by
  match fs, h with
  | [(a, v), (b, u), (c, t)], h =>
    injection h with h1 h
    injection h with h2 h
    injection h with h3 _
    exact ⟨t, u, v, by rw [show a = f3 from h1, show b = f2 from h2, show c = f1 from h3]⟩
theorem mkAll0 (hA : ar = iArgs [("self", a0)]) (hB : bo = [supS msg j p0 p1 p2 p3 p4 p5]) (hS : sc = iScope ["self"]) (hln : (p2.endLine == p4.line) = true)
    (T : XC K C B newId initId bmB) (iC : PySem.W.findIn K (.ref C) "__init__" = some (some (.ref fI))) (tI : PySem.W.typeIn K (.ref fI) = some (.type "function"))
    (S : XI PG K mg C fI cc cda qual ar bo sc B initId) (kp : PySem.W.keepIn K (.ref C) = true) : MkAll PG w K mg C [] := by
  subst hA hB hS
  refine ⟨fun fs h => ?_, fun fs h => ?_, kp⟩
  · rw [List.map_eq_nil_iff.mp h]
    exact mk0 T iC tI S hln
  · rw [List.map_eq_nil_iff.mp h]
    exact mk0 T iC tI S hln
theorem mkAll1 (hA : ar = iArgs [("self", a0), (f1, a1)]) (hB : bo = [supS msg j p0 p1 p2 p3 p4 p5, stS f1 q1 q2 q3 q4]) (hS : sc = iScope ["self", f1])
    (hln : (p2.endLine == p4.line) = true) (n1 : Nm f1)
    (T : XC K C B newId initId bmB) (iC : PySem.W.findIn K (.ref C) "__init__" = some (some (.ref fI))) (tI : PySem.W.typeIn K (.ref fI) = some (.type "function"))
    (S : XI PG K mg C fI cc cda qual ar bo sc B initId) (kp : PySem.W.keepIn K (.ref C) = true) (t1 : PySem.W.takerIn K C f1 = some none)
    (hp : ∀ v s x kV doc pm ct an, BindsTo s (PySem.W.ksFn "__init__" qual ar bo sc .none kV doc pm an (.ref cda) ct cc) ⟨[.ref x, v], []⟩ [("self", .ref x), (f1, v)])
    (hk : ∀ v s x kV doc pm ct an, BindsTo s (PySem.W.ksFn "__init__" qual ar bo sc .none kV doc pm an (.ref cda) ct cc) ⟨[.ref x], [(f1, v)]⟩ [("self", .ref x), (f1, v)]) :
    MkAll PG w K mg C [f1] := by
  subst hA hB hS
  refine ⟨fun fs h => ?_, fun fs h => ?_, kp⟩
  · obtain ⟨v, rfl⟩ := fs1 h
    exact mk1 n1 T iC tI S hln t1 (by show 1 ≤ sizeLine; decide) (hp v)
  · obtain ⟨v, rfl⟩ := fs1 h
    exact mk1 n1 T iC tI S hln t1 (Nat.zero_le _) (hk v)
theorem mkAll2 (hA : ar = iArgs [("self", a0), (f1, a1), (f2, a2)]) (hB : bo = [supS msg j p0 p1 p2 p3 p4 p5, stS f1 q1 q2 q3 q4, stS f2 r1 r2 r3 r4])
    (hS : sc = iScope ["self", f1, f2]) (hln : (p2.endLine == p4.line) = true) (n1 : Nm f1) (n2 : Nm f2) (n12 : f1 ≠ f2)
    (T : XC K C B newId initId bmB) (iC : PySem.W.findIn K (.ref C) "__init__" = some (some (.ref fI))) (tI : PySem.W.typeIn K (.ref fI) = some (.type "function"))
    (S : XI PG K mg C fI cc cda qual ar bo sc B initId) (kp : PySem.W.keepIn K (.ref C) = true) (t1 : PySem.W.takerIn K C f1 = some none) (t2 : PySem.W.takerIn K C f2 = some none)
    (hp : ∀ v1 v2 s x kV doc pm ct an, BindsTo s (PySem.W.ksFn "__init__" qual ar bo sc .none kV doc pm an (.ref cda) ct cc) ⟨[.ref x, v1, v2], []⟩ [("self", .ref x), (f1, v1), (f2, v2)])
    (hk : ∀ v1 v2 s x kV doc pm ct an, BindsTo s (PySem.W.ksFn "__init__" qual ar bo sc .none kV doc pm an (.ref cda) ct cc) ⟨[.ref x], [(f2, v2), (f1, v1)]⟩ [("self", .ref x), (f1, v1), (f2, v2)]) :
    MkAll PG w K mg C [f2, f1] := by
  subst hA hB hS
  refine ⟨fun fs h => ?_, fun fs h => ?_, kp⟩
  · obtain ⟨v1, v2, rfl⟩ := fs2 h
    exact mk2 n1 n2 n12 T iC tI S hln t1 t2 (by show 2 ≤ sizeLine; decide) (hp v1 v2)
  · obtain ⟨v1, v2, rfl⟩ := fs2 h
    exact mk2 n1 n2 n12 T iC tI S hln t1 t2 (Nat.zero_le _) (hk v1 v2)
theorem mkAll3 (hA : ar = iArgs [("self", a0), (f1, a1), (f2, a2), (f3, a3)]) (hB : bo = [supS msg j p0 p1 p2 p3 p4 p5, stS f1 q1 q2 q3 q4, stS f2 r1 r2 r3 r4, stS f3 u1 u2 u3 u4])
    (hS : sc = iScope ["self", f1, f2, f3]) (hln : (p2.endLine == p4.line) = true) (n1 : Nm f1) (n2 : Nm f2) (n3 : Nm f3) (n12 : f1 ≠ f2) (n13 : f1 ≠ f3) (n23 : f2 ≠ f3)
    (T : XC K C B newId initId bmB) (iC : PySem.W.findIn K (.ref C) "__init__" = some (some (.ref fI))) (tI : PySem.W.typeIn K (.ref fI) = some (.type "function"))
    (S : XI PG K mg C fI cc cda qual ar bo sc B initId) (kp : PySem.W.keepIn K (.ref C) = true) (t1 : PySem.W.takerIn K C f1 = some none) (t2 : PySem.W.takerIn K C f2 = some none) (t3 : PySem.W.takerIn K C f3 = some none)
    (hp : ∀ v1 v2 v3 s x kV doc pm ct an, BindsTo s (PySem.W.ksFn "__init__" qual ar bo sc .none kV doc pm an (.ref cda) ct cc) ⟨[.ref x, v1, v2, v3], []⟩ [("self", .ref x), (f1, v1), (f2, v2), (f3, v3)])
    (hk : ∀ v1 v2 v3 s x kV doc pm ct an, BindsTo s (PySem.W.ksFn "__init__" qual ar bo sc .none kV doc pm an (.ref cda) ct cc) ⟨[.ref x], [(f3, v3), (f2, v2), (f1, v1)]⟩ [("self", .ref x), (f1, v1), (f2, v2), (f3, v3)]) :
    MkAll PG w K mg C [f3, f2, f1] := by
  subst hA hB hS
  refine ⟨fun fs h => ?_, fun fs h => ?_, kp⟩
  · obtain ⟨v1, v2, v3, rfl⟩ := fs3 h
    exact mk3 n1 n2 n3 n12 n13 n23 T iC tI S hln t1 t2 t3 (by show 3 ≤ sizeLine; decide) (hp v1 v2 v3)
  · obtain ⟨v1, v2, v3, rfl⟩ := fs3 h
    exact mk3 n1 n2 n3 n12 n13 n23 T iC tI S hln t1 t2 t3 (Nat.zero_le _) (hk v1 v2 v3)
end
theorem nmy {p : Str} (h1 : (p == ("self" : Str)) = false) (h2 : (p == ("super" : Str)) = false) (h3 : (p == ("__class__" : Str)) = false) (h4 : (p == ("__debug__" : Str)) = false) : Xc.Nm p :=
  ⟨Xc.ns_of _ _ h1, Xc.ns_of _ _ h2, Xc.ns_of _ _ h3, Xc.ns_of _ _ h4⟩
section
variable {w : World} {K : PySem.W.Frag} {mg : Str → Option Value}
theorem mk_InvalidText (c : XF K "InvalidText" "InvalidText.__init__" "ValueError" "ValueError.__new__" "ValueError.__init__" ["line"]) (ox : PySem.W.nsIn K cStatics "thirdparty.any" = some none) (ns : mg "super" = none) (e : fnX K (ma K (ga K "InvalidText") "__init__") = fnT "__init__" "InvalidText.__init__" sXInvalidText) : MkAll PG w K mg (ga K "InvalidText") ["line"] := by
  obtain ⟨cc, cda, Z⟩ := in_of e c.inb
  exact mkAll1 rfl rfl rfl rfl (nmy (by decide) (by decide) (by decide) (by decide)) ⟨F.excBase_ValueError, F.store_ValueError, PySem.W.kxs_ValueError, c.exI, c.exO, c.hd, c.sa⟩ c.ini c.tyI ⟨Z.fn, Z.cod, Z.code, Z.cell, c.cls, c.slf, c.isB, c.sup, ox, ns, by decide +kernel⟩ c.kp (tk_of (c.nf "line" (by decide))) (fun _ _ _ _ _ _ _ _ => .of_eq rfl) (fun _ _ _ _ _ _ _ _ => .of_eq rfl)
theorem mk_NotWhole (c : XF K "NotWhole" "NotWhole.__init__" "RuntimeError" "RuntimeError.__new__" "RuntimeError.__init__" ["size"]) (ox : PySem.W.nsIn K cStatics "thirdparty.any" = some none) (ns : mg "super" = none) (e : fnX K (ma K (ga K "NotWhole") "__init__") = fnT "__init__" "NotWhole.__init__" sXNotWhole) : MkAll PG w K mg (ga K "NotWhole") ["size"] := by
  obtain ⟨cc, cda, Z⟩ := in_of e c.inb
  exact mkAll1 rfl rfl rfl rfl (nmy (by decide) (by decide) (by decide) (by decide)) ⟨F.excBase_RuntimeError, F.store_RuntimeError, PySem.W.kxs_RuntimeError, c.exI, c.exO, c.hd, c.sa⟩ c.ini c.tyI ⟨Z.fn, Z.cod, Z.code, Z.cell, c.cls, c.slf, c.isB, c.sup, ox, ns, by decide +kernel⟩ c.kp (tk_of (c.nf "size" (by decide))) (fun _ _ _ _ _ _ _ _ => .of_eq rfl) (fun _ _ _ _ _ _ _ _ => .of_eq rfl)
end
section
variable {w : World} {K : PySem.W.Frag} {mg : Str → Option Value} {h : Heap}
theorem law_mk {fa : Addr} (X : K.In h) (G : h.Ns mainGlobals mg) (c : obK K = vaX) (hfa : mg "law" = some (.ref fa)) :
    ∃ fd : FuncData, (∀ (s : Shared) (u : Value), BindsTo s fd ⟨[u], []⟩ [("_law_script", u)]) ∧
      ∀ base : Heap, K.In base → base.Ns mainGlobals mg → FnG PG w K mg base 11 fa fd ["_law_script"] (spLaw K) := by
  obtain ⟨hB, hI, hX0, hX1, hM, hT⟩ := facts_of c
  unfold allB at hB
  obtain ⟨h1, hB⟩ := ba2 hB
  obtain ⟨h2, h3⟩ := ba2 hB
  have g := gf_of h1
  have cf := cf_of h2
  unfold exB at h3
  obtain ⟨z0, h3⟩ := ba2 h3
  obtain ⟨z1, h3⟩ := ba2 h3
  obtain ⟨z2, h3⟩ := ba2 h3
  have ox := eO_ok h3
  have xf0 := xf_of z0
  have xf1 := xf_of z1
  have zx0 := eO_ok z2
  have bn : ∀ x ∈ bltN, mg x = none := fun x hx => PySem.W.mg_none_of X G (g.blt x hx)
  obtain ⟨⟨t0, con0⟩, ⟨t1, con1⟩, ⟨t2, con2⟩, ⟨t3, con3⟩, ⟨t4, con4⟩, ⟨t5, con5⟩⟩ := con_ok g.con
  have ns : mg "super" = none := bn "super" (by simp [bltN])
  have MX0 := mk_InvalidText (w := w) xf0 ox ns hX0
  have gX0 : mg "InvalidText" = some (.ref (ga K "InvalidText")) := PySem.W.mg_of X G xf0.glo
  have xg0 : XG K (ga K "InvalidText") := ⟨xf0.gat, xf0.gga, xf0.exb, xf0.hd, xf0.cls, xf0.cc, g.cn, g.ct, xf0.co⟩
  have MX1 := mk_NotWhole (w := w) xf1 ox ns hX1
  have gX1 : mg "NotWhole" = some (.ref (ga K "NotWhole")) := PySem.W.mg_of X G xf1.glo
  have xg1 : XG K (ga K "NotWhole") := ⟨xf1.gat, xf1.gga, xf1.exb, xf1.hd, xf1.cls, xf1.cc, g.cn, g.ct, xf1.co⟩
  have NB : Nb mg := ⟨bn "len" (by simp [bltN]), bn "max" (by simp [bltN]), bn "min" (by simp [bltN]), bn "abs" (by simp [bltN]), bn "int" (by simp [bltN]), bn "divmod" (by simp [bltN]), bn "repr" (by simp [bltN]), bn "isinstance" (by simp [bltN]), bn "range" (by simp [bltN]), bn "enumerate" (by simp [bltN]), bn "all" (by simp [bltN])⟩
  have NK : Nk mg := ⟨bn "isinstance" (by simp [bltN]), bn "int" (by simp [bltN]), bn "bool" (by simp [bltN]), bn "str" (by simp [bltN]), bn "dict" (by simp [bltN]), bn "len" (by simp [bltN]), bn "all" (by simp [bltN])⟩
  have NA : Na mg := ⟨bn "sorted" (by simp [bltN])⟩
  have NT : Nt mg := ⟨bn "list" (by simp [bltN]), bn "dict" (by simp [bltN]), bn "len" (by simp [bltN])⟩
  have NZ : Nz mg := ⟨bn "list" (by simp [bltN]), bn "len" (by simp [bltN]), bn "sorted" (by simp [bltN]), bn "set" (by simp [bltN])⟩
  have NN : Nn2 mg := ⟨⟨t1, PySem.W.mg_of X G con1⟩, ⟨t0, PySem.W.mg_of X G con0⟩⟩
  have gG : mg "gcd" = some (.builtin "math.gcd") := PySem.W.mg_of X G zx0
  have ND : Nd mg := ⟨bn "any" (by simp [bltN]), bn "int" (by simp [bltN]), ⟨t2, PySem.W.mg_of X G con2⟩⟩
  have NS : Ns mg := ⟨bn "str" (by simp [bltN]), ⟨t3, PySem.W.mg_of X G con3⟩⟩
  have NG : Tg mg := ⟨bn "zip" (by simp [bltN]), ⟨t4, PySem.W.mg_of X G con4⟩, ⟨t5, PySem.W.mg_of X G con5⟩⟩
  obtain ⟨d0, F0⟩ := fun_of (K := K) (f := ga K "added") (x := "added") (qual := "added") (st := top 2) (hT ("added", 2) (by simp [fns, fns0, fns1, fns2])) (g.fnb ("added", 2) (by simp [fns, fns0, fns1, fns2]))
  have m0 : mg "added" = some (.ref (ga K "added")) := PySem.W.mg_of X G (g.fng ("added", 2) (by simp [fns, fns0, fns1, fns2]))
  have b0 := F0.binds (ps := ["tables"]) fun _ _ _ _ _ _ us hl => match us, hl with | [_], _ => rfl
  obtain ⟨d1, F1⟩ := fun_of (K := K) (f := ga K "is_integer") (x := "is_integer") (qual := "is_integer") (st := top 18) (hT ("is_integer", 18) (by simp [fns, fns0, fns1, fns2])) (g.fnb ("is_integer", 18) (by simp [fns, fns0, fns1, fns2]))
  have m1 : mg "is_integer" = some (.ref (ga K "is_integer")) := PySem.W.mg_of X G (g.fng ("is_integer", 18) (by simp [fns, fns0, fns1, fns2]))
  have b1 := F1.binds (ps := ["value"]) fun _ _ _ _ _ _ us hl => match us, hl with | [_], _ => rfl
  obtain ⟨d2, F2⟩ := fun_of (K := K) (f := ga K "is_count") (x := "is_count") (qual := "is_count") (st := top 19) (hT ("is_count", 19) (by simp [fns, fns0, fns1, fns2])) (g.fnb ("is_count", 19) (by simp [fns, fns0, fns1, fns2]))
  have m2 : mg "is_count" = some (.ref (ga K "is_count")) := PySem.W.mg_of X G (g.fng ("is_count", 19) (by simp [fns, fns0, fns1, fns2]))
  have b2 := F2.binds (ps := ["value"]) fun _ _ _ _ _ _ us hl => match us, hl with | [_], _ => rfl
  obtain ⟨d3, F3⟩ := fun_of (K := K) (f := ga K "is_list") (x := "is_list") (qual := "is_list") (st := top 20) (hT ("is_list", 20) (by simp [fns, fns0, fns1, fns2])) (g.fnb ("is_list", 20) (by simp [fns, fns0, fns1, fns2]))
  have m3 : mg "is_list" = some (.ref (ga K "is_list")) := PySem.W.mg_of X G (g.fng ("is_list", 20) (by simp [fns, fns0, fns1, fns2]))
  have b3 := F3.binds (ps := ["value"]) fun _ _ _ _ _ _ us hl => match us, hl with | [_], _ => rfl
  obtain ⟨d4, F4⟩ := fun_of (K := K) (f := ga K "raised") (x := "raised") (qual := "raised") (st := top 22) (hT ("raised", 22) (by simp [fns, fns0, fns1, fns2])) (g.fnb ("raised", 22) (by simp [fns, fns0, fns1, fns2]))
  have m4 : mg "raised" = some (.ref (ga K "raised")) := PySem.W.mg_of X G (g.fng ("raised", 22) (by simp [fns, fns0, fns1, fns2]))
  have b4 := F4.binds (ps := ["base", "count"]) fun _ _ _ _ _ _ us hl => match us, hl with | [_, _], _ => rfl
  obtain ⟨d5, F5⟩ := fun_of (K := K) (f := ga K "orders") (x := "orders") (qual := "orders") (st := top 23) (hT ("orders", 23) (by simp [fns, fns0, fns1, fns2])) (g.fnb ("orders", 23) (by simp [fns, fns0, fns1, fns2]))
  have m5 : mg "orders" = some (.ref (ga K "orders")) := PySem.W.mg_of X G (g.fng ("orders", 23) (by simp [fns, fns0, fns1, fns2]))
  have b5 := F5.binds (ps := ["exponents", "numbers"]) fun _ _ _ _ _ _ us hl => match us, hl with | [_, _], _ => rfl
  obtain ⟨d6, F6⟩ := fun_of (K := K) (f := ga K "coprime_bases") (x := "coprime_bases") (qual := "coprime_bases") (st := top 24) (hT ("coprime_bases", 24) (by simp [fns, fns0, fns1, fns2])) (g.fnb ("coprime_bases", 24) (by simp [fns, fns0, fns1, fns2]))
  have m6 : mg "coprime_bases" = some (.ref (ga K "coprime_bases")) := PySem.W.mg_of X G (g.fng ("coprime_bases", 24) (by simp [fns, fns0, fns1, fns2]))
  have b6 := F6.binds (ps := ["numbers"]) fun _ _ _ _ _ _ us hl => match us, hl with | [_], _ => rfl
  obtain ⟨d7, F7⟩ := fun_of (K := K) (f := ga K "order_in") (x := "order_in") (qual := "order_in") (st := top 25) (hT ("order_in", 25) (by simp [fns, fns0, fns1, fns2])) (g.fnb ("order_in", 25) (by simp [fns, fns0, fns1, fns2]))
  have m7 : mg "order_in" = some (.ref (ga K "order_in")) := PySem.W.mg_of X G (g.fng ("order_in", 25) (by simp [fns, fns0, fns1, fns2]))
  have b7 := F7.binds (ps := ["number", "base"]) fun _ _ _ _ _ _ us hl => match us, hl with | [_, _], _ => rfl
  obtain ⟨d8, F8⟩ := fun_of (K := K) (f := ga K "_refined") (x := "_refined") (qual := "_refined") (st := top 26) (hT ("_refined", 26) (by simp [fns, fns0, fns1, fns2])) (g.fnb ("_refined", 26) (by simp [fns, fns0, fns1, fns2]))
  have m8 : mg "_refined" = some (.ref (ga K "_refined")) := PySem.W.mg_of X G (g.fng ("_refined", 26) (by simp [fns, fns0, fns1, fns2]))
  have b8 := F8.binds (ps := ["bases", "number"]) fun _ _ _ _ _ _ us hl => match us, hl with | [_, _], _ => rfl
  obtain ⟨d9, F9⟩ := fun_of (K := K) (f := ga K "_sharing") (x := "_sharing") (qual := "_sharing") (st := top 27) (hT ("_sharing", 27) (by simp [fns, fns0, fns1, fns2])) (g.fnb ("_sharing", 27) (by simp [fns, fns0, fns1, fns2]))
  have m9 : mg "_sharing" = some (.ref (ga K "_sharing")) := PySem.W.mg_of X G (g.fng ("_sharing", 27) (by simp [fns, fns0, fns1, fns2]))
  have b9 := F9.binds (ps := ["bases", "number"]) fun _ _ _ _ _ _ us hl => match us, hl with | [_, _], _ => rfl
  obtain ⟨d10, F10⟩ := fun_of (K := K) (f := ga K "is_name") (x := "is_name") (qual := "is_name") (st := top 34) (hT ("is_name", 34) (by simp [fns, fns0, fns1, fns2])) (g.fnb ("is_name", 34) (by simp [fns, fns0, fns1, fns2]))
  have m10 : mg "is_name" = some (.ref (ga K "is_name")) := PySem.W.mg_of X G (g.fng ("is_name", 34) (by simp [fns, fns0, fns1, fns2]))
  have b10 := F10.binds (ps := ["value"]) fun _ _ _ _ _ _ us hl => match us, hl with | [_], _ => rfl
  obtain ⟨d11, F11⟩ := fun_of (K := K) (f := ga K "is_numbers") (x := "is_numbers") (qual := "is_numbers") (st := top 35) (hT ("is_numbers", 35) (by simp [fns, fns0, fns1, fns2])) (g.fnb ("is_numbers", 35) (by simp [fns, fns0, fns1, fns2]))
  have m11 : mg "is_numbers" = some (.ref (ga K "is_numbers")) := PySem.W.mg_of X G (g.fng ("is_numbers", 35) (by simp [fns, fns0, fns1, fns2]))
  have b11 := F11.binds (ps := ["value"]) fun _ _ _ _ _ _ us hl => match us, hl with | [_], _ => rfl
  obtain ⟨d12, F12⟩ := fun_of (K := K) (f := ga K "is_point") (x := "is_point") (qual := "is_point") (st := top 36) (hT ("is_point", 36) (by simp [fns, fns0, fns1, fns2])) (g.fnb ("is_point", 36) (by simp [fns, fns0, fns1, fns2]))
  have m12 : mg "is_point" = some (.ref (ga K "is_point")) := PySem.W.mg_of X G (g.fng ("is_point", 36) (by simp [fns, fns0, fns1, fns2]))
  have b12 := F12.binds (ps := ["value"]) fun _ _ _ _ _ _ us hl => match us, hl with | [_], _ => rfl
  obtain ⟨d13, F13⟩ := fun_of (K := K) (f := ga K "check_numbers") (x := "check_numbers") (qual := "check_numbers") (st := top 37) (hT ("check_numbers", 37) (by simp [fns, fns0, fns1, fns2])) (g.fnb ("check_numbers", 37) (by simp [fns, fns0, fns1, fns2]))
  have m13 : mg "check_numbers" = some (.ref (ga K "check_numbers")) := PySem.W.mg_of X G (g.fng ("check_numbers", 37) (by simp [fns, fns0, fns1, fns2]))
  have b13 := F13.binds (ps := ["value", "names"]) fun _ _ _ _ _ _ us hl => match us, hl with | [_, _], _ => rfl
  obtain ⟨d14, F14⟩ := fun_of (K := K) (f := ga K "check_point") (x := "check_point") (qual := "check_point") (st := top 38) (hT ("check_point", 38) (by simp [fns, fns0, fns1, fns2])) (g.fnb ("check_point", 38) (by simp [fns, fns0, fns1, fns2]))
  have m14 : mg "check_point" = some (.ref (ga K "check_point")) := PySem.W.mg_of X G (g.fng ("check_point", 38) (by simp [fns, fns0, fns1, fns2]))
  have b14 := F14.binds (ps := ["value"]) fun _ _ _ _ _ _ us hl => match us, hl with | [_], _ => rfl
  obtain ⟨d15, F15⟩ := fun_of (K := K) (f := ga K "check_points") (x := "check_points") (qual := "check_points") (st := top 39) (hT ("check_points", 39) (by simp [fns, fns0, fns1, fns2])) (g.fnb ("check_points", 39) (by simp [fns, fns0, fns1, fns2]))
  have m15 : mg "check_points" = some (.ref (ga K "check_points")) := PySem.W.mg_of X G (g.fng ("check_points", 39) (by simp [fns, fns0, fns1, fns2]))
  have b15 := F15.binds (ps := ["value"]) fun _ _ _ _ _ _ us hl => match us, hl with | [_], _ => rfl
  obtain ⟨d16, F16⟩ := fun_of (K := K) (f := ga K "primes") (x := "primes") (qual := "primes") (st := top 40) (hT ("primes", 40) (by simp [fns, fns0, fns1, fns2])) (g.fnb ("primes", 40) (by simp [fns, fns0, fns1, fns2]))
  have m16 : mg "primes" = some (.ref (ga K "primes")) := PySem.W.mg_of X G (g.fng ("primes", 40) (by simp [fns, fns0, fns1, fns2]))
  have b16 := F16.binds (ps := ["many"]) fun _ _ _ _ _ _ us hl => match us, hl with | [_], _ => rfl
  obtain ⟨d17, F17⟩ := fun_of (K := K) (f := ga K "numbers_of") (x := "numbers_of") (qual := "numbers_of") (st := top 41) (hT ("numbers_of", 41) (by simp [fns, fns0, fns1, fns2])) (g.fnb ("numbers_of", 41) (by simp [fns, fns0, fns1, fns2]))
  have m17 : mg "numbers_of" = some (.ref (ga K "numbers_of")) := PySem.W.mg_of X G (g.fng ("numbers_of", 41) (by simp [fns, fns0, fns1, fns2]))
  obtain ⟨d18, F18⟩ := fun_of (K := K) (f := ga K "_number_of") (x := "_number_of") (qual := "_number_of") (st := top 42) (hT ("_number_of", 42) (by simp [fns, fns0, fns1, fns2])) (g.fnb ("_number_of", 42) (by simp [fns, fns0, fns1, fns2]))
  have m18 : mg "_number_of" = some (.ref (ga K "_number_of")) := PySem.W.mg_of X G (g.fng ("_number_of", 42) (by simp [fns, fns0, fns1, fns2]))
  have b18 := F18.binds (ps := ["name", "points", "bases"]) fun _ _ _ _ _ _ us hl => match us, hl with | [_, _, _], _ => rfl
  obtain ⟨d19, F19⟩ := fun_of (K := K) (f := ga K "_has_no_divisor") (x := "_has_no_divisor") (qual := "_has_no_divisor") (st := top 43) (hT ("_has_no_divisor", 43) (by simp [fns, fns0, fns1, fns2])) (g.fnb ("_has_no_divisor", 43) (by simp [fns, fns0, fns1, fns2]))
  have m19 : mg "_has_no_divisor" = some (.ref (ga K "_has_no_divisor")) := PySem.W.mg_of X G (g.fng ("_has_no_divisor", 43) (by simp [fns, fns0, fns1, fns2]))
  have b19 := F19.binds (ps := ["number", "smaller"]) fun _ _ _ _ _ _ us hl => match us, hl with | [_, _], _ => rfl
  obtain ⟨d20, F20⟩ := fun_of (K := K) (f := ga K "decimal_text") (x := "decimal_text") (qual := "decimal_text") (st := top 48) (hT ("decimal_text", 48) (by simp [fns, fns0, fns1, fns2])) (g.fnb ("decimal_text", 48) (by simp [fns, fns0, fns1, fns2]))
  have m20 : mg "decimal_text" = some (.ref (ga K "decimal_text")) := PySem.W.mg_of X G (g.fng ("decimal_text", 48) (by simp [fns, fns0, fns1, fns2]))
  have b20 := F20.binds (ps := ["number"]) fun _ _ _ _ _ _ us hl => match us, hl with | [_], _ => rfl
  obtain ⟨d21, F21⟩ := fun_of (K := K) (f := ga K "read_decimal") (x := "read_decimal") (qual := "read_decimal") (st := top 49) (hT ("read_decimal", 49) (by simp [fns, fns0, fns1, fns2])) (g.fnb ("read_decimal", 49) (by simp [fns, fns0, fns1, fns2]))
  have m21 : mg "read_decimal" = some (.ref (ga K "read_decimal")) := PySem.W.mg_of X G (g.fng ("read_decimal", 49) (by simp [fns, fns0, fns1, fns2]))
  have b21 := F21.binds (ps := ["text"]) fun _ _ _ _ _ _ us hl => match us, hl with | [_], _ => rfl
  obtain ⟨d22, F22⟩ := fun_of (K := K) (f := ga K "exponents_text") (x := "exponents_text") (qual := "exponents_text") (st := top 51) (hT ("exponents_text", 51) (by simp [fns, fns0, fns1, fns2])) (g.fnb ("exponents_text", 51) (by simp [fns, fns0, fns1, fns2]))
  have m22 : mg "exponents_text" = some (.ref (ga K "exponents_text")) := PySem.W.mg_of X G (g.fng ("exponents_text", 51) (by simp [fns, fns0, fns1, fns2]))
  have b22 := F22.binds (ps := ["exponents"]) fun _ _ _ _ _ _ us hl => match us, hl with | [_], _ => rfl
  obtain ⟨d23, F23⟩ := fun_of (K := K) (f := ga K "read_exponents") (x := "read_exponents") (qual := "read_exponents") (st := top 52) (hT ("read_exponents", 52) (by simp [fns, fns0, fns1, fns2])) (g.fnb ("read_exponents", 52) (by simp [fns, fns0, fns1, fns2]))
  have m23 : mg "read_exponents" = some (.ref (ga K "read_exponents")) := PySem.W.mg_of X G (g.fng ("read_exponents", 52) (by simp [fns, fns0, fns1, fns2]))
  have b23 := F23.binds (ps := ["text"]) fun _ _ _ _ _ _ us hl => match us, hl with | [_], _ => rfl
  obtain ⟨d24, F24⟩ := fun_of (K := K) (f := ga K "_power_text") (x := "_power_text") (qual := "_power_text") (st := top 53) (hT ("_power_text", 53) (by simp [fns, fns0, fns1, fns2])) (g.fnb ("_power_text", 53) (by simp [fns, fns0, fns1, fns2]))
  have m24 : mg "_power_text" = some (.ref (ga K "_power_text")) := PySem.W.mg_of X G (g.fng ("_power_text", 53) (by simp [fns, fns0, fns1, fns2]))
  have b24 := F24.binds (ps := ["name", "exponent"]) fun _ _ _ _ _ _ us hl => match us, hl with | [_, _], _ => rfl
  obtain ⟨d25, F25⟩ := fun_of (K := K) (f := ga K "check_size") (x := "check_size") (qual := "check_size") (st := top 56) (hT ("check_size", 56) (by simp [fns, fns0, fns1, fns2])) (g.fnb ("check_size", 56) (by simp [fns, fns0, fns1, fns2]))
  have m25 : mg "check_size" = some (.ref (ga K "check_size")) := PySem.W.mg_of X G (g.fng ("check_size", 56) (by simp [fns, fns0, fns1, fns2]))
  have b25 := F25.binds (ps := ["value"]) fun _ _ _ _ _ _ us hl => match us, hl with | [_], _ => rfl
  obtain ⟨d26, F26⟩ := fun_of (K := K) (f := ga K "check_sizes") (x := "check_sizes") (qual := "check_sizes") (st := top 57) (hT ("check_sizes", 57) (by simp [fns, fns0, fns1, fns2])) (g.fnb ("check_sizes", 57) (by simp [fns, fns0, fns1, fns2]))
  have m26 : mg "check_sizes" = some (.ref (ga K "check_sizes")) := PySem.W.mg_of X G (g.fng ("check_sizes", 57) (by simp [fns, fns0, fns1, fns2]))
  have b26 := F26.binds (ps := ["values"]) fun _ _ _ _ _ _ us hl => match us, hl with | [_], _ => rfl
  obtain ⟨d27, F27⟩ := fun_of (K := K) (f := ga K "_is_exponents") (x := "_is_exponents") (qual := "_is_exponents") (st := top 58) (hT ("_is_exponents", 58) (by simp [fns, fns0, fns1, fns2])) (g.fnb ("_is_exponents", 58) (by simp [fns, fns0, fns1, fns2]))
  have m27 : mg "_is_exponents" = some (.ref (ga K "_is_exponents")) := PySem.W.mg_of X G (g.fng ("_is_exponents", 58) (by simp [fns, fns0, fns1, fns2]))
  have b27 := F27.binds (ps := ["value"]) fun _ _ _ _ _ _ us hl => match us, hl with | [_], _ => rfl
  obtain ⟨d28, F28⟩ := fun_of (K := K) (f := ga K "_times") (x := "_times") (qual := "_times") (st := top 59) (hT ("_times", 59) (by simp [fns, fns0, fns1, fns2])) (g.fnb ("_times", 59) (by simp [fns, fns0, fns1, fns2]))
  have m28 : mg "_times" = some (.ref (ga K "_times")) := PySem.W.mg_of X G (g.fng ("_times", 59) (by simp [fns, fns0, fns1, fns2]))
  have b28 := F28.binds (ps := ["table", "factor"]) fun _ _ _ _ _ _ us hl => match us, hl with | [_, _], _ => rfl
  obtain ⟨d29, F29⟩ := fun_of (K := K) (f := ga K "_law_rng") (x := "_law_rng") (qual := "_law_rng") (st := top 61) (hT ("_law_rng", 61) (by simp [fns, fns0, fns1, fns2])) (g.fnb ("_law_rng", 61) (by simp [fns, fns0, fns1, fns2]))
  have m29 : mg "_law_rng" = some (.ref (ga K "_law_rng")) := PySem.W.mg_of X G (g.fng ("_law_rng", 61) (by simp [fns, fns0, fns1, fns2]))
  have b29 := F29.binds (ps := ["_law_script", "_law_k"]) fun _ _ _ _ _ _ us hl => match us, hl with | [_, _], _ => rfl
  obtain ⟨d30, F30⟩ := fun_of (K := K) (f := ga K "_law_draw") (x := "_law_draw") (qual := "_law_draw") (st := top 62) (hT ("_law_draw", 62) (by simp [fns, fns0, fns1, fns2])) (g.fnb ("_law_draw", 62) (by simp [fns, fns0, fns1, fns2]))
  have m30 : mg "_law_draw" = some (.ref (ga K "_law_draw")) := PySem.W.mg_of X G (g.fng ("_law_draw", 62) (by simp [fns, fns0, fns1, fns2]))
  have b30 := F30.binds (ps := ["_law_rng_here", "_law_bound"]) fun _ _ _ _ _ _ us hl => match us, hl with | [_, _], _ => rfl
  obtain ⟨d31, F31⟩ := fun_of (K := K) (f := ga K "_law_choice") (x := "_law_choice") (qual := "_law_choice") (st := top 63) (hT ("_law_choice", 63) (by simp [fns, fns0, fns1, fns2])) (g.fnb ("_law_choice", 63) (by simp [fns, fns0, fns1, fns2]))
  have m31 : mg "_law_choice" = some (.ref (ga K "_law_choice")) := PySem.W.mg_of X G (g.fng ("_law_choice", 63) (by simp [fns, fns0, fns1, fns2]))
  have b31 := F31.binds (ps := ["_law_rng_here", "_law_some"]) fun _ _ _ _ _ _ us hl => match us, hl with | [_, _], _ => rfl
  obtain ⟨d32, F32⟩ := fun_of (K := K) (f := ga K "_law_names") (x := "_law_names") (qual := "_law_names") (st := top 64) (hT ("_law_names", 64) (by simp [fns, fns0, fns1, fns2])) (g.fnb ("_law_names", 64) (by simp [fns, fns0, fns1, fns2]))
  have m32 : mg "_law_names" = some (.ref (ga K "_law_names")) := PySem.W.mg_of X G (g.fng ("_law_names", 64) (by simp [fns, fns0, fns1, fns2]))
  have b32 := F32.binds (ps := ["_law_rng_here", "_law_bound", "_law_taken"]) fun _ _ _ _ _ _ us hl => match us, hl with | [_, _, _], _ => rfl
  obtain ⟨d33, F33⟩ := fun_of (K := K) (f := ga K "_law_size") (x := "_law_size") (qual := "_law_size") (st := top 65) (hT ("_law_size", 65) (by simp [fns, fns0, fns1, fns2])) (g.fnb ("_law_size", 65) (by simp [fns, fns0, fns1, fns2]))
  have m33 : mg "_law_size" = some (.ref (ga K "_law_size")) := PySem.W.mg_of X G (g.fng ("_law_size", 65) (by simp [fns, fns0, fns1, fns2]))
  have b33 := F33.binds (ps := ["_law_rng_here", "_law_names_here"]) fun _ _ _ _ _ _ us hl => match us, hl with | [_, _], _ => rfl
  obtain ⟨d34, F34⟩ := fun_of (K := K) (f := ga K "_law_whole") (x := "_law_whole") (qual := "_law_whole") (st := top 66) (hT ("_law_whole", 66) (by simp [fns, fns0, fns1, fns2])) (g.fnb ("_law_whole", 66) (by simp [fns, fns0, fns1, fns2]))
  have m34 : mg "_law_whole" = some (.ref (ga K "_law_whole")) := PySem.W.mg_of X G (g.fng ("_law_whole", 66) (by simp [fns, fns0, fns1, fns2]))
  have b34 := F34.binds (ps := ["_law_size_here"]) fun _ _ _ _ _ _ us hl => match us, hl with | [_], _ => rfl
  obtain ⟨d35, F35⟩ := fun_of (K := K) (f := ga K "_law_raised") (x := "_law_raised") (qual := "_law_raised") (st := top 67) (hT ("_law_raised", 67) (by simp [fns, fns0, fns1, fns2])) (g.fnb ("_law_raised", 67) (by simp [fns, fns0, fns1, fns2]))
  have m35 : mg "_law_raised" = some (.ref (ga K "_law_raised")) := PySem.W.mg_of X G (g.fng ("_law_raised", 67) (by simp [fns, fns0, fns1, fns2]))
  have b35 := F35.binds (ps := ["_law_number", "_law_times"]) fun _ _ _ _ _ _ us hl => match us, hl with | [_, _], _ => rfl
  obtain ⟨d36, F36⟩ := fun_of (K := K) (f := ga K "_law_products_right") (x := "_law_products_right") (qual := "_law_products_right") (st := top 68) (hT ("_law_products_right", 68) (by simp [fns, fns0, fns1, fns2])) (g.fnb ("_law_products_right", 68) (by simp [fns, fns0, fns1, fns2]))
  have m36 : mg "_law_products_right" = some (.ref (ga K "_law_products_right")) := PySem.W.mg_of X G (g.fng ("_law_products_right", 68) (by simp [fns, fns0, fns1, fns2]))
  have b36 := F36.binds (ps := ["_law_one", "_law_two", "_law_third"]) fun _ _ _ _ _ _ us hl => match us, hl with | [_, _, _], _ => rfl
  obtain ⟨d37, F37⟩ := fun_of (K := K) (f := ga K "_law_values_right") (x := "_law_values_right") (qual := "_law_values_right") (st := top 69) (hT ("_law_values_right", 69) (by simp [fns, fns0, fns1, fns2])) (g.fnb ("_law_values_right", 69) (by simp [fns, fns0, fns1, fns2]))
  have m37 : mg "_law_values_right" = some (.ref (ga K "_law_values_right")) := PySem.W.mg_of X G (g.fng ("_law_values_right", 69) (by simp [fns, fns0, fns1, fns2]))
  have b37 := F37.binds (ps := ["_law_rng_here", "_law_names_here", "_law_one", "_law_two"]) fun _ _ _ _ _ _ us hl => match us, hl with | [_, _, _, _], _ => rfl
  obtain ⟨d38, F38⟩ := fun_of (K := K) (f := ga K "_law_equal_right") (x := "_law_equal_right") (qual := "_law_equal_right") (st := top 70) (hT ("_law_equal_right", 70) (by simp [fns, fns0, fns1, fns2])) (g.fnb ("_law_equal_right", 70) (by simp [fns, fns0, fns1, fns2]))
  have m38 : mg "_law_equal_right" = some (.ref (ga K "_law_equal_right")) := PySem.W.mg_of X G (g.fng ("_law_equal_right", 70) (by simp [fns, fns0, fns1, fns2]))
  have b38 := F38.binds (ps := ["_law_names_here", "_law_one", "_law_two"]) fun _ _ _ _ _ _ us hl => match us, hl with | [_, _, _], _ => rfl
  obtain ⟨d39, F39⟩ := fun_of (K := K) (f := ga K "_law_named_right") (x := "_law_named_right") (qual := "_law_named_right") (st := top 71) (hT ("_law_named_right", 71) (by simp [fns, fns0, fns1, fns2])) (g.fnb ("_law_named_right", 71) (by simp [fns, fns0, fns1, fns2]))
  have m39 : mg "_law_named_right" = some (.ref (ga K "_law_named_right")) := PySem.W.mg_of X G (g.fng ("_law_named_right", 71) (by simp [fns, fns0, fns1, fns2]))
  have b39 := F39.binds (ps := ["_law_rng_here", "_law_names_here", "_law_one", "_law_two"]) fun _ _ _ _ _ _ us hl => match us, hl with | [_, _, _, _], _ => rfl
  obtain ⟨d40, F40⟩ := fun_of (K := K) (f := ga K "_law_right") (x := "_law_right") (qual := "_law_right") (st := top 72) (hT ("_law_right", 72) (by simp [fns, fns0, fns1, fns2])) (g.fnb ("_law_right", 72) (by simp [fns, fns0, fns1, fns2]))
  have m40 : mg "_law_right" = some (.ref (ga K "_law_right")) := PySem.W.mg_of X G (g.fng ("_law_right", 72) (by simp [fns, fns0, fns1, fns2]))
  have b40 := F40.binds (ps := ["_law_rng_here"]) fun _ _ _ _ _ _ us hl => match us, hl with | [_], _ => rfl
  obtain ⟨d41, F41⟩ := fun_of (K := K) (f := ga K "law") (x := "law") (qual := "law") (st := top 73) (hT ("law", 73) (by simp [fns, fns0, fns1, fns2])) (g.fnb ("law", 73) (by simp [fns, fns0, fns1, fns2]))
  have m41 : mg "law" = some (.ref (ga K "law")) := PySem.W.mg_of X G (g.fng ("law", 73) (by simp [fns, fns0, fns1, fns2]))
  have b41 := F41.binds (ps := ["_law_script"]) fun _ _ _ _ _ _ us hl => match us, hl with | [_], _ => rfl
  obtain ⟨e0, E0⟩ := fun_of (K := K) (f := faM K "is_whole") (x := "is_whole") (qual := "Size.is_whole") (st := inClass sSize 4) (hM ("is_whole", 4) (by simp [meths])) (g.mes ("is_whole", 4) (by simp [meths]))
  have c0 := E0.binds (ps := ["self"]) fun _ _ _ _ _ _ us hl => match us, hl with | [_], _ => rfl
  obtain ⟨e1, E1⟩ := fun_of (K := K) (f := faM K "top") (x := "top") (qual := "Size.top") (st := inClass sSize 5) (hM ("top", 5) (by simp [meths])) (g.mes ("top", 5) (by simp [meths]))
  have c1 := E1.binds (ps := ["self"]) fun _ _ _ _ _ _ us hl => match us, hl with | [_], _ => rfl
  obtain ⟨e2, E2⟩ := fun_of (K := K) (f := faM K "bottom") (x := "bottom") (qual := "Size.bottom") (st := inClass sSize 6) (hM ("bottom", 6) (by simp [meths])) (g.mes ("bottom", 6) (by simp [meths]))
  have c2 := E2.binds (ps := ["self"]) fun _ _ _ _ _ _ us hl => match us, hl with | [_], _ => rfl
  obtain ⟨e3, E3⟩ := fun_of (K := K) (f := faM K "names") (x := "names") (qual := "Size.names") (st := inClass sSize 7) (hM ("names", 7) (by simp [meths])) (g.mes ("names", 7) (by simp [meths]))
  have c3 := E3.binds (ps := ["self"]) fun _ _ _ _ _ _ us hl => match us, hl with | [_], _ => rfl
  obtain ⟨e4, E4⟩ := fun_of (K := K) (f := faM K "exponents") (x := "exponents") (qual := "Size.exponents") (st := inClass sSize 8) (hM ("exponents", 8) (by simp [meths])) (g.mes ("exponents", 8) (by simp [meths]))
  have c4 := E4.binds (ps := ["self"]) fun _ _ _ _ _ _ us hl => match us, hl with | [_], _ => rfl
  obtain ⟨e5, E5⟩ := fun_of (K := K) (f := faM K "exponent") (x := "exponent") (qual := "Size.exponent") (st := inClass sSize 9) (hM ("exponent", 9) (by simp [meths])) (g.mes ("exponent", 9) (by simp [meths]))
  have c5 := E5.binds (ps := ["self", "name"]) fun _ _ _ _ _ _ us hl => match us, hl with | [_, _], _ => rfl
  obtain ⟨e6, E6⟩ := fun_of (K := K) (f := faM K "over") (x := "over") (qual := "Size.over") (st := inClass sSize 10) (hM ("over", 10) (by simp [meths])) (g.mes ("over", 10) (by simp [meths]))
  have c6 := E6.binds (ps := ["self", "other"]) fun _ _ _ _ _ _ us hl => match us, hl with | [_, _], _ => rfl
  obtain ⟨e7, E7⟩ := fun_of (K := K) (f := faM K "power") (x := "power") (qual := "Size.power") (st := inClass sSize 11) (hM ("power", 11) (by simp [meths])) (g.mes ("power", 11) (by simp [meths]))
  have c7 := E7.binds (ps := ["self", "count"]) fun _ _ _ _ _ _ us hl => match us, hl with | [_, _], _ => rfl
  obtain ⟨e8, E8⟩ := fun_of (K := K) (f := faM K "at") (x := "at") (qual := "Size.at") (st := inClass sSize 12) (hM ("at", 12) (by simp [meths])) (g.mes ("at", 12) (by simp [meths]))
  have c8 := E8.binds (ps := ["self", "numbers"]) fun _ _ _ _ _ _ us hl => match us, hl with | [_, _], _ => rfl
  obtain ⟨e9, E9⟩ := fun_of (K := K) (f := faM K "at_point") (x := "at_point") (qual := "Size.at_point") (st := inClass sSize 13) (hM ("at_point", 13) (by simp [meths])) (g.mes ("at_point", 13) (by simp [meths]))
  have c9 := E9.binds (ps := ["self", "point"]) fun _ _ _ _ _ _ us hl => match us, hl with | [_, _], _ => rfl
  obtain ⟨e10, E10⟩ := fun_of (K := K) (f := faM K "__mul__") (x := "__mul__") (qual := "Size.__mul__") (st := inClass sSize 14) (hM ("__mul__", 14) (by simp [meths])) (g.mes ("__mul__", 14) (by simp [meths]))
  have c10 := E10.binds (ps := ["self", "other"]) fun _ _ _ _ _ _ us hl => match us, hl with | [_, _], _ => rfl
  obtain ⟨e11, E11⟩ := fun_of (K := K) (f := faM K "__contains__") (x := "__contains__") (qual := "Size.__contains__") (st := inClass sSize 15) (hM ("__contains__", 15) (by simp [meths])) (g.mes ("__contains__", 15) (by simp [meths]))
  have c11 := E11.binds (ps := ["self", "name"]) fun _ _ _ _ _ _ us hl => match us, hl with | [_, _], _ => rfl
  obtain ⟨e12, E12⟩ := fun_of (K := K) (f := faM K "__eq__") (x := "__eq__") (qual := "Size.__eq__") (st := inClass sSize 17) (hM ("__eq__", 17) (by simp [meths])) (g.mes ("__eq__", 17) (by simp [meths]))
  have c12 := E12.binds (ps := ["self", "other"]) fun _ _ _ _ _ _ us hl => match us, hl with | [_, _], _ => rfl
  obtain ⟨e13, E13⟩ := fun_of (K := K) (f := faM K "__str__") (x := "__str__") (qual := "Size.__str__") (st := inClass sSize 18) (hM ("__str__", 18) (by simp [meths])) (g.mes ("__str__", 18) (by simp [meths]))
  have c13 := E13.binds (ps := ["self"]) fun _ _ _ _ _ _ us hl => match us, hl with | [_], _ => rfl
  obtain ⟨e14, E14⟩ := fun_of (K := K) (f := faM K "__repr__") (x := "__repr__") (qual := "Size.__repr__") (st := inClass sSize 19) (hM ("__repr__", 19) (by simp [meths])) (g.mes ("__repr__", 19) (by simp [meths]))
  have c14 := E14.binds (ps := ["self"]) fun _ _ _ _ _ _ us hl => match us, hl with | [_], _ => rfl
  obtain ⟨e15, E15⟩ := fun_of (K := K) (f := faM K "product") (x := "product") (qual := "Size.product") (st := inClass sSize 3) (hM ("product", 3) (by simp [meths])) (g.mes ("product", 3) (by simp [meths]))
  obtain ⟨e16, E16⟩ := fun_of (K := K) (f := faM K "read") (x := "read") (qual := "Size.read") (st := inClass sSize 2) (hM ("read", 2) (by simp [meths])) (g.mes ("read", 2) (by simp [meths]))
  obtain ⟨di, FI⟩ := fund_of (K := K) (f := meA K "__init__") (x := "__init__") (qual := "Size.__init__") (st := sInit) hI g.ini
  obtain ⟨bi1, bi0⟩ := init_b FI
  have mS : mg "Size" = some (.ref (caK K)) := PySem.W.mg_of X G cf.glo
  have CS : Cs K (caK K) := ⟨⟨cf.pg, cf.hd, cf.po, cf.sa⟩, cf.nE⟩
  have CK : Ck K mg (caK K) := ⟨CS, mS, cf.cc, g.cn, g.ct, cf.co⟩
  have pI := pl_ok (g.pl "__init__" (by simp [plain]))
  have MK : Mk K (caK K) (meA K "__init__") := ⟨cf.mkI, pI.1, pI.2, cf.kp⟩
  have e := hfa.symm.trans m41
  cases e
  obtain ⟨oc, od, kV, doc, pm, an, cdv, ct, osl, ef, lk, hcd⟩ := id F41.ex
  have pnames := pl_ok (g.pl "names" (by simp [plain]))
  have pexponents := pl_ok (g.pl "exponents" (by simp [plain]))
  have pexponent := pl_ok (g.pl "exponent" (by simp [plain]))
  have pover := pl_ok (g.pl "over" (by simp [plain]))
  have ppower := pl_ok (g.pl "power" (by simp [plain]))
  have pat := pl_ok (g.pl "at" (by simp [plain]))
  have patXpoint := pl_ok (g.pl "at_point" (by simp [plain]))
  have pXXmulXX := pl_ok (g.pl "__mul__" (by simp [plain]))
  have pXXcontainsXX := pl_ok (g.pl "__contains__" (by simp [plain]))
  have pXXeqXX := pl_ok (g.pl "__eq__" (by simp [plain]))
  have pXXstrXX := pl_ok (g.pl "__str__" (by simp [plain]))
  have pXXreprXX := pl_ok (g.pl "__repr__" (by simp [plain]))
  refine ⟨d41, fun s u => ?_, fun base _ _ => ?_⟩
  · rw [ef]
    exact .of_eq rfl
  · have GInt := ok_isint (P := PG) (w := w) (base := base) F1 NK
    have GCnt := ok_iscount (P := PG) (w := w) (base := base) F2 NK GInt F1.kp b1 m1
    have GNm := ok_isname (P := PG) (w := w) (base := base) F10 NK NN
    have GAdd := ok_added (P := PG) (w := w) (base := base) F0 NA
    have GTim := ok_times (P := PG) (w := w) (mg := mg) (base := base) F28
    have GDec := ok_dec (P := PG) (w := w) (base := base) F20 NS b20 m20 F20.kp
    have GRdD := ok_rdD (P := PG) (w := w) (base := base) F21 ND
    have GPw := ok_pw (P := PG) (w := w) (mg := mg) (base := base) F24 GDec F20.kp b20 m20
    have GTex := ok_tex (P := PG) (w := w) (base := base) F22 NA NT GPw F24.kp b24 m24
    have GRdE := ok_rdE (P := PG) (w := w) (mg := mg) (base := base) F23 GRdD F21.kp b21 m21 GNm F10.kp b10 m10 GTex F22.kp b22 m22
    have GEx := ok_isexp (P := PG) (w := w) (base := base) F27 NK GNm F10.kp b10 m10 GInt F1.kp b1 m1
    have GI := ok_init (P := PG) (w := w) (base := base) FI NA CS GEx F27.kp b27 m27
    obtain ⟨ggI, kbI⟩ := init_kb FI
    have GCk := ok_check (P := PG) (w := w) (base := base) F25 NK CK
    have GCs := ok_checks (P := PG) (w := w) (base := base) F26 GCk F25.kp b25 m25
    have GRa := ok_rai (P := PG) (w := w) (mg := mg) (base := base) F4
    have GOd := ok_ord (P := PG) (w := w) (mg := mg) (base := base) F7
    have GSh := ok_sha (P := PG) (w := w) (base := base) F9 (bn "enumerate" (by simp [bltN])) gG
    have GRf := ok_ref (P := PG) (w := w) (base := base) F8 (bn "list" (by simp [bltN])) gG GSh F9.kp b9 m9
    have GCo := ok_cob (P := PG) (w := w) (base := base) F6 GRf F8.kp b8 m8
    have GOr := ok_ors (P := PG) (w := w) (base := base) F5 (bn "list" (by simp [bltN])) (bn "sum" (by simp [bltN])) GCo F6.kp b6 m6 GOd F7.kp b7 m7
    have GIn := ok_isnum (P := PG) (w := w) (base := base) F11 NK GNm F10.kp b10 m10 GInt F1.kp b1 m1
    have GCn := ok_chn (P := PG) (w := w) (base := base) F13 (bn "any" (by simp [bltN])) GIn F11.kp b11 m11
    have GIp := ok_ispoint (P := PG) (w := w) (base := base) F12 NK GNm F10.kp b10 m10 GCnt F2.kp b2 m2
    have GCp := ok_chp (P := PG) (w := w) (mg := mg) (base := base) F14 GIp F12.kp b12 m12
    have GIl := ok_isl (P := PG) (w := w) (base := base) F3 NK (bn "list" (by simp [bltN])) (bn "tuple" (by simp [bltN]))
    have GCps := ok_chps (P := PG) (w := w) (base := base) F15 (bn "enumerate" (by simp [bltN])) GIl F3.kp b3 m3 GIp F12.kp b12 m12
    have GHn := ok_hnd (P := PG) (w := w) (mg := mg) (base := base) F19
    have GPri := ok_primes (P := PG) (w := w) (base := base) F16 (bn "len" (by simp [bltN])) GCnt F2.kp b2 m2 GHn F19.kp b19 m19
    have GNo := ok_no (P := PG) (w := w) (base := base) F18 NG GRa F4.kp b4 m4
    have GNof := ok_nof (P := PG) (w := w) (base := base) F17 NZ GCps F15.kp b15 m15 GNm F10.kp b10 m10 GPri F16.kp b16 m16 GNo F18.kp b18 m18
    have gWhole := ok_whole (P := PG) (w := w) (base := base) E0 NK CK
    have gTop := ok_top (P := PG) (w := w) (base := base) E1 CK MK GI bi1
    have gBot := ok_bottom (P := PG) (w := w) (base := base) E2 CK MK GI bi1
    have gNames := ok_names (P := PG) (w := w) (base := base) E3 NT CK
    have gExpo := ok_expo (P := PG) (w := w) (base := base) E4 NT CK
    have gEx1 := ok_exp1 (P := PG) (w := w) (base := base) E5 CK GNm F10.kp b10 m10
    have gOver := ok_over (P := PG) (w := w) (base := base) E6 CK GCk F25.kp b25 m25 MK GI bi1 (⟨pexponents.1, pexponents.2, E4.kp⟩ : Meth K (caK K) "exponents" (meA K "exponents")) gExpo c4 GTim F28.kp b28 m28 GAdd F0.kp b0 m0
    have gPow := ok_power (P := PG) (w := w) (base := base) E7 CK GCnt F2.kp b2 m2 MK GI bi1 GTim F28.kp b28 m28
    have gAt := ok_at (P := PG) (w := w) (base := base) E8 CK (bn "any" (by simp [bltN])) GCn F13.kp b13 m13 gNames (⟨pnames.1, pnames.2, E3.kp⟩ : Meth K (caK K) "names" (meA K "names")) c3 GOr F5.kp b5 m5 GRa F4.kp b4 m4 MX1 gX1 xf1.exb xf1.tyC
    have gAtP := ok_atp (P := PG) (w := w) (base := base) E9 CK (bn "sum" (by simp [bltN])) GCp F14.kp b14 m14
    have gMul := ok_mul (P := PG) (w := w) (base := base) E10 CK GCk F25.kp b25 m25 MK GI bi1 (⟨pexponents.1, pexponents.2, E4.kp⟩ : Meth K (caK K) "exponents" (meA K "exponents")) gExpo c4 GAdd F0.kp b0 m0
    have gHas := ok_has (P := PG) (w := w) (base := base) E11 CK GNm F10.kp b10 m10
    have gEq := ok_eq (P := PG) (w := w) (base := base) E12 NK CK
    have gStr := ok_str (P := PG) (w := w) (base := base) E13 NS CK GTex F22.kp b22 m22
    have gRep := ok_repr (P := PG) (w := w) (base := base) E14 CK GTex F22.kp b22 m22
    have gProd := ok_prod (P := PG) (w := w) (base := base) E15 CK GCs F26.kp b26 m26 MK GI bi1 (⟨pexponents.1, pexponents.2, E4.kp⟩ : Meth K (caK K) "exponents" (meA K "exponents")) gExpo c4 GAdd F0.kp b0 m0
    have gRd := ok_read (P := PG) (w := w) (base := base) E16 NK CK GRdE F23.kp b23 m23 MK GI bi1 MX0 gX0 xf0.exb xf0.tyC
    have GDr := ok_draw (P := PG) (w := w) (base := base) F30 NB
    have GDw := ok_drawW (P := PG) (w := w) (base := base) F30 NB
    have GCh := ok_choice (P := PG) (w := w) (base := base) F31 NB F30 b30 m30
    have GNa := ok_nm (P := PG) (w := w) (base := base) F32 NB F30 b30 m30 F31 b31 m31
    have GSz := ok_sz (P := PG) (w := w) (base := base) F33 CK GDr F30.kp b30 m30 MK GI bi1
    have KW : Kw PG w K mg base (caK K) := ⟨CK, ⟨_, _, _, pr_ok (g.pr "top" (by simp [props])), gTop, c1⟩, ⟨_, _, _, pr_ok (g.pr "bottom" (by simp [props])), gBot, c2⟩, ⟨_, _, gMul, cf.s1, pXXmulXX.1, pXXmulXX.2, c10⟩⟩
    have GWh := ok_whl (P := PG) (w := w) (base := base) F34 KW
    have GRs := ok_rsd (P := PG) (w := w) (base := base) F35 NB
    have KP : Kp PG w K mg base (caK K) := ⟨KW, ⟨_, _, MK, GI, bi1, bi0⟩, ⟨_, _, (⟨pover.1, pover.2, E6.kp⟩ : Meth K (caK K) "over" (meA K "over")), gOver, c6⟩, ⟨_, _, (⟨ppower.1, ppower.2, E7.kp⟩ : Meth K (caK K) "power" (meA K "power")), gPow, c7⟩, ⟨_, _, pXXeqXX.1, pXXeqXX.2, gEq, c12⟩, cf.ne⟩
    have GPrr := ok_prr (P := PG) (w := w) (base := base) F36 (bn "repr" (by simp [bltN])) KP ⟨_, _, _, pr_ok (g.pr "is_whole" (by simp [props])), gWhole, c0⟩ ⟨_, _, (⟨pnames.1, pnames.2, E3.kp⟩ : Meth K (caK K) "names" (meA K "names")), gNames, c3⟩ ⟨_, _, pXXcontainsXX.1, pXXcontainsXX.2, gHas, c11⟩ ⟨_, ⟨cf.rd, cf.ga⟩, _, _, cmm_ok (g.cm "product" (by simp [cms])), gProd⟩
    have KX1 : Kx PG w K mg base (caK K) (ga K "NotWhole") := ⟨KP, ⟨_, _, (⟨pat.1, pat.2, E8.kp⟩ : Meth K (caK K) "at" (meA K "at")), gAt, c8⟩, ⟨_, _, (⟨patXpoint.1, patXpoint.2, E9.kp⟩ : Meth K (caK K) "at_point" (meA K "at_point")), gAtP, c9⟩, ⟨_, GNof.1, F17.kp, m17⟩, ⟨_, _, GRs, F35.kp, b35, m35⟩, bn "dict" (by simp [bltN])⟩
    have GVr := ok_vr (P := PG) (w := w) (base := base) F37 KX1 GDr GDw F30.kp b30 m30 GCh F31.kp b31 m31 GWh F34.kp b34 m34
    have GEr := ok_er (P := PG) (w := w) (base := base) F38 KX1 (bn "repr" (by simp [bltN])) (bn "all" (by simp [bltN])) g.sys ⟨_, _, (⟨pexponents.1, pexponents.2, E4.kp⟩ : Meth K (caK K) "exponents" (meA K "exponents")), gExpo, c4⟩ GWh F34.kp b34 m34
    have KRd : FnKw PG w K mg base 6 (faM K "read") [.ref (caK K)] ["text"] (fun zs H Q _ => spRead K (caK K) (ga K "InvalidText") ([V.ref (caK K)] ++ zs) H Q L2.E0) := FnOk.kwx (xs := [.ref (caK K)]) gRd (.cons rfl .nil) fun s ws hk hl => kw_binds1 (ps := ["cls", "text"]) (ks := ["text"]) E16 (fun _ _ _ _ _ _ _ ws hl => match ws, hl with | [_], _ => rfl) s (.ref (caK K)) ws hk hl
    have KN : Kn PG w K mg base (caK K) (ga K "NotWhole") (ga K "InvalidText") := ⟨KX1, ⟨_, GNof.2, F17.kp, m17⟩, ⟨_, _, (⟨pexponent.1, pexponent.2, E5.kp⟩ : Meth K (caK K) "exponent" (meA K "exponent")), gEx1, c5, kw_binds1 (ps := ["self", "name"]) (ks := ["name"]) E5 fun _ _ _ _ _ _ _ ws hl => match ws, hl with | [_], _ => rfl⟩, ⟨_, _, (⟨pover.1, pover.2, E6.kp⟩ : Meth K (caK K) "over" (meA K "over")), gOver, c6, kw_binds1 (ps := ["self", "other"]) (ks := ["other"]) E6 fun _ _ _ _ _ _ _ ws hl => match ws, hl with | [_], _ => rfl⟩, ⟨_, _, (⟨ppower.1, ppower.2, E7.kp⟩ : Meth K (caK K) "power" (meA K "power")), gPow, c7, kw_binds1 (ps := ["self", "count"]) (ks := ["count"]) E7 fun _ _ _ _ _ _ _ ws hl => match ws, hl with | [_], _ => rfl⟩,
      ⟨_, _, (⟨pat.1, pat.2, E8.kp⟩ : Meth K (caK K) "at" (meA K "at")), gAt, c8, kw_binds1 (ps := ["self", "numbers"]) (ks := ["numbers"]) E8 fun _ _ _ _ _ _ _ ws hl => match ws, hl with | [_], _ => rfl⟩, ⟨_, _, (⟨patXpoint.1, patXpoint.2, E9.kp⟩ : Meth K (caK K) "at_point" (meA K "at_point")), gAtP, c9, kw_binds1 (ps := ["self", "point"]) (ks := ["point"]) E9 fun _ _ _ _ _ _ _ ws hl => match ws, hl with | [_], _ => rfl⟩, ⟨_, _, _, MK, GI, kbI⟩, ⟨_, _, (⟨pexponents.1, pexponents.2, E4.kp⟩ : Meth K (caK K) "exponents" (meA K "exponents")), gExpo, c4⟩,
      ⟨_, ⟨cf.rd, cf.ga⟩, _, _, cmm_ok (g.cm "read" (by simp [cms])), KRd⟩, ⟨_, _, gStr, pXXstrXX.1, pXXstrXX.2, c13⟩,
      ⟨_, _, GPri, F16.kp, m16, kw_binds (ps := ["many"]) (ks := ["many"]) F16 fun _ _ _ _ _ _ ws hl => match ws, hl with | [_], _ => rfl⟩,
      ⟨_, (FnOk.kw (ks := ["value"]) GNm (kw_binds F10 fun _ _ _ _ _ _ ws hl => match ws, hl with | [_], _ => rfl)).mono (by decide), F10.kp, m10⟩, ⟨_, (FnOk.kw (ks := ["value"]) GIn (kw_binds F11 fun _ _ _ _ _ _ ws hl => match ws, hl with | [_], _ => rfl)).mono (by decide), F11.kp, m11⟩, ⟨_, (FnOk.kw (ks := ["value"]) GIp (kw_binds F12 fun _ _ _ _ _ _ ws hl => match ws, hl with | [_], _ => rfl)).mono (by decide), F12.kp, m12⟩, bn "str" (by simp [bltN]), bn "list" (by simp [bltN]), bn "repr" (by simp [bltN])⟩
    have GNr := ok_nr (P := PG) (w := w) (base := base) F39 KN g.sys GCh F31.kp b31 m31 GWh F34.kp b34 m34
    have KR : Kr PG w K mg base (caK K) := ⟨CK, ⟨_, _, GDr, F30.kp, b30, m30⟩, ⟨_, _, GNa, F32.kp, b32, m32⟩, ⟨_, _, GSz, F33.kp, b33, m33⟩, ⟨_, _, GPrr, F36.kp, b36, m36⟩, ⟨_, _, GVr, F37.kp, b37, m37⟩, ⟨_, _, GEr, F38.kp, b38, m38⟩, ⟨_, _, GNr, F39.kp, b39, m39⟩, ⟨_, _, MK, GI, bi1⟩, ⟨_, _, (⟨pexponents.1, pexponents.2, E4.kp⟩ : Meth K (caK K) "exponents" (meA K "exponents")), gExpo, c4⟩, ⟨_, _, gRep, pXXreprXX.1, pXXreprXX.2, c14⟩, bn "repr" (by simp [bltN])⟩
    have GRi := ok_ri (P := PG) (w := w) (base := base) F40 KR
    exact ok_law (P := PG) (w := w) (base := base) F41 NB (bn "all" (by simp [bltN])) (ok_rng F29 NB) F29.kp b29 m29 GRi F40.kp b40 m40
end
end K17
set_option maxHeartbeats 8000000
namespace K17
open PySem PySem.Spec PyProof.Rows L2 He

theorem walk_ofX {l : PySem.W.OpenLaw} {n k : Nat} {q : Program} {loose : List Str}
    {XP : (Str → Option Value) → Heap → Prop} {YP : World → Heap → Prop} {d : DefRec} {x : Str}
    (hn : l.most = some n) (hn2 : n ≤ sizeLine) (hdf : d.params.defaults = []) (hr : Room k callerA)
    (F : ∀ (w : World) (mg : Str → Option Value) (fa : Addr) (h : Heap), YP w h → h.Ns mainGlobals mg →
      mg d.name = some (.ref fa) → ∃ (K : PySem.W.Frag) (fd : FuncData) (sp : Sp), K.In h ∧
        (∀ (s : Shared) (u : Value), BindsTo s fd ⟨[u], []⟩ [(x, u)]) ∧
        (∀ (H : Hp) (a : Addr) (ns : List Int), ns.length ≤ n → Only H → SqL K H a (ns.map V.int) →
          sp [.ref a] H (fun v _ => v = .bl true) E0) ∧
        ∀ base : Heap, K.In base → base.Ns mainGlobals mg → FnG l.prog w K mg base k fa fd [x] sp) :
    PySem.W.WalkO q loose XP YP l.row.toRowW d [] (fun f vs => PySem.call f vs) := by
  refine Att.attach_call hn hdf fun w s0 s1 mg mb fa o pm cd doc a vs ns G Y ho hd hcd hmg hobj hints hlen hg => ?_
  obtain ⟨K, fd, sp, KX, hb, hsp, hF⟩ := F w mg fa _ Y G.T.g hmg
  exact law_callG KX G.T.g G.T.b G.T.builtins G.T.nolimit hg hobj hints (Nat.le_trans hlen hn2) hr hF hb
    fun H hO hS => hsp H a ns hlen hO hS
end K17
open PySem PySem.W PySem.Calls PyProof.Rows
theorem PySem.Challenge.cw_anyshape_k17_whole_sizes_by_points_holds : PySem.Challenge.rw_anyshape_k17_whole_sizes_by_points.Holds := by
  w_on; o_law
  refine HandSHeadRun.head_imp (r := OpenLaw.row PySem.Challenge.rw_anyshape_k17_whole_sizes_by_points) (q := K17.qv) (H := K17.hk) (ob := K17.ob)
    (M := 12500) (loose := K17.names) (d := HandSHeadRun.topDef (OpenLaw.row PySem.Challenge.rw_anyshape_k17_whole_sizes_by_points).prog 73) (kwd := [])
    K17.ob_eq K17.run (by kernel_rfl) (by kernel_rfl) (by kernel_rfl) (by rfl)
    (by first | assumption | decide +kernel) (by decide +kernel) ⟨rfl, rfl, rfl, rfl, rfl, by decide +kernel⟩ ?hw ?hc
  case hw => w_witness2
  case hc =>
    refine K17.walk_ofX (l := PySem.Challenge.rw_anyshape_k17_whole_sizes_by_points) (n := 63) (k := 11) (x := "_law_script") rfl (by decide) (by kernel_rfl) ⟨rfl, by decide, by decide⟩ ?F
    intro w mg fa h Y G hmg0
    obtain ⟨K, KX, c⟩ := Y
    have hmg : mg ("law" : PySem.Str) = some (.ref fa) := by
      have e : (HandSHeadRun.topDef (OpenLaw.row PySem.Challenge.rw_anyshape_k17_whole_sizes_by_points).prog 73).name = ("law" : PySem.Str) := by kernel_rfl
      rw [← e]
      exact hmg0
    obtain ⟨fd, hb, hF⟩ := K17.law_mk (w := w) KX G c hmg
    exact ⟨K, fd, K17.spLaw K, KX, hb, fun H a ns hl _ hS => ⟨a, ns, rfl, hS, Nat.le_trans hl (by decide), fun _ => rfl⟩, hF⟩
#print axioms PySem.Challenge.cw_anyshape_k17_whole_sizes_by_points_holds
