import PyProof.Rows.All
import Wide.All
import OpenK.AllK
import Wide.FinOn
import HandS.ForMost
import HandS.Exc
import HandS.ExcInit
import KE.KExcSuper
import KE.KExcIs
import KE.KExcInit
import HandS.IsInst
import HandS.WideBits
import HandS.Walk
import HandS.Steps
import HandS.DictComp
import HandS.WordsDict
import HandS.Defaults
import HandS.OwnEq
import KE.KEqDict
import HandS.Text
import HandS.Style
import KE.KCallOwn
import HandS.RaiseMore
import PyProof.Rows.StrDigitsNeg
import PyProof.Rows.StrJoinMade
import HandS.StrMore
import KE.IntTextLaws
import HandS.FStr
import OpenK.KOps
import HandS.WordsExc
import HandS.TryOnly
import HandS.ClsMeth
import PyProof.StrLawsRepr
import HandS.ListItems
import KE.KStateDown
import HandS.Head0
import HandS.Head1
import HandS.Head2
import HandS.Head3
import HandS.HeadHook1
import HandS.HeadEnd
import HandS.Property
import PySem.Challenge.RW_anyshape_k13_texts_of_sizes
set_option Elab.async false
set_option linter.all false
set_option maxRecDepth 100000
set_option maxHeartbeats 8000000
/-! own exceptions whose body says super().__init__('..') and then stores its fields -/
namespace Xc
open PySem PySem.W PySem.Calls PyProof.Rows

/-- what the written part says of an own exception class at C, over the built-in B -/
structure XC (K : Frag) (C : Addr) (B newId initId : String) (bmB : List Value) : Prop where
  FB : ExcBaseFacts B newId initId bmB
  SF : StoreFacts B bmB "object.__setattr__" "object"
  KF : KxsFacts B initId
  ini : excInitIn K C bmB newId = true
  ovr : excOver K C bmB = true
  hdc : hasDictIn K C = true
  sa : findIn K (.ref C) "__setattr__" = some (some (.builtin "object.__setattr__"))

section
open Builtin Builtin.ObjectAttr
variable {prog : Program} {w : World} {A : Around} {E : Value → Shared → Prop}
variable {hp : Heap} {g : Array GenState} {d : Drawn} {t : Nat} {os : OsState}
variable {K : Frag} {C x t0 : Addr} {B newId initId : String} {bmB : List Value}
variable {name : Str} {v : Value}

/-- the first field -/
theorem sto0 (T : XC K C B newId initId bmB) (X : K.In hp)
    (hx : hp.get? x = some (excObj C t0 none .none)) (ha : takerIn K C name = some none)
    {Q : Unit → Shared → Prop}
    (hq : ∀ h' tk dx, (∀ b o, b ≠ x → hp.get? b = some o → h'.get? b = some o) →
      hp.objs.size ≤ dx → dx ≠ x → h'.get? x = some (excObj C t0 (some dx) .none) →
      h'.Ns1 dx (fun y => if y = name then some v else none) → Q () ⟨h', g, d, tk, os⟩) :
    wpAny (model prog w) A (setAttr (.ref x) name v) Q E ⟨hp, g, d, t, os⟩ := by
  have hxs : x ≠ hp.objs.size := Nat.ne_of_lt (Heap.lt_size hx)
  have I : W.InstAt hp x (excObj C t0 none .none) C none := ⟨hx, rfl, rfl, trivial⟩
  refine set_plain X I T.sa ?_
  refine osa_openX (r := none) T.SF X I T.ovr ha fun b => ?_
  obtain ⟨cd, hc, hd⟩ := any_some T.hdc
  refine wpAny_bind (wpAny_pure (wpAny_bind
    (instanceDict_exc (s := ⟨hp, g, d, t + 1, os⟩) hx (looks_clsIn X hc) hd ?_)))
  refine HandSPX.store_in_new ?_ fun h' tk hn hs => ?_
  · refine ⟨_, #[], _, (Heap.get?_update_ne _ _ _ _ hxs.symm).trans (Heap.get?_push_at rfl rfl), rfl, ?_, fun _ => rfl⟩
    intro e he
    exact absurd he (by simp)
  · have hx1 : (hp.push (dictOf [] 0)).get? x = some (excObj C t0 none .none) :=
      Heap.get?_push_of_some _ hx
    refine hq h' tk hp.objs.size (fun b o hb ho => ?_) (Nat.le_refl _) hxs.symm ?_ hn
    · have e1 := Heap.get?_push_of_some (dictOf [] 0) ho
      have e2 := (Heap.get?_update_ne _ _ _ (fun o => { o with dict := some hp.objs.size }) hb).trans e1
      exact (hs.2 b (Nat.ne_of_lt (Heap.lt_size ho))).trans e2
    · exact (hs.2 x hxs).trans (Heap.get?_update_self _ hx1 rfl)

/-- a further field -/
theorem stoD (T : XC K C B newId initId bmB) (X : K.In hp) {dx : Addr} {m0 : Str → Option Value}
    {nl : List Str} (hx : hp.get? x = some (excObj C t0 (some dx) .none)) (hns : hp.Ns1 dx m0)
    (hw : Within m0 nl) (hz : nl.length ≤ 1000) (ha : takerIn K C name = some none)
    {Q : Unit → Shared → Prop}
    (hq : ∀ h' tk, (∀ b o, b ≠ dx → hp.get? b = some o → h'.get? b = some o) →
      h'.Ns1 dx (fun y => if y = name then some v else m0 y) → Q () ⟨h', g, d, tk, os⟩) :
    wpAny (model prog w) A (setAttr (.ref x) name v) Q E ⟨hp, g, d, t, os⟩ := by
  obtain ⟨oD, esD, epD, hoD, hdD, _⟩ := hns.count hw
  have I : W.InstAt hp x (excObj C t0 (some dx) .none) C (some oD) := ⟨hx, rfl, rfl, hoD⟩
  refine set_plain X I T.sa ?_
  refine osa_openX (r := none) T.SF X I T.ovr ha fun b => ?_
  have step : ∀ {Q1 : Option Addr → Shared → Prop} {A1 : Around} {E1 : Value → Shared → Prop},
      Q1 (some dx) ⟨hp, g, d, t + 1, os⟩ →
      wpAny (model prog w) A1 (instanceDict x true) Q1 E1 ⟨hp, g, d, t + 1, os⟩ := by
    intro Q1 A1 E1 h
    obtain ⟨cd, hc, hd⟩ := any_some T.hdc
    unfold instanceDict
    refine wpAny_bind (wpAny_loadPart hx ?_)
    dsimp only
    refine wpAny_bind ((looks_clsIn X hc).at ?_)
    rw [hd]
    exact wpAny_pure h
  refine wpAny_bind (wpAny_pure (wpAny_bind (step ?_)))
  refine PySem.OEX.store_in_old hns hw hz fun h' tk hn hs => ?_
  exact hq h' tk (fun b o hb ho => (hs.2 b hb).trans ho) hn
end
end Xc
set_option maxHeartbeats 8000000
namespace Xc
open PySem PySem.W PySem.Calls PyProof.Rows

section
variable {prog : Program} {w : World} {A : Around} {E : Value → Shared → Prop}
variable {hp : Heap} {g : Array GenState} {d : Drawn} {t : Nat} {os : OsState}
variable {K : Frag} {C x t0 : Addr} {B newId initId : String} {bmB : List Value}

/-- the bound built-in __init__ is called: the args are laid anew -/
theorem call_mw (T : XC K C B newId initId bmB) (X : K.In hp) {u : Addr} {rest : List Value}
    (hu : hp.get? u = some (kxs_mw initId x)) (hx : hp.get? x = some (excObj C t0 none .none))
    (hz : rest.length ≤ sizeLine) {Q : Value → Shared → Prop}
    (hq : ∀ h' t1, (∀ b o, b ≠ x → hp.get? b = some o → h'.get? b = some o) →
      h'.get? x = some (excObj C t1 none .none) → Q .none ⟨h', g, d, t, os⟩) :
    wpAny (model prog w) A (call (.ref u) rest) Q E ⟨hp, g, d, t, os⟩ := by
  obtain ⟨nm, N', qn, bs, bm, hdct, sn, sub, ab, col, dd, k0, k1, k2, k3, k5, hC, hT⟩ := excInit_of X T.ini
  refine wpAny_call (codeAny_of_tree ?_)
  show wpAny _ A.in1 (callAny (.ref u) ⟨rest, []⟩) _ _ _
  simp only [callAny]
  refine wpAny_bind (wpAny_load hu ?_)
  simp only [kxs_mw, show (Value.type "method-wrapper" == Value.type "method"
    || Value.type "method-wrapper" == Value.type "builtin_function_or_method"
    || Value.type "method-wrapper" == Value.type "method-wrapper") = true by decide, if_true]
  refine KFB.if_so (by decide) ?_
  refine wpAny_bind (check_bound_init T.FB.toExcCallFacts hC hx rfl ?_)
  refine wpAny_bind (wpAny_pure (wpAny_pure ?_))
  refine ⟨plainId_quiet T.FB.init.plain _, codeAny_builtin T.FB.initEntry ?_⟩
  refine exc_init_tree (cls := .ref C) (t0 := t0) (dv := none) (c2 := .none) (c3 := .none)
    (b4 := .bool false) hx hz fun h' k e1 _ => ?_
  exact hq h' hp.objs.size k e1

/-- what the written part says of an __init__ with super() in it -/
structure XI (prog : Program) (K : Frag) (mg : Str → Option Value) (C fI cc cda : Addr)
    (qual : Str) (params : Arguments) (body : List Stmt) (scope : Scope) (B initId : String) : Prop where
  fn : ∃ (oc : Value) (od : Option Addr) (kV doc pm ct : Value) (an : Option Addr)
    (osl : Array (Option Value)), K.lookup fI = some ⟨oc, od,
      .func (ksFn "__init__" qual params body scope .none kV doc pm an (.ref cda) ct cc), osl⟩
  cod : codeIn K (.ref cda) qual = true
  code : ∃ ccl cdd vs ccs file tf, K.lookup cda = some ⟨ccl, cdd, .fields vs, ccs⟩ ∧
    vs[2]? = some (.str file tf) ∧ ((prog.main.file : Str) == file) = true
  cell : ∃ cl cld csl, K.lookup cc = some ⟨cl, cld, .cell (some (.ref C)), csl⟩
  cls : (clsIn K C).isSome = true
  self : mroIn K C (.ref C) = some true
  isB : subIn K (.ref C) (.type B) = some true
  sup : ks_superIn K C C "__init__" = some (some (.builtin initId))
  opq : nsIn K cStatics "thirdparty.any" = some none
  nosup : mg "super" = none
  top : (prog.main.scope.names.lookup ("super" : Str)).isSome = false

/-- the module's facts at a heap -/
structure MH (K : Frag) (mg : Str → Option Value) (h : Heap) : Prop where
  kin : K.In h
  glob : h.Ns mainGlobals mg
  blt : ∃ mb, h.Ns builtinsNs mb ∧ ∀ y : Str, y ≠ "__name__" → mb y = bootBuiltins y
theorem MH.keeps {K : Frag} {mg : Str → Option Value} {h h' : Heap} (m : MH K mg h)
    (k : ∀ b o, h.get? b = some o → h'.get? b = some o) : MH K mg h' := by
  obtain ⟨mb, h1, h2⟩ := m.blt
  exact ⟨m.kin.keeps k, m.glob.keeps k, mb, h1.keeps k, h2⟩

abbrev supS (msg : Str) (j : Nat) (p0 p1 p2 p3 p4 p5 : Pos) : Stmt :=
  .Expr (.Call (.Attribute (.Call (.Name "super" p0) [] [] p1) "__init__" p2)
    [.Constant (.str msg) j p3] [] p4) p5

/-- super().__init__('..') -/
theorem sup_run {mg m : Str → Option Value} {fI cc cda L : Addr} {qual q : Str} {params : Arguments}
    {body body' : List Stmt} {scope : Scope} {ar : Arg} {msg : Str} {j : Nat} {p0 p1 p2 p3 p4 p5 : Pos}
    (T : XC K C B newId initId bmB) (S : XI prog K mg C fI cc cda qual params body scope B initId)
    (Mh : MH K mg hp) (hn : hp.Ns L m) (hx : hp.get? x = some (excObj C t0 none .none))
    (hp1 : (params.posonlyargs ++ params.args).head? = some ar) (hv : m ar.arg = some (.ref x))
    (hks : scope.names.lookup ("super" : Str) = some .globalImplicit)
    (hkc : scope.names.lookup ("__class__" : Str) = some .free)
    (hka : scope.names.lookup ar.arg = some .local) (hk : scope.kind = .function)
    {Q : Flow → Shared → Prop}
    (hq : ∀ h' tk t1, (∀ b o, b ≠ x → hp.get? b = some o → h'.get? b = some o) →
      h'.get? x = some (excObj C t1 none .none) → Q .next ⟨h', g, d, tk, os⟩)
    {pl : Sem Bool}
    (he : eval (.Call (.Attribute (.Call (.Name "super" p0) [] [] p1) "__init__" p2)
        [.Constant (.str msg) j p3] [] p4) (ksEnv q scope L fI (.ref cda) cc) = (do
      let ov ← attributeBase (.Call (.Name "super" p0) [] [] p1) "__init__" (ksEnv q scope L fI (.ref cda) cc)
        (eval (.Call (.Name "super" p0) [] [] p1) (ksEnv q scope L fI (.ref cda) cc))
      standAt p2.atName
      let (f, first) ← holding [ov] (getMethod ov "__init__" pl)
      callWith p4 f first (backTo p4 (starEach [.Constant (.str msg) j p3] (ksEnv q scope L fI (.ref cda) cc))) []))
    (hi : interactive (ksEnv q scope L fI (.ref cda) cc) = false := by rfl)
    (hs : swapsWith (.Call (.Attribute (.Call (.Name "super" p0) [] [] p1) "__init__" p2)
      [.Constant (.str msg) j p3] [] p4) none p5.line (ksEnv q scope L fI (.ref cda) cc) = pure false := by rfl) :
    PySem.wpAt (model prog w) A (.func body' (ksEnv q scope L fI (.ref cda) cc))
      (exec (supS msg j p0 p1 p2 p3 p4 p5) (ksEnv q scope L fI (.ref cda) cc)) Q E ⟨hp, g, d, t, os⟩ := by
  obtain ⟨oc, od, kV, doc, pm, ct, an, osl, hf⟩ := S.fn
  obtain ⟨ccl, cdd, vs, ccs, file, tf, hcode, hvs, hfile⟩ := S.code
  obtain ⟨cl, cld, csl, hcell⟩ := S.cell
  obtain ⟨cdD, hD⟩ := Option.isSome_iff_exists.mp S.cls
  obtain ⟨mb, hmb, hbt⟩ := Mh.blt
  have X := Mh.kin
  obtain ⟨oD, hD1, hD2⟩ : ∃ oD, hp.get? C = some oD ∧ oD.data = .cls cdD := by
    unfold clsIn at hD
    split at hD
    · rename_i c d cd' sl ho
      cases hD
      exact ⟨_, X _ _ ho, rfl⟩
    · cases hD
  have I : W.InstAt hp x (excObj C t0 none .none) C none := ⟨hx, rfl, rfl, trivial⟩
  refine ks_wpAt_Expr_any ?_ hi hs
  refine ks_wpAt_MethodCall (pl := pl) ?_ he
  refine ks_wpAt_super_base (env := ksEnv q scope L fI (.ref cda) cc) hks hkc rfl rfl (X _ _ hf) rfl hp1 rfl
    (X _ _ hcode) rfl hvs hfile S.top ?_
  refine ks_loadName_global hk hks (loadGlobal_builtin (env := ksEnv q scope L fI (.ref cda) cc)
    Mh.glob S.nosup hmb ((hbt _ (by decide +kernel)).trans (by first | rfl | kernel_rfl)) ⟨rfl, ?_⟩)
  refine wpAny_loadName_free hk hkc rfl ⟨_, X _ _ hcell, rfl⟩ ?_
  refine wpAny_loadName_local hk hka hn hv ?_
  refine ks_wpAny_isType_cls hD1 hD2 ⟨rfl, ?_⟩
  refine ks_wpAny_call_super hD1 hD2 hx rfl (fun c e => by cases e) (looks_mroIn X S.self) (fun h1 e1 k1 => ?_)
  have X1 : K.In h1 := X.keeps k1
  have I1 : W.InstAt h1 x (excObj C t0 none .none) C none := ⟨k1 _ _ hx, rfl, rfl, trivial⟩
  have hm := S.sup
  unfold ks_superIn at hm
  rw [hD] at hm
  have hxC : x ≠ C := ks_ne X I hD
  refine kxs_getMethod T.KF e1 (looks_opaque X1 S.opq) (l₀ := cdD.mro) ?_ rfl X1 hm
    (I1.type.andThen (looks_subIn X1 S.isB)) hxC rfl ?_
  · exact fun A Q E s k q => wpAny_bind ((looks_clsIn X1 hD) A _ E s k (wpAny_pure q))
  have hu : (h1.push (kxs_mw initId x)).get? h1.objs.size = some (kxs_mw initId x) := Heap.get?_push_at rfl rfl
  have hx2 : (h1.push (kxs_mw initId x)).get? x = some (excObj C t0 none .none) :=
    Heap.get?_push_of_some _ (k1 _ _ hx)
  have X2 : K.In (h1.push (kxs_mw initId x)) := X1.keeps fun b o e => Heap.get?_push_of_some _ e
  refine kxs_callWith (i := initId) (x := x) (by rfl) ?_
  refine evalArgs_plain ?_
  refine spliced_cons (Constant_str (k := j) (pos := p3) (spliced_nil ⟨hu, ?_⟩))
  refine call_mw T X2 hu hx2 (by rw [sizeLine_eq]; exact (by decide : 1 ≤ 16777216)) fun h' t1 k2 e2 => ?_
  exact hq h' _ t1 (fun b o hb ho => k2 b o hb (Heap.get?_push_of_some _ (k1 b o ho))) e2
end
end Xc
set_option maxHeartbeats 8000000
namespace Xc
open PySem PySem.W PySem.Calls PyProof.Rows

/-! the text of such an __init__ -/
def iArgs (ps : List (Str × Pos)) : Arguments :=
  { posonlyargs := [], args := ps.map fun p => { arg := p.1, annotation := none, pos := p.2 },
    vararg := none, kwonlyargs := [], kw_defaults := [], kwarg := none, defaults := [] }
def iScope (ps : List Str) : Scope :=
  { kind := .function, names := ps.map (fun p => (p, NameKind.local)) ++
      [(PySem.Str.ofString "__class__", .free), (PySem.Str.ofString "super", .globalImplicit)],
    isGenerator := false, isCoroutine := false, more := [] }
abbrev stS (p : Str) (q1 q2 q3 q4 : Pos) : Stmt :=
  .Assign [.Attribute (.Name "self" q1) p q2] (.Name p q3) q4

theorem ns_ne {h : Heap} {L x C t0 : Addr} {dd : Option Addr} {m : Str → Option Value} (hn : h.Ns L m)
    (hx : h.get? x = some (excObj C t0 dd .none)) : L ≠ x := by
  rintro rfl
  obtain ⟨o, es, ep, ho, hd, _⟩ := hn
  rw [hx] at ho
  cases ho
  cases hd
theorem ns_keep {h h' : Heap} {L x : Addr} {m : Str → Option Value} (hn : h.Ns L m) (ne : L ≠ x)
    (k : ∀ b o, b ≠ x → h.get? b = some o → h'.get? b = some o) : h'.Ns L m := by
  obtain ⟨o, es, ep, ho, r⟩ := hn
  exact ⟨o, es, ep, k _ _ ne ho, r⟩
theorem mh_keep {K : Frag} {mg : Str → Option Value} {h h' : Heap} {x : Addr} (Mh : MH K mg h)
    (hx : K.lookup x = none) (hg : x ≠ mainGlobals) (hb : x ≠ builtinsNs)
    (k : ∀ b o, b ≠ x → h.get? b = some o → h'.get? b = some o) : MH K mg h' := by
  obtain ⟨mb, h1, h2⟩ := Mh.blt
  exact ⟨fun a o e => k a o (fun z => by rw [z, hx] at e; cases e) (Mh.kin a o e),
    ns_keep Mh.glob (Ne.symm hg) k, mb, ns_keep h1 (Ne.symm hb) k, h2⟩

section
variable {prog : Program} {w : World} {A : Around} {E : Value → Shared → Prop}
variable {hp : Heap} {g : Array GenState} {d : Drawn} {t : Nat} {os : OsState}
variable {K : Frag} {C x t0 : Addr} {B newId initId : String} {bmB : List Value}

theorem ldN {s : Shared} {q : Str} {scope : Scope} {L fI cc : Addr} {cda : Value} {m : Str → Option Value}
    {y : Str} {p : Pos} {v : Value} {Q : Value → Shared → Prop} {M : Model} (hn : s.heap.Ns L m)
    (hv : m y = some v) (hk : scope.kind = .function) (hl : scope.names.lookup y = some .local)
    (hd : (y == ("__debug__" : Str)) = false) (h : Q v s) :
    wpAny M A (eval (.Name y p) (ksEnv q scope L fI cda cc)) Q E s :=
  wpAny_Name (wpAny_loadName_local hk hl hn hv h) hd

/-- self.f = f, the first one -/
theorem st0 {q : Str} {scope : Scope} {L fI cc : Addr} {cda : Value} {m : Str → Option Value}
    {f : Str} {q1 q2 q3 q4 : Pos} {v : Value} (T : XC K C B newId initId bmB) (X : K.In hp) (hn : hp.Ns L m)
    (hx : hp.get? x = some (excObj C t0 none .none)) (hs : m "self" = some (.ref x)) (hv : m f = some v)
    (hk : scope.kind = .function) (ls : scope.names.lookup ("self" : Str) = some .local)
    (lf : scope.names.lookup f = some .local) (hd : (f == ("__debug__" : Str)) = false)
    (ha : takerIn K C f = some none) {Q : Flow → Shared → Prop}
    (hq : ∀ h' tk dx, (∀ b o, b ≠ x → hp.get? b = some o → h'.get? b = some o) →
      hp.objs.size ≤ dx → dx ≠ x → h'.get? x = some (excObj C t0 (some dx) .none) →
      h'.Ns1 dx (fun y => if y = f then some v else none) → Q .next ⟨h', g, d, tk, os⟩)
    (hw : swapsWith (.Name f q3) (some (.Attribute (.Name "self" q1) f q2)) q4.line
      (ksEnv q scope L fI cda cc) = pure false) :
    wpAny (model prog w) A (exec (stS f q1 q2 q3 q4) (ksEnv q scope L fI cda cc)) Q E ⟨hp, g, d, t, os⟩ :=
  plainObj_wpAny_Assign_Attribute (ldN hn hv hk lf hd (ldN hn hs hk ls (by decide) (sto0 T X hx ha hq))) hw

/-- self.f = f, a further one -/
theorem stD {q : Str} {scope : Scope} {L fI cc dx : Addr} {cda : Value} {m m0 : Str → Option Value}
    {f : Str} {q1 q2 q3 q4 : Pos} {v : Value} {nl : List Str} (T : XC K C B newId initId bmB) (X : K.In hp)
    (hn : hp.Ns L m) (hx : hp.get? x = some (excObj C t0 (some dx) .none)) (hns : hp.Ns1 dx m0)
    (hwi : Within m0 nl) (hz : nl.length ≤ 1000)
    (hs : m "self" = some (.ref x)) (hv : m f = some v) (hk : scope.kind = .function)
    (ls : scope.names.lookup ("self" : Str) = some .local) (lf : scope.names.lookup f = some .local)
    (hd : (f == ("__debug__" : Str)) = false) (ha : takerIn K C f = some none) {Q : Flow → Shared → Prop}
    (hq : ∀ h' tk, (∀ b o, b ≠ dx → hp.get? b = some o → h'.get? b = some o) →
      h'.Ns1 dx (fun y => if y = f then some v else m0 y) → Q .next ⟨h', g, d, tk, os⟩)
    (hw : swapsWith (.Name f q3) (some (.Attribute (.Name "self" q1) f q2)) q4.line
      (ksEnv q scope L fI cda cc) = pure false) :
    wpAny (model prog w) A (exec (stS f q1 q2 q3 q4) (ksEnv q scope L fI cda cc)) Q E ⟨hp, g, d, t, os⟩ :=
  plainObj_wpAny_Assign_Attribute
    (ldN hn hv hk lf hd (ldN hn hs hk ls (by decide) (stoD T X hx hns hwi hz ha hq))) hw
end

/-- what an __init__ leaves of the fresh exception at x: the fields by fs -/
structure IEnd (h h' : Heap) (x C : Addr) (fs : List (Str × Value)) : Prop where
  keep : ∀ b o, b ≠ x → h.get? b = some o → h'.get? b = some o
  obj : match fs with
    | [] => ∃ t1, h'.get? x = some (excObj C t1 none .none)
    | _ :: _ => ∃ t1 dx, h'.get? x = some (excObj C t1 (some dx) .none) ∧ h.objs.size ≤ dx ∧ dx ≠ x ∧
        h'.Ns1 dx fun y => fs.lookup y

section
variable {prog : Program} {w : World} {A : Around} {R : Result → Shared → Prop} {s : Shared}
variable {K : Frag} {mg : Str → Option Value} {C x t0 fI cc cda : Addr} {B newId initId : String} {bmB : List Value}
variable {qual msg : Str} {j : Nat} {p0 p1 p2 p3 p4 p5 : Pos} {args : Args}

theorem he_of {env : Env} (h : (p2.endLine == p4.line) = true) :
    eval (.Call (.Attribute (.Call (.Name "super" p0) [] [] p1) "__init__" p2)
        [.Constant (.str msg) j p3] [] p4) env = (do
      let ov ← attributeBase (.Call (.Name "super" p0) [] [] p1) "__init__" env
        (eval (.Call (.Name "super" p0) [] [] p1) env)
      standAt p2.atName
      let (f, first) ← holding [ov] (getMethod ov "__init__" (do return (← importBound (.Call (.Name "super" p0) [] [] p1) env).getD true))
      callWith p4 f first (backTo p4 (starEach [.Constant (.str msg) j p3] env)) []) := by
  have e : ∀ b, methodCallPos b (.Call (.Name "super" p0) [] [] p1) env p2 p4 = pure p4 := fun b => by
    unfold methodCallPos
    rw [h, Bool.or_true]
    rfl
  show (do
    let ov ← attributeBase (.Call (.Name "super" p0) [] [] p1) "__init__" env
      (eval (.Call (.Name "super" p0) [] [] p1) env)
    standAt p2.atName
    methodCall (.Call (.Name "super" p0) [] [] p1) "__init__" p2 p4 env ov 1
      (backTo p4 (starEach [.Constant (.str msg) j p3] env)) []) = _
  unfold methodCall
  simp only [e, pure_bind]
  rfl

/-- into the body of such a def -/
theorem enter {params : Arguments} {body : List Stmt} {scope : Scope} {binds : List (Str × Value)}
    (S : XI prog K mg C fI cc cda qual params body scope B initId) (Mh : MH K mg s.heap)
    (hlim : s.heap.NoLimit) (hroom : A.depth < recursionLimit)
    (hbind : ∀ kV doc pm ct an, BindsTo s
      (ksFn "__init__" qual params body scope .none kV doc pm an (.ref cda) ct cc) args binds)
    (hcell : ∀ y ∈ scope.names, y.2 ≠ .cell) (hloc : ∀ y ∈ binds, scope.names.lookup y.1 = some .local)
    (hco : scope.isCoroutine = false) (hge : scope.isGenerator = false) (hk : scope.kind = .function)
    (h : ∀ h1 tk L, h1.Ns L (fun y => binds.reverse.lookup y) → s.heap.objs.size ≤ L →
      (∀ b o, s.heap.get? b = some o → h1.get? b = some o) →
      PySem.wpAt (model prog w) (A.deeper (ksEnv qual scope L fI (.ref cda) cc))
        (.func body (ksEnv qual scope L fI (.ref cda) cc)) (execs body (ksEnv qual scope L fI (.ref cda) cc))
        (fun f s' => R (.ok (.ret (match f with | .ret v => v | _ => .none))) s')
        (fun e s' => wpAny (model prog w) (A.deeper (ksEnv qual scope L fI (.ref cda) cc))
          (leaving (ksEnv qual scope L fI (.ref cda) cc) e) (fun _ s'' => R (.error e) s'')
          (fun e' s'' => R (.error e') s'') s') { s with heap := h1, toks := tk }) :
    codeAny (model prog w) A (.call (.ref fI) args) R s := by
  obtain ⟨oc, od, kV, doc, pm, ct, an, osl, hf⟩ := S.fn
  refine ks_codeAny_call_defAt (fd := ksFn "__init__" qual params body scope .none kV doc pm an (.ref cda) ct cc)
    (body := body) (binds := binds) hroom (Mh.kin _ _ hf) rfl hlim (codeRec_of Mh.kin S.cod) rfl
    (hbind kV doc pm ct an) hcell hloc (fun h1 hns k1 => ?_) hco hge hk
  exact h h1 _ _ hns (Nat.le_refl _) k1

/-- no field -/
theorem init0 {a0 : Pos} (T : XC K C B newId initId bmB)
    (S : XI prog K mg C fI cc cda qual (iArgs [("self", a0)]) [supS msg j p0 p1 p2 p3 p4 p5] (iScope ["self"]) B initId)
    (Mh : MH K mg s.heap) (hlim : s.heap.NoLimit) (hroom : A.depth < recursionLimit)
    (hln : (p2.endLine == p4.line) = true) (hx : s.heap.get? x = some (excObj C t0 none .none))
    (hq : ∀ h' tk, IEnd s.heap h' x C [] → R (.ok (.ret .none)) { s with heap := h', toks := tk }) :
    codeAny (model prog w) A (.call (.ref fI) ⟨[.ref x], []⟩) R s := by
  refine enter (binds := [("self", .ref x)]) S Mh hlim hroom (fun _ _ _ _ _ => BindsTo.of_eq rfl)
    (by decide) (by simp [iScope, List.lookup]) rfl rfl rfl fun h1 tk L hn hL k1 => ?_
  obtain ⟨hp, g, d, t, os⟩ := s
  refine ks_wpAt_execs_cons ?_
  refine sup_run T S (Mh.keeps k1) hn (k1 _ _ hx) (ar := ⟨"self", none, a0⟩) rfl (by rfl) (by rfl) (by rfl) (by rfl) rfl
    (fun h2 tk2 t1 k2 e2 => ?_) (he_of hln) (by rfl) (by rfl)
  refine wpAt_of_wpAny (wpAny_execs_nil ?_)
  exact hq h2 tk2 ⟨fun b o hb ho => k2 b o hb (k1 b o ho), t1, e2⟩
end
end Xc
set_option maxHeartbeats 8000000
namespace Xc
open PySem PySem.W PySem.Calls PyProof.Rows

/-- a name that may be a field -/
structure Nm (p : Str) : Prop where
  s : p ≠ "self"
  u : p ≠ "super"
  c : p ≠ "__class__"
  d : p ≠ "__debug__"
theorem bq {a b : Str} (h : a ≠ b) : (a == b) = false := by simpa using h
theorem lk1 {α : Type} {y p : Str} {v : α} {r : List (Str × α)} (h : y ≠ p) :
    List.lookup y ((p, v) :: r) = List.lookup y r := by
  show (match y == p with | true => some v | false => List.lookup y r) = _
  rw [bq h]
theorem lk0 {α : Type} {p : Str} {v : α} {r : List (Str × α)} : List.lookup p ((p, v) :: r) = some v := by
  unfold List.lookup
  simp
theorem ns_of (a b : Str) (h : (a == b) = false) : a ≠ b := by simpa using h

section
variable {prog : Program} {w : World} {A : Around} {R : Result → Shared → Prop} {s : Shared}
variable {K : Frag} {mg : Str → Option Value} {C x t0 fI cc cda : Addr} {B newId initId : String} {bmB : List Value}
variable {qual msg f1 f2 f3 : Str} {j : Nat} {p0 p1 p2 p3 p4 p5 : Pos} {args : Args} {v1 v2 v3 : Value}

theorem hself : ("self" : Str) ≠ "super" := ns_of _ _ (by decide)
theorem hself2 : ("self" : Str) ≠ "__class__" := ns_of _ _ (by decide)
theorem hcs : ("super" : Str) ≠ "__class__" := ns_of _ _ (by decide)

/-- one field -/
theorem init1 {a0 a1 q1 q2 q3 q4 : Pos} (n1 : Nm f1) (T : XC K C B newId initId bmB)
    (S : XI prog K mg C fI cc cda qual (iArgs [("self", a0), (f1, a1)])
      [supS msg j p0 p1 p2 p3 p4 p5, stS f1 q1 q2 q3 q4] (iScope ["self", f1]) B initId)
    (Mh : MH K mg s.heap) (hlim : s.heap.NoLimit) (hroom : A.depth < recursionLimit)
    (hln : (p2.endLine == p4.line) = true) (hx : s.heap.get? x = some (excObj C t0 none .none))
    (nx : K.lookup x = none) (ng : x ≠ mainGlobals) (nb : x ≠ builtinsNs) (ha : takerIn K C f1 = some none)
    (hb : ∀ kV doc pm ct an, BindsTo s (ksFn "__init__" qual (iArgs [("self", a0), (f1, a1)])
      [supS msg j p0 p1 p2 p3 p4 p5, stS f1 q1 q2 q3 q4] (iScope ["self", f1]) .none kV doc pm an (.ref cda) ct cc)
      args [("self", .ref x), (f1, v1)])
    (hq : ∀ h' tk, IEnd s.heap h' x C [(f1, v1)] → R (.ok (.ret .none)) { s with heap := h', toks := tk }) :
    codeAny (model prog w) A (.call (.ref fI) args) R s := by
  have l0 : (iScope ["self", f1]).names.lookup ("self" : Str) = some .local := lk0
  have l1 : (iScope ["self", f1]).names.lookup f1 = some .local := (lk1 n1.s).trans lk0
  have lc : (iScope ["self", f1]).names.lookup ("__class__" : Str) = some .free :=
    (lk1 hself2.symm).trans ((lk1 n1.c.symm).trans lk0)
  have lsu : (iScope ["self", f1]).names.lookup ("super" : Str) = some .globalImplicit :=
    (lk1 hself.symm).trans ((lk1 n1.u.symm).trans ((lk1 hcs).trans lk0))
  have m0 : List.lookup ("self" : Str) [(f1, v1), ("self", Value.ref x)] = some (.ref x) := (lk1 n1.s.symm).trans lk0
  have m1 : List.lookup f1 [(f1, v1), ("self", Value.ref x)] = some v1 := lk0
  refine enter (binds := [("self", .ref x), (f1, v1)]) S Mh hlim hroom hb
    (by simp [iScope]) (fun y hy => ?_) rfl rfl rfl fun h1 tk L hn hL k1 => ?_
  · rcases List.mem_cons.mp hy with rfl | hy
    · exact l0
    · rcases List.mem_cons.mp hy with rfl | hy
      · exact l1
      · cases hy
  obtain ⟨hp, g, d, t, os⟩ := s
  refine ks_wpAt_execs_cons ?_
  refine sup_run T S (Mh.keeps k1) hn (k1 _ _ hx) (ar := ⟨"self", none, a0⟩) rfl m0 lsu lc l0 rfl
    (fun h2 tk2 t1 k2 e2 => ?_) (he_of hln) (by rfl) (by rfl)
  have nL : L ≠ x := ns_ne hn (k1 _ _ hx)
  have M2 : MH K mg h2 := mh_keep (Mh.keeps k1) nx ng nb k2
  have hn2 := ns_keep hn nL k2
  refine wpAt_of_wpAny (wpAny_execs_cons ?_)
  refine st0 T M2.kin hn2 e2 m0 m1 rfl l0 l1 (bq n1.d) ha (fun h3 tk3 dx k3 hd ne e3 n3 => ?_) (by rfl)
  refine wpAny_execs_nil ?_
  have z : hp.objs.size ≤ dx := Nat.le_trans hL (Nat.le_trans (Nat.le_of_lt hn2.lt) hd)
  refine hq h3 tk3 ⟨fun b o hb ho => k3 b o hb (k2 b o hb (k1 b o ho)), t1, dx, e3, z, ne, ?_⟩
  have e : (fun y => List.lookup y [(f1, v1)]) = fun y => if y = f1 then some v1 else none := by
    funext y
    by_cases h : y = f1
    · rw [h, if_pos rfl, lk0]
    · rw [if_neg h, lk1 h]; rfl
  rw [e]
  exact n3
end
end Xc
set_option maxHeartbeats 8000000
namespace Xc
open PySem PySem.W PySem.Calls PyProof.Rows

theorem lkf {α : Type} (p : Str) (v : α) (r : List (Str × α)) :
    (fun y => List.lookup y ((p, v) :: r)) = fun y => if y = p then some v else List.lookup y r := by
  funext y
  by_cases h : y = p
  · rw [h, if_pos rfl, lk0]
  · rw [if_neg h, lk1 h]
theorem lkf1 (f1 : Str) (v1 : Value) : (fun y => List.lookup y [(f1, v1)]) = fun y => if y = f1 then some v1 else none := by
  rw [lkf]
  rfl
theorem lkf2 (f1 f2 : Str) (v1 v2 : Value) : (fun y => List.lookup y [(f2, v2), (f1, v1)]) =
    fun y => if y = f2 then some v2 else if y = f1 then some v1 else none := by
  funext y
  have e := congrFun (lkf1 f1 v1) y
  have e2 := congrFun (lkf f2 v2 [(f1, v1)]) y
  rw [e2, e]
theorem lkf3 (f1 f2 f3 : Str) (v1 v2 v3 : Value) : (fun y => List.lookup y [(f3, v3), (f2, v2), (f1, v1)]) =
    fun y => if y = f3 then some v3 else if y = f2 then some v2 else if y = f1 then some v1 else none := by
  funext y
  have e := congrFun (lkf2 f1 f2 v1 v2) y
  have e2 := congrFun (lkf f3 v3 [(f2, v2), (f1, v1)]) y
  rw [e2, e]
theorem wi1 {f : Str} {v : Value} : Within (fun y => if y = f then some v else none) [f] :=
  Within.cons f v Within.nil
theorem wi2 {f1 f2 : Str} {v1 v2 : Value} :
    Within (fun y => if y = f2 then some v2 else if y = f1 then some v1 else none) [f2, f1] :=
  Within.cons f2 v2 wi1

section
variable {prog : Program} {w : World} {A : Around} {R : Result → Shared → Prop} {s : Shared}
variable {K : Frag} {mg : Str → Option Value} {C x t0 fI cc cda : Addr} {B newId initId : String} {bmB : List Value}
variable {qual msg f1 f2 f3 : Str} {j : Nat} {p0 p1 p2 p3 p4 p5 : Pos} {args : Args} {v1 v2 v3 : Value}

/-- two fields -/
theorem init2 {a0 a1 a2 q1 q2 q3 q4 r1 r2 r3 r4 : Pos} (n1 : Nm f1) (n2 : Nm f2) (n12 : f1 ≠ f2)
    (T : XC K C B newId initId bmB)
    (S : XI prog K mg C fI cc cda qual (iArgs [("self", a0), (f1, a1), (f2, a2)])
      [supS msg j p0 p1 p2 p3 p4 p5, stS f1 q1 q2 q3 q4, stS f2 r1 r2 r3 r4] (iScope ["self", f1, f2]) B initId)
    (Mh : MH K mg s.heap) (hlim : s.heap.NoLimit) (hroom : A.depth < recursionLimit)
    (hln : (p2.endLine == p4.line) = true) (hx : s.heap.get? x = some (excObj C t0 none .none))
    (nx : K.lookup x = none) (ng : x ≠ mainGlobals) (nb : x ≠ builtinsNs) (ha : takerIn K C f1 = some none)
    (ha2 : takerIn K C f2 = some none)
    (hb : ∀ kV doc pm ct an, BindsTo s (ksFn "__init__" qual (iArgs [("self", a0), (f1, a1), (f2, a2)])
      [supS msg j p0 p1 p2 p3 p4 p5, stS f1 q1 q2 q3 q4, stS f2 r1 r2 r3 r4] (iScope ["self", f1, f2]) .none kV doc pm an (.ref cda) ct cc)
      args [("self", .ref x), (f1, v1), (f2, v2)])
    (hq : ∀ h' tk, IEnd s.heap h' x C [(f2, v2), (f1, v1)] → R (.ok (.ret .none)) { s with heap := h', toks := tk }) :
    codeAny (model prog w) A (.call (.ref fI) args) R s := by
  have l0 : (iScope ["self", f1, f2]).names.lookup ("self" : Str) = some .local := lk0
  have l1 : (iScope ["self", f1, f2]).names.lookup f1 = some .local := (lk1 n1.s).trans lk0
  have l2 : (iScope ["self", f1, f2]).names.lookup f2 = some .local := (lk1 n2.s).trans ((lk1 n12.symm).trans lk0)
  have lc : (iScope ["self", f1, f2]).names.lookup ("__class__" : Str) = some .free :=
    (lk1 hself2.symm).trans ((lk1 n1.c.symm).trans ((lk1 n2.c.symm).trans lk0))
  have lsu : (iScope ["self", f1, f2]).names.lookup ("super" : Str) = some .globalImplicit :=
    (lk1 hself.symm).trans ((lk1 n1.u.symm).trans ((lk1 n2.u.symm).trans ((lk1 hcs).trans lk0)))
  have m0 : List.lookup ("self" : Str) [(f2, v2), (f1, v1), ("self", Value.ref x)] = some (.ref x) :=
    (lk1 n2.s.symm).trans ((lk1 n1.s.symm).trans lk0)
  have m1 : List.lookup f1 [(f2, v2), (f1, v1), ("self", Value.ref x)] = some v1 := (lk1 n12).trans lk0
  have m2 : List.lookup f2 [(f2, v2), (f1, v1), ("self", Value.ref x)] = some v2 := lk0
  refine enter (binds := [("self", .ref x), (f1, v1), (f2, v2)]) S Mh hlim hroom hb
    (by simp [iScope]) (fun y hy => ?_) rfl rfl rfl fun h1 tk L hn hL k1 => ?_
  · rcases List.mem_cons.mp hy with rfl | hy
    · exact l0
    · rcases List.mem_cons.mp hy with rfl | hy
      · exact l1
      · rcases List.mem_cons.mp hy with rfl | hy
        · exact l2
        · cases hy
  obtain ⟨hp, g, d, t, os⟩ := s
  refine ks_wpAt_execs_cons ?_
  refine sup_run T S (Mh.keeps k1) hn (k1 _ _ hx) (ar := ⟨"self", none, a0⟩) rfl m0 lsu lc l0 rfl
    (fun h2 tk2 t1 k2 e2 => ?_) (he_of hln) (by rfl) (by rfl)
  have nL : L ≠ x := ns_ne hn (k1 _ _ hx)
  have M2 : MH K mg h2 := mh_keep (Mh.keeps k1) nx ng nb k2
  have hn2 := ns_keep hn nL k2
  refine wpAt_of_wpAny (wpAny_execs_cons ?_)
  refine st0 T M2.kin hn2 e2 m0 m1 rfl l0 l1 (bq n1.d) ha (fun h3 tk3 dx k3 hd ne e3 n3 => ?_) (by rfl)
  have M3 : MH K mg h3 := mh_keep M2 nx ng nb k3
  have hn3 := ns_keep hn2 nL k3
  have z : hp.objs.size ≤ dx := Nat.le_trans hL (Nat.le_trans (Nat.le_of_lt hn2.lt) hd)
  refine wpAny_execs_cons ?_
  refine stD T M3.kin hn3 e3 n3 wi1 (show 1 ≤ 1000 by decide) m0 m2 rfl l0 l2 (bq n2.d) ha2 (fun h4 tk4 k4 n4 => ?_) (by rfl)
  refine wpAny_execs_nil ?_
  have old : ∀ b o, hp.get? b = some o → b ≠ dx := fun b o ho => Nat.ne_of_lt (Nat.lt_of_lt_of_le (Heap.lt_size ho) z)
  refine hq h4 tk4 ⟨fun b o hb ho => k4 b o (old b o ho) (k3 b o hb (k2 b o hb (k1 b o ho))), t1, dx,
    k4 x _ (Ne.symm ne) e3, z, ne, ?_⟩
  rw [lkf2]
  exact n4

/-- three fields -/
theorem init3 {a0 a1 a2 a3 q1 q2 q3 q4 r1 r2 r3 r4 u1 u2 u3 u4 : Pos} (n1 : Nm f1) (n2 : Nm f2) (n3 : Nm f3)
    (n12 : f1 ≠ f2) (n13 : f1 ≠ f3) (n23 : f2 ≠ f3) (T : XC K C B newId initId bmB)
    (S : XI prog K mg C fI cc cda qual (iArgs [("self", a0), (f1, a1), (f2, a2), (f3, a3)])
      [supS msg j p0 p1 p2 p3 p4 p5, stS f1 q1 q2 q3 q4, stS f2 r1 r2 r3 r4, stS f3 u1 u2 u3 u4]
      (iScope ["self", f1, f2, f3]) B initId)
    (Mh : MH K mg s.heap) (hlim : s.heap.NoLimit) (hroom : A.depth < recursionLimit)
    (hln : (p2.endLine == p4.line) = true) (hx : s.heap.get? x = some (excObj C t0 none .none))
    (nx : K.lookup x = none) (ng : x ≠ mainGlobals) (nb : x ≠ builtinsNs) (ha : takerIn K C f1 = some none)
    (ha2 : takerIn K C f2 = some none) (ha3 : takerIn K C f3 = some none)
    (hb : ∀ kV doc pm ct an, BindsTo s (ksFn "__init__" qual (iArgs [("self", a0), (f1, a1), (f2, a2), (f3, a3)])
      [supS msg j p0 p1 p2 p3 p4 p5, stS f1 q1 q2 q3 q4, stS f2 r1 r2 r3 r4, stS f3 u1 u2 u3 u4]
      (iScope ["self", f1, f2, f3]) .none kV doc pm an (.ref cda) ct cc)
      args [("self", .ref x), (f1, v1), (f2, v2), (f3, v3)])
    (hq : ∀ h' tk, IEnd s.heap h' x C [(f3, v3), (f2, v2), (f1, v1)] → R (.ok (.ret .none)) { s with heap := h', toks := tk }) :
    codeAny (model prog w) A (.call (.ref fI) args) R s := by
  have l0 : (iScope ["self", f1, f2, f3]).names.lookup ("self" : Str) = some .local := lk0
  have l1 : (iScope ["self", f1, f2, f3]).names.lookup f1 = some .local := (lk1 n1.s).trans lk0
  have l2 : (iScope ["self", f1, f2, f3]).names.lookup f2 = some .local := (lk1 n2.s).trans ((lk1 n12.symm).trans lk0)
  have l3 : (iScope ["self", f1, f2, f3]).names.lookup f3 = some .local :=
    (lk1 n3.s).trans ((lk1 n13.symm).trans ((lk1 n23.symm).trans lk0))
  have lc : (iScope ["self", f1, f2, f3]).names.lookup ("__class__" : Str) = some .free :=
    (lk1 hself2.symm).trans ((lk1 n1.c.symm).trans ((lk1 n2.c.symm).trans ((lk1 n3.c.symm).trans lk0)))
  have lsu : (iScope ["self", f1, f2, f3]).names.lookup ("super" : Str) = some .globalImplicit :=
    (lk1 hself.symm).trans ((lk1 n1.u.symm).trans ((lk1 n2.u.symm).trans ((lk1 n3.u.symm).trans ((lk1 hcs).trans lk0))))
  have m0 : List.lookup ("self" : Str) [(f3, v3), (f2, v2), (f1, v1), ("self", Value.ref x)] = some (.ref x) :=
    (lk1 n3.s.symm).trans ((lk1 n2.s.symm).trans ((lk1 n1.s.symm).trans lk0))
  have m1 : List.lookup f1 [(f3, v3), (f2, v2), (f1, v1), ("self", Value.ref x)] = some v1 :=
    (lk1 n13).trans ((lk1 n12).trans lk0)
  have m2 : List.lookup f2 [(f3, v3), (f2, v2), (f1, v1), ("self", Value.ref x)] = some v2 := (lk1 n23).trans lk0
  have m3 : List.lookup f3 [(f3, v3), (f2, v2), (f1, v1), ("self", Value.ref x)] = some v3 := lk0
  refine enter (binds := [("self", .ref x), (f1, v1), (f2, v2), (f3, v3)]) S Mh hlim hroom hb
    (by simp [iScope]) (fun y hy => ?_) rfl rfl rfl fun h1 tk L hn hL k1 => ?_
  · rcases List.mem_cons.mp hy with rfl | hy
    · exact l0
    · rcases List.mem_cons.mp hy with rfl | hy
      · exact l1
      · rcases List.mem_cons.mp hy with rfl | hy
        · exact l2
        · rcases List.mem_cons.mp hy with rfl | hy
          · exact l3
          · cases hy
  obtain ⟨hp, g, d, t, os⟩ := s
  refine ks_wpAt_execs_cons ?_
  refine sup_run T S (Mh.keeps k1) hn (k1 _ _ hx) (ar := ⟨"self", none, a0⟩) rfl m0 lsu lc l0 rfl
    (fun h2 tk2 t1 k2 e2 => ?_) (he_of hln) (by rfl) (by rfl)
  have nL : L ≠ x := ns_ne hn (k1 _ _ hx)
  have M2 : MH K mg h2 := mh_keep (Mh.keeps k1) nx ng nb k2
  have hn2 := ns_keep hn nL k2
  refine wpAt_of_wpAny (wpAny_execs_cons ?_)
  refine st0 T M2.kin hn2 e2 m0 m1 rfl l0 l1 (bq n1.d) ha (fun h3 tk3 dx k3 hd ne e3 n3' => ?_) (by rfl)
  have M3 : MH K mg h3 := mh_keep M2 nx ng nb k3
  have hn3 := ns_keep hn2 nL k3
  have z : hp.objs.size ≤ dx := Nat.le_trans hL (Nat.le_trans (Nat.le_of_lt hn2.lt) hd)
  have old : ∀ b o, hp.get? b = some o → b ≠ dx := fun b o ho => Nat.ne_of_lt (Nat.lt_of_lt_of_le (Heap.lt_size ho) z)
  have Ldx : L ≠ dx := Nat.ne_of_lt (Nat.lt_of_lt_of_le hn2.lt hd)
  refine wpAny_execs_cons ?_
  refine stD T M3.kin hn3 e3 n3' wi1 (show 1 ≤ 1000 by decide) m0 m2 rfl l0 l2 (bq n2.d) ha2 (fun h4 tk4 k4 n4 => ?_) (by rfl)
  have X4 : K.In h4 := fun a o e => k4 a o (old a o (Mh.kin a o e)) (M3.kin a o e)
  refine wpAny_execs_cons ?_
  refine stD T X4 (ns_keep hn3 Ldx k4) (k4 x _ (Ne.symm ne) e3) n4 wi2 (show 2 ≤ 1000 by decide) m0 m3 rfl l0 l3 (bq n3.d) ha3
    (fun h5 tk5 k5 n5 => ?_) (by rfl)
  refine wpAny_execs_nil ?_
  refine hq h5 tk5 ⟨fun b o hb ho => k5 b o (old b o ho) (k4 b o (old b o ho) (k3 b o hb (k2 b o hb (k1 b o ho)))), t1, dx,
    k5 x _ (Ne.symm ne) (k4 x _ (Ne.symm ne) e3), z, ne, ?_⟩
  rw [lkf3]
  exact n5
end
end Xc
set_option maxHeartbeats 8000000
/-! an own exception class is called, with keywords too -/
namespace Xc
open PySem PySem.W PySem.Calls PyProof.Rows PySem.PX

section
variable {prog : Program} {w : World} {M : Model} {A : Around} {E : Value → Shared → Prop}
variable {R : Result → Shared → Prop} {hp : Heap} {g : Array GenState} {d : Drawn} {t : Nat} {os : OsState}
variable {K : Frag} {C x t0 fI : Addr} {B newId initId : String} {bmB : List Value}
variable {nm q : Str} {N : Addr} {bs bm : List Value} {hdct : Bool} {sn : List Str} {sub : List Value}
variable {ab : Bool} {col : Option Bool} {dd : Option Addr} {k0 k1 k2 k3 k5 : Option Value}
variable {rest : List Value} {kw : List (Str × Value)}

abbrev clsO (nm q : Str) (C N : Addr) (bs bm : List Value) (hdct : Bool) (sn : List Str) (sub : List Value)
    (ab : Bool) (col : Option Bool) (dd : Option Addr) (k0 k1 k2 k3 k5 : Option Value) (newId : String) : Obj :=
  excClassObj nm q C N bs bm hdct sn sub ab col dd k0 k1 k2 k3 k5 newId

theorem ckNewK (F : ExcBaseFacts B newId initId bmB)
    (hT : ∀ X : String, bm.contains (.type X) = bmB.contains (.type X)) {Q : Unit → Shared → Prop}
    (hC : hp.get? C = some (clsO nm q C N bs bm hdct sn sub ab col dd k0 k1 k2 k3 k5 newId))
    (hq : Q () ⟨hp, g, d, t, os⟩) :
    wpAny M A (checkBuiltinCall newId ⟨.ref C :: rest, kw⟩) Q E ⟨hp, g, d, t, os⟩ := by
  have hin : (Value.ref C :: bm).contains (.type B) = true := by
    rw [List.contains_cons, hT, F.hasB]
    exact Bool.or_true _
  have hstar := F.noStar
  simp only [checkBuiltinCall, F.newKind, F.newSplit, F.newRow]
  repeat (first
    | refine wpAny_loadPart_at hC ?_
    | (refine wpAny_isSubtype_exc hC ?_; rw [hin])
    | refine wpAny_staticBase_exc hC ?_
    | refine wpAny_madeBy_exc hC ?_
    | simp only [bne_self_eq_false, Bool.false_eq_true, if_false]
    | wp_step)
  exact hq

theorem newK (F : ExcBaseFacts B newId initId bmB)
    (hT : ∀ X : String, bm.contains (.type X) = bmB.contains (.type X))
    (hC : hp.get? C = some (clsO nm q C N bs bm hdct sn sub ab col dd k0 k1 k2 k3 k5 newId))
    (hz : rest.length ≤ sizeLine)
    (hq : R (.ok (.ret (.ref (hp.objs.size + 1))))
      ⟨(hp.push (excTup rest)).push (excObj C hp.objs.size none .none), g, d, t, os⟩) :
    codeAny (model prog w) A (.builtin newId ⟨.ref C :: rest, kw⟩) R ⟨hp, g, d, t, os⟩ := by
  have hends := F.ends
  have i1 : (Value.ref C :: bm).contains (.type B) = true := by
    rw [List.contains_cons, hT, F.hasB]
    exact Bool.or_true _
  have i2 : (Value.ref C :: bm).contains (.type "AttributeError") = false := by
    rw [List.contains_cons, hT, F.noAttr]
    rfl
  have i3 : (Value.ref C :: bm).contains (.type "NameError") = false := by
    rw [List.contains_cons, hT, F.noName]
    rfl
  refine codeAny_builtinAt F.entry ?_
  unfold Builtin.«BaseException.__new__»
  refine PySem.wpAt_bind ?_
  show PySem.wpAt _ _ _ (stack >>= _) _ _ _
  refine PySem.wpAt_bind (PySem.wpAt_stack fun p below => PySem.wpAt_of_wpAny ?_)
  wp_walk
  refine PySem.wpAt_of_wpAny ?_
  rw [F.owner]
  repeat (first
    | with_reducible refine wpAny_madeHere_exc F.canon hC ?_
    | with_reducible refine wpAny_loadPart_at hC ?_
    | (with_reducible refine wpAny_isSubtype_exc hC ?_; first | rw [i1] | rw [i2] | rw [i3])
    | wp_step)
  show R _ _
  rw [Heap.size_push]
  exact hq

theorem typeK (F : ExcBaseFacts B newId initId bmB)
    (hT : ∀ X : String, bm.contains (.type X) = bmB.contains (.type X)) {Q : Fin → Shared → Prop}
    (hC : hp.get? C = some (clsO nm q C N bs bm hdct sn sub ab col dd k0 k1 k2 k3 k5 newId))
    (hi : W.Looks (model prog w) hp (typeLookup (.ref C) "__init__") (some (.ref fI)))
    (hb : ∀ self, W.Looks (model prog w) hp (bindSpecial (.ref fI) self) (.ref fI, [self]))
    (hz : rest.length ≤ sizeLine)
    (hq : codeAny (model prog w) A (.call (.ref fI) ⟨.ref (hp.objs.size + 1) :: rest, kw⟩)
      (fun r s' => match r with
        | .ok (.ret v) => v = .none ∧ Q (.done (.ret (.ref (hp.objs.size + 1)))) s'
        | .ok _ => False
        | .error e => E e s')
      ⟨(hp.push (excTup rest)).push (excObj C hp.objs.size none .none), g, d, t, os⟩) :
    wpAny (model prog w) A (Builtin.«type.__call__» ⟨.ref C :: rest, kw⟩) Q E ⟨hp, g, d, t, os⟩ := by
  repeat (first
    | with_reducible refine wpAny_loadPart_at hC ?_
    | with_reducible refine wpAny_madeBy_exc hC ?_
    | wp_step)
  refine codeAny_call_builtin_code (Code.quiet_builtin _ F.quiet) (ckNewK F hT hC ?_)
  refine newK F hT hC hz ?_
  show wpAny _ _ _ _ _ _
  have k : ∀ b o, hp.get? b = some o →
      ((hp.push (excTup rest)).push (excObj C hp.objs.size none .none)).get? b = some o :=
    fun b o e => Heap.get?_push_of_some _ (Heap.get?_push_of_some _ e)
  have hC1 := k _ _ hC
  have hg : ((hp.push (excTup rest)).push (excObj C hp.objs.size none .none)).get? (hp.objs.size + 1)
      = some (excObj C hp.objs.size none .none) := by heap_get
  have hcC : (Value.ref C :: bm).contains (.ref C) = true := by simp
  have i1 := hi.keeps k
  have b1 := (hb (.ref (hp.objs.size + 1))).keeps k
  unfold isInstance
  repeat (first
    | with_reducible refine wpAny_loadPart_at hg ?_
    | (with_reducible refine wpAny_isSubtype_exc hC1 ?_; rw [hcC])
    | wp_step)
  show wpAny _ _ (typeLookup (.ref C) _) _ _ _
  refine i1.at ?_
  refine wpAny_holding (wpAny_bind (b1.at ?_))
  refine wpAny_bind (wpAny_call (codeAny_mono hq fun r s' z => ?_))
  rcases r with e | (v | _ | _ | _) <;> first
    | exact z
    | exact z.elim
    | (obtain ⟨rfl, z⟩ := z
       first
         | exact wpAny_pure (wpAny_pure z)
         | (wp_walk; exact z))

theorem callK (F : ExcBaseFacts B newId initId bmB)
    (hT : ∀ X : String, bm.contains (.type X) = bmB.contains (.type X))
    (hC : hp.get? C = some (clsO nm q C N bs bm hdct sn sub ab col dd k0 k1 k2 k3 k5 newId))
    (hi : W.Looks (model prog w) hp (typeLookup (.ref C) "__init__") (some (.ref fI)))
    (hb : ∀ self, W.Looks (model prog w) hp (bindSpecial (.ref fI) self) (.ref fI, [self]))
    (hz : rest.length ≤ sizeLine)
    (hq : codeAny (model prog w) (A.under (.builtin "type.__call__" ⟨.ref C :: rest, kw⟩))
      (.call (.ref fI) ⟨.ref (hp.objs.size + 1) :: rest, kw⟩) (W.InitBack (hp.objs.size + 1) R)
      ⟨(hp.push (excTup rest)).push (excObj C hp.objs.size none .none), g, d, t, os⟩) :
    codeAny (model prog w) A (.call (.ref C) ⟨rest, kw⟩) R ⟨hp, g, d, t, os⟩ := by
  have f1 := tc_lookup
  have f2 := tc_bind (.ref C)
  have hTy : (⟨hp, g, d, t, os⟩ : Shared).TypeIs (.ref C) "type" := ⟨_, hC, rfl⟩
  refine codeAny_of_tree ?_
  show wpAny _ _ (callAny (.ref C) _) _ _ _
  repeat (any_goals (first | assumption | with_reducible refine wpAny_loadPart_at hC ?_ | wp_step))
  refine ⟨rfl, ?_⟩
  refine codeAny_call_builtin_at (Code.quiet_builtin _ (by decide +kernel)) entry_typeCall
    (wpAny_check_type_call_sub hC (typeK F hT hC hi hb hz ?_))
  refine codeAny_mono hq fun r s' z => ?_
  rcases r with e | (v | _ | _ | _) <;> exact z
end
end Xc
set_option maxHeartbeats 8000000
namespace Xc
open PySem PySem.W PySem.Calls PyProof.Rows PySem.PX

/-- behind the call of the class: a new exception e, its fields fs -/
structure MkEnd (h h' : Heap) (e C : Addr) (fs : List (Str × Value)) : Prop where
  keep : ∀ b o, h.get? b = some o → h'.get? b = some o
  new : h.objs.size ≤ e
  obj : match fs with
    | [] => ∃ t1, h'.get? e = some (excObj C t1 none .none)
    | _ :: _ => ∃ t1 dx, h'.get? e = some (excObj C t1 (some dx) .none) ∧ h.objs.size ≤ dx ∧ dx ≠ e ∧
        h'.Ns1 dx fun y => fs.lookup y

/-- what calls of the class C do, for the fields fs bound from us and kw -/
def Mk (prog : Program) (w : World) (K : Frag) (mg : Str → Option Value) (C : Addr) (us : List Value)
    (kw : List (Str × Value)) (fs : List (Str × Value)) : Prop :=
  ∀ (A : Around) (R : Result → Shared → Prop) (s : Shared), MH K mg s.heap → s.heap.NoLimit →
    A.depth + 1 < recursionLimit →
    (∀ h' tk e, MkEnd s.heap h' e C fs → R (.ok (.ret (.ref e))) { s with heap := h', toks := tk }) →
    codeAny (model prog w) A (.call (.ref C) ⟨us, kw⟩) R s

section
variable {prog : Program} {w : World} {A : Around} {R : Result → Shared → Prop} {s : Shared}
variable {K : Frag} {mg : Str → Option Value} {C x t0 fI cc cda : Addr} {B newId initId : String} {bmB : List Value}
variable {qual msg f1 f2 f3 : Str} {j : Nat} {p0 p1 p2 p3 p4 p5 : Pos} {us : List Value} {kw : List (Str × Value)} {v1 v2 v3 : Value}

/-- the common way in -/
theorem mk_of (T : XC K C B newId initId bmB) (iC : findIn K (.ref C) "__init__" = some (some (.ref fI)))
    (tI : typeIn K (.ref fI) = some (.type "function")) (hz : us.length ≤ sizeLine) {fs : List (Str × Value)}
    (h : ∀ (A : Around) (R : Result → Shared → Prop) (s : Shared) (x t0 : Addr), MH K mg s.heap → s.heap.NoLimit →
      A.depth < recursionLimit → s.heap.get? x = some (excObj C t0 none .none) → K.lookup x = none →
      x ≠ mainGlobals → x ≠ builtinsNs →
      (∀ h' tk, IEnd s.heap h' x C fs → R (.ok (.ret .none)) { s with heap := h', toks := tk }) →
      codeAny (model prog w) A (.call (.ref fI) ⟨.ref x :: us, kw⟩) R s) : Mk prog w K mg C us kw fs := by
  intro A R s Mh hlim hroom hq
  have X := Mh.kin
  obtain ⟨nm, N', qn, bs, bm, hdct, sn, sub, ab, col, dd, k0, k1, k2, k3, k5, hC, hT⟩ := excInit_of X T.ini
  obtain ⟨hp, g, d, t, os⟩ := s
  have kk : ∀ b o, hp.get? b = some o →
      ((hp.push (excTup us)).push (excObj C hp.objs.size none .none)).get? b = some o :=
    fun b o e => Heap.get?_push_of_some _ (Heap.get?_push_of_some _ e)
  have hg : ((hp.push (excTup us)).push (excObj C hp.objs.size none .none)).get? (hp.objs.size + 1)
      = some (excObj C hp.objs.size none .none) := by heap_get
  have big : ∀ {b : Addr} {o : Obj}, hp.get? b = some o → hp.objs.size + 1 ≠ b := fun {b o} e z => by
    have q := Heap.lt_size e
    rw [← z] at q
    exact absurd (Nat.lt_of_succ_lt q) (Nat.lt_irrefl _)
  have hnx : K.lookup (hp.objs.size + 1) = none := by
    cases e : K.lookup (hp.objs.size + 1) with
    | none => rfl
    | some o => exact absurd rfl (big (X _ _ e))
  have hmg : hp.objs.size + 1 ≠ mainGlobals := by
    obtain ⟨o, _, _, e, _⟩ := Mh.glob
    exact big e
  have hbn : hp.objs.size + 1 ≠ builtinsNs := by
    obtain ⟨mb, ⟨o, _, _, e, _⟩, _⟩ := Mh.blt
    exact big e
  refine callK T.FB hT hC (looks_findIn X iC) (fun self => bind_fn X self tI) hz ?_
  refine h _ _ ⟨(hp.push (excTup us)).push (excObj C hp.objs.size none .none), g, d, t, os⟩ (hp.objs.size + 1) hp.objs.size
    (Mh.keeps kk) (hlim.keeps kk) hroom hg hnx hmg hbn fun h' tk Z => ?_
  refine ⟨rfl, hq h' tk (hp.objs.size + 1) ⟨fun b o e => Z.keep b o (Ne.symm (big e)) (kk b o e), Nat.le_succ _, ?_⟩⟩
  have zo := Z.obj
  cases fs with
  | nil => exact zo
  | cons f r =>
    obtain ⟨t1, dx, e1, e2, e3, e4⟩ := zo
    refine ⟨t1, dx, e1, ?_, e3, e4⟩
    rw [Heap.size_push, Heap.size_push] at e2
    exact Nat.le_trans (Nat.le_trans (Nat.le_succ _) (Nat.le_succ _)) e2

theorem mk0 {a0 : Pos} (T : XC K C B newId initId bmB)
    (iC : findIn K (.ref C) "__init__" = some (some (.ref fI))) (tI : typeIn K (.ref fI) = some (.type "function"))
    (S : XI prog K mg C fI cc cda qual (iArgs [("self", a0)]) [supS msg j p0 p1 p2 p3 p4 p5] (iScope ["self"]) B initId)
    (hln : (p2.endLine == p4.line) = true) : Mk prog w K mg C [] [] [] :=
  mk_of T iC tI (Nat.zero_le _) fun A R s x t0 Mh hlim hroom hx _ _ _ hq => init0 T S Mh hlim hroom hln hx hq

theorem mk1 {a0 a1 q1 q2 q3 q4 : Pos} (n1 : Nm f1) (T : XC K C B newId initId bmB)
    (iC : findIn K (.ref C) "__init__" = some (some (.ref fI))) (tI : typeIn K (.ref fI) = some (.type "function"))
    (S : XI prog K mg C fI cc cda qual (iArgs [("self", a0), (f1, a1)])
      [supS msg j p0 p1 p2 p3 p4 p5, stS f1 q1 q2 q3 q4] (iScope ["self", f1]) B initId)
    (hln : (p2.endLine == p4.line) = true) (ha : takerIn K C f1 = some none) (hz : us.length ≤ sizeLine)
    (hb : ∀ s x kV doc pm ct an, BindsTo s (ksFn "__init__" qual (iArgs [("self", a0), (f1, a1)])
      [supS msg j p0 p1 p2 p3 p4 p5, stS f1 q1 q2 q3 q4] (iScope ["self", f1]) .none kV doc pm an (.ref cda) ct cc)
      ⟨.ref x :: us, kw⟩ [("self", .ref x), (f1, v1)]) : Mk prog w K mg C us kw [(f1, v1)] :=
  mk_of T iC tI hz fun A R s x t0 Mh hlim hroom hx nx ng nb hq =>
    init1 n1 T S Mh hlim hroom hln hx nx ng nb ha (hb s x) hq

theorem mk2 {a0 a1 a2 q1 q2 q3 q4 r1 r2 r3 r4 : Pos} (n1 : Nm f1) (n2 : Nm f2) (n12 : f1 ≠ f2)
    (T : XC K C B newId initId bmB)
    (iC : findIn K (.ref C) "__init__" = some (some (.ref fI))) (tI : typeIn K (.ref fI) = some (.type "function"))
    (S : XI prog K mg C fI cc cda qual (iArgs [("self", a0), (f1, a1), (f2, a2)])
      [supS msg j p0 p1 p2 p3 p4 p5, stS f1 q1 q2 q3 q4, stS f2 r1 r2 r3 r4] (iScope ["self", f1, f2]) B initId)
    (hln : (p2.endLine == p4.line) = true) (ha : takerIn K C f1 = some none) (ha2 : takerIn K C f2 = some none)
    (hz : us.length ≤ sizeLine)
    (hb : ∀ s x kV doc pm ct an, BindsTo s (ksFn "__init__" qual (iArgs [("self", a0), (f1, a1), (f2, a2)])
      [supS msg j p0 p1 p2 p3 p4 p5, stS f1 q1 q2 q3 q4, stS f2 r1 r2 r3 r4] (iScope ["self", f1, f2]) .none kV doc pm an (.ref cda) ct cc)
      ⟨.ref x :: us, kw⟩ [("self", .ref x), (f1, v1), (f2, v2)]) : Mk prog w K mg C us kw [(f2, v2), (f1, v1)] :=
  mk_of T iC tI hz fun A R s x t0 Mh hlim hroom hx nx ng nb hq =>
    init2 n1 n2 n12 T S Mh hlim hroom hln hx nx ng nb ha ha2 (hb s x) hq

theorem mk3 {a0 a1 a2 a3 q1 q2 q3 q4 r1 r2 r3 r4 u1 u2 u3 u4 : Pos} (n1 : Nm f1) (n2 : Nm f2) (n3 : Nm f3)
    (n12 : f1 ≠ f2) (n13 : f1 ≠ f3) (n23 : f2 ≠ f3) (T : XC K C B newId initId bmB)
    (iC : findIn K (.ref C) "__init__" = some (some (.ref fI))) (tI : typeIn K (.ref fI) = some (.type "function"))
    (S : XI prog K mg C fI cc cda qual (iArgs [("self", a0), (f1, a1), (f2, a2), (f3, a3)])
      [supS msg j p0 p1 p2 p3 p4 p5, stS f1 q1 q2 q3 q4, stS f2 r1 r2 r3 r4, stS f3 u1 u2 u3 u4]
      (iScope ["self", f1, f2, f3]) B initId)
    (hln : (p2.endLine == p4.line) = true) (ha : takerIn K C f1 = some none) (ha2 : takerIn K C f2 = some none)
    (ha3 : takerIn K C f3 = some none) (hz : us.length ≤ sizeLine)
    (hb : ∀ s x kV doc pm ct an, BindsTo s (ksFn "__init__" qual (iArgs [("self", a0), (f1, a1), (f2, a2), (f3, a3)])
      [supS msg j p0 p1 p2 p3 p4 p5, stS f1 q1 q2 q3 q4, stS f2 r1 r2 r3 r4, stS f3 u1 u2 u3 u4]
      (iScope ["self", f1, f2, f3]) .none kV doc pm an (.ref cda) ct cc)
      ⟨.ref x :: us, kw⟩ [("self", .ref x), (f1, v1), (f2, v2), (f3, v3)]) :
    Mk prog w K mg C us kw [(f3, v3), (f2, v2), (f1, v1)] :=
  mk_of T iC tI hz fun A R s x t0 Mh hlim hroom hx nx ng nb hq =>
    init3 n1 n2 n3 n12 n13 n23 T S Mh hlim hroom hln hx nx ng nb ha ha2 ha3 (hb s x) hq
end
end Xc
set_option maxHeartbeats 8000000
/-! exceptions as values, over the abstract heap -/
namespace L2
open PySem PySem.Spec PyProof.Rows

/-- the abstract heap with a new exception of the class at C: the object at a, its dict at dx -/
def xH (H : Hp) (a dx C : Addr) : List (Str × V) → Hp
  | [] => upd H a (exo a C none)
  | f :: fs => upd (upd H dx (exd dx (f :: fs))) a (exo a C (some dx))

theorem kv_lookup : ∀ {fv : List (Str × V)} {fs : List (Str × Value)}, KV fv fs → ∀ y, RelO (fv.lookup y) (fs.lookup y)
  | _, _, .nil, _ => True.intro
  | (f, v) :: fv, (g, u) :: fs, .cons r t, y => by
    obtain ⟨e, rv⟩ := r
    have e' : f = g := e
    subst e'
    rw [lookup_put]
    by_cases h : y = f
    · subst h
      rw [if_pos rfl, Xc.lk0]
      exact rv
    · rw [if_neg h, Xc.lk1 h]
      exact kv_lookup t y

theorem paired_snoc {α β : Type} {R : α → β → Prop} : ∀ {xs : List α} {ys : List β} {x : α} {y : β},
    Paired R xs ys → R x y → Paired R (xs ++ [x]) (ys ++ [y])
  | _, _, _, _, .nil, r => .cons r .nil
  | _, _, _, _, .cons q t, r => .cons q (paired_snoc t r)
theorem vals_rev : ∀ {xs : List V} {us : List Value}, Vals xs us → Vals xs.reverse us.reverse
  | _, _, .nil => .nil
  | _ :: _, _ :: _, .cons r t => by
    rw [List.reverse_cons, List.reverse_cons]
    exact paired_snoc (vals_rev t) r
theorem zip_kv : ∀ (ps : List Str) {xs : List V} {us : List Value}, Vals xs us → KV (ps.zip xs) (ps.zip us)
  | [], _, _, _ => by simp only [List.zip_nil_left]; exact Paired.nil
  | _ :: _, _, _, .nil => .nil
  | p :: ps, _ :: _, _ :: _, .cons r t => .cons ⟨rfl, r⟩ (zip_kv ps t)

section
variable {X : Cx} {pins : List (Addr × Obj)} {σ : St} {H : Hp} {s : Shared} {e C : Addr}

theorem Inv.mh (I : Inv X pins σ H s) : Xc.MH X.K X.mg s.heap := by
  obtain ⟨mb, h1, h2⟩ := I.mod.blt
  exact ⟨I.kIn, I.mod.glob.keeps I.bk, mb, h1.keeps I.bk, h2⟩

theorem Inv.xmade {h' : Heap} {tk : Nat} {fs : List (Str × Value)} {fv : List (Str × V)} (I : Inv X pins σ H s)
    (M : Xc.MkEnd s.heap h' e C fs) (r : KV fv fs) : ∃ dx, H e = none ∧ H dx = none ∧ dx ≠ e ∧
      Inv X pins σ (xH H e dx C fv) { s with heap := h', toks := tk } := by
  have he : H e = none := I.hok.fresh M.new
  have zo := M.obj
  cases r with
  | nil =>
    obtain ⟨t1, e1⟩ := zo
    refine ⟨e + 1, he, I.hok.fresh (Nat.le_succ_of_le M.new), Nat.ne_of_gt (Nat.lt_succ_self e), ?_⟩
    exact I.laid (t' := tk) M.keep M.new (exo_ok e1)
  | @cons p q fv fs rp rt =>
    obtain ⟨t1, dx, e1, e2, e3, e4⟩ := zo
    have hd : H dx = none := I.hok.fresh e2
    refine ⟨dx, he, hd, e3, ?_⟩
    have nO : ∀ {b : Addr} {o : HO}, H b = some o → b ≠ e ∧ b ≠ dx := fun q => ⟨ne_of_none q he, ne_of_none q hd⟩
    have nH : ∀ {b : Addr} {o : Obj}, s.heap.get? b = some o → b ≠ e ∧ b ≠ dx := fun {b o} q =>
      ⟨Nat.ne_of_lt (Nat.lt_of_lt_of_le (Heap.lt_size q) M.new), Nat.ne_of_lt (Nat.lt_of_lt_of_le (Heap.lt_size q) e2)⟩
    have up : ∀ {b : Addr}, b ≠ e ∧ b ≠ dx → xH H e dx C (p :: fv) b = H b := fun {b} n => by
      show upd (upd H dx _) e _ b = _
      rw [upd_ne n.1, upd_ne n.2]
    refine I.un (t' := tk) (h' := h') {
      keep := fun b o q _ _ _ => M.keep b o q
      slot := fun b o q _ _ _ => ⟨o.slots, M.keep b o q⟩
      free := fun b o q n _ => (up (nH q)).trans n
      there := fun b o q _ => ⟨o, M.keep b o q⟩
      tups := fun b xs q => (up (nO q)).trans q
      frzs := fun b o v q => (up (nO q)).trans q
      tbls := fun b ps q => ⟨#[], by rw [up (nO q), q]; simp⟩ } fun b o q => ?_
    by_cases hb : b = e
    · subst hb
      rw [show xH H b dx C (p :: fv) b = some (exo b C (some dx)) from upd_same] at q
      cases q
      exact exo_ok e1
    · by_cases hbd : b = dx
      · subst hbd
        rw [show xH H e b C (p :: fv) b = some (exd b (p :: fv)) from (upd_ne hb).trans upd_same] at q
        cases q
        exact exd_ok e4 (kv_lookup (.cons rp rt))
      · rw [up ⟨hb, hbd⟩] at q
        refine (I.hok b o q).stay (fun c v _ z => M.keep c v z) (fun c z => ?_) fun c xs z => ?_
        · exact (up (nO z)).trans z
        · exact (up (nO z)).trans z
end

/-- what is known of calls of the class at C; ps: its fields, the last parameter first -/
structure MkAll (P : Program) (w : World) (K : PySem.W.Frag) (mg : Str → Option Value) (C : Addr) (ps : List Str) : Prop where
  pos : ∀ fs : List (Str × Value), fs.map (·.1) = ps → Xc.Mk P w K mg C (fs.reverse.map (·.2)) [] fs
  kws : ∀ fs : List (Str × Value), fs.map (·.1) = ps → Xc.Mk P w K mg C [] fs fs
  kp : PySem.W.keepIn K (.ref C) = true

theorem zip_rev {ps : List Str} {us : List Value} (h : us.length = ps.length) :
    ((ps.zip us.reverse).reverse.map (·.2)) = us := by
  have e : (ps.zip us.reverse).map (·.2) = us.reverse := by
    rw [List.map_snd_zip]
    rw [List.length_reverse]
    exact Nat.le_of_eq h
  rw [List.map_reverse, e, List.reverse_reverse]
theorem zip_fst {ps : List Str} {us : List Value} (h : us.length = ps.length) : (ps.zip us).map (·.1) = ps := by
  rw [List.map_fst_zip]
  exact Nat.le_of_eq h.symm

/-- C(e, ..) -/
def tX (C : Addr) (ps : List Str) (ta : TA) : TE := fun σ H Q => ta σ H fun vs H1 => vs.length = ps.length ∧
  ∀ a dx, H1 a = none → H1 dx = none → dx ≠ a → Q (.ref a) (xH H1 a dx C (ps.zip vs.reverse))
/-- C(k = e, ..) -/
def tXk (C : Addr) (ps : List Str) (ta : TA) : TE := fun σ H Q => ta σ H fun vs H1 => vs.length = ps.length ∧
  ∀ a dx, H1 a = none → H1 dx = none → dx ≠ a → Q (.ref a) (xH H1 a dx C (ps.zip vs))

section
variable {X : Cx} {C : Addr} {ps : List Str} {k : Nat} {x : Str} {p pos : Pos} {e : Expr} {es : List Expr}
variable {kws : List Keyword} {ta : TA}

theorem run_x {pins : List (Addr × Obj)} {σ : St} {H : Hp} {s : Shared} {Q : VK} {us : List Value}
    {kw fs : List (Str × Value)} {fv : List (Str × V)} (M : Xc.Mk X.prog X.w X.K X.mg C us kw fs) (hr : Room k X.A)
    (I : Inv X pins σ H s) (r : KV fv fs)
    (h : ∀ a dx, H a = none → H dx = none → dx ≠ a → Q (.ref a) (xH H a dx C fv)) :
    wpAny (model X.prog X.w) X.A (call (.ref C) us kw) (EP X pins σ Q) X.xe s := by
  have hd := hr.dp
  refine wpAny_call (M X.A _ s I.mh I.nolimit (by omega) fun h' tk a Z => ?_)
  obtain ⟨dx, n1, n2, ne, J⟩ := I.xmade (tk := tk) Z r
  exact ⟨.ref a, _, J, rfl, h a dx n1 n2 ne⟩

theorem pe_x (M : MkAll X.prog X.w X.K X.mg C ps) (hr : Room k X.A) (hg : Gl X x) (hm : X.mg x = some (.ref C))
    (ha : PA X (e :: es) ta) (hdb : (x == ("__debug__" : Str)) = false := by decide)
    (he : starEach (e :: es) X.env = (false, eval e X.env) :: starEach es X.env := by rfl)
    (hpl : (backTo pos (starEach es X.env)).any (·.1) = false := by rfl) :
    PE X (.Call (.Name x p) (e :: es) [] pos) (tX C ps ta) := by
  refine ⟨fun pins s σ H Q I h => ?_⟩
  refine wpAny_Call_Name_kw (ld_glob I hg hm ?_ hdb)
  refine PySem.W.callWith_K (h₀ := X.base) I.ok.mod.kin M.kp
    (thn (ha.run pos pins s σ H _ I h) fun us s1 ⟨vs, H1, I1, r, hl, q⟩ => ⟨I1.kIn, ?_⟩) he hpl
  have lu : us.length = ps.length := r.length.symm.trans hl
  have Z := M.pos (ps.zip us.reverse) (zip_fst (by rw [List.length_reverse]; exact lu))
  rw [zip_rev lu] at Z
  exact run_x Z hr I1 (zip_kv ps (vals_rev r)) q

theorem pe_x0 (M : MkAll X.prog X.w X.K X.mg C []) (hr : Room k X.A) (hg : Gl X x) (hm : X.mg x = some (.ref C))
    (hdb : (x == ("__debug__" : Str)) = false := by decide) :
    PE X (.Call (.Name x p) [] [] pos) (tX C [] tNil) := by
  refine ⟨fun pins s σ H Q I h => ?_⟩
  refine wpAny_Call_Name_kw (ld_glob I hg hm ?_ hdb)
  refine PySem.W.callWith_K0 I.kIn M.kp ?_
  have Z := M.pos [] rfl
  exact run_x (fv := []) Z hr I .nil h.2

theorem pe_xk (M : MkAll X.prog X.w X.K X.mg C ps) (hr : Room k X.A) (hg : Gl X x) (hm : X.mg x = some (.ref C))
    (hkw : PK X kws ta) (hall : (backToKw pos (keywordEach kws X.env)).all (·.1.isSome) = true := by rfl)
    (hks : (backToKw pos (keywordEach kws X.env)).filterMap (·.1) = ps := by rfl)
    (hdb : (x == ("__debug__" : Str)) = false := by decide)
    (hpl : ((backTo pos (starEach [] X.env)).any (·.1) ||
      (backToKw pos (keywordEach kws X.env)).any (·.1.isNone)) = false := by rfl) :
    PE X (.Call (.Name x p) [] kws pos) (tXk C ps ta) := by
  refine ⟨fun pins s σ H Q I h => ?_⟩
  refine wpAny_Call_Name_kw (ld_glob I hg hm ?_ hdb)
  refine PySem.W.callWith_KW0 (h₀ := X.base) I.ok.mod.kin M.kp hall ?_ hpl
  refine thn (hkw.run pos pins s σ H _ I h) fun ws s2 ⟨zs, H2, I2, rz, hl, q⟩ => ⟨I2.kIn, ?_⟩
  rw [hks]
  have lw : ws.length = ps.length := rz.length.symm.trans hl
  exact run_x (M.kws (ps.zip ws) (zip_fst lw)) hr I2 (zip_kv ps rz) q
end

/-- what the written part says of a field's reading, and of isinstance -/
structure XG (K : PySem.W.Frag) (C : Addr) : Prop where
  ga : PySem.W.findIn K (.ref C) "__getattribute__" = some (some (.builtin "BaseException.__getattribute__"))
  gg : PySem.W.findIn K (.ref C) "__getattr__" = some none
  ex : PySem.W.subIn K (.ref C) (.type "BaseException") = some true
  hd : PySem.W.hasDictIn K C = true
  cl : (PySem.W.clsIn K C).isSome = true
  cc : PySem.W.findIn K (.ref C) "__class__" = some (some (.builtin "object.__class__"))
  cn : PySem.W.specialIn K (.builtin "object.__class__") "__get__" = some (some (.builtin "getset_descriptor.__get__"))
  ct : PySem.W.takesIn K (.builtin "object.__class__") = some true
  co : PySem.W.mroIn K C (.type "object") = some true

/-- o.f, o an exception as a value -/
def tXf (K : PySem.W.Frag) (f : Str) (te : TE) : TE := fun σ H Q => te σ H fun x H1 => ∃ (a C dx : Addr) (fs : List (Str × V)) (v : V),
  x = .ref a ∧ H1 a = some (exo a C (some dx)) ∧ H1 dx = some (exd dx fs) ∧ fs.lookup f = some v ∧ XG K C ∧
  PySem.W.findIn K (.ref C) f = some none ∧ Q v H1
theorem pe_xf {X : Cx} {e : Expr} {te : TE} {f : Str} {pos : Pos} (he : PE X e te)
    (hb : attributeBase e f X.env (eval e X.env) = eval e X.env) : PE X (.Attribute e f pos) (tXf X.K f te) := by
  refine ⟨fun pins s σ H Q I h => ?_⟩
  refine attr_of hb (thn (he.run pins s σ H _ I h) fun u s1 ⟨x, H1, I1, rx, a, C, dx, fs, v, ex, ea, ed, el, G, hn, q⟩ => ?_)
  subst ex
  obtain rfl : u = Value.ref a := rx
  obtain ⟨t1, ho⟩ := exo_at I1.hok ea
  obtain ⟨mA, hns, rel⟩ := exd_at I1.hok ed
  obtain ⟨od, hod, hl⟩ := lookIn_ns hns
  obtain ⟨w, hw, rw⟩ := RelO.some_of (v := v) (o := mA f) (by rw [← el]; exact rel f)
  have J : PySem.W.InstAt s1.heap a _ C (some od) := ⟨ho, rfl, rfl, hod⟩
  exact PySem.PX.exc_get I1.kIn J G.ga G.gg G.ex (PySem.W.findObj_own G.hd hn rfl (by rw [hl, hw])) (handed_of rw)
    ⟨v, H1, I1.tok _, rw, q⟩

/-- isinstance(o, c), o an exception as a value -/
def rXi (K : PySem.W.Frag) : List V → Hp → VK → Prop := fun xs H Q => ∃ (a C : Addr) (d : Option Addr) (c : V) (u : Value) (b : Bool),
  xs = [.ref a, c] ∧ H a = some (exo a C d) ∧ (∀ dx, d = some dx → ∃ fs, H dx = some (exd dx fs)) ∧ XG K C ∧ ClsV c u ∧
  PySem.W.kitOne K (.ref C) u = some b ∧ Q (.bl b) H
theorem call_xi {X : Cx} : CallR X (.builtin "isinstance") (rXi X.K) := by
  intro pins s σ H xs us Q I r h
  obtain ⟨a, C, d, c, u, b, rfl, ea, hd, G, k, ek, q⟩ := h
  obtain ⟨u1, u2, rfl, r1, r2⟩ := vals2 r
  have e2 := k.eq r2
  subst e2
  obtain rfl : u1 = Value.ref a := r1
  obtain ⟨t1, ho⟩ := exo_at I.hok ea
  have fin : ∀ tk, EP X pins σ Q (.bool b) { s with toks := tk } := fun tk => ⟨.bl b, H, I.tok tk, rfl, q⟩
  cases d with
  | none =>
    have J : PySem.W.InstAt s.heap a _ C none := ⟨ho, rfl, rfl, trivial⟩
    exact PySem.W.kia_one (PySem.W.kitx_exc G.cl G.ga G.gg G.ex G.cc G.cn G.ct G.co) I.kIn J ek (fun z => nomatch z) fin
  | some dx =>
    obtain ⟨fs, ed⟩ := hd dx rfl
    obtain ⟨mA, hns, rel⟩ := exd_at I.hok ed
    obtain ⟨od, hod, hl⟩ := lookIn_ns hns
    have J : PySem.W.InstAt s.heap a _ C (some od) := ⟨ho, rfl, rfl, hod⟩
    exact PySem.W.kia_one (PySem.W.kitx_exc G.cl G.ga G.gg G.ex G.cc G.cn G.ct G.co) I.kIn J ek (fun z => nomatch z) fin
end L2
set_option maxHeartbeats 8000000
/-! defs that are known to run outside of any repr; repr of data -/
namespace L2
open PySem PySem.Spec PyProof.Rows

/-- as FnOk, for calls outside of any repr; nothing is raised -/
structure FnG (P : Program) (w : World) (K : PySem.W.Frag) (mg : Str → Option Value) (base : Heap) (k : Nat)
    (f : Addr) (fd : FuncData) (ps : List Str) (sp : Sp) : Prop where
  len : ∀ vs H Q, sp vs H Q E0 → vs.length = ps.length
  run : ∀ (A : Around) (outer : List Env) (s : Shared) (H : Hp) (args : Args) (us : List Value) (vs : List V) (Q : VK),
    A.guards = some [] → Room k A → Env0 P w K mg base A outer s H → BindsTo s fd args (ps.zip us) → Vals vs us →
    sp vs H Q E0 → codeAny (model P w) A (.call (.ref f) args) (CR CX0 outer P w H s Q E0) s

section
variable {P : Program} {w : World} {K : PySem.W.Frag} {mg : Str → Option Value} {base : Heap}

theorem fnG_of {k : Nat} {f : Addr} {name qual : Str} {params : Arguments} {body : List Stmt} {scope : Scope}
    {dV kV doc pm cdv ct oc : Value} {an od : Option Addr} {osl : Array (Option Value)} {N ps : List Str} {sp : Sp}
    (lk : K.lookup f = some ⟨oc, od, .func (PySem.W.fnOf name qual params body scope dV kV doc pm an cdv ct), osl⟩)
    (hcd : PySem.W.codeIn K cdv qual = true) (S : FnScope N ps scope)
    (len : ∀ vs H Q, sp vs H Q E0 → vs.length = ps.length)
    (hbody : ∀ (A : Around) (outer : List Env) (s : Shared) (H : Hp) (vs : List V) (Q : VK), A.guards = some [] →
      Room k (A.deeper (envOfC qual scope s.heap.objs.size f cdv)) → sp vs H Q E0 →
      ∃ t, PSs (cxOf CX0 P w K mg base N qual scope f cdv A outer s H E0) body t ∧
        t { nx := fun _ H' => Q .non H', rt := Q } (start N vs) H) :
    FnG P w K mg base (k + 1) f (PySem.W.fnOf name qual params body scope dV kV doc pm an cdv ct) ps sp := by
  refine ⟨len, fun A outer s H args us vs Q hgu hr e0 hb r hsp => ?_⟩
  have hl := len _ _ _ hsp
  have kb : ∀ b o, base.get? b = some o → s.heap.get? b = some o := fun b o e => (e0.bs b o e).1
  have KX := e0.mod.kin.keeps kb
  have lim := e0.mod.nolimit.keeps kb
  have hkind : ∀ y ∈ ps.zip us, scope.names.lookup y.1 = some .local ∨
      (scope.names.lookup y.1 = some .cell ∧
        ((cellsFrom (s.heap.objs.size + 1) scope.names []).lookup y.1).isSome = true) := by
    rintro ⟨n, v⟩ hy
    rcases S.par n (List.of_mem_zip hy).1 with q | q
    · exact Or.inl q
    · exact Or.inr ⟨q, PySem.W.cellsFrom_some _ _ _ (Or.inl q)⟩
  refine codeAny_call_function hr.depth (KX _ _ lk) rfl S.co S.gen rfl
    (PySem.W.codeRec_of KX hcd) (hb _ _ _ _ ?_)
  refine wpAny_newFunctionEnv_cells S.kind hkind fun env he s1 x => ?_
  cases he
  refine ⟨lim.keeps x.toInCall.keep, codeAny_func ?_⟩
  obtain ⟨t, ht, hq⟩ := hbody A outer s H vs Q hgu (hr.deeper _) hsp
  have I : Inv (cxOf CX0 P w K mg base N qual scope f cdv A outer s H E0) [] (start N vs) H s1 :=
    inv_start S hr.hd e0 hl r x
  refine wpAny_mono (ht.run [] s1 (start N vs) H _ I hq) (fun fl s' hs => ?_) fun e s' hs => hs
  cases fl with
  | ret u =>
    obtain ⟨v, σ', H', J, rv, q⟩ := hs
    exact ⟨v, H', J.os, J.bare, J.base, J.hok, rv, q⟩
  | next =>
    obtain ⟨σ', H', J, q⟩ := hs
    exact ⟨V.non, H', J.os, J.bare, J.base, J.hok, rfl, q⟩
  | brk => exact hs.choose_spec.choose_spec.2.elim
  | cont => exact hs.choose_spec.choose_spec.2.elim

theorem Fun.okG {x qual : Str} {st : Stmt} {f : Addr} {fd : FuncData} {N ps : List Str} {k : Nat} {sp : Sp}
    (F : Fun K x qual st f fd) (S : FnScope N ps (defScope st)) (len : ∀ vs H Q, sp vs H Q E0 → vs.length = ps.length)
    (hbody : ∀ (cdv : Value) (A : Around) (outer : List Env) (s : Shared) (H : Hp) (vs : List V) (Q : VK),
      A.guards = some [] → Room k (A.deeper (envOfC qual (defScope st) s.heap.objs.size f cdv)) → sp vs H Q E0 →
      ∃ t, PSs (cxOf CX0 P w K mg base N qual (defScope st) f cdv A outer s H E0).nox (defBody st) t ∧
        t { nx := fun _ H' => Q .non H', rt := Q } (start N vs) H) : FnG P w K mg base (k + 1) f fd ps sp := by
  obtain ⟨oc, od, kV, doc, pm, an, cdv, ct, osl, rfl, lk, hcd⟩ := F.ex
  refine fnG_of lk hcd S len fun A outer s H vs Q hgu hr hsp => ?_
  obtain ⟨t, h, q⟩ := hbody cdv A outer s H vs Q hgu hr hsp
  exact ⟨t, h.nox, q⟩
end

section
variable {X : Cx} {k : Nat} {f : Addr} {fd : FuncData} {ps : List Str} {sp : Sp} {x : Str} {p pos : Pos}
variable {e : Expr} {es : List Expr} {t : TA}

theorem run_fnG {pins : List (Addr × Obj)} {σ : St} {H : Hp} {s : Shared} {Q : VK} {us : List Value} {vs : List V}
    (F : FnG X.prog X.w X.K X.mg X.base k f fd ps sp) (hgu : X.A.guards = some []) (hr : Room k X.A)
    (hb : Binds X.K fd ps []) (I : Inv X pins σ H s) (r : Vals vs us) (h : sp vs H Q E0) :
    wpAny (model X.prog X.w) X.A (call (.ref f) us) (EP X pins σ Q) X.xe s := by
  have hl : (us ++ []).length = ps.length := by
    rw [List.append_nil, ← r.length]
    exact F.len _ _ _ h
  have hb' := hb s us I.kIn hl
  rw [List.append_nil] at hb'
  refine wpAny_call (codeAny_mono (F.run X.A X.stack s H ⟨us, []⟩ us vs Q hgu hr I.env0 hb' r h) fun r s' hq => ?_)
  cases r with
  | error e => exact False.elim hq
  | ok fl =>
    cases fl with
    | ret u => exact I.after hq
    | next => exact False.elim hq
    | brk => exact False.elim hq
    | cont => exact False.elim hq

theorem pe_callG (F : FnG X.prog X.w X.K X.mg X.base k f fd ps sp) (hgu : X.A.guards = some []) (hr : Room k X.A)
    (hg : Gl X x) (hm : X.mg x = some (.ref f)) (hk : PySem.W.keepIn X.K (.ref f) = true) (hb : Binds X.K fd ps [])
    (ha : PA X (e :: es) t) (hdb : (x == ("__debug__" : Str)) = false := by decide)
    (he : starEach (e :: es) X.env = (false, eval e X.env) :: starEach es X.env := by rfl)
    (hpl : (backTo pos (starEach es X.env)).any (·.1) = false := by rfl) :
    PE X (.Call (.Name x p) (e :: es) [] pos) (tCall sp [] E0 t) := by
  refine ⟨fun pins s σ H Q I h => ?_⟩
  refine wpAny_Call_Name_kw (ld_glob I hg hm ?_ hdb)
  refine PySem.W.callWith_K (h₀ := X.base) I.ok.mod.kin hk
    (thn (ha.run pos pins s σ H _ I h) fun us s1 ⟨vs, H1, I1, r, q⟩ => ⟨I1.kIn, ?_⟩) he hpl
  have q' : sp (vs ++ []) H1 Q E0 := q
  rw [List.append_nil] at q'
  exact run_fnG F hgu hr hb I1 r q'
end

/-! ### data, a dict among it -/
def kD : Key → PyData
  | .inl i => .int i
  | .inr x => .str x
mutual
inductive Dw (H : Hp) : V → PyData → Prop
  | non : Dw H .non .none
  | bl (b : Bool) : Dw H (.bl b) (.bool b)
  | int (i : Int) : Dw H (.int i) (.int i)
  | str (x : Str) : Dw H (.str x) (.str x)
  | lst {a : Addr} {xs : List V} {ds : List PyData} : H a = some (.lst xs) → DwAll H xs ds → Dw H (.ref a) (.list ds)
  | tup {a : Addr} {xs : List V} {ds : List PyData} : H a = some (.tup xs) → DwAll H xs ds → Dw H (.ref a) (.tuple ds)
  | dct {a : Addr} {kvs : List (Key × V)} {ds : List PyData} : H a = some (.dK kvs) → DwAll H (kvs.map (·.2)) ds →
      Dw H (.ref a) (.dict ((kvs.map fun p => kD p.1).zip ds))
inductive DwAll (H : Hp) : List V → List PyData → Prop
  | nil : DwAll H [] []
  | cons {v : V} {vs : List V} {d : PyData} {ds : List PyData} : Dw H v d → DwAll H vs ds → DwAll H (v :: vs) (d :: ds)
end
end L2
set_option maxHeartbeats 8000000
namespace L2
open PySem PySem.Spec PyProof.Rows

theorem keys_read {P : Program} {w : World} {h : Heap} : ∀ {es : List DictEntry} {kvs : List (Key × V)} {vs : List (Key × Value)},
    KV kvs vs → Pairs (mixKind P w) es vs → ReadsAll h (es.map (·.key)) (kvs.map fun p => kD p.1) []
  | _, _, _, .nil, .nil => .nil
  | _, p :: _, _ :: _, .cons r t, .cons hk _ hp => by
    have ih := keys_read (h := h) t hp
    have hk' := keyIs_shape (show keyIs _ _ = true from hk)
    have e1 := r.1
    refine ReadsAll.cons (as := []) (bs := []) ?_ ih
    rcases hk' with ⟨i, tk, e, e2⟩ | ⟨x, tk, e, e2⟩
    · show Reads h _ (kD p.1) []
      rw [e1, e]
      dsimp only
      rw [e2]
      exact Reads.int i tk
    · show Reads h _ (kD p.1) []
      rw [e1, e]
      dsimp only
      rw [e2]
      exact Reads.str x tk
theorem vals_of_kv {P : Program} {w : World} : ∀ {es : List DictEntry} {kvs : List (Key × V)} {vs : List (Key × Value)},
    KV kvs vs → Pairs (mixKind P w) es vs → Vals (kvs.map (·.2)) (es.map (·.val))
  | _, _, _, .nil, .nil => .nil
  | _, p :: _, q :: _, .cons r t, .cons _ hv hp => by
    have z := r.2
    rw [← hv] at z
    exact Paired.cons z (vals_of_kv t hp)
theorem zip_fs {α β : Type} : ∀ {as : List α} {bs : List β}, as.length = bs.length → (as.zip bs).map (·.1) = as := fun h => by
  rw [List.map_fst_zip]
  exact Nat.le_of_eq h
theorem zip_sd {α β : Type} : ∀ {as : List α} {bs : List β}, as.length = bs.length → (as.zip bs).map (·.2) = bs := fun h => by
  rw [List.map_snd_zip]
  exact Nat.le_of_eq h.symm
theorem DwAll.length {H : Hp} : ∀ {vs : List V} {ds : List PyData}, DwAll H vs ds → vs.length = ds.length
  | _, _, .nil => rfl
  | _ :: _, _ :: _, .cons _ t => congrArg (· + 1) (DwAll.length t)

section
variable {P : Program} {w : World} {H : Hp} {h : Heap}
mutual
theorem Dw.reads (ok : HOk P w H h) : ∀ {v : V} {d : PyData}, Dw H v d → ∀ {u : Value}, RelV v u →
    ∃ as, Reads h u d as ∧ ∀ a ∈ as, (H a).isSome = true
  | _, _, .non, _, r => by
    cases (show _ = Value.none from r)
    exact ⟨_, Reads.none, fun a z => absurd z (by simp)⟩
  | _, _, .bl b, _, r => by
    cases (show _ = Value.bool b from r)
    exact ⟨_, Reads.bool b, fun a z => absurd z (by simp)⟩
  | _, _, .int i, _, r => by
    obtain ⟨t, rfl⟩ := (show ∃ t, _ = Value.int i t from r)
    exact ⟨_, Reads.int i t, fun a z => absurd z (by simp)⟩
  | _, _, .str x, _, r => by
    obtain ⟨t, rfl⟩ := (show ∃ t, _ = Value.str x t from r)
    exact ⟨_, Reads.str x t, fun a z => absurd z (by simp)⟩
  | _, _, .lst (a := a) e hd, _, r => by
    cases (show _ = Value.ref a from r)
    obtain ⟨_, its, n, rv, ho⟩ := (show ObjOk P w H h a (.lst _) from ok a _ e)
    obtain ⟨as, q1, q2⟩ := DwAll.reads ok hd rv
    refine ⟨_, Reads.list ho rfl rfl q1, fun b z => ?_⟩
    rcases List.mem_cons.mp z with rfl | z
    · rw [e]
      rfl
    · exact q2 b z
  | _, _, .tup (a := a) e hd, _, r => by
    cases (show _ = Value.ref a from r)
    obtain ⟨_, its, rv, o, ho, hc, n, hdt⟩ := (show ObjOk P w H h a (.tup _) from ok a _ e)
    obtain ⟨as, q1, q2⟩ := DwAll.reads ok hd rv
    exact ⟨_, Reads.tuple ho hc hdt q1, q2⟩
  | _, _, .dct (a := a) e hd, _, r => by
    cases (show _ = Value.ref a from r)
    obtain ⟨_, _, vs, kv, o, es, ep, ho, hex, hdt, _, hp, _⟩ := (show ObjOk P w H h a (.dK _) from ok a _ e)
    obtain ⟨as, q1, q2⟩ := DwAll.reads ok hd (vals_of_kv kv hp)
    have hl := hd.length
    rw [List.length_map] at hl
    have k1 := keys_read (h := h) kv hp
    refine ⟨_, Reads.dict (as := []) (bs := as) ho hex.1 hdt ?_ ?_, fun b z => ?_⟩
    · rw [zip_fs (by rw [List.length_map]; exact hl)]
      exact k1
    · rw [zip_sd (by rw [List.length_map]; exact hl)]
      exact q1
    · rcases List.mem_cons.mp z with rfl | z
      · rw [e]
        rfl
      · exact q2 b z
theorem DwAll.reads (ok : HOk P w H h) : ∀ {vs : List V} {ds : List PyData}, DwAll H vs ds → ∀ {us : List Value}, Vals vs us →
    ∃ as, ReadsAll h us ds as ∧ ∀ a ∈ as, (H a).isSome = true
  | _, _, .nil, _, .nil => ⟨_, ReadsAll.nil, fun a z => absurd z (by simp)⟩
  | _, _, .cons hd ht, _, .cons r t => by
    obtain ⟨as, q1, q2⟩ := Dw.reads ok hd r
    obtain ⟨bs, q3, q4⟩ := DwAll.reads ok ht t
    refine ⟨_, ReadsAll.cons q1 q3, fun a z => ?_⟩
    rcases List.mem_append.mp z with z | z
    · exact q2 a z
    · exact q4 a z
end
end

mutual
theorem Dw.same {H H' : Hp} (S : Same H H') : ∀ {v : V} {d : PyData}, Dw H v d → Dw H' v d
  | _, _, .non => .non
  | _, _, .bl b => .bl b
  | _, _, .int i => .int i
  | _, _, .str x => .str x
  | _, _, .lst e hd => .lst (S _ _ e) (DwAll.same S hd)
  | _, _, .tup e hd => .tup (S _ _ e) (DwAll.same S hd)
  | _, _, .dct e hd => .dct (S _ _ e) (DwAll.same S hd)
theorem DwAll.same {H H' : Hp} (S : Same H H') : ∀ {vs : List V} {ds : List PyData}, DwAll H vs ds → DwAll H' vs ds
  | _, _, .nil => .nil
  | _, _, .cons hd ht => .cons (Dw.same S hd) (DwAll.same S ht)
end

/-- repr(x), x a list, tuple or dict of data -/
def rRepr : List V → Hp → VK → Prop := fun xs H Q => ∃ (a : Addr) (d : PyData), xs = [.ref a] ∧ Dw H (.ref a) d ∧
  d.showable = true ∧ d.depth ≤ 60 ∧ d.shown.length ≤ sizeLine ∧ Q (.str d.shown) H
theorem call_reprD {X : Cx} (hgu : X.A.guards = some []) (hu : X.A.units + 64 < cLine)
    (hsys : (X.K.lookup sysModules).isSome = true) : CallR X (.builtin "repr") rRepr := by
  intro pins s σ H xs us Q I r h
  obtain ⟨a, d, rfl, hd, h1, h2, h3, q⟩ := h
  obtain ⟨u, rfl, ru⟩ := vals1 r
  have ru' : u = Value.ref a := ru
  subst ru'
  obtain ⟨as, hr, hm⟩ := Dw.reads I.hok hd ru
  have hno : sysModules ∉ as := fun z => by
    have e := hm _ z
    obtain ⟨o, ho⟩ := Option.isSome_iff_exists.mp hsys
    rw [(I.bs _ _ (I.mod.kin _ _ ho)).2] at e
    cases e
  refine repr_of_reads' hr h1 (fun _ => hno) hgu (by omega) (fun b o e => e) (fun h' tk1 tk k => ?_) h3
  exact ⟨.str d.shown, H, I.kept k, ⟨_, rfl⟩, q⟩
end L2
set_option maxHeartbeats 8000000
/-! the law's own call, which is outside of any repr -/
namespace L2
open PySem PySem.Spec PyProof.Rows

theorem law_callG {P : Program} {w : World} {K : PySem.W.Frag} {mg mb : Str → Option Value} {k : Nat} {fa a : Addr}
    {fd : FuncData} {x : Str} {sp : Sp} {s1 : Shared} {vs : List Value} {ns : List Int}
    (KX : K.In s1.heap) (hns : s1.heap.Ns mainGlobals mg) (hb : s1.heap.Ns builtinsNs mb)
    (hbb : ∀ x : Str, x ≠ "__name__" → mb x = bootBuiltins x) (hlim : s1.heap.NoLimit) (hg : s1.gens = #[])
    (ha : s1.heap.get? a = some { cls := .type "list", data := .seq vs.toArray }) (hi : IntsAre vs ns)
    (hl : ns.length ≤ sizeLine) (hr : Room k callerA)
    (F : ∀ base : Heap, K.In base → base.Ns mainGlobals mg → FnG P w K mg base k fa fd [x] sp)
    (hbind : ∀ (s : Shared) (u : Value), BindsTo s fd ⟨[u], []⟩ [(x, u)])
    (hsp : ∀ H : Hp, Only H → SqL K H a (ns.map V.int) → sp [.ref a] H (fun v _ => v = .bl true) E0) :
    codeAny (model P w) callerA (.call (.ref fa) ⟨[.ref a], []⟩)
      (fun r s' => r = .ok (.ret (.bool true)) ∧ OldK s1.heap s'.heap ∧ s'.os = s1.os ∧ AllBare s'.gens) s1 := by
  have rv := vals_ints hi
  have lenV := hi.length
  have core : ∀ H : Hp, Only H → SqL K H a (ns.map V.int) → HOk P w H s1.heap →
      (∀ b, H b ≠ none → b = a) → (H a ≠ none → K.lookup a = none) →
      codeAny (model P w) callerA (.call (.ref fa) ⟨[.ref a], []⟩)
        (fun r s' => r = .ok (.ret (.bool true)) ∧ OldK s1.heap s'.heap ∧ s'.os = s1.os ∧ AllBare s'.gens) s1 := by
    intro H hO hS hok hA hK
    have nowhere : ∀ b, b ≠ a → H b = none := fun b ne => by
      cases q : H b with
      | none => rfl
      | some u => exact absurd (hA b (by rw [q]; simp)) ne
    have baseOf : ∀ {b : Addr} {o : Obj}, s1.heap.get? b = some o → H b = none →
        (hidT s1.heap H).get? b = some o := fun e n => hidT_get e n
    have noA : ∀ {b : Addr} {o : Obj} {es : Array DictEntry} {ep : Nat}, s1.heap.get? b = some o →
        o.data = .dict es ep → H b = none := fun {b o es ep} e d => by
      refine nowhere b fun z => ?_
      rw [z, ha] at e
      cases e
      exact nomatch (show Data.seq vs.toArray _ = Data.dict es ep from d)
    have nsK : ∀ {b : Addr} {m : Str → Option Value}, s1.heap.Ns b m → (hidT s1.heap H).Ns b m :=
      fun {b m} ⟨o, es, ep, e, d, r⟩ => ⟨o, es, ep, baseOf e (noA e d), d, r⟩
    have hKb : K.In (hidT s1.heap H) := fun b o e => baseOf (KX b o e) (by
      cases q : H b with
      | none => rfl
      | some u =>
        have e' : b = a := hA b (by rw [q]; simp)
        have n1 := hK (by rw [← e', q]; simp)
        rw [← e', e] at n1
        cases n1)
    have hM : Mod K mg (hidT s1.heap H) := by
      obtain ⟨mc, h1, h2⟩ := hlim
      exact ⟨hKb, nsK hns, ⟨mb, nsK hb, hbb⟩, ⟨mc, nsK h1, h2⟩⟩
    have e0 : Env0 P w K mg (hidT s1.heap H) callerA [] s1 H :=
      ⟨rfl, hM, fun b o e => of_hidT e, Nat.le_of_eq (hidT_size _ _), trivial,
        fun b hb => absurd (show b ∈ ([] : List Addr) from hb) (by simp), hok, .of_eq hg⟩
    have run := (F _ hKb (nsK hns)).run callerA [] s1 H ⟨[.ref a], []⟩ [.ref a] [.ref a] _ rfl hr e0
      (hbind s1 (.ref a)) (.cons rfl .nil) (hsp H hO hS)
    refine codeAny_mono run fun r s' h => ?_
    cases r with
    | error e => exact False.elim h
    | ok fl =>
      cases fl with
      | next => exact False.elim h
      | brk => exact False.elim h
      | cont => exact False.elim h
      | ret u =>
        obtain ⟨v, H', os, bare, un, hok', r', q⟩ := h
        have q' : v = .bl true := q
        subst q'
        have eu : u = Value.bool true := r'
        subst eu
        refine ⟨rfl, OldK.of_keep fun b o e => ?_, os, bare⟩
        cases q : H b with
        | none => exact un.keep b o e q (fun z => absurd (show b ∈ ([] : List Addr) from z) (by simp)) (by simp)
        | some u =>
          rcases hO b with z | ⟨ob, xs, z⟩
          · rw [q] at z
            cases z
          · obtain ⟨e1, _⟩ := hok b _ z
            obtain ⟨e2, _⟩ := hok' b _ (un.frzs b ob _ z)
            rw [e] at e1
            rw [Option.some.inj e1]
            exact e2
  cases hk : K.lookup a with
  | some o =>
    have e := KX a o hk
    rw [ha] at e
    cases e
    refine core (fun _ => none) (fun _ => .inl rfl) (.inr ⟨_, vs.toArray, _, hk, rfl, rfl, rfl, ?_, ?_⟩)
      (fun b u z => nomatch (show (none : Option HO) = some u from z)) (fun b z => absurd rfl z) fun z => absurd rfl z
    · rw [List.size_toArray, lenV]
      exact hl
    · simpa using rv
  | none =>
    let Hs : Hp := fun b => if b = a then
      some (.frz { cls := .type "list", data := .seq vs.toArray } (.lst (ns.map V.int))) else none
    have Hs1 : Hs a = some (.frz { cls := .type "list", data := .seq vs.toArray } (.lst (ns.map V.int))) := if_pos rfl
    have Hs2 : ∀ {b}, b ≠ a → Hs b = none := fun ne => if_neg ne
    refine core Hs (fun b => ?_) (.inl (.inr ⟨_, Hs1⟩)) (fun b u z => ?_) (fun b z => ?_) fun _ => hk
    · by_cases hb : b = a
      · subst hb
        exact .inr ⟨_, _, Hs1⟩
      · exact .inl (Hs2 hb)
    · by_cases hb : b = a
      · subst hb
        rw [Hs1] at z
        cases z
        refine ⟨ha, ?_, vs, _, rv, ha⟩
        rw [List.length_map]
        exact hl
      · rw [Hs2 hb] at z
        cases z
    · by_cases hb : b = a
      · exact hb
      · exact absurd (Hs2 hb) z

theorem walk_ofG {l : PySem.W.OpenLaw} {n k : Nat} {q : Program} {loose : List Str}
    {XP : (Str → Option Value) → Heap → Prop} {YP : World → Heap → Prop} {d : DefRec} {K : Params → PySem.W.Frag}
    {sp : World → Sp} {x : Str} (hn : l.most = some n) (hn2 : n ≤ sizeLine) (hdf : d.params.defaults = [])
    (hr : Room k callerA) (hY : ∀ (w : World) (h : Heap), YP w h → (K w.params).In h)
    (F : ∀ (w : World) (mg : Str → Option Value) (fa : Addr) (h : Heap), (K w.params).In h → h.Ns mainGlobals mg →
      mg d.name = some (.ref fa) → ∃ fd : FuncData, (∀ (s : Shared) (u : Value), BindsTo s fd ⟨[u], []⟩ [(x, u)]) ∧
        ∀ base : Heap, (K w.params).In base → base.Ns mainGlobals mg → FnG l.prog w (K w.params) mg base k fa fd [x] (sp w))
    (hsp : ∀ (w : World) (H : Hp) (a : Addr) (ns : List Int), ns.length ≤ n → Only H →
      SqL (K w.params) H a (ns.map V.int) → sp w [.ref a] H (fun v _ => v = .bl true) E0) :
    PySem.W.WalkO q loose XP YP l.row.toRowW d [] (fun f vs => PySem.call f vs) := by
  refine Att.attach_call hn hdf fun w s0 s1 mg mb fa o pm cd doc a vs ns G Y ho hd hcd hmg hobj hints hlen hg => ?_
  have KX := hY w _ Y
  obtain ⟨fd, hb, hF⟩ := F w mg fa _ KX G.T.g hmg
  exact law_callG KX G.T.g G.T.b G.T.builtins G.T.nolimit hg hobj hints (Nat.le_trans hlen hn2) hr hF hb
    fun H hO hS => hsp w H a ns hlen hO hS
end L2
set_option maxHeartbeats 8000000
namespace K13
open PySem PySem.Spec PyProof.Rows L2

def top (i : Nat) : Stmt := PySem.Challenge.pw_anyshape_k13_texts_of_sizes.main.body.getD i (.Pass ⟨0, 0, 0, 0⟩)
abbrev sRng : Stmt := top 30
abbrev sDraw : Stmt := top 31
abbrev sChoice : Stmt := top 32
abbrev sThing : Stmt := top 33
abbrev sPlaced : Stmt := top 54
abbrev sNamed : Stmt := top 32
abbrev sFields : Stmt := top 33
abbrev sTruths : Stmt := top 54
abbrev sMade : Stmt := top 34
abbrev sRight : Stmt := top 56
abbrev sLaw : Stmt := top 57

/-- the built-in names that are still built-in -/
structure Nb (mg : Str → Option Value) : Prop where
  len : mg "len" = none
  max : mg "max" = none
  min : mg "min" = none
  abs : mg "abs" = none
  int : mg "int" = none
  divmod : mg "divmod" = none
  repr : mg "repr" = none
  isi : mg "isinstance" = none
  range : mg "range" = none
  enum : mg "enumerate" = none
  all : mg "all" = none

/-! ### the promises -/
/-- _law_rng(script, k): a new list of two numbers -/
def spRng (K : PySem.W.Frag) : Sp := fun vs H Q _ => ∃ (a : Addr) (ns : List Int) (k : Int), vs = [.ref a, .int k] ∧
  SqL K H a (ns.map V.int) ∧ 0 ≤ k ∧ k ≤ 100 ∧ ns.length ≤ 1000 ∧
  ∀ (p : Addr) (x y : Int), H p = none → 0 ≤ x → 0 ≤ y → y < 4294967296 → Q (.ref p) (upd H p (.lst [.int x, .int y]))
/-- the numbers at r -/
def Rg (H : Hp) (r : Addr) : Prop := ∃ x y : Int, H r = some (.lst [.int x, .int y]) ∧ 0 ≤ x ∧ 0 ≤ y ∧ y < 4294967296
/-- all but what stands at r is kept -/
def But (r : Addr) (H H' : Hp) : Prop := ∀ b o, b ≠ r → H b = some o → H' b = some o
theorem But.trans {r : Addr} {H H1 H2 : Hp} (a : But r H H1) (b : But r H1 H2) : But r H H2 :=
  fun c o ne e => b c o ne (a c o ne e)
/-- _law_draw(rng, many) -/
def spDraw : Sp := fun vs H Q _ => ∃ (r : Addr) (m : Int), vs = [.ref r, .int m] ∧ Rg H r ∧ 0 < m ∧ m ≤ 1000000 ∧
  ∀ (H' : Hp) (d : Int), 0 ≤ d → d < m → Rg H' r → But r H H' → Q (.int d) H'
/-- _law_choice(rng, some), some a list -/
def spChoice : Sp := fun vs H Q _ => ∃ (r l : Addr) (xs : List V), vs = [.ref r, .ref l] ∧ Rg H r ∧ l ≠ r ∧
  H l = some (.lst xs) ∧ 0 < xs.length ∧ xs.length < 1000000 ∧
  ∀ (H' : Hp) (v : V), v ∈ xs → Rg H' r → But r H H' → Q v H'

section
variable {P : Program} {w : World} {K : PySem.W.Frag} {mg : Str → Option Value} {base : Heap}

theorem scRng : FnScope ["_law_script", "_law_k", "_law_cell"] ["_law_script", "_law_k"] (defScope sRng) :=
  ⟨rfl, rfl, rfl, by decide +kernel, rfl, by decide +kernel, by decide +kernel⟩

theorem rng_end {c k : Int} (hk : 0 ≤ k) (hk2 : k ≤ 100) :
    (0 ≤ (if (if c < 0 then -c else c) - 10 ^ 18 > 0 then (if c < 0 then -c else c) - 10 ^ 18 else (0 : Int))) ∧
    (∀ z : Int, 0 ≤ z → 0 ≤ z * (2 * k + 7) ^ 3 % 2147483489 + 1) ∧
    (∀ z : Int, z * (2 * k + 7) ^ 3 % 2147483489 + 1 < 4294967296) := by
  refine ⟨?_, fun z hz => ?_, fun z => ?_⟩
  · split <;> omega
  · have := Int.emod_nonneg (z * (2 * k + 7) ^ 3) (show (2147483489 : Int) ≠ 0 by decide)
    omega
  · have := Int.emod_lt_of_pos (z * (2 * k + 7) ^ 3) (show (0 : Int) < 2147483489 by decide)
    omega

theorem ok_rng {f : Addr} {fd : FuncData} (F : Fun K "_law_rng" "_law_rng" sRng f fd) (T : Nb mg) :
    FnOk P w K mg base CX0 1 f fd ["_law_script", "_law_k"] (spRng K) := by
  refine F.ok scRng (fun vs H Q E h => ?_) (fun cdv A outer s H vs Q E hr h => ?_)
  · obtain ⟨a, ns, k, rfl, _⟩ := h
    rfl
  · obtain ⟨a, ns, k, rfl, hS, hk, hk2, hn, q⟩ := h
    refine ⟨_, pss_cons (ps_set (i := 2) scRng.nd rfl (.inl rfl) (pe_op op_add (pe_op op_mul pe_int (pv 1)) pe_int))
      (pss_cons (ps_if (pt_cmpR op_lt (pv 1) (pe_callB call_len_seq (by rfl) T.len PySem.boot_len (pa_cons (pv 0) pa_nil)) (nomark _))
        (pss_one (ps_set (i := 2) scRng.nd rfl (.inl rfl) (pe_ix ix_list (pv 0) (pv 1) (fun _ _ => rfl)))) pss_nil)
      (pss_one (ps_ret (pe_lst (pa_cons
        (pe_callB (call_max2 rfl) (by rfl) T.max (by decide +kernel) (pa_cons pe_int (pa_cons
          (pe_op op_sub (pe_callB call_abs (by rfl) T.abs (by decide +kernel) (pa_cons (pv 2) pa_nil)) (pe_op op_pow pe_int pe_int)) pa_nil)))
        (pa_cons (pe_op op_add (pe_op op_mod (pe_op op_mul
          (pe_callTy call_int1 (by rfl) T.int (by decide +kernel) (pa_cons
            (pe_op op_add (pe_op op_mod (pe_callTy call_int1 (by rfl) T.int (by decide +kernel) (pa_cons
              (pe_callB call_abs (by rfl) T.abs (by decide +kernel) (pa_cons (pv 2) pa_nil)) pa_nil)) pe_int) pe_int) pa_nil))
          (pe_op op_pow (pe_op op_add (pe_op op_mul pe_int (pv 1)) pe_int) pe_int)) pe_int) pe_int) pa_nil)))))), ?_⟩
    have fin : ∀ c : Int, ∀ p : Addr, H p = none → Q (.ref p) (upd H p (.lst [
        .int (if (if c < 0 then -c else c) - 10 ^ 18 > 0 then (if c < 0 then -c else c) - 10 ^ 18 else 0),
        .int (((if c < 0 then -c else c) % 2147483549 + 1) * (2 * k + 7) ^ 3 % 2147483489 + 1)])) := fun c p hp => by
      obtain ⟨h1, h2, h3⟩ := rng_end (c := c) hk hk2
      refine q p _ _ hp h1 (h2 _ ?_) (h3 _)
      have := Int.emod_nonneg (if c < 0 then -c else c) (show (2147483549 : Int) ≠ 0 by decide)
      omega
    have ret : ∀ c : Int, ∀ σ : L2.St, σ = [some (.ref a), some (.int k), some (.int c)] →
        tRet (tLst (tCons
            (tCB (fun xs H Q => ∃ i j, xs = [V.int i, V.int j] ∧ Q (V.int (if j > i then j else i)) H)
              (tCons (tC (V.int 0)) (tCons (tOp (rI0 fun i j => V.int (i - j))
                (tCB (fun xs H Q => ∃ i, xs = [V.int i] ∧ Q (V.int (if i < 0 then -i else i)) H) (tCons (tVar 2) tNil))
                (tOp (rI CPow fun i j => V.int (i ^ j.toNat)) (tC (V.int 10)) (tC (V.int 18)))) tNil)))
            (tCons (tOp (rI0 fun i j => V.int (i + j)) (tOp (rI (fun x j => 0 < j) fun i j => V.int (i % j))
              (tOp (rI CMul fun i j => V.int (i * j))
                (tCB (fun xs H Q => (∃ i, xs = [V.int i] ∧ Q (V.int i) H) ∨ ∃ k, xs = [V.bl k] ∧ Q (V.int (if k = true then 1 else 0)) H)
                  (tCons (tOp (rI0 fun i j => V.int (i + j)) (tOp (rI (fun x j => 0 < j) fun i j => V.int (i % j))
                    (tCB (fun xs H Q => (∃ i, xs = [V.int i] ∧ Q (V.int i) H) ∨ ∃ k, xs = [V.bl k] ∧ Q (V.int (if k = true then 1 else 0)) H)
                      (tCons (tCB (fun xs H Q => ∃ i, xs = [V.int i] ∧ Q (V.int (if i < 0 then -i else i)) H) (tCons (tVar 2) tNil)) tNil))
                    (tC (V.int 2147483549))) (tC (V.int 1))) tNil))
                (tOp (rI CPow fun i j => V.int (i ^ j.toNat)) (tOp (rI0 fun i j => V.int (i + j))
                  (tOp (rI CMul fun i j => V.int (i * j)) (tC (V.int 2)) (tVar 1)) (tC (V.int 7))) (tC (V.int 3))))
              (tC (V.int 2147483489))) (tC (V.int 1))) tNil)))
          { nx := fun x H' => Q V.non H', rt := Q } σ H := by
      intro c σ hσ
      subst hσ
      have b1 := Int.emod_nonneg (if c < 0 then -c else c) (show (2147483549 : Int) ≠ 0 by decide)
      have b2 := Int.emod_lt_of_pos (if c < 0 then -c else c) (show (0 : Int) < 2147483549 by decide)
      refine ⟨_, rfl, _, rfl, _, _, rfl, rfl, ⟨by decide, by decide, by decide⟩, _, _, rfl, rfl, _, _, rfl, ?_⟩
      refine ⟨_, rfl, _, rfl, .inl ⟨_, rfl, ?_⟩⟩
      refine ⟨_, _, rfl, rfl, (by show (0 : Int) < 2147483549; decide), _, _, rfl, rfl, .inl ⟨_, rfl, ?_⟩⟩
      refine ⟨_, rfl, _, _, rfl, rfl, .inl ⟨by decide, by decide⟩, _, _, rfl, rfl, _, _, rfl, rfl, ⟨by decide, by decide, by omega⟩, ?_⟩
      refine ⟨_, _, rfl, rfl, .inl ⟨by omega, by omega⟩, _, _, rfl, rfl, (by show (0 : Int) < 2147483489; decide), _, _, rfl, rfl, ?_⟩
      refine ⟨by show 2 ≤ sizeLine; rw [sizeLine_eq]; decide, fun p hp => ?_⟩
      exact fin c p hp
    refine ⟨_, rfl, _, _, rfl, rfl, .inl ⟨by decide, by decide⟩, _, _, rfl, rfl, ?_⟩
    refine ⟨_, rfl, _, rfl, a, _, rfl, .inl hS, _, _, rfl, rfl, _, rfl, ?_⟩
    refine ite2 (fun hlt => ?_) fun _ => ?_
    · have hlt' := of_decide_eq_true hlt
      rw [List.length_map] at hlt'
      obtain ⟨j, rfl⟩ : ∃ j : Nat, k = (j : Int) := ⟨k.toNat, by omega⟩
      have hj : j < ns.length := by omega
      refine ⟨_, rfl, _, rfl, a, _, _, .int ns[j], rfl, rfl, hS, atI_nat ?_, ?_⟩
      · rw [List.getElem?_map, List.getElem?_eq_getElem hj]
        rfl
      · exact ret ns[j] _ rfl
    · exact ret (17 * k + 5) _ rfl
end
end K13
set_option maxHeartbeats 8000000
namespace K13
open PySem PySem.Spec PyProof.Rows L2
section
variable {P : Program} {w : World} {K : PySem.W.Frag} {mg : Str → Option Value} {base : Heap}

theorem scDraw : FnScope ["_law_rng_here", "_law_many", "_law_digit"] ["_law_rng_here", "_law_many"] (defScope sDraw) :=
  ⟨rfl, rfl, rfl, by decide +kernel, rfl, by decide +kernel, by decide +kernel⟩
theorem two_size : ([V.int 0, V.int 0] : List V).length ≤ sizeLine := by
  show 2 ≤ sizeLine
  rw [sizeLine_eq]
  decide
theorem at0 (x y : Int) : atI [V.int x, V.int y] 0 = some (.int x) := rfl
theorem at1 (x y : Int) : atI [V.int x, V.int y] 1 = some (.int y) := rfl

theorem ok_draw {f : Addr} {fd : FuncData} (F : Fun K "_law_draw" "_law_draw" sDraw f fd) (T : Nb mg) :
    FnOk P w K mg base CX0 1 f fd ["_law_rng_here", "_law_many"] spDraw := by
  refine F.ok scDraw (fun vs H Q E h => ?_) (fun cdv A outer s H vs Q E hr h => ?_)
  · obtain ⟨r, m, rfl, _⟩ := h
    rfl
  · obtain ⟨r, m, rfl, ⟨x, y, hR, hx, hy, hy2⟩, hm, hm2, q⟩ := h
    refine ⟨_, pss_cons (ps_if (pt_cmpR op_gt (pe_ix ix_list (pv 0) pe_int (fun _ _ => rfl)) pe_int (nomark _))
        (pss_cons (ps_asg (pe_callB call_divmod (by rfl) T.divmod (by decide +kernel)
            (pa_cons (pe_ix ix_list (pv 0) pe_int (fun _ _ => rfl)) (pa_cons (pv 1) pa_nil)))
          (pg_tup rfl (pgs_cons (pg_sub (pv 0) pe_int set_list) (pgs_cons (pg_name (i := 2) scDraw.nd rfl (Or.inl rfl)) pgs_nil))))
        (pss_one (ps_ret (pv 2)))) pss_nil)
      (pss_cons (ps_asg (pe_op op_mod (pe_callTy call_int1 (by rfl) T.int (by decide +kernel) (pa_cons
          (pe_op op_add (pe_op op_mul (pe_ix ix_list (pv 0) pe_int (fun _ _ => rfl)) pe_int) pe_int) pa_nil)) pe_int)
          (pg_sub (pv 0) pe_int set_list))
      (pss_one (ps_ret (pe_op op_mod (pe_op op_fdiv (pe_op op_mod (pe_callTy call_int1 (by rfl) T.int (by decide +kernel)
        (pa_cons (pe_op op_mul (pe_ix ix_list (pv 0) pe_int (fun _ _ => rfl)) (pe_ix ix_list (pv 0) pe_int (fun _ _ => rfl))) pa_nil))
        pe_int) pe_int) (pv 1))))), ?_⟩
    refine ⟨_, rfl, r, _, _, _, rfl, rfl, SqL.of hR, at0 x y, _, _, rfl, rfl, _, rfl, ?_⟩
    refine ite2 (fun hgt => ?_) fun _ => ?_
    · refine ⟨_, rfl, r, _, _, _, rfl, rfl, SqL.of hR, at0 x y, _, rfl, _, _, rfl, ⟨hm, by omega⟩, fun p hp => ?_⟩
      have npr : p ≠ r := Ne.symm (ne_of_none hR hp)
      have hR1 : upd H p (.tup [.int (x / m), .int (x % m)]) r = some (.lst [.int x, .int y]) := by
        rw [upd_ne npr.symm]
        exact hR
      refine ⟨p, _, rfl, SqT.of upd_same, rfl, ?_⟩
      refine ⟨_, _, rfl, ⟨_, rfl, r, _, _, _, rfl, rfl, hR1, rfl, ?_⟩⟩
      refine ⟨_, _, rfl, rfl, ?_⟩
      refine ⟨_, rfl, ?_⟩
      refine q _ _ (Int.emod_nonneg _ (by omega)) (Int.emod_lt_of_pos _ hm) ⟨x / m, y, upd_same, Int.ediv_nonneg hx (by omega), hy, hy2⟩ ?_
      intro b o ne e
      rw [upd_ne ne, upd_ne (ne_of_none e hp)]
      exact e
    · have c1 := Int.emod_nonneg (y * 40693 + 27017) (show (2147483563 : Int) ≠ 0 by decide)
      have c2 := Int.emod_lt_of_pos (y * 40693 + 27017) (show (0 : Int) < 2147483563 by decide)
      refine ⟨_, rfl, r, _, _, _, rfl, rfl, SqL.of hR, at1 x y, _, _, rfl, rfl, .inl ⟨by omega, by omega⟩, _, _, rfl, rfl, .inl ⟨_, rfl, ?_⟩⟩
      refine ⟨_, _, rfl, rfl, (by show (0 : Int) < 2147483563; decide), ?_⟩
      refine ⟨_, rfl, r, _, _, _, rfl, rfl, hR, rfl, ?_⟩
      refine ⟨_, rfl, r, _, _, _, rfl, rfl, SqL.of upd_same, at1 x _, _, rfl, r, _, _, _, rfl, rfl, SqL.of upd_same, at1 x _, ?_⟩
      refine ⟨_, _, rfl, rfl, .inl ⟨by omega, by omega⟩, .inl ⟨_, rfl, ?_⟩⟩
      refine ⟨_, _, rfl, rfl, (by show (0 : Int) < 2147483477; decide), _, _, rfl, rfl, ⟨by decide, by decide⟩, _, rfl, _, _, rfl, rfl, hm, ?_⟩
      refine q _ _ (Int.emod_nonneg _ (by omega)) (Int.emod_lt_of_pos _ hm) ⟨x, _, upd_same, hx, c1, by omega⟩ ?_
      intro b o ne e
      rw [upd_ne ne]
      exact e

/-! ### _law_choice -/
theorem scChoice : FnScope ["_law_rng_here", "_law_some"] ["_law_rng_here", "_law_some"] (defScope sChoice) :=
  ⟨rfl, rfl, rfl, by decide +kernel, rfl, by decide +kernel, by decide +kernel⟩
theorem ok_choice {f fD : Addr} {fd fdD : FuncData} (F : Fun K "_law_choice" "_law_choice" sChoice f fd) (T : Nb mg)
    (FD : Fun K "_law_draw" "_law_draw" sDraw fD fdD) (bD : Binds K fdD ["_law_rng_here", "_law_many"] [])
    (gD : mg "_law_draw" = some (.ref fD)) :
    FnOk P w K mg base CX0 2 f fd ["_law_rng_here", "_law_some"] spChoice := by
  have GD : FnOk P w K mg base CX0 1 fD fdD ["_law_rng_here", "_law_many"] spDraw := ok_draw FD T
  refine F.ok scChoice (fun vs H Q E h => ?_) (fun cdv A outer s H vs Q E hr h => ?_)
  · obtain ⟨r, l, xs, rfl, _⟩ := h
    rfl
  · obtain ⟨r, l, xs, rfl, hR, hne, hl, h0, h1, q⟩ := h
    refine ⟨_, pss_one (ps_ret (pe_ix ix_list (pv 1) (pe_call GD hr rfl gD FD.kp bD .nil pass0
      (pa_cons (pv 0) (pa_cons (pe_callB call_len_seq (by rfl) T.len PySem.boot_len (pa_cons (pv 1) pa_nil)) pa_nil)))
      (fun _ _ => rfl))), ?_⟩
    refine ⟨_, rfl, _, rfl, _, rfl, l, _, rfl, .inl (SqL.of hl), ?_⟩
    refine ⟨r, _, rfl, hR, by omega, by omega, fun H' d d0 d1 hR' hB => ?_⟩
    obtain ⟨j, rfl⟩ : ∃ j : Nat, d = (j : Int) := ⟨d.toNat, by omega⟩
    have hj : j < xs.length := by omega
    refine ⟨l, xs, _, xs[j], rfl, rfl, SqL.of (hB _ _ hne hl), atI_nat (List.getElem?_eq_getElem hj), ?_⟩
    exact q H' _ (List.getElem_mem hj) hR' hB
end
end K13
set_option maxHeartbeats 8000000
namespace K13
open PySem PySem.Spec PyProof.Rows L2

abbrev sIsInt : Stmt := top 9
abbrev sIsName : Stmt := top 13

/-- a statement that is never come to -/
theorem ps_no {X : Cx} {st : Stmt} : PS X st (fun _ _ _ => False) := ⟨fun _ _ _ _ _ _ h => h.elim⟩

/-- the built-in names of the kinds -/
structure Nk (mg : Str → Option Value) : Prop where
  isi : mg "isinstance" = none
  int : mg "int" = none
  bool : mg "bool" = none
  str : mg "str" = none
  dict : mg "dict" = none
  len : mg "len" = none
  all : mg "all" = none

/-- is_integer(i) -/
def spIsInt : Sp := fun vs H Q _ => ∃ i : Int, vs = [.int i] ∧ Q (.bl true) H
def spIsCount : Sp := fun vs H Q _ => ∃ i : Int, vs = [.int i] ∧ Q (.bl (decide (0 ≤ i))) H
def abc : Str := "abcdefghijklmnopqrstuvwxyz"
/-- one to eight letters -/
def isNm (x : Str) : Bool := decide (1 ≤ x.length) && (decide (x.length ≤ 8) && x.cps.toList.all fun c => decide (c ∈ abc.cps.toList))
def spIsName (K : PySem.W.Frag) : Sp := fun vs H Q _ => (∃ x : Str, vs = [.str x] ∧ x.length ≤ 1000000 ∧ ∀ H', Same H H' → Q (.bl (isNm x)) H') ∨
  (∃ (v : V) (t : Value), vs = [v] ∧ TyX K H v t ∧ PySem.W.kitOne K t (.type "str") = some false ∧ Q (.bl false) H)

section
variable {P : Program} {w : World} {K : PySem.W.Frag} {mg : Str → Option Value} {base : Heap}
theorem scInt : FnScope ["value"] ["value"] (defScope sIsInt) :=
  ⟨rfl, rfl, rfl, by decide +kernel, rfl, by decide +kernel, by decide +kernel⟩
theorem ok_isint {f : Addr} {fd : FuncData} (F : Fun K "is_integer" "is_integer" sIsInt f fd) (T : Nk mg) :
    FnOk P w K mg base CX0 1 f fd ["value"] spIsInt := by
  refine F.ok scInt (fun vs H Q E h => ?_) (fun cdv A outer s H vs Q E hr h => ?_)
  · obtain ⟨i, rfl, _⟩ := h
    rfl
  · obtain ⟨i, rfl, q⟩ := h
    refine ⟨_, pss_one (ps_ret (pe_and (pe_callB call_isi (by rfl) T.isi (by decide +kernel) (pa_cons (pv 0) (pa_cons (pe_bltn (v := .ty "int") (u := .type "int") (by rfl) T.int (by decide +kernel) rfl) pa_nil)))
      (pe_one (pe_not (pe_callB call_isi (by rfl) T.isi (by decide +kernel) (pa_cons (pv 0) (pa_cons (pe_bltn (v := .ty "bool") (u := .type "bool") (by rfl) T.bool (by decide +kernel) rfl) pa_nil))))))), ?_⟩
    refine ⟨_, rfl, _, _, _, _, true, rfl, .ty _, .base (.int i), kit_ty (by decide +kernel), _, rfl, ?_⟩
    rw [if_pos rfl]
    refine ⟨_, rfl, _, _, _, _, false, rfl, .ty _, .base (.int i), kit_ty (by decide +kernel), _, rfl, ?_⟩
    exact q
theorem iteT' {c : Bool} {A B : Prop} (hc : c = true) (h : A) : if c = true then A else B := by
  rw [if_pos hc]
  exact h
theorem iteN' {c : Prop} [Decidable c] {A B : Prop} (hc : ¬ c) (h : B) : if decide c = true then A else B := by
  rw [decide_eq_false hc]
  exact iteF h
theorem fresh_upd {H : Hp} {p : Addr} {o : HO} (n : H p = none) : Same H (upd H p o) := fun b u e => by
  rw [upd_ne (ne_of_none e n)]
  exact e
structure Nn2 (mg : Str → Option Value) : Prop where
  lng : ∃ t, mg "LONGEST_NAME" = some (.int 8 t)
  let_ : ∃ t, mg "LETTERS" = some (.str abc t)
def NIn : List Str := ["value", "letter"]
theorem scName : FnScope NIn ["value"] (defScope sIsName) :=
  ⟨rfl, rfl, rfl, by decide +kernel, rfl, by decide +kernel, by decide +kernel⟩
theorem ok_isname {f : Addr} {fd : FuncData} (F : Fun K "is_name" "is_name" sIsName f fd) (T : Nk mg) (T2 : Nn2 mg) :
    FnOk P w K mg base CX0 1 f fd ["value"] (spIsName K) := by
  obtain ⟨tl, gl⟩ := T2.lng
  obtain ⟨ta, ga⟩ := T2.let_
  refine F.ok scName (fun vs H Q E h => ?_) (fun cdv A outer s H vs Q E hr h => ?_)
  · rcases h with ⟨x, rfl, _⟩ | ⟨v, t, rfl, _⟩
    · rfl
    · rfl
  · refine ⟨_, pss_cons (ps_if (PW.pt (pw_or (pt_not (pt_val (pe_callB call_isi (by rfl) T.isi (by decide +kernel) (pa_cons (pv 0) (pa_cons (pe_bltn (v := .ty "str") (u := .type "str") (by rfl) T.str (by decide +kernel) rfl) pa_nil)))))
        (pw_or (pt_cmpR op_lt (pe_callB call_len_str (by rfl) T.len PySem.boot_len (pa_cons (pv 0) pa_nil)) pe_int (nomark _))
          (pw_or1 (pt_cmpR op_gt (pe_callB call_len_str (by rfl) T.len PySem.boot_len (pa_cons (pv 0) pa_nil)) (pe_glob (v := .int 8) (by rfl) gl ⟨tl, rfl⟩) (nomark _))))))
        (pss_one (ps_ret pe_bl)) pss_nil)
      (pss_one (ps_ret (pe_callB (cr_all rfl) (by rfl) T.all (by decide +kernel) (pa_cons
        (pe_lc (own := [("letter", 1)]) (g := gName 1) (tt := tYes) (te := tOp rInS (tVar 1) (tC (.str abc))) rfl scName.nd (pi_str (pv 0))
          (blkOk_by (own := [("letter", 1)]) (N := NIn) (sc := defScope sIsName) (by decide +kernel)) (fun _ _ _ _ _ => pg_name (i := 1) scName.nd rfl (Or.inl rfl))
          (fun _ _ _ _ _ => pts_nil) (fun _ _ _ _ _ => by exact pe_cmpR op_inS (pv 1) (pe_glob (v := .str abc) (by rfl) ga ⟨ta, rfl⟩) rfl)) pa_nil)))), ?_⟩
    rcases h with ⟨x, rfl, hx, q⟩ | ⟨v, t, rfl, ht, hk, q⟩
    · refine ⟨_, rfl, _, _, _, _, true, rfl, .ty _, .base (.str x), kit_ty (by decide +kernel), _, rfl, ?_⟩
      refine iteF ?_
      refine ⟨_, rfl, _, rfl, by rw [sizeLine_eq]; omega, _, _, rfl, rfl, _, rfl, ?_⟩
      refine ite2 (fun h1 => ?_) fun h1 => ?_
      · have h1' := of_decide_eq_true h1
        refine iteT' rfl ?_
        have e : isNm x = false := by
          unfold isNm
          rw [decide_eq_false (by omega)]
          rfl
        rw [← e]
        exact q H (Same.refl H)
      · refine ⟨_, rfl, _, rfl, by rw [sizeLine_eq]; omega, _, _, rfl, rfl, _, rfl, ?_⟩
        have h1' : ¬ ((x.length : Nat) : Int) < 1 := fun z => h1 (decide_eq_true z)
        by_cases h2 : (8 : Int) < ((x.length : Nat) : Int)
        · have e : isNm x = false := by
            unfold isNm
            rw [decide_eq_false (show ¬ x.length ≤ 8 by omega), Bool.false_and, Bool.and_false]
          refine iteT' (decide_eq_true h2) ?_
          rw [← e]
          exact q H (Same.refl H)
        · refine iteN' h2 ?_
          refine ⟨_, rfl, x, rfl, fun D hD => ?_⟩
          refine lc_it walk_str (fun i H2 => H2 D = some (.lst (((x.cps.toList.take i).map fun c => decide (c ∈ abc.cps.toList)).map V.bl)) ∧ Same H H2)
            ⟨upd_same, fresh_upd hD⟩ (fun _ _ _ _ => trivial) ?_ ?_
          · rintro i v H2 H3 hi ⟨hD2, S2⟩ ⟨rfl, c, hc, rfl⟩
            refine ⟨rfl, ?_⟩
            unfold tYes
            dsimp only
            rw [if_pos rfl]
            refine ⟨_, rfl, c, abc, rfl, rfl, _, hD2, ?_, ?_, fun b o e => ?_⟩
            · rw [List.length_map, List.length_map, List.length_take, sizeLine_eq]
              have hl : x.length = x.cps.size := rfl
              have hm := Nat.min_le_left i x.cps.toList.length
              omega
            · have hc2 : x.cps.toList[i]? = some c := by rw [Array.getElem?_toList]; exact hc
              rw [upd_same, List.take_add_one, hc2]
              simp
            · rw [upd_ne (ne_of_none e hD)]
              exact S2 b o e
          · rintro H2 ⟨hD2, S2⟩
            refine ⟨D, _, rfl, SqL.of hD2, ?_⟩
            have e : ((x.cps.toList.take x.cps.size).map fun c => decide (c ∈ abc.cps.toList)).all id = isNm x := by
              unfold isNm
              rw [decide_eq_true (show 1 ≤ x.length by omega), decide_eq_true (show x.length ≤ 8 by omega), Bool.true_and, Bool.true_and,
                show x.cps.size = x.cps.toList.length from (Array.length_toList ..).symm, List.take_length, List.all_map]
              rfl
            rw [e]
            exact q H2 S2
    · refine ⟨_, rfl, _, _, _, _, false, rfl, .ty _, ht, hk, _, rfl, ?_⟩
      refine iteT' rfl ?_
      exact q
end
end K13
set_option maxHeartbeats 8000000
namespace K13
open PySem PySem.Spec PyProof.Rows L2

/-! ### dicts from names to integers -/
abbrev Es : Type := List (Str × Int)
def ky (n : Str) : Key := Sum.inr n
def kv (es : Es) : List (Key × V) := es.map fun p => (ky p.1, V.int p.2)
theorem kv_len (es : Es) : (kv es).length = es.length := List.length_map ..
theorem ky_inj {a b : Str} (h : ky a = ky b) : a = b := Sum.inr.inj h
theorem val_kv (n : Str) : ∀ es : Es, valV (kv es) (ky n) = (es.lookup n).map V.int
  | [] => rfl
  | (m, i) :: r => by
    show valV ((ky m, V.int i) :: kv r) (ky n) = _
    by_cases h : m = n
    · subst h
      rw [valV_pos rfl, List.lookup_cons_self]
      rfl
    · rw [valV_neg (show ¬ ky m = ky n from fun z => h (ky_inj z)), val_kv n r]
      have e : (n == m) = false := by simpa using fun z => h z.symm
      rw [List.lookup_cons, e]
theorem val_none {n : Str} {es : Es} (h : n ∉ es.map (·.1)) : valV (kv es) (ky n) = none := by
  rw [val_kv]
  have e : es.lookup n = none := by
    induction es with
    | nil => rfl
    | cons p r ih =>
      rw [List.map_cons, List.mem_cons, not_or] at h
      have e : (n == p.1) = false := by simpa using h.1
      rw [List.lookup_cons, e]
      exact ih h.2
  rw [e]
  rfl

/-- a dict comprehension over any walk -/
theorem dc_it {J : It} {n : Nat} {G : Hp → Prop} {Y : Nat → Hp → V → Hp → Prop} (w : Walk J n G Y) {g : TG} {tt : TT} {tk tv : TE} {vs : List Nat} {σ : L2.St} {H1 : Hp} {D : Addr} {Qd : Hp → Prop}
    (Pv : Nat → Hp → Prop) (h0 : Pv 0 (upd H1 D (.dK []))) (hG : ∀ i H, i ≤ n → Pv i H → G H)
    (hs : ∀ i x H H', i < n → Pv i H → Y i H x H' → g x (wipe σ vs) H' fun σ2 H2 => wipe σ2 vs = wipe σ vs ∧ tt σ2 H2 fun b H3 =>
      if b = true then tk σ2 H3 fun y H4 => tv σ2 H4 fun z H5 => ∃ kvs k, y = kV k ∧ H5 D = some (.dK kvs) ∧ kvs.length < sizeLine ∧ Pv (i + 1) (upd H5 D (.dK (putK kvs k z))) else Pv (i + 1) H3)
    (hd : ∀ H, Pv n H → Qd H) :
    ∃ W : Nat → Nat → Hp → Prop, (∃ m, W 0 m (upd H1 D (.dK []))) ∧ ∀ i m H, W i m H →
      (J.stop i H ∧ Qd H) ∨ (J.go i H ∧ ∃ Nx : Hp → Prop, (∀ H', Nx H' → ∃ m', m' < m ∧ W (i + 1) m' H') ∧ ∀ x H', J.yld i H x H' → g x (wipe σ vs) H' fun σ2 H2 => wipe σ2 vs = wipe σ vs ∧ tt σ2 H2 fun b H3 =>
        if b = true then tk σ2 H3 fun y H4 => tv σ2 H4 fun z H5 => ∃ kvs k, y = kV k ∧ H5 D = some (.dK kvs) ∧ kvs.length < sizeLine ∧ Nx (upd H5 D (.dK (putK kvs k z))) else Nx H3) := by
  refine ⟨fun i m H => m = n - i ∧ i ≤ n ∧ Pv i H, ⟨n, by simp, Nat.zero_le _, h0⟩, ?_⟩
  rintro i m H ⟨rfl, hi, p⟩
  have q := hG i H hi p
  by_cases hlt : i < n
  · refine .inr ⟨w.goes i H hlt q, Pv (i + 1), fun H' p' => ⟨n - (i + 1), by omega, rfl, hlt, p'⟩, fun x H' y => hs i x H H' hlt p (w.yields i H x H' hlt q y)⟩
  · have e : i = n := by omega
    subst e
    exact .inl ⟨w.stops H q, hd H p⟩

theorem new_key {es : Es} {g : Str × Int → Str × Int} (hn : (es.map (·.1)).Nodup) {i : Nat} (hi : i < es.length) (hg : ∀ p, (g p).1 = p.1) :
    es[i].1 ∉ ((es.take i).map g).map (·.1) := fun z => by
  rw [List.map_map] at z
  obtain ⟨p, hp, e⟩ := List.mem_map.mp z
  obtain ⟨j, hj, e2⟩ := List.mem_take_iff_getElem.mp hp
  have hj1 : j < es.length := by omega
  have h1 := List.pairwise_iff_getElem.mp hn j i (by rw [List.length_map]; exact hj1) (by rw [List.length_map]; exact hi) (by omega)
  rw [List.getElem_map, List.getElem_map, e2] at h1
  exact h1 ((hg p).symm.trans e)
theorem kv_step {es : Es} {g : Str × Int → Str × Int} {i : Nat} (hi : i < es.length) :
    kv ((es.take (i + 1)).map g) = kv ((es.take i).map g) ++ [(ky (g es[i]).1, V.int (g es[i]).2)] := by
  have e : es.take (i + 1) = es.take i ++ [es[i]] := by
    rw [List.take_add_one, List.getElem?_eq_getElem hi]
    rfl
  rw [e, List.map_append]
  unfold kv
  rw [List.map_append]
  rfl
abbrev sTimes : Stmt := top 48
def mulE (es : Es) (k : Int) : Es := es.map fun p => (p.1, p.2 * k)
def spTimes : Sp := fun vs H Q _ => ∃ (d : Addr) (es : Es) (k : Int), vs = [.ref d, .int k] ∧ H d = some (.dK (kv es)) ∧ (es.map (·.1)).Nodup ∧ es.length ≤ 1000 ∧
  -(2 ^ 64) < k ∧ k < 2 ^ 64 ∧ ∀ H' D, Same H H' → H D = none → H' D = some (.dK (kv (mulE es k))) → Q (.ref D) H'
def NTi : List Str := ["table", "factor", "name", "count"]
section
variable {P : Program} {w : World} {K : PySem.W.Frag} {mg : Str → Option Value} {base : Heap}
end
end K13
set_option maxHeartbeats 8000000
namespace K13
open PySem PySem.Spec PyProof.Rows L2

/-! ### texts in sequence: one list alone has these names in sequence -/
theorem lt_irr : ∀ a : List Nat, ltCps a a = false
  | [] => rfl
  | a :: r => by
    show (decide (a < a) || (a == a && ltCps r r)) = false
    rw [lt_irr r]
    simp
theorem lt_tr : ∀ a b c : List Nat, ltCps a b = true → ltCps b c = true → ltCps a c = true
  | [], [], _, h, _ => by cases h
  | [], _ :: _, [], _, h => by cases h
  | [], _ :: _, _ :: _, _, _ => rfl
  | _ :: _, [], _, h, _ => by cases h
  | _ :: _, _ :: _, [], _, h => by cases h
  | a :: r, b :: s, c :: t, h1, h2 => by
    have h1' : (decide (a < b) || (a == b && ltCps r s)) = true := h1
    have h2' : (decide (b < c) || (b == c && ltCps s t)) = true := h2
    show (decide (a < c) || (a == c && ltCps r t)) = true
    simp only [Bool.or_eq_true, Bool.and_eq_true, decide_eq_true_eq, beq_iff_eq] at *
    rcases h1' with h | ⟨rfl, h⟩
    · rcases h2' with g | ⟨rfl, g⟩
      · exact .inl (by omega)
      · exact .inl h
    · rcases h2' with g | ⟨rfl, g⟩
      · exact .inl g
      · exact .inr ⟨rfl, lt_tr r s t h g⟩
theorem lt_tot : ∀ a b : List Nat, ltCps a b = false → ltCps b a = false → a = b
  | [], [], _, _ => rfl
  | [], _ :: _, h, _ => by cases h
  | _ :: _, [], _, h => by cases h
  | a :: r, b :: s, h1, h2 => by
    have h1' : (decide (a < b) || (a == b && ltCps r s)) = false := h1
    have h2' : (decide (b < a) || (b == a && ltCps s r)) = false := h2
    simp only [Bool.or_eq_false_iff, decide_eq_false_iff_not] at h1' h2'
    have e : a = b := by omega
    subst e
    have g1 := h1'.2
    have g2 := h2'.2
    simp only [beq_self_eq_true, Bool.true_and] at g1 g2
    rw [lt_tot r s g1 g2]
def lt (a b : Str) : Prop := ltCps a.cps.toList b.cps.toList = true
theorem str_eq {a b : Str} (h : a.cps.toList = b.cps.toList) : a = b := by
  cases a
  cases b
  congr
  exact Array.toList_inj.mp h
def Sd (l : List Str) : Prop := l.Pairwise lt
theorem rise_pw : ∀ (p : Str) (l : List Str), risingS p l = true → (p :: l).Pairwise fun a b => ltCps b.cps.toList a.cps.toList = false
  | p, [], _ => List.pairwise_singleton ..
  | p, x :: r, h => by
    have h' : (!ltCps x.cps.toList p.cps.toList && risingS x r) = true := h
    obtain ⟨h1, h2⟩ := Bool.and_eq_true_iff.mp h'
    have h1' : ltCps x.cps.toList p.cps.toList = false := by simpa using h1
    have ih := rise_pw x r h2
    refine List.pairwise_cons.mpr ⟨fun y hy => ?_, ih⟩
    rcases List.mem_cons.mp hy with rfl | hy
    · exact h1'
    · have h3 := (List.pairwise_cons.mp ih).1 y hy
      -- p ≤ x ≤ y
      cases e : ltCps y.cps.toList p.cps.toList with
      | false => rfl
      | true =>
        cases e2 : ltCps p.cps.toList x.cps.toList with
        | true =>
          have z := lt_tr _ _ _ e e2
          rw [z] at h3
          cases h3
        | false =>
          have q := lt_tot _ _ e2 h1'
          rw [q] at e
          rw [e] at h3
          cases h3
theorem sd_of {l : List Str} (h : sortedS l = true) (hn : l.Nodup) : Sd l := by
  cases l with
  | nil => exact List.Pairwise.nil
  | cons p r =>
    have z := rise_pw p r h
    refine List.Pairwise.imp₂ (fun a b h1 h2 => ?_) z hn
    cases e : ltCps a.cps.toList b.cps.toList with
    | true => exact e
    | false => exact absurd (str_eq (lt_tot _ _ e h1)) h2
theorem Sd.nodup {l : List Str} (h : Sd l) : l.Nodup := List.Pairwise.imp (fun {a b} q e => by
  subst e
  have q' : ltCps a.cps.toList a.cps.toList = true := q
  rw [lt_irr] at q'
  cases q') h
theorem sd_one : ∀ {l m : List Str}, Sd l → Sd m → (∀ x, x ∈ l ↔ x ∈ m) → l = m
  | [], [], _, _, _ => rfl
  | [], b :: s, _, _, h => by
    have := (h b).mpr (List.mem_cons_self ..)
    cases this
  | a :: r, [], _, _, h => by
    have := (h a).mp (List.mem_cons_self ..)
    cases this
  | a :: r, b :: s, h1, h2, h => by
    obtain ⟨p1, q1⟩ := List.pairwise_cons.mp h1
    obtain ⟨p2, q2⟩ := List.pairwise_cons.mp h2
    have nab : ∀ {x y : Str}, lt x y → lt y x → False := fun {x y} u v => by
      have z : ltCps x.cps.toList x.cps.toList = true := lt_tr _ _ _ u v
      rw [lt_irr] at z
      cases z
    have e : a = b := by
      rcases List.mem_cons.mp ((h a).mp (List.mem_cons_self ..)) with e | u
      · exact e
      · rcases List.mem_cons.mp ((h b).mpr (List.mem_cons_self ..)) with e | v
        · exact e.symm
        · exact (nab (p2 a u) (p1 b v)).elim
    subst e
    have e2 : r = s := sd_one q1 q2 fun x => by
      constructor
      · intro hx
        rcases List.mem_cons.mp ((h x).mp (List.mem_cons_of_mem _ hx)) with e | u
        · subst e
          exact (nab (p1 _ hx) (p1 _ hx)).elim
        · exact u
      · intro hx
        rcases List.mem_cons.mp ((h x).mpr (List.mem_cons_of_mem _ hx)) with e | u
        · subst e
          exact (nab (p2 _ hx) (p2 _ hx)).elim
        · exact u
    rw [e2]
/-- exponents in sequence -/
def SdE (es : Es) : Prop := Sd (es.map (·.1))
theorem look_mem {n : Str} : ∀ {es : Es}, (es.lookup n).isSome = true ↔ n ∈ es.map (·.1)
  | [] => by simp [List.lookup]
  | p :: r => by
    rw [List.map_cons, List.mem_cons]
    by_cases h : n = p.1
    · subst h
      constructor
      · intro _
        exact .inl rfl
      · intro _
        rw [show (p :: r : Es) = (p.1, p.2) :: r from rfl, List.lookup_cons_self]
        rfl
    · have e : (n == p.1) = false := by simpa using h
      rw [show (p :: r : Es) = (p.1, p.2) :: r from rfl, List.lookup_cons, e]
      constructor
      · intro z
        exact .inr (look_mem.mp z)
      · rintro (z | z)
        · exact absurd z h
        · exact look_mem.mpr z
theorem eq_of_keys : ∀ {es fs : Es}, (es.map (·.1)).Nodup → es.map (·.1) = fs.map (·.1) → (∀ n, es.lookup n = fs.lookup n) → es = fs
  | [], [], _, _, _ => rfl
  | [], _ :: _, _, h, _ => by cases h
  | _ :: _, [], _, h, _ => by cases h
  | (a, i) :: r, (b, j) :: s, hn, h, hl => by
    rw [List.map_cons, List.map_cons] at h
    injection h with h1 h2
    have h1' : a = b := h1
    subst h1'
    have e := hl a
    rw [List.lookup_cons_self, List.lookup_cons_self] at e
    injection e with e
    subst e
    rw [List.map_cons] at hn
    obtain ⟨n1, n2⟩ := List.pairwise_cons.mp hn
    have q : r = s := eq_of_keys n2 h2 fun n => by
      by_cases z : n = a
      · subst z
        have none_ : ∀ {es : Es}, n ∉ es.map (·.1) → es.lookup n = none := fun {es} q => by
          cases e : es.lookup n with
          | none => rfl
          | some v => exact absurd (look_mem.mp (by rw [e]; rfl)) q
        have nr : n ∉ r.map (·.1) := fun q => n1 n q rfl
        rw [none_ nr, none_ (by rw [← h2]; exact nr)]
      · have e := hl n
        have ne : (n == a) = false := by simpa using z
        rw [List.lookup_cons, List.lookup_cons, ne] at e
        exact e
    rw [q]
theorem SdE.one {es fs : Es} (h : SdE es) (g : SdE fs) (hl : ∀ n, es.lookup n = fs.lookup n) : es = fs :=
  eq_of_keys h.nodup (sd_one h g fun n => by rw [← look_mem, ← look_mem, hl]) hl
end K13
set_option maxHeartbeats 8000000
namespace K13
open PySem PySem.Spec PyProof.Rows L2

/-! ### sums, name by name -/
def g0 (es : Es) (n : Str) : Int := (es.lookup n).getD 0
def putE (t : Es) (n : Str) (v : Int) : Es :=
  if (t.any fun p => decide (p.1 = n)) = true then t.map (fun p => if p.1 = n then (p.1, v) else p) else t ++ [(n, v)]
theorem kv_put (t : Es) (n : Str) (v : Int) : kv (putE t n v) = putK (kv t) (ky n) (.int v) := by
  have e1 : ((kv t).any fun p => decide (p.1 = ky n)) = t.any fun p => decide (p.1 = n) := by
    unfold kv
    rw [List.any_map]
    congr
    funext p
    show decide (ky p.1 = ky n) = decide (p.1 = n)
    exact decide_eq_decide.mpr ⟨ky_inj, fun h => by rw [h]⟩
  unfold putE putK
  rw [e1]
  split
  · unfold kv
    rw [List.map_map, List.map_map]
    refine List.map_congr_left fun p _ => ?_
    show (ky (if p.1 = n then (p.1, v) else p).1, V.int (if p.1 = n then (p.1, v) else p).2) = if ky p.1 = ky n then (ky p.1, V.int v) else (ky p.1, V.int p.2)
    by_cases h : p.1 = n
    · rw [if_pos h, if_pos (by rw [h])]
    · rw [if_neg h, if_neg fun z => h (ky_inj z)]
  · unfold kv
    rw [List.map_append]
    rfl
theorem look_put (t : Es) (n m : Str) (v : Int) : (putE t n v).lookup m = if m = n then some v else t.lookup m := by
  have z := valV_put (kv t) (ky n) (ky m) (V.int v)
  rw [← kv_put, val_kv, val_kv] at z
  by_cases h : m = n
  · subst h
    rw [if_pos rfl] at z ⊢
    cases e : (putE t m v).lookup m with
    | none =>
      rw [e] at z
      cases z
    | some u =>
      rw [e] at z
      injection z with z
      injection z with z
      rw [z]
  · rw [if_neg fun q => h (ky_inj q)] at z
    rw [if_neg h]
    cases e : (putE t n v).lookup m with
    | none =>
      rw [e] at z
      cases e2 : t.lookup m with
      | none => rfl
      | some u =>
        rw [e2] at z
        cases z
    | some u =>
      rw [e] at z
      cases e2 : t.lookup m with
      | none =>
        rw [e2] at z
        cases z
      | some u2 =>
        rw [e2] at z
        injection z with z
        injection z with z
        rw [z]
theorem nod_put {t : Es} (h : (t.map (·.1)).Nodup) (n : Str) (v : Int) : ((putE t n v).map (·.1)).Nodup := by
  unfold putE
  split
  · rw [List.map_map]
    have e : ((fun p : Str × Int => p.1) ∘ fun p => if p.1 = n then (p.1, v) else p) = fun p => p.1 := by
      funext p
      show (if p.1 = n then (p.1, v) else p).1 = p.1
      split <;> rfl
    rw [e]
    exact h
  · rename_i hn
    rw [List.map_append, List.nodup_append]
    refine ⟨h, List.pairwise_singleton .., fun a ha b hb e => ?_⟩
    rw [List.map_cons, List.map_nil, List.mem_singleton] at hb
    subst hb
    subst e
    obtain ⟨p, hp, e⟩ := List.mem_map.mp ha
    exact hn (List.any_eq_true.mpr ⟨p, hp, decide_eq_true e⟩)
theorem len_put (t : Es) (n : Str) (v : Int) : (putE t n v).length ≤ t.length + 1 := by
  unfold putE
  split
  · rw [List.length_map]
    omega
  · rw [List.length_append]
    exact Nat.le_refl _
def addE (t es : Es) : Es := es.foldl (fun t p => putE t p.1 (g0 t p.1 + p.2)) t
theorem addE_snoc (t es : Es) (p : Str × Int) : addE t (es ++ [p]) = putE (addE t es) p.1 (g0 (addE t es) p.1 + p.2) := by
  unfold addE
  rw [List.foldl_append]
  rfl
theorem nod_add : ∀ {es t : Es}, (t.map (·.1)).Nodup → ((addE t es).map (·.1)).Nodup
  | [], _, h => h
  | p :: r, _, h => nod_add (es := r) (nod_put h p.1 _)
theorem len_add : ∀ (es t : Es), (addE t es).length ≤ t.length + es.length
  | [], t => Nat.le_refl _
  | p :: r, t => by
    have h1 := len_add r (putE t p.1 (g0 t p.1 + p.2))
    have h2 := len_put t p.1 (g0 t p.1 + p.2)
    show (addE (putE t p.1 (g0 t p.1 + p.2)) r).length ≤ t.length + (r.length + 1)
    omega
theorem g0_none {es : Es} {n : Str} (h : n ∉ es.map (·.1)) : es.lookup n = none := by
  cases e : es.lookup n with
  | none => rfl
  | some v => exact absurd (look_mem.mp (by rw [e]; rfl)) h
theorem look_add : ∀ {es : Es} (t : Es) (n : Str), (es.map (·.1)).Nodup →
    (addE t es).lookup n = if n ∈ es.map (·.1) then some (g0 t n + g0 es n) else t.lookup n
  | [], t, n, _ => by
    rw [if_neg (by simp)]
    rfl
  | (m, c) :: r, t, n, h => by
    rw [List.map_cons] at h
    obtain ⟨h1, h2⟩ := List.pairwise_cons.mp h
    have ih := look_add (es := r) (putE t m (g0 t m + c)) n h2
    show (addE (putE t m (g0 t m + c)) r).lookup n = _
    rw [ih]
    by_cases e : n = m
    · subst e
      have nr : n ∉ r.map (·.1) := fun q => h1 n q rfl
      rw [if_neg nr, if_pos (by simp), look_put, if_pos rfl]
      unfold g0
      rw [List.lookup_cons_self]
      rfl
    · have eb : (n == m) = false := by simpa using e
      have g1 : g0 (putE t m (g0 t m + c)) n = g0 t n := by
        unfold g0
        rw [look_put, if_neg e]
      have g2 : g0 ((m, c) :: r) n = g0 r n := by
        unfold g0
        rw [List.lookup_cons, eb]
      rw [g1, g2, look_put, if_neg e]
      by_cases q : n ∈ r.map (·.1)
      · rw [if_pos q, if_pos (by rw [List.map_cons]; exact List.mem_cons_of_mem _ q)]
      · rw [if_neg q, if_neg]
        rw [List.map_cons, List.mem_cons]
        rintro (z | z)
        · exact e z
        · exact q z
end K13
set_option maxHeartbeats 8000000
namespace K13
open PySem PySem.Spec PyProof.Rows L2

abbrev sAdded : Stmt := top 2
/-- the tables at these places -/
inductive Tabs (H : Hp) : List V → List Es → Prop
  | nil : Tabs H [] []
  | cons {d : Addr} {es : Es} {vs : List V} {ts : List Es} : H d = some (.dK (kv es)) → (es.map (·.1)).Nodup → Tabs H vs ts → Tabs H (.ref d :: vs) (es :: ts)
def sumE (ts : List Es) : Es := ts.foldl addE []
def lenT (ts : List Es) : Nat := (ts.map List.length).sum
def spAdded (K : PySem.W.Frag) : Sp := fun vs H Q _ => ∃ (a : Addr) (xs : List V) (ts : List Es), vs = [.ref a] ∧ SqL K H a xs ∧ Tabs H xs ts ∧ xs.length ≤ 1000 ∧ lenT ts < 64 ∧
  ∀ H' D es, Same H H' → H D = none → H' D = some (.dK (kv es)) → SdE es → (∀ n, es.lookup n = (sumE ts).lookup n) → es.length ≤ lenT ts → Q (.ref D) H'
def NAd : List Str := ["tables", "total", "table", "name", "count"]
structure Na (mg : Str → Option Value) : Prop where
  sorted : mg "sorted" = none
theorem Tabs.len {H : Hp} : ∀ {vs : List V} {ts : List Es}, Tabs H vs ts → vs.length = ts.length
  | _, _, .nil => rfl
  | _, _, .cons _ _ t => congrArg (· + 1) t.len
theorem Tabs.get {H : Hp} : ∀ {vs : List V} {ts : List Es} {i : Nat} {x : V}, Tabs H vs ts → vs[i]? = some x →
    ∃ d es, x = .ref d ∧ ts[i]? = some es ∧ H d = some (.dK (kv es)) ∧ (es.map (·.1)).Nodup
  | _, _, _, _, .nil, e => by simp at e
  | _, _, 0, _, .cons h n t, e => by
    simp at e
    exact ⟨_, _, e.symm, rfl, h, n⟩
  | _, _, i + 1, _, .cons h n t, e => by
    obtain ⟨d, es, h1, h2, h3⟩ := t.get (i := i) (by simpa using e)
    exact ⟨d, es, h1, by simpa using h2, h3⟩
theorem sumE_snoc (ts : List Es) (es : Es) : sumE (ts ++ [es]) = addE (sumE ts) es := by
  unfold sumE
  rw [List.foldl_append]
  rfl
theorem len_sum : ∀ (ts : List Es) (t : Es), (ts.foldl addE t).length ≤ t.length + lenT ts
  | [], t => Nat.le_refl _
  | e :: r, t => by
    have h1 := len_sum r (addE t e)
    have h2 := len_add e t
    show (r.foldl addE (addE t e)).length ≤ t.length + (e.length + lenT r)
    omega
theorem nod_sum : ∀ (ts : List Es) {t : Es}, (t.map (·.1)).Nodup → ((ts.foldl addE t).map (·.1)).Nodup
  | [], _, h => h
  | _ :: r, _, h => nod_sum r (nod_add h)
theorem lenT_take : ∀ (ts : List Es) (i : Nat), lenT (ts.take i) ≤ lenT ts
  | [], i => by rw [List.take_nil]; exact Nat.le_refl _
  | e :: r, 0 => Nat.zero_le _
  | e :: r, i + 1 => by
    have := lenT_take r i
    show e.length + lenT (r.take i) ≤ e.length + lenT r
    omega
theorem lenT_get {ts : List Es} {i : Nat} {es : Es} (h : ts[i]? = some es) : lenT (ts.take i) + es.length ≤ lenT ts := by
  have e : ts.take (i + 1) = ts.take i ++ [es] := by
    rw [List.take_add_one, h]
    rfl
  have z := lenT_take ts (i + 1)
  rw [e] at z
  unfold lenT at z ⊢
  rw [List.map_append, List.sum_append] at z
  simpa using z
theorem get_int (t : Es) (n : Str) : (valV (kv t) (ky n)).getD (V.int 0) = V.int (g0 t n) := by
  rw [val_kv]
  unfold g0
  cases t.lookup n <;> rfl
section
variable {P : Program} {w : World} {K : PySem.W.Frag} {mg : Str → Option Value} {base : Heap}
theorem scAdded : FnScope NAd ["tables"] (defScope sAdded) :=
  ⟨rfl, rfl, rfl, by decide +kernel, rfl, by decide +kernel, by decide +kernel⟩
theorem ok_added {f : Addr} {fd : FuncData} (F : Fun K "added" "added" sAdded f fd) (T : Na mg) :
    FnOk P w K mg base CX0 1 f fd ["tables"] (spAdded K) := by
  refine F.ok scAdded (fun vs H Q E h => ?_) (fun cdv A outer s H vs Q E hr h => ?_)
  · obtain ⟨a, xs, ts, rfl, _⟩ := h
    rfl
  · obtain ⟨a, xs, ts, rfl, hS, hT, hl, hl2, q⟩ := h
    have hu : (A.deeper (envOfC "added" (defScope sAdded) s.heap.objs.size f cdv)).units + 1 < cLine := by have := hr.units; omega
    refine ⟨_, pss_cons (ps_set (i := 1) scAdded.nd rfl (.inr rfl) pe_dnewK)
      (pss_cons (ps_for PassesOwn.never rfl (pi_list (pv 0)) (pg_name (i := 2) scAdded.nd rfl (Or.inl rfl))
        (pss_one (ps_lock (ps_for PassesOwn.never rfl (pi_items (pv 2)) (pg_tup rfl (pgs_cons (pg_name (i := 3) scAdded.nd rfl (Or.inl rfl)) (pgs_cons (pg_name (i := 4) scAdded.nd rfl (Or.inl rfl)) pgs_nil)))
          (pss_one (ps_dput hu (pv 1) (pv 3) (pe_op op_add (pe_dget2 hu (pv 1) (pv 3) pe_int ⟨rfl, rfl, rfl, rfl⟩) (pv 4)) rfl))))))
      (pss_one (ps_ret (pe_dc (own := [("name", 3)]) (g := gName 3) (tt := tYes) (tk := tVar 3) (tv := tDGet (tVar 1) (tVar 3)) rfl scAdded.nd
        (pi_list (pe_callB (call_sortedD rfl) (by rfl) T.sorted (by decide +kernel) (pa_cons (pv 1) pa_nil)))
        (blkOk_by (own := [("name", 3)]) (N := NAd) (sc := defScope sAdded) (by decide +kernel)) (fun _ _ _ _ _ => pg_name (i := 3) scAdded.nd rfl (Or.inl rfl))
        (fun _ _ _ _ _ => pts_nil) (fun _ _ _ _ _ => by exact pv 3) (fun _ _ _ _ _ => by exact pe_dget hu (pv 1) (pv 3) (fun _ _ => rfl)))))), ?_⟩
    intro p np
    have S0 : Same H (upd H p (.dK [])) := fresh_upd np
    refine ⟨_, rfl, a, rfl, ⟨_, S0.seq hS⟩, for_list (K := K) (a := a) (xs := xs) (fun i σ H2 => (∃ o2 o3 o4, σ = [some (.ref a), some (.ref p), o2, o3, o4]) ∧
      H2 p = some (.dK (kv (sumE (ts.take i)))) ∧ Same H H2) ⟨⟨none, none, none, rfl⟩, upd_same, S0⟩ (fun i σ H2 _ h => h.2.2.seq hS) ?_ ?_⟩
    · rintro i x σ H2 hi ⟨⟨o2, o3, o4, rfl⟩, hp, S2⟩
      obtain ⟨d, es, rfl, ht, hd, hn⟩ := hT.get hi
      have pd : p ≠ d := fun z => by
        rw [z, hd] at np
        cases np
      have hd2 := S2 _ _ hd
      refine ⟨d, _, hd2, trivial, fun od => ?_⟩
      refine ⟨_, rfl, d, od, kv es, rfl, upd_same, for_it walk_items (fun j σ H3 => (∃ o3 o4, σ = [some (.ref a), some (.ref p), some (.ref d), o3, o4]) ∧
        H3 p = some (.dK (kv (addE (sumE (ts.take i)) (es.take j)))) ∧ H3 d = some (.frz od (.dK (kv es))) ∧ ∀ b o, b ≠ d → H b = some o → H3 b = some o)
        ⟨⟨o3, o4, rfl⟩, (upd_ne pd).trans hp, upd_same, fun b o hb e => (upd_ne hb).trans (S2 b o e)⟩ (fun j σ H3 _ h => h.2.2.1) ?_ ?_⟩
      · rintro j v σ H3 H4 hj ⟨⟨o3, o4, rfl⟩, hp3, hd3, S3⟩ ⟨T', y, z, rfl, nT, rfl, e1, e2⟩
        rw [kv_len] at hj
        have ej : (kv es)[j]? = some (ky es[j].1, V.int es[j].2) := by
          unfold kv
          rw [List.getElem?_map, List.getElem?_eq_getElem hj]
          rfl
        dsimp only at e1 e2
        rw [ej] at e1 e2
        cases e1
        cases e2
        have pT : p ≠ T' := ne_of_none hp3 nT
        have dT : d ≠ T' := ne_of_none hd3 nT
        have hp4 : (upd H3 T' (.tup [kV (ky es[j].1), V.int es[j].2])) p = some (.dK (kv (addE (sumE (ts.take i)) (es.take j)))) := (upd_ne pT).trans hp3
        refine ⟨T', _, rfl, SqT.of upd_same, rfl, _, _, rfl, _, _, rfl, rfl, ?_⟩
        refine ⟨_, rfl, p, rfl, .inl ⟨_, .inl hp4⟩, _, rfl, _, DGet.k (k := ky es[j].1) hp4, _, rfl, _, _, get_int _ _, rfl, ?_⟩
        have hlen : (addE (sumE (ts.take i)) (es.take j)).length < 64 := by
          have h1 := len_add (es.take j) (sumE (ts.take i))
          have h2 : (sumE (ts.take i)).length ≤ 0 + lenT (ts.take i) := len_sum (ts.take i) []
          have h3 := lenT_get ht
          have h4 : (es.take j).length ≤ es.length := by rw [List.length_take]; exact Nat.min_le_right ..
          omega
        refine ⟨_, rfl, _, rfl, p, _, rfl, .inl ⟨_, ky es[j].1, hp4, rfl, by rw [kv_len, sizeLine_eq]; omega, rfl⟩, ⟨_, _, rfl⟩, ?_, ?_, fun b o hb e => ?_⟩
        · have et : es.take (j + 1) = es.take j ++ [es[j]] := by
            rw [List.take_add_one, List.getElem?_eq_getElem hj]
            rfl
          rw [upd_same, et, addE_snoc, kv_put]
        · rw [upd_ne pd.symm, upd_ne dT]
          exact hd3
        · rw [upd_ne (ne_of_none e np), upd_ne (ne_of_none (S3 b o hb e) nT)]
          exact S3 b o hb e
      · rintro σ H3 ⟨⟨o3, o4, rfl⟩, hp3, hd3, S3⟩
        refine ⟨hd3, ⟨_, o3, o4, rfl⟩, ?_, fun b o e => ?_⟩
        · rw [upd_ne pd, hp3, kv_len, List.take_length]
          have et : ts.take (i + 1) = ts.take i ++ [es] := by
            rw [List.take_add_one, ht]
            rfl
          rw [et, sumE_snoc]
        · by_cases hb : b = d
          · subst hb
            rw [upd_same]
            exact hd.symm.trans e
          · exact (upd_ne hb).trans (S3 b o hb e)
    · rintro σ H2 ⟨⟨o2, o3, o4, rfl⟩, hp, S2⟩
      rw [hT.len, List.take_length] at hp
      have hnd : ((sumE ts).map (·.1)).Nodup := nod_sum ts List.Pairwise.nil
      have hl3 : (sumE ts).length ≤ 0 + lenT ts := len_sum ts []
      refine ⟨_, rfl, p, _, (sumE ts).map (·.1), rfl, .inl hp, ?_, by rw [List.length_map]; omega, fun ys r perm srt nr => ?_⟩
      · unfold kv
        rw [List.map_map, List.map_map]
        rfl
      have S3 := fresh_upd (o := .lst (ys.map V.str)) nr
      refine ⟨r, rfl, ⟨_, SqL.of upd_same⟩, fun D hD => ?_⟩
      have hD0 : H D = none := by
        cases e : H D with
        | none => rfl
        | some o =>
          have z := S3 _ _ (S2 _ _ e)
          rw [hD] at z
          cases z
      have hyl : ys.length = (sumE ts).length := by rw [perm.length_eq, List.length_map]
      have hLf : ∀ n, n ∈ ys ↔ n ∈ (sumE ts).map (·.1) := fun n => perm.mem_iff
      have hp3 := S3 _ _ hp
      refine dc_it (walk_list (K := K) (a := r) (xs := ys.map V.str)) (fun i H3 => H3 D = some (.dK (kv ((ys.map fun n => (n, g0 (sumE ts) n)).take i))) ∧
        Same (upd H2 r (.lst (ys.map V.str))) H3) ⟨upd_same, fresh_upd hD⟩ (fun i H3 _ h => SqL.of (h.2 _ _ upd_same)) ?_ ?_
      · rintro i x H3 H4 hi ⟨hD3, S4⟩ ⟨rfl, hx⟩
        rw [List.length_map] at hi
        have ex : x = .str ys[i] := by
          rw [List.getElem?_map, List.getElem?_eq_getElem hi] at hx
          exact (Option.some.inj hx).symm
        subst ex
        have hin : ys[i] ∈ (sumE ts).map (·.1) := (hLf _).mp (List.getElem_mem hi)
        obtain ⟨v, hv⟩ := Option.isSome_iff_exists.mp (look_mem.mpr hin)
        have hg : g0 (sumE ts) ys[i] = v := by
          unfold g0
          rw [hv]
          rfl
        refine ⟨rfl, ?_⟩
        unfold tYes
        dsimp only
        rw [if_pos rfl]
        refine ⟨_, rfl, _, rfl, _, rfl, p, .int v, rfl, .inl ⟨_, ky ys[i], .inl (S4 _ _ hp3), rfl, ?_⟩, ?_⟩
        · rw [val_kv, hv]
          rfl
        · refine ⟨_, ky ys[i], rfl, hD3, ?_, ?_, fun b o e => ?_⟩
          · rw [kv_len, List.length_take, sizeLine_eq]
            have := Nat.min_le_left i (ys.map fun n => (n, g0 (sumE ts) n)).length
            omega
          · have hi' : i < (ys.map fun n => (n, g0 (sumE ts) n)).length := by rw [List.length_map]; exact hi
            have ek : (ys.map fun n => (n, g0 (sumE ts) n)).map (·.1) = ys := by
              rw [List.map_map]
              exact List.map_id'' (fun _ => rfl) ys
            have en := new_key (es := ys.map fun n => (n, g0 (sumE ts) n)) (g := id) (by rw [ek]; exact perm.nodup_iff.mpr hnd) hi' fun _ => rfl
            rw [List.getElem_map, List.map_id] at en
            have st := kv_step (es := ys.map fun n => (n, g0 (sumE ts) n)) (g := id) hi'
            rw [List.map_id, List.map_id] at st
            rw [upd_same, putK_new _ (val_none en), st, List.getElem_map, ← hg]
            rfl
          · rw [upd_ne (ne_of_none e hD)]
            exact S4 b o e
      · rintro H3 ⟨hD3, S4⟩
        have ek : (ys.map fun n => (n, g0 (sumE ts) n)).map (·.1) = ys := by
          rw [List.map_map]
          exact List.map_id'' (fun _ => rfl) ys
        rw [show (ys.map V.str).length = (ys.map fun n => (n, g0 (sumE ts) n)).length by rw [List.length_map, List.length_map], List.take_length] at hD3
        refine q H3 D _ (S2.trans (S3.trans S4)) hD0 hD3 ?_ (fun n => ?_) (by rw [List.length_map, hyl]; omega)
        · unfold SdE
          rw [ek]
          exact sd_of srt (perm.nodup_iff.mpr hnd)
        · have lk : ∀ zs : List Str, (zs.map fun n => (n, g0 (sumE ts) n)).lookup n = if n ∈ zs then some (g0 (sumE ts) n) else none := by
            intro zs
            induction zs with
            | nil => rfl
            | cons z r ih =>
              rw [List.map_cons]
              by_cases e : n = z
              · subst e
                rw [List.lookup_cons_self, if_pos (List.mem_cons_self ..)]
              · have eb : (n == z) = false := by simpa using e
                rw [List.lookup_cons, eb]
                show (r.map fun n => (n, g0 (sumE ts) n)).lookup n = _
                rw [ih]
                by_cases q : n ∈ r
                · rw [if_pos q, if_pos (List.mem_cons_of_mem _ q)]
                · rw [if_neg q, if_neg]
                  rw [List.mem_cons]
                  rintro (u | u)
                  · exact e u
                  · exact q u
          rw [lk]
          by_cases hin : n ∈ ys
          · rw [if_pos hin]
            obtain ⟨v, hv⟩ := Option.isSome_iff_exists.mp (look_mem.mpr ((hLf n).mp hin))
            unfold g0
            rw [hv]
            rfl
          · rw [if_neg hin]
            exact (g0_none fun z => hin ((hLf n).mpr z)).symm
end
end K13
set_option maxHeartbeats 8000000
namespace K13
open PySem PySem.Spec PyProof.Rows L2

abbrev sIsExp : Stmt := top 28
def spIsExp : Sp := fun vs H Q _ => ∃ (d : Addr) (es : Es), vs = [.ref d] ∧ H d = some (.dK (kv es)) ∧ es.length ≤ 1000 ∧ (es.map (·.1)).Nodup ∧ (∀ p ∈ es, isNm p.1 = true) ∧
  ∀ H', Same H H' → Q (.bl true) H'
def NIe : List Str := ["value", "name"]
theorem nm_len {x : Str} (h : isNm x = true) : x.length ≤ 8 := by
  unfold isNm at h
  rw [Bool.and_eq_true, Bool.and_eq_true, decide_eq_true_eq, decide_eq_true_eq] at h
  exact h.2.1
theorem val_at {es : Es} (hn : (es.map (·.1)).Nodup) {i : Nat} (hi : i < es.length) : valV (kv es) (ky es[i].1) = some (.int es[i].2) := by
  rw [val_kv]
  have z : ∀ {es : Es} (hn : (es.map (·.1)).Nodup) {i : Nat} (hi : i < es.length), es.lookup es[i].1 = some es[i].2 := by
    intro es
    induction es with
    | nil => intro _ i hi; exact absurd hi (Nat.not_lt_zero _)
    | cons p r ih =>
      intro hn i hi
      rw [List.map_cons] at hn
      obtain ⟨n1, n2⟩ := List.pairwise_cons.mp hn
      cases i with
      | zero =>
        show List.lookup p.1 ((p.1, p.2) :: r) = some p.2
        rw [List.lookup_cons_self]
      | succ i =>
        have hi' : i < r.length := by
          rw [List.length_cons] at hi
          omega
        have ne : (r[i].1 == p.1) = false := by
          have q := n1 r[i].1 (List.mem_map.mpr ⟨r[i], List.getElem_mem hi', rfl⟩)
          simpa using fun e => q e.symm
        show List.lookup r[i].1 ((p.1, p.2) :: r) = some r[i].2
        rw [List.lookup_cons, ne]
        exact ih n2 hi'
  rw [z hn hi]
  rfl
section
variable {P : Program} {w : World} {K : PySem.W.Frag} {mg : Str → Option Value} {base : Heap}
theorem scIsExp : FnScope NIe ["value"] (defScope sIsExp) :=
  ⟨rfl, rfl, rfl, by decide +kernel, rfl, by decide +kernel, by decide +kernel⟩
theorem ok_isexp {f fN fI : Addr} {fd fdN fdI : FuncData} (F : Fun K "_is_exponents" "_is_exponents" sIsExp f fd) (T : Nk mg)
    (GN : FnOk P w K mg base CX0 1 fN fdN ["value"] (spIsName K)) (kN : PySem.W.keepIn K (.ref fN) = true) (bN : Binds K fdN ["value"] []) (gN : mg "is_name" = some (.ref fN))
    (GI : FnOk P w K mg base CX0 1 fI fdI ["value"] spIsInt) (kI : PySem.W.keepIn K (.ref fI) = true) (bI : Binds K fdI ["value"] []) (gI : mg "is_integer" = some (.ref fI)) :
    FnOk P w K mg base CX0 2 f fd ["value"] spIsExp := by
  refine F.ok scIsExp (fun vs H Q E h => ?_) (fun cdv A outer s H vs Q E hr h => ?_)
  · obtain ⟨d, es, rfl, _⟩ := h
    rfl
  · obtain ⟨d, es, rfl, hd, hl, hn, hnm, q⟩ := h
    have hu : (A.deeper (envOfC "_is_exponents" (defScope sIsExp) s.heap.objs.size f cdv)).units + 1 < cLine := by have := hr.units; omega
    refine ⟨_, pss_cons (ps_if (pt_not (pt_val (pe_callB call_isi (by rfl) T.isi (by decide +kernel) (pa_cons (pv 0) (pa_cons (pe_bltn (v := .ty "dict") (u := .type "dict") (by rfl) T.dict (by decide +kernel) rfl) pa_nil)))))
        (pss_one (ps_ret pe_bl)) pss_nil)
      (pss_one (ps_ret (pe_lock (pe_callB (cr_all rfl) (by rfl) T.all (by decide +kernel) (pa_cons
        (pe_lc (own := [("name", 1)]) (g := gName 1) (tt := tYes)
          (te := tAndV (tCall (spIsName K) [] E0 (tCons (tVar 1) tNil)) (tCall spIsInt [] E0 (tCons (tDGet (tVar 0) (tVar 1)) tNil))) rfl scIsExp.nd (pi_keys (pv 0))
          (blkOk_by (own := [("name", 1)]) (N := NIe) (sc := defScope sIsExp) (by decide +kernel)) (fun _ _ _ _ _ => pg_name (i := 1) scIsExp.nd rfl (Or.inl rfl))
          (fun _ _ _ _ _ => pts_nil) (fun _ _ _ _ _ => by
            exact pe_and (pe_call GN hr rfl gN kN bN .nil pass0 (pa_cons (pv 1) pa_nil))
              (pe_one (pe_call GI hr rfl gI kI bI .nil pass0 (pa_cons (pe_dget hu (pv 0) (pv 1) (fun _ _ => rfl)) pa_nil))))) pa_nil))))), ?_⟩
    refine ⟨_, rfl, _, _, _, _, true, rfl, .ty _, .base (.dK hd), kit_ty (by decide +kernel), _, rfl, iteF ?_⟩
    refine ⟨d, _, hd, trivial, fun od => ?_⟩
    refine ⟨_, rfl, d, od, rfl, .inl ⟨kv es, upd_same, fun D hD => ?_⟩⟩
    have Dd : D ≠ d := fun z => by
      rw [z, upd_same] at hD
      cases hD
    have hD0 : H D = none := by
      rw [upd_ne Dd] at hD
      exact hD
    refine lc_it walk_keys (fun i H2 => H2 D = some (.lst ((List.replicate i true).map V.bl)) ∧ H2 d = some (.frz od (.dK (kv es))) ∧ ∀ b o, b ≠ d → H b = some o → H2 b = some o)
      ⟨upd_same, (upd_ne Dd.symm).trans upd_same, fun b o e1 e2 => ?_⟩ (fun i H2 _ p => p.2.1) ?_ ?_
    · rw [upd_ne (ne_of_none e2 hD0), upd_ne e1]
      exact e2
    · rintro i v H2 H3 hi ⟨hD2, hd2, S2⟩ ⟨rfl, k', v', e1, rfl⟩
      rw [kv_len] at hi
      have ei : (kv es)[i]? = some (ky es[i].1, V.int es[i].2) := by
        unfold kv
        rw [List.getElem?_map, List.getElem?_eq_getElem hi]
        rfl
      rw [ei] at e1
      cases e1
      have hnmi := hnm es[i] (List.getElem_mem hi)
      refine ⟨rfl, ?_⟩
      unfold tYes
      dsimp only
      rw [if_pos rfl]
      refine ⟨_, rfl, .inl ⟨es[i].1, rfl, by have := nm_len hnmi; omega, fun H4 S4 => ?_⟩⟩
      rw [hnmi]
      refine ⟨_, rfl, iteT' rfl ?_⟩
      refine ⟨_, rfl, _, rfl, d, .int es[i].2, rfl, .inl ⟨_, ky es[i].1, .inr ⟨od, S4 _ _ hd2⟩, rfl, (val_at hn hi).symm⟩, es[i].2, rfl, ?_⟩
      refine ⟨_, S4 _ _ hD2, by rw [List.length_map, List.length_replicate, sizeLine_eq]; omega, ?_, ?_, fun b o hb e => ?_⟩
      · rw [upd_same, List.replicate_succ', List.map_append]
        rfl
      · rw [upd_ne Dd.symm]
        exact S4 _ _ hd2
      · rw [upd_ne (ne_of_none e hD0)]
        exact S4 b o (S2 b o hb e)
    · rintro H2 ⟨hD2, hd2, S2⟩
      refine ⟨D, _, rfl, SqL.of hD2, hd2, ?_⟩
      have e : (List.replicate (kv es).length true).all id = true := by
        rw [List.all_eq_true]
        intro x hx
        exact List.eq_of_mem_replicate hx
      rw [e]
      refine q _ fun b o eb => ?_
      by_cases hb : b = d
      · subst hb
        rw [upd_same]
        exact hd.symm.trans eb
      · exact (upd_ne hb).trans (S2 b o hb eb)
end
end K13
set_option maxHeartbeats 8000000
namespace K13
open PySem PySem.Spec PyProof.Rows L2

abbrev sSize : Stmt := top 25
abbrev sInit : Stmt := inClass sSize 0
abbrev FnD (K : PySem.W.Frag) (x qual : Str) (st : Stmt) (dvs : List V) (f : Addr) (fd : FuncData) : Prop := FunD K x qual (defArgs st) (defBody st) (defScope st) dvs [] f fd
/-- without the names whose exponent is 0 -/
def nzE (es : Es) (n : Str) : Option Int := match es.lookup n with
  | some v => if v = 0 then none else some v
  | none => none
/-- a Size with these exponents stands at p -/
def SizeAt (C : Addr) (H : Hp) (p : Addr) (es : Es) : Prop := ∃ dx D, H p = some (.ins C dx [("_exponents", .ref D)]) ∧ H D = some (.dK (kv es)) ∧ SdE es ∧ (∀ q ∈ es, q.2 ≠ 0) ∧ (∀ q ∈ es, isNm q.1 = true) ∧ es.length < 64
def spInit (C : Addr) : Sp := fun vs H Q _ => ∃ (p dx : Addr) (v : V) (es : Es), vs = [.ref p, v] ∧ H p = some (.ins C dx []) ∧
  ((v = .non ∧ es = []) ∨ ∃ d, v = .ref d ∧ d ≠ p ∧ H d = some (.dK (kv es))) ∧ (es.map (·.1)).Nodup ∧ es.length < 64 ∧ (∀ q ∈ es, isNm q.1 = true) ∧
  ∀ H' D R, (∀ b o, b ≠ p → H b = some o → H' b = some o) → H' p = some (.ins C dx [("_exponents", .ref D)]) → H D = none → H' D = some (.dK (kv R)) →
    SdE R → (∀ n, R.lookup n = nzE es n) → R.length ≤ es.length → Q .non H'
structure Cs (K : PySem.W.Frag) (C : Addr) : Prop where
  cl : Cls K C
  nE : NoAttr K C "_exponents"
def flE (es : Es) (ys : List Str) : Es := (ys.map fun n => (n, g0 es n)).filter fun p => decide (p.2 ≠ 0)
theorem fl_keys (es : Es) (ys : List Str) : ((flE es ys).map (·.1)).Sublist ys := by
  have z : ((flE es ys).map (·.1)).Sublist ((ys.map fun n => (n, g0 es n)).map (·.1)) := List.Sublist.map _ List.filter_sublist
  have ek : (ys.map fun n => (n, g0 es n)).map (·.1) = ys := by
    rw [List.map_map]
    exact List.map_id'' (fun _ => rfl) ys
  rw [ek] at z
  exact z
theorem fl_step {es : Es} {ys : List Str} {i : Nat} (hi : i < ys.length) :
    flE es (ys.take (i + 1)) = if g0 es ys[i] ≠ 0 then flE es (ys.take i) ++ [(ys[i], g0 es ys[i])] else flE es (ys.take i) := by
  have e : ys.take (i + 1) = ys.take i ++ [ys[i]] := by
    rw [List.take_add_one, List.getElem?_eq_getElem hi]
    rfl
  unfold flE
  rw [e, List.map_append, List.filter_append]
  by_cases h : g0 es ys[i] = 0
  · rw [if_neg (fun z => z h)]
    simp [h]
  · rw [if_pos h]
    simp [h]
theorem fl_look (es : Es) (n : Str) : ∀ zs : List Str, (flE es zs).lookup n = if n ∈ zs ∧ g0 es n ≠ 0 then some (g0 es n) else none
  | [] => by simp [flE]
  | z :: r => by
    have ih := fl_look es n r
    have e : flE es (z :: r) = if g0 es z ≠ 0 then (z, g0 es z) :: flE es r else flE es r := by
      unfold flE
      rw [List.map_cons, List.filter_cons]
      by_cases h : g0 es z = 0
      · simp [h]
      · simp [h]
    rw [e]
    by_cases h : g0 es z = 0
    · rw [if_neg (fun q => q h), ih]
      by_cases hz : n = z
      · subst hz
        rw [if_neg (fun q => q.2 h), if_neg (fun q => q.2 h)]
      · simp [hz]
    · rw [if_pos h]
      by_cases hz : n = z
      · subst hz
        rw [List.lookup_cons_self, if_pos ⟨List.mem_cons_self .., h⟩]
      · have eb : (n == z) = false := by simpa using hz
        rw [List.lookup_cons, eb]
        show (flE es r).lookup n = _
        rw [ih]
        simp [hz]
theorem fl_nz {es : Es} {ys : List Str} (h : ∀ n, n ∈ ys ↔ n ∈ es.map (·.1)) (n : Str) : (flE es ys).lookup n = nzE es n := by
  rw [fl_look]
  unfold nzE
  by_cases hin : n ∈ ys
  · obtain ⟨v, hv⟩ := Option.isSome_iff_exists.mp (look_mem.mpr ((h n).mp hin))
    have hg : g0 es n = v := by
      unfold g0
      rw [hv]
      rfl
    rw [hv, hg]
    by_cases z : v = 0
    · rw [if_neg (fun q => q.2 z)]
      show none = if v = 0 then none else some v
      rw [if_pos z]
    · rw [if_pos ⟨hin, z⟩]
      show some v = if v = 0 then none else some v
      rw [if_neg z]
  · rw [if_neg (fun q => hin q.1), g0_none fun z => hin ((h n).mpr z)]
def NIi : List Str := ["self", "exponents", "given", "name"]
section
variable {P : Program} {w : World} {K : PySem.W.Frag} {mg : Str → Option Value} {base : Heap} {C : Addr}
theorem scIni : FnScope NIi ["self", "exponents"] (defScope sInit) :=
  ⟨rfl, rfl, rfl, by decide +kernel, rfl, by decide +kernel, by decide +kernel⟩
theorem rd_ini {p dx g : Addr} {v : V} {es : Es} {H1 : Hp} {DD : Ends} (Tc : Cs K C) (hg : H1 g = some (.dK (kv es))) (hp : H1 p = some (.ins C dx [])) (hn : (es.map (·.1)).Nodup)
    (hl : es.length < 64) (hnm : ∀ q ∈ es, isNm q.1 = true)
    (k : ∀ H2 D R, Same H1 H2 → H1 D = none → H2 D = some (.dK (kv R)) → SdE R → (∀ n, R.lookup n = nzE es n) → R.length ≤ es.length →
      DD.nx [some (.ref p), some v, some (.ref g), none] (upd H2 p (.ins C dx [("_exponents", .ref D)]))) :
    tSeq (tIfS (tNot (tB (tCall spIsExp [] E0 (tCons (tVar 2) tNil)))) (fun _ _ _ => False) tNext)
      (sFld K (tVar 0) (tDc (iList K (tCB (fun xs H Q => ∃ (a : Addr) (kvs : List (Key × V)) (ks : List Str), xs = [.ref a] ∧ Rd H a (.dK kvs) ∧ kvs.map (·.1) = ks.map Sum.inr ∧ ks.length < 64 ∧
          ∀ ys p, ys.Perm ks → sortedS ys = true → H p = none → Q (.ref p) (upd H p (.lst (ys.map V.str)))) (tCons (tVar 2) tNil)))
        (gName 3) (tTest (tOp rNe (tDGet (tVar 2) (tVar 3)) (tC (.int 0)))) (tVar 3) (tDGet (tVar 2) (tVar 3)) [3]) "_exponents") DD
      [some (.ref p), some v, some (.ref g), none] H1 := by
  refine ⟨_, rfl, g, es, rfl, hg, by omega, hn, hnm, fun H2 S2 => ?_⟩
  refine ⟨_, rfl, iteF ?_⟩
  have hg2 := S2 _ _ hg
  refine ⟨_, rfl, g, _, es.map (·.1), rfl, .inl hg2, ?_, by rw [List.length_map]; exact hl, fun ys r perm srt nr => ?_⟩
  · unfold kv
    rw [List.map_map, List.map_map]
    rfl
  have S3 := fresh_upd (o := .lst (ys.map V.str)) nr
  refine ⟨r, rfl, ⟨_, SqL.of upd_same⟩, fun D hD => ?_⟩
  have hD0 : H1 D = none := by
    cases e : H1 D with
    | none => rfl
    | some o =>
      have z := S3 _ _ (S2 _ _ e)
      rw [hD] at z
      cases z
  have hys : ys.Nodup := perm.nodup_iff.mpr hn
  have hyl : ys.length = es.length := by rw [perm.length_eq, List.length_map]
  have hg3 := S3 _ _ hg2
  refine dc_it (walk_list (K := K) (a := r) (xs := ys.map V.str)) (fun i H3 => H3 D = some (.dK (kv (flE es (ys.take i)))) ∧
    Same (upd H2 r (.lst (ys.map V.str))) H3) ⟨upd_same, fresh_upd hD⟩ (fun i H3 _ h => SqL.of (h.2 _ _ upd_same)) ?_ ?_
  · rintro i x H3 H4 hi ⟨hD3, S4⟩ ⟨rfl, hx⟩
    rw [List.length_map] at hi
    have ex : x = .str ys[i] := by
      rw [List.getElem?_map, List.getElem?_eq_getElem hi] at hx
      exact (Option.some.inj hx).symm
    subst ex
    have hin : ys[i] ∈ es.map (·.1) := perm.mem_iff.mp (List.getElem_mem hi)
    obtain ⟨u, hu⟩ := Option.isSome_iff_exists.mp (look_mem.mpr hin)
    have hgu : g0 es ys[i] = u := by
      unfold g0
      rw [hu]
      rfl
    have dg : DGet H4 g (kV (ky ys[i])) (some (.int u)) := .inl ⟨_, ky ys[i], .inl (S4 _ _ hg3), rfl, by rw [val_kv, hu]; rfl⟩
    refine ⟨rfl, ?_⟩
    refine ⟨_, rfl, _, rfl, g, .int u, rfl, dg, rfl, _, rfl, ?_⟩
    by_cases h0 : u = 0
    · subst h0
      rw [decide_eq_true rfl]
      refine iteF ⟨?_, S4⟩
      rw [fl_step hi, hgu, if_neg (fun z => z rfl)]
      exact hD3
    · rw [decide_eq_false (show ¬ V.int u = V.int 0 from fun z => h0 (V.int.inj z))]
      refine iteT' rfl ?_
      refine ⟨_, rfl, _, rfl, _, rfl, g, .int u, rfl, dg, ?_⟩
      refine ⟨_, ky ys[i], rfl, hD3, ?_, ?_, fun b o e => ?_⟩
      · rw [kv_len, sizeLine_eq]
        have h1 : (flE es (ys.take i)).length ≤ (ys.take i).length := by
          unfold flE
          refine Nat.le_trans (List.length_filter_le _ _) ?_
          rw [List.length_map]
          exact Nat.le_refl _
        have h2 : (ys.take i).length ≤ i := by rw [List.length_take]; exact Nat.min_le_left ..
        omega
      · have en : ys[i] ∉ (flE es (ys.take i)).map (·.1) := fun z => by
          have z2 := (fl_keys es (ys.take i)).subset z
          obtain ⟨j, hj, e2⟩ := List.mem_take_iff_getElem.mp z2
          exact List.pairwise_iff_getElem.mp hys j i (by omega) hi (by omega) e2
        rw [upd_same, putK_new _ (val_none en), fl_step hi, hgu, if_pos h0]
        unfold kv
        rw [List.map_append]
        rfl
      · rw [upd_ne (ne_of_none e hD)]
        exact S4 b o e
  · rintro H3 ⟨hD3, S4⟩
    rw [List.length_map, List.take_length] at hD3
    refine ⟨_, rfl, p, C, dx, [], rfl, S4 _ _ (S3 _ _ (S2 _ _ hp)), Tc.cl, Tc.nE, by decide, ?_⟩
    exact k _ D _ (S2.trans (S3.trans S4)) hD0 hD3 (List.Pairwise.sublist (fl_keys es ys) (sd_of srt hys)) (fl_nz fun n => perm.mem_iff)
      (by
        unfold flE
        refine Nat.le_trans (List.length_filter_le _ _) ?_
        rw [List.length_map, hyl]
        exact Nat.le_refl _)
theorem ok_init {f fE : Addr} {fd fdE : FuncData} (F : FnD K "__init__" "Size.__init__" sInit [.non] f fd) (T : Na mg) (Tc : Cs K C)
    (GE : FnOk P w K mg base CX0 2 fE fdE ["value"] spIsExp) (kE : PySem.W.keepIn K (.ref fE) = true) (bE : Binds K fdE ["value"] []) (gE : mg "_is_exponents" = some (.ref fE)) :
    FnOk P w K mg base CX0 3 f fd ["self", "exponents"] (spInit C) := by
  refine F.ok scIni (fun vs H Q E h => ?_) (fun cdv A outer s H vs Q E hr h => ?_)
  · obtain ⟨p, dx, v, es, rfl, _⟩ := h
    rfl
  · obtain ⟨p, dx, v, es, rfl, hp, hv, hn, hl, hnm, q⟩ := h
    have hu : (A.deeper (envOfC "Size.__init__" (defScope sInit) s.heap.objs.size f cdv)).units + 1 < cLine := by have := hr.units; omega
    refine ⟨_, PSs.nox (pss_cons (ps_set (i := 2) scIni.nd rfl (.inr rfl) (pe_ifExp (pt_cmpR op_isN (pv 1) pe_non rfl) pe_dnewK (pv 1)))
      (pss_cons (ps_if (pt_not (pt_val (pe_call GE hr rfl gE kE bE .nil pass0 (pa_cons (pv 2) pa_nil)))) (pss_one ps_no) pss_nil)
      (pss_one (ps_fld (pv 0) (pe_dc (own := [("name", 3)]) (g := gName 3) (tt := tTest (tOp rNe (tDGet (tVar 2) (tVar 3)) (tC (.int 0)))) (tk := tVar 3) (tv := tDGet (tVar 2) (tVar 3)) rfl scIni.nd
        (pi_list (pe_callB (call_sortedD rfl) (by rfl) T.sorted (by decide +kernel) (pa_cons (pv 2) pa_nil)))
        (blkOk_by (own := [("name", 3)]) (N := NIi) (sc := defScope sInit) (by decide +kernel)) (fun _ _ _ _ _ => pg_name (i := 3) scIni.nd rfl (Or.inl rfl))
        (fun _ _ _ _ _ => pts_one (by exact pt_cmpR op_ne (pe_dget hu (pv 2) (pv 3) (fun _ _ => rfl)) pe_int (nomark _)))
        (fun _ _ _ _ _ => by exact pv 3) (fun _ _ _ _ _ => by exact pe_dget hu (pv 2) (pv 3) (fun _ _ => rfl))) rfl)))), ?_⟩
    rcases hv with ⟨rfl, rfl⟩ | ⟨d, rfl, dp, hd⟩
    · refine ⟨_, rfl, rfl, _, rfl, iteT' rfl ?_⟩
      intro g ng
      have gp : g ≠ p := fun z => by
        rw [z, hp] at ng
        cases ng
      refine rd_ini Tc (es := []) upd_same ((upd_ne gp.symm).trans hp) hn hl hnm fun H2 D R S2 nD hD sR lR zR => ?_
      have nD0 : H D = none := by
        cases e : H D with
        | none => rfl
        | some o =>
          have z := fresh_upd (o := .dK []) ng _ _ e
          rw [nD] at z
          cases z
      have Dp : D ≠ p := fun z => by
        rw [z, hp] at nD0
        cases nD0
      exact q _ D R (fun b o hb e => (upd_ne hb).trans (S2 _ _ (fresh_upd ng _ _ e))) upd_same nD0 ((upd_ne Dp).trans hD) sR lR zR
    · refine ⟨_, rfl, rfl, _, rfl, iteF ?_⟩
      refine ⟨_, rfl, ?_⟩
      refine rd_ini Tc hd hp hn hl hnm fun H2 D R S2 nD hD sR lR zR => ?_
      have Dp : D ≠ p := fun z => by
        rw [z, hp] at nD
        cases nD
      exact q _ D R (fun b o hb e => (upd_ne hb).trans (S2 _ _ e)) upd_same nD ((upd_ne Dp).trans hD) sR lR zR
end
end K13
set_option maxHeartbeats 8000000
namespace K13
open PySem PySem.Spec PyProof.Rows L2

abbrev sCheck : Stmt := top 26
/-- the class as a value and as a kind -/
structure Ck (K : PySem.W.Frag) (mg : Str → Option Value) (C : Addr) : Prop extends Cs K C where
  gC : mg "Size" = some (.ref C)
  cc : PySem.W.findIn K (.ref C) "__class__" = some (some (.builtin "object.__class__"))
  cn : PySem.W.specialIn K (.builtin "object.__class__") "__get__" = some (some (.builtin "getset_descriptor.__get__"))
  ct : PySem.W.takesIn K (.builtin "object.__class__") = some true
  co : PySem.W.mroIn K C (.type "object") = some true
def spCheck (C : Addr) : Sp := fun vs H Q _ => ∃ (p dx : Addr) (fs : List (Str × V)), vs = [.ref p] ∧ H p = some (.ins C dx fs) ∧ Q .non H
section
variable {P : Program} {w : World} {K : PySem.W.Frag} {mg : Str → Option Value} {base : Heap} {C : Addr}
theorem scCheck : FnScope ["value"] ["value"] (defScope sCheck) :=
  ⟨rfl, rfl, rfl, by decide +kernel, rfl, by decide +kernel, by decide +kernel⟩
theorem ok_check {f : Addr} {fd : FuncData} (F : Fun K "check_size" "check_size" sCheck f fd) (T : Nk mg) (Tc : Ck K mg C) :
    FnOk P w K mg base CX0 1 f fd ["value"] (spCheck C) := by
  refine F.ok scCheck (fun vs H Q E h => ?_) (fun cdv A outer s H vs Q E hr h => ?_)
  · obtain ⟨p, dx, fs, rfl, _⟩ := h
    rfl
  · obtain ⟨p, dx, fs, rfl, hp, q⟩ := h
    refine ⟨_, pss_one (ps_if (pt_not (pt_val (pe_callB call_isi (by rfl) T.isi (by decide +kernel) (pa_cons (pv 0) (pa_cons (pe_glob (v := .ref C) (by rfl) Tc.gC rfl) pa_nil)))))
      (pss_one ps_no) pss_nil), ?_⟩
    refine ⟨_, rfl, _, _, _, _, true, rfl, .own _, .base (.ins hp Tc.cl Tc.cc Tc.cn Tc.ct Tc.co), ?_, _, rfl, iteF q⟩
    unfold PySem.W.kitOne
    rw [if_pos (by simp)]
end
end K13
set_option maxHeartbeats 8000000
namespace K13
open PySem PySem.Spec PyProof.Rows L2

/-! ### numbers as exponents -/
def cz (v : Int) : Option Int := if v = 0 then none else some v
theorem nz_cz (es : Es) (n : Str) : nzE es n = cz (g0 es n) := by
  unfold nzE cz g0
  cases es.lookup n with
  | none => rfl
  | some v => rfl
theorem g0_cz {R : Es} {n : Str} {v : Int} (h : R.lookup n = cz v) : g0 R n = v := by
  unfold g0
  rw [h]
  unfold cz
  by_cases z : v = 0
  · rw [if_pos z, z]
    rfl
  · rw [if_neg z]
    rfl
theorem g0_add {es t : Es} (h : (es.map (·.1)).Nodup) (n : Str) : g0 (addE t es) n = g0 t n + g0 es n := by
  unfold g0
  rw [look_add t n h]
  by_cases hin : n ∈ es.map (·.1)
  · rw [if_pos hin]
    rfl
  · rw [if_neg hin, g0_none hin]
    show _ = (t.lookup n).getD 0 + 0
    rw [Int.add_zero]
theorem g0_sum2 {es fs : Es} (h : (es.map (·.1)).Nodup) (g : (fs.map (·.1)).Nodup) (n : Str) : g0 (sumE [es, fs]) n = g0 es n + g0 fs n := by
  show g0 (addE (addE [] es) fs) n = _
  rw [g0_add g, g0_add h]
  show 0 + g0 es n + g0 fs n = _
  rw [Int.zero_add]
theorem mem_add {es t : Es} {n : Str} (h : (es.map (·.1)).Nodup) (hn : n ∈ (addE t es).map (·.1)) : n ∈ t.map (·.1) ∨ n ∈ es.map (·.1) := by
  have z := look_mem.mpr hn
  rw [look_add t n h] at z
  by_cases hin : n ∈ es.map (·.1)
  · exact .inr hin
  · rw [if_neg hin] at z
    exact .inl (look_mem.mp z)
/-- what a new Size of es holds -/
theorem size_of {C p dx D : Addr} {es R : Es} {H : Hp} (h1 : H p = some (.ins C dx [("_exponents", .ref D)])) (h2 : H D = some (.dK (kv R))) (sR : SdE R)
    (lR : ∀ n, R.lookup n = nzE es n) (zR : R.length ≤ es.length) (hl : es.length < 64) (hnm : ∀ q ∈ es, isNm q.1 = true) : SizeAt C H p R := by
  have at_ : ∀ q ∈ R, R.lookup q.1 = some q.2 := fun q hq => by
    obtain ⟨i, hi, e⟩ := List.getElem_of_mem hq
    have z := val_at sR.nodup hi
    rw [val_kv, e] at z
    cases e2 : R.lookup q.1 with
    | none =>
      rw [e2] at z
      cases z
    | some v =>
      rw [e2] at z
      injection z with z
      injection z with z
      rw [z]
  refine ⟨dx, D, h1, h2, sR, fun q hq e => ?_, fun q hq => ?_, by omega⟩
  · have z := at_ q hq
    rw [lR, nz_cz] at z
    unfold cz at z
    by_cases h0 : g0 es q.1 = 0
    · rw [if_pos h0] at z
      cases z
    · rw [if_neg h0] at z
      injection z with z
      exact h0 (z.trans e)
  · have z := at_ q hq
    rw [lR] at z
    have hin : q.1 ∈ es.map (·.1) := by
      unfold nzE at z
      cases e : es.lookup q.1 with
      | none =>
        rw [e] at z
        cases z
      | some v => exact look_mem.mp (by rw [e]; rfl)
    obtain ⟨r, hr, e⟩ := List.mem_map.mp hin
    rw [← e]
    exact hnm r hr

abbrev sNames : Stmt := inClass sSize 7
abbrev sExpo : Stmt := inClass sSize 8
abbrev sMul : Stmt := inClass sSize 14
abbrev sLen : Stmt := inClass sSize 16
def spNames (C : Addr) : Sp := fun vs H Q _ => ∃ (p : Addr) (es : Es), vs = [.ref p] ∧ SizeAt C H p es ∧ ∀ l, H l = none → Q (.ref l) (upd H l (.lst (es.map fun q => V.str q.1)))
def spExpo (C : Addr) : Sp := fun vs H Q _ => ∃ (p : Addr) (es : Es), vs = [.ref p] ∧ SizeAt C H p es ∧ ∀ l, H l = none → Q (.ref l) (upd H l (.dK (kv es)))
def spLen (C : Addr) : Sp := fun vs H Q _ => ∃ (p : Addr) (es : Es), vs = [.ref p] ∧ SizeAt C H p es ∧ Q (.int es.length) H
/-- r is new, and what it holds -/
def Nw (C : Addr) (H H' : Hp) (r : Addr) : Prop := ∃ dx D, H' r = some (.ins C dx [("_exponents", .ref D)]) ∧ H r = none ∧ H D = none
theorem none_pre {H H' : Hp} (S : Same H H') {a : Addr} (n : H' a = none) : H a = none := by
  cases e : H a with
  | none => rfl
  | some o =>
    have z := S _ _ e
    rw [n] at z
    cases z
theorem Nw.pre {C r : Addr} {H0 H H' : Hp} (S : Same H0 H) (h : Nw C H H' r) : Nw C H0 H' r := by
  obtain ⟨dx, D, e, n1, n2⟩ := h
  exact ⟨dx, D, e, none_pre S n1, none_pre S n2⟩
theorem Nw.post {C r : Addr} {H H' H'' : Hp} (h : Nw C H H' r) (S : Same H' H'') : Nw C H H'' r := by
  obtain ⟨dx, D, e, n1, n2⟩ := h
  exact ⟨dx, D, S _ _ e, n1, n2⟩
def spMul (C : Addr) : Sp := fun vs H Q _ => ∃ (p q : Addr) (es fs : Es), vs = [.ref p, .ref q] ∧ SizeAt C H p es ∧ SizeAt C H q fs ∧ es.length + fs.length < 64 ∧
  ∀ H' r rs, Same H H' → SizeAt C H' r rs → Nw C H H' r → (∀ n, rs.lookup n = cz (g0 es n + g0 fs n)) → Q (.ref r) H'
theorem SizeAt.same {C p : Addr} {es : Es} {H H' : Hp} (h : SizeAt C H p es) (S : Same H H') : SizeAt C H' p es := by
  obtain ⟨dx, D, h1, h2, h3⟩ := h
  exact ⟨dx, D, S _ _ h1, S _ _ h2, h3⟩
structure Nt (mg : Str → Option Value) : Prop where
  list : mg "list" = none
  dict : mg "dict" = none
  len : mg "len" = none
section
variable {P : Program} {w : World} {K : PySem.W.Frag} {mg : Str → Option Value} {base : Heap} {C : Addr}
theorem scNames : FnScope ["self"] ["self"] (defScope sNames) :=
  ⟨rfl, rfl, rfl, by decide +kernel, rfl, by decide +kernel, by decide +kernel⟩
theorem ok_names {f : Addr} {fd : FuncData} (F : Fun K "names" "Size.names" sNames f fd) (T : Nt mg) (Tc : Ck K mg C) : FnOk P w K mg base CX0 1 f fd ["self"] (spNames C) := by
  refine F.ok scNames (fun vs H Q E h => ?_) (fun cdv A outer s H vs Q E hr h => ?_)
  · obtain ⟨p, es, rfl, _⟩ := h
    rfl
  · obtain ⟨p, es, rfl, ⟨dx, D, h1, h2, _⟩, q⟩ := h
    refine ⟨_, pss_one (ps_ret (pe_callTy (call_listD rfl) (by rfl) T.list (by decide +kernel) (pa_cons (pe_fld (pv 0) rfl) pa_nil))), ?_⟩
    refine ⟨_, rfl, p, C, dx, _, _, rfl, h1, Tc.cl, Tc.nE, rfl, D, _, rfl, .inl h2, fun l nl => ?_⟩
    have z := q l nl
    have e : (kv es).map (fun kv => kV kv.1) = es.map fun q => V.str q.1 := by
      unfold kv
      rw [List.map_map]
      rfl
    rw [e]
    exact z
theorem scExpo : FnScope ["self"] ["self"] (defScope sExpo) :=
  ⟨rfl, rfl, rfl, by decide +kernel, rfl, by decide +kernel, by decide +kernel⟩
theorem ok_expo {f : Addr} {fd : FuncData} (F : Fun K "exponents" "Size.exponents" sExpo f fd) (T : Nt mg) (Tc : Ck K mg C) : FnOk P w K mg base CX0 1 f fd ["self"] (spExpo C) := by
  refine F.ok scExpo (fun vs H Q E h => ?_) (fun cdv A outer s H vs Q E hr h => ?_)
  · obtain ⟨p, es, rfl, _⟩ := h
    rfl
  · obtain ⟨p, es, rfl, ⟨dx, D, h1, h2, _⟩, q⟩ := h
    refine ⟨_, pss_one (ps_ret (pe_callTy call_dictD (by rfl) T.dict (by decide +kernel) (pa_cons (pe_fld (pv 0) rfl) pa_nil))), ?_⟩
    exact ⟨_, rfl, p, C, dx, _, _, rfl, h1, Tc.cl, Tc.nE, rfl, D, _, rfl, .inl h2, q⟩
theorem scLen : FnScope ["self"] ["self"] (defScope sLen) :=
  ⟨rfl, rfl, rfl, by decide +kernel, rfl, by decide +kernel, by decide +kernel⟩
theorem ok_len {f : Addr} {fd : FuncData} (F : Fun K "__len__" "Size.__len__" sLen f fd) (T : Nt mg) (Tc : Ck K mg C) : FnOk P w K mg base CX0 1 f fd ["self"] (spLen C) := by
  refine F.ok scLen (fun vs H Q E h => ?_) (fun cdv A outer s H vs Q E hr h => ?_)
  · obtain ⟨p, es, rfl, _⟩ := h
    rfl
  · obtain ⟨p, es, rfl, ⟨dx, D, h1, h2, _⟩, q⟩ := h
    refine ⟨_, pss_one (ps_ret (pe_callB call_lenD (by rfl) T.len PySem.boot_len (pa_cons (pe_fld (pv 0) rfl) pa_nil))), ?_⟩
    refine ⟨_, rfl, p, C, dx, _, _, rfl, h1, Tc.cl, Tc.nE, rfl, D, kv es, rfl, h2, ?_⟩
    rw [kv_len]
    exact q
end
end K13
set_option maxHeartbeats 8000000
namespace K13
open PySem PySem.Spec PyProof.Rows L2
section
variable {P : Program} {w : World} {K : PySem.W.Frag} {mg : Str → Option Value} {base : Heap} {C : Addr}
theorem scMul : FnScope ["self", "other"] ["self", "other"] (defScope sMul) :=
  ⟨rfl, rfl, rfl, by decide +kernel, rfl, by decide +kernel, by decide +kernel⟩
theorem ok_mul {f fC fI fX fA : Addr} {fd fdC fdI fdX fdA : FuncData} (F : Fun K "__mul__" "Size.__mul__" sMul f fd) (Tc : Ck K mg C)
    (GC : FnOk P w K mg base CX0 1 fC fdC ["value"] (spCheck C)) (kC : PySem.W.keepIn K (.ref fC) = true) (bC : Binds K fdC ["value"] []) (gC : mg "check_size" = some (.ref fC))
    (M : Mk K C fI) (GI : FnOk P w K mg base CX0 3 fI fdI ["self", "exponents"] (spInit C)) (bI : Binds K fdI ["self", "exponents"] [])
    (mX : Meth K C "exponents" fX) (GX : FnOk P w K mg base CX0 1 fX fdX ["self"] (spExpo C)) (bX : Binds K fdX ["self"] [])
    (GA : FnOk P w K mg base CX0 1 fA fdA ["tables"] (spAdded K)) (kA : PySem.W.keepIn K (.ref fA) = true) (bA : Binds K fdA ["tables"] []) (gA : mg "added" = some (.ref fA)) :
    FnOk P w K mg base CX0 5 f fd ["self", "other"] (spMul C) := by
  have GC4 := GC.mono (k := 4) (by decide)
  have GA4 := GA.mono (k := 4) (by decide)
  have GX4 := GX.mono (k := 4) (by decide)
  refine F.ok scMul (fun vs H Q E h => ?_) (fun cdv A outer s H vs Q E hr h => ?_)
  · obtain ⟨p, q, es, fs, rfl, _⟩ := h
    rfl
  · obtain ⟨p, q, es, fs, rfl, h1, h2, hl, k⟩ := h
    refine ⟨_, pss_cons (ps_expr (pe_call GC4 hr rfl gC kC bC .nil pass0 (pa_cons (pv 1) pa_nil)))
      (pss_one (ps_ret (pe_make M GI hr rfl Tc.gC bI .nil pass0 (pa_cons (pe_call GA4 hr rfl gA kA bA .nil pass0 (pa_cons (pe_lst (pa_cons (pe_fld (pv 0) rfl)
        (pa_cons (pe_meth0 (pv 1) Tc.cl mX GX4 hr bX .nil pass0) pa_nil))) pa_nil)) pa_nil)))), ?_⟩
    obtain ⟨dx, D, p1, p2, p3, p4, p5, p6⟩ := id h1
    obtain ⟨dy, D', q1, q2, q3, q4, q5, q6⟩ := id h2
    refine ⟨_, rfl, q, dy, _, rfl, q1, ?_⟩
    refine ⟨_, rfl, p, C, dx, _, _, rfl, p1, Tc.cl, Tc.nE, rfl, _, rfl, q, dy, _, rfl, q1, rfl, q, fs, rfl, h2, fun l nl => ?_⟩
    have S1 := fresh_upd (o := .dK (kv fs)) nl
    refine ⟨(by rw [sizeLine_eq]; show 2 ≤ 16777216; decide), fun a na => ?_⟩
    have S2 := fresh_upd (o := .lst [.ref D, .ref l]) na
    refine ⟨a, _, [es, fs], rfl, SqL.of upd_same, .cons (S2 _ _ (S1 _ _ p2)) p3.nodup (.cons (S2 _ _ upd_same) q3.nodup .nil), (by show 2 ≤ 1000; decide), ?_, fun H3 G R S3 nG hG sR lR zR => ?_⟩
    · show es.length + (fs.length + 0) < 64
      omega
    have hlen : R.length < 64 := by
      have z : R.length ≤ es.length + (fs.length + 0) := zR
      omega
    have gR : ∀ n, g0 R n = g0 es n + g0 fs n := fun n => by
      unfold g0
      rw [lR n]
      exact g0_sum2 p3.nodup q3.nodup n
    have nmR : ∀ q ∈ R, isNm q.1 = true := fun q hq => by
      have hin : q.1 ∈ R.map (·.1) := List.mem_map.mpr ⟨q, hq, rfl⟩
      have h3 : q.1 ∈ (sumE [es, fs]).map (·.1) := look_mem.mp (by rw [← lR]; exact look_mem.mpr hin)
      have h4 : q.1 ∈ (addE [] es).map (·.1) ∨ q.1 ∈ fs.map (·.1) := mem_add q3.nodup h3
      rcases h4 with h4 | h4
      · rcases mem_add p3.nodup h4 with h5 | h5
        · cases h5
        · obtain ⟨r, hr, e⟩ := List.mem_map.mp h5
          rw [← e]
          exact p5 r hr
      · obtain ⟨r, hr, e⟩ := List.mem_map.mp h4
        rw [← e]
        exact q5 r hr
    intro x ex nx ndx nex
    have Gx : G ≠ x := ne_of_none hG nx
    have Gex : G ≠ ex := ne_of_none hG ndx
    have Sx : Same H3 (upd (upd H3 ex (.own x)) x (.ins C ex [])) := fun b o e => by
      rw [upd_ne (ne_of_none e nx), upd_ne (ne_of_none e ndx)]
      exact e
    refine ⟨x, ex, .ref G, R, rfl, upd_same, .inr ⟨G, rfl, Gx, Sx _ _ hG⟩, sR.nodup, hlen, nmR, fun H4 D4 R4 S4 hx4 nD4 hD4 sR4 lR4 zR4 => ⟨rfl, ?_⟩⟩
    refine k H4 x R4 (fun b o e => ?_) (size_of hx4 hD4 sR4 lR4 zR4 hlen nmR) ⟨ex, D4, hx4, none_pre (S1.trans (S2.trans S3)) nx, none_pre (S1.trans (S2.trans (S3.trans Sx))) nD4⟩ fun n => by rw [lR4, nz_cz, gR]
    have e3 := S3 _ _ (S2 _ _ (S1 _ _ e))
    exact S4 b o (ne_of_none e3 nx) (Sx _ _ e3)
end
end K13
set_option maxHeartbeats 8000000
namespace K13
open PySem PySem.Spec PyProof.Rows L2

/-- Size(d), d a dict of names -/
theorem rd_make {C G : Addr} {R : Es} {H : Hp} {Q : VK} (hG : H G = some (.dK (kv R))) (hn : (R.map (·.1)).Nodup) (hl : R.length < 64) (nmR : ∀ q ∈ R, isNm q.1 = true)
    (k : ∀ H' r rs, Same H H' → SizeAt C H' r rs → Nw C H H' r → (∀ n, rs.lookup n = cz (g0 R n)) → Q (.ref r) H') :
    ∀ x dx, H x = none → H dx = none → dx ≠ x → spInit C (.ref x :: ([.ref G] ++ [])) (upd (upd H dx (.own x)) x (.ins C dx [])) (fun v H2 => v = .non ∧ Q (.ref x) H2) E0 := by
  intro x ex nx ndx nex
  have Gx : G ≠ x := ne_of_none hG nx
  have Sx : Same H (upd (upd H ex (.own x)) x (.ins C ex [])) := fun b o e => by
    rw [upd_ne (ne_of_none e nx), upd_ne (ne_of_none e ndx)]
    exact e
  refine ⟨x, ex, .ref G, R, rfl, upd_same, .inr ⟨G, rfl, Gx, Sx _ _ hG⟩, hn, hl, nmR, fun H4 D4 R4 S4 hx4 nD4 hD4 sR4 lR4 zR4 => ⟨rfl, ?_⟩⟩
  refine k H4 x R4 (fun b o e => S4 b o (ne_of_none e nx) (Sx _ _ e)) (size_of hx4 hD4 sR4 lR4 zR4 hl nmR) ⟨ex, D4, hx4, nx, none_pre Sx nD4⟩ fun n => by rw [lR4, nz_cz]
theorem mulE_keys (es : Es) (k : Int) : (mulE es k).map (·.1) = es.map (·.1) := by
  unfold mulE
  rw [List.map_map]
  rfl
theorem mulE_nm {es : Es} {k : Int} (h : ∀ q ∈ es, isNm q.1 = true) : ∀ q ∈ mulE es k, isNm q.1 = true := fun q hq => by
  unfold mulE at hq
  obtain ⟨p, hp, rfl⟩ := List.mem_map.mp hq
  exact h p hp
theorem mulE_g0 (k : Int) (n : Str) : ∀ es : Es, g0 (mulE es k) n = g0 es n * k
  | [] => by
    show (0 : Int) = 0 * k
    rw [Int.zero_mul]
  | (m, i) :: r => by
    have ih := mulE_g0 k n r
    unfold g0 at ih ⊢
    show (List.lookup n ((m, i * k) :: mulE r k)).getD 0 = _
    by_cases h : n = m
    · subst h
      rw [List.lookup_cons_self, List.lookup_cons_self]
      rfl
    · have e : (n == m) = false := by simpa using h
      rw [List.lookup_cons, List.lookup_cons, e]
      exact ih
theorem mulE_len (es : Es) (k : Int) : (mulE es k).length = es.length := by
  unfold mulE
  rw [List.length_map]
/-- the names of a sum of two -/
theorem nm_sum2 {es fs R : Es} (p3 : (es.map (·.1)).Nodup) (q3 : (fs.map (·.1)).Nodup) (p5 : ∀ q ∈ es, isNm q.1 = true) (q5 : ∀ q ∈ fs, isNm q.1 = true)
    (lR : ∀ n, R.lookup n = (sumE [es, fs]).lookup n) : ∀ q ∈ R, isNm q.1 = true := fun q hq => by
  have hin : q.1 ∈ R.map (·.1) := List.mem_map.mpr ⟨q, hq, rfl⟩
  have h3 : q.1 ∈ (sumE [es, fs]).map (·.1) := look_mem.mp (by rw [← lR]; exact look_mem.mpr hin)
  have h4 : q.1 ∈ (addE [] es).map (·.1) ∨ q.1 ∈ fs.map (·.1) := mem_add q3 h3
  rcases h4 with h4 | h4
  · rcases mem_add p3 h4 with h5 | h5
    · cases h5
    · obtain ⟨r, hr, e⟩ := List.mem_map.mp h5
      rw [← e]
      exact p5 r hr
  · obtain ⟨r, hr, e⟩ := List.mem_map.mp h4
    rw [← e]
    exact q5 r hr

abbrev sOver : Stmt := inClass sSize 10
abbrev sPower : Stmt := inClass sSize 11
def spOver (C : Addr) : Sp := fun vs H Q _ => ∃ (p q : Addr) (es fs : Es), vs = [.ref p, .ref q] ∧ SizeAt C H p es ∧ SizeAt C H q fs ∧ es.length + fs.length < 64 ∧
  ∀ H' r rs, Same H H' → SizeAt C H' r rs → Nw C H H' r → (∀ n, rs.lookup n = cz (g0 es n - g0 fs n)) → Q (.ref r) H'
def spPower (C : Addr) : Sp := fun vs H Q _ => ∃ (p : Addr) (es : Es) (m : Int), vs = [.ref p, .int m] ∧ SizeAt C H p es ∧ 0 ≤ m ∧ m < 2 ^ 64 ∧
  ∀ H' r rs, Same H H' → SizeAt C H' r rs → Nw C H H' r → (∀ n, rs.lookup n = cz (g0 es n * m)) → Q (.ref r) H'
section
variable {P : Program} {w : World} {K : PySem.W.Frag} {mg : Str → Option Value} {base : Heap} {C : Addr}
end
end K13
set_option maxHeartbeats 8000000
namespace K13
open PySem PySem.Spec PyProof.Rows L2

/-! ### == and != of an instance with an own __eq__ -/
/-- what may stand on the right, and its type -/
inductive Oth (C : Addr) (H : Hp) : V → Value → Prop
  | ins {b dy : Addr} {gs : List (Str × V)} : H b = some (.ins C dy gs) → Oth C H (.ref b) (.ref C)
  | int (i : Int) : Oth C H (.int i) (.type "int")
  | str (x : Str) : Oth C H (.str x) (.type "str")
  | dK {b : Addr} {kvs : List (Key × V)} : H b = some (.dK kvs) → Oth C H (.ref b) (.type "dict")
theorem ld_type {M : Model} {h : Heap} {a : Addr} {o : Obj} (e : h.get? a = some o) : PySem.W.Looks M h (typeOf (.ref a)) o.cls := (PySem.W.Looks.ld e).andThen .now
theorem Oth.looks {X : Cx} {pins : List (Addr × Obj)} {σ : L2.St} {H : Hp} {s : Shared} {C : Addr} {y : V} {t v : Value} (o : Oth C H y t) (I : Inv X pins σ H s) (r : RelV y v) :
    PySem.W.Looks (model X.prog X.w) s.heap (typeOf v) t := by
  cases o with
  | ins hb =>
    cases r
    obtain ⟨mB, J', _⟩ := ins_get I.hok hb
    obtain ⟨od', J', _⟩ := J'.look
    exact J'.type
  | int i =>
    obtain ⟨k, rfl⟩ := (show ∃ t, v = Value.int i t from r)
    exact .of_pure rfl
  | str x =>
    obtain ⟨k, rfl⟩ := (show ∃ t, v = Value.str x t from r)
    exact .of_pure rfl
  | @dK b kvs hb =>
    cases (show v = Value.ref b from r)
    obtain ⟨_, _, vs, _, o, es, ep, h1, h2, _⟩ := (show ObjOk X.prog X.w H s.heap b (.dK kvs) from I.hok b _ hb)
    have z := ld_type (M := model X.prog X.w) h1
    rw [h2.1] at z
    exact z
theorem sub_ty {K : PySem.W.Frag} {C : Addr} {n : String} {m : List Value} (e : fastBuiltinMro n = some m) (h : m.contains (.ref C) = false) : PySem.W.subIn K (.type n) (.ref C) = some false := by
  show (fastBuiltinMro n).map (·.contains (.ref C)) = some false
  rw [e]
  exact congrArg some h
theorem Oth.first {K : PySem.W.Frag} {C : Addr} {H : Hp} {y : V} {t : Value} (o : Oth C H y t) : PySem.W.notFirst K C t = true := by
  cases o with
  | ins _ => simp [PySem.W.notFirst]
  | int _ =>
    unfold PySem.W.notFirst
    rw [sub_ty (m := [.type "int", .type "object"]) (by decide +kernel) (by simp)]
    simp
  | str _ =>
    unfold PySem.W.notFirst
    rw [sub_ty (m := [.type "str", .type "object"]) (by decide +kernel) (by simp)]
    simp
  | dK _ =>
    unfold PySem.W.notFirst
    rw [sub_ty (m := [.type "dict", .type "object"]) (by decide +kernel) (by simp)]
    simp

section
variable {M : Model} {prog : Program} {w : World} {A : Around} {E : Value → Shared → Prop} {s : Shared} {K : PySem.W.Frag} {x C f : Addr} {ox : Obj} {od : Option Obj} {b tb : Value}
theorem entry_ne (hu : A.units < cLine) (X : K.In s.heap) (I : PySem.W.InstAt s.heap x ox C od) (hs : PySem.W.findIn K (.ref C) "__eq__" = some (some (.ref f))) (hf : PySem.W.isFn K (.ref f) = true) {Q : Fin → Shared → Prop}
    (hcall : wpAny (model prog w) A (call (.ref f) [.ref x, b]) (fun v s' => ∃ k, v = .bool k ∧ Q (.done (.ret (.bool (!k)))) s') E s) :
    wpAny (model prog w) A (Builtin.«object.__ne__» ⟨[.ref x, b], []⟩) Q E s := by
  unfold Builtin.«object.__ne__»
  repeat (first
    | with_reducible refine wpAny_cRoomFor hu ?_
    | (refine wpAny_bind (m := callSpecialIfBound? (.ref x) (Str.ofString "__eq__") [b])
        (PySem.W.ifBound_K X I hs hf (wpAny_mono hcall (fun v s' hv => by
          obtain ⟨k, rfl, hq⟩ := hv
          repeat (first | exact hq | exact wpAny_pure hq | exact wpAny_truthy_bool hq | (refine wpAny_bind (m := truthy (.bool _)) (wpAny_truthy_bool ?_)) | wp_step)) fun _ _ e => e)))
    | wp_step)
theorem ifBound_objNe {args : List Value} {Q : Option Value → Shared → Prop} (X : K.In s.heap) (I : PySem.W.InstAt s.heap x ox C od) (hs : PySem.W.findIn K (.ref C) "__ne__" = some (some (.builtin "object.__ne__")))
    (h : wpAny M A (call (.builtin "object.__ne__") (.ref x :: args)) (fun v => Q (some v)) E s) : wpAny M A (callSpecialIfBound? (.ref x) "__ne__" args) Q E s := by
  simp only [callSpecialIfBound?, bindSpecialIfBound?]
  refine wpAny_holding (wpAny_bind (wpAny_bind (wpAny_bind (I.type.here ((PySem.W.looks_findIn X hs).here ?_)))))
  refine wpAny_bind (wpAny_askSetting (wpAny_ite ?_))
  have fin : wpAny M A (call (.builtin "object.__ne__") ([.ref x] ++ args) >>= fun v => pure (some v)) Q E s := wpAny_bind (wpAny_mono h (fun v s' h' => wpAny_pure h') fun _ _ h' => h')
  split
  · exact wpAny_bind (wpAny_of_eq (F.cmp_object.ne.bind _) (wpAny_pure (by exact fin)))
  · exact wpAny_tryCatch (wpAny_bind (wpAny_of_eq (F.cmp_object.ne.bind _) (wpAny_pure (by exact fin))))
theorem ne_K {Q : Value → Shared → Prop} (hu : A.units + 1 < cLine) (X : K.In s.heap) (I : PySem.W.InstAt s.heap x ox C od) (hb : PySem.W.Looks (model prog w) s.heap (typeOf b) tb) (hn : PySem.W.notFirst K C tb = true)
    (hm : PySem.W.mroIn K C (.type "object") = some true) (hN : PySem.W.findIn K (.ref C) "__ne__" = some (some (.builtin "object.__ne__")))
    (hs : PySem.W.findIn K (.ref C) "__eq__" = some (some (.ref f))) (hf : PySem.W.isFn K (.ref f) = true)
    (h : wpAny (model prog w) A.in1 (call (.ref f) [.ref x, b]) (fun v s' => ∃ k, v = .bool k ∧ Q (.bool (!k)) s') E s) : wpAny (model prog w) A (richCompare .NotEq (.ref x) b) Q E s := by
  have one : wpAny (model prog w) A (tryCompare (.ref x) (cmpInfo .NotEq).2.1 b) (fun r s' => ∃ v, r = some v ∧ Q v s') E s := by
    unfold tryCompare
    refine wpAny_bind (ifBound_objNe X I hN (wpAny_call (codeAny_call_builtin F.cmp_object.ne.plain F.cmpEntry_ne
      (PySem.W.check_slot F.cmpKind_ne F.cmpSplit_ne (I.type.andThen (PySem.W.looks_mroIn X hm)) (F.cmpArgs_ne _ _) (entry_ne (A := A.in1) hu X I hs hf (wpAny_mono h (fun v s' hv => ?_) fun _ _ e => e))))))
    obtain ⟨k, rfl, hq⟩ := hv
    exact ⟨k, rfl, wpAny_pure ⟨_, rfl, hq⟩⟩
  unfold richCompare
  simp only [oneThing_ref]
  refine wpAny_holding (wpAny_bind (wpAny_cRoomFor (Nat.lt_of_succ_lt hu) ?_))
  refine wpAny_bind (I.type.here (wpAny_bind (hb.here ?_)))
  split
  · rename_i q
    have e : PySem.W.subIn K tb (.ref C) = some false := by
      rcases Bool.or_eq_true_iff.mp hn with e | e
      · rw [beq_iff_eq.mp e] at q; simp at q
      · exact beq_iff_eq.mp e
    refine wpAny_bind ((PySem.W.looks_subIn X e).here ?_)
    simp only [Bool.false_eq_true, if_false]
    refine wpAny_bind (wpAny_mono one (fun r s' z => ?_) fun _ _ e => e)
    obtain ⟨v, rfl, hq⟩ := z
    exact wpAny_pure hq
  · refine wpAny_bind (wpAny_pure ?_)
    simp only [Bool.false_eq_true, if_false]
    refine wpAny_bind (wpAny_mono one (fun r s' z => ?_) fun _ _ e => e)
    obtain ⟨v, rfl, hq⟩ := z
    exact wpAny_pure hq
end

def rOwn (C : Addr) (sp : Sp) (E : XK) (g : Bool → Bool) : R2 := fun x y H Q => ∃ (a dx : Addr) (fs : List (Str × V)) (t : Value), x = .ref a ∧ H a = some (.ins C dx fs) ∧ Oth C H y t ∧
  sp [.ref a, y] H (fun v H' => ∃ b, v = .bl b ∧ Q (.bl (g b)) H') E
section
variable {X : Cx} {CX : CXT} {C f : Addr} {fd : FuncData} {ps : List Str} {sp : Sp} {E : XK} {n : Nat}
theorem run_own {A : Around} (F : FnOk X.prog X.w X.K X.mg X.base CX n f fd ps sp) (hr : Room n A) (fr : A.frames = X.A.frames) (hb : Binds X.K fd ps []) (hx : Passes CX X E)
    {pins : List (Addr × Obj)} {σ : L2.St} {s : Shared} {H : Hp} {a : Addr} {y : V} {v : Value} {Q : Bool → Shared → Prop} (I : Inv X pins σ H s) (ry : RelV y v)
    (hsp : sp [.ref a, y] H (fun v H' => ∃ b, v = .bl b ∧ ∀ s', Inv X pins σ H' s' → Q b s') E) :
    wpAny (model X.prog X.w) A (call (.ref f) [.ref a, v]) (fun r s' => ∃ b, r = .bool b ∧ Q b s') X.xe s := by
  have e0 : Env0 X.prog X.w X.K X.mg X.base A X.stack s H := by
    have e := I.env0
    exact ⟨by rw [fr]; exact e.frames, e.mod, e.bs, e.bsz, e.funs, e.frf, e.hok, e.bare⟩
  have hl := F.len _ _ _ _ hsp
  have r2 : Vals [V.ref a, y] [Value.ref a, v] := .cons rfl (.cons ry .nil)
  refine wpAny_call (codeAny_mono (F.run A X.stack s H ⟨[.ref a, v], []⟩ [.ref a, v] [.ref a, y] _ E hr e0 (by
    have := hb s [.ref a, v] I.kIn (by simpa using hl)
    simpa using this) r2 hsp) fun r s' hq => ?_)
  cases r with
  | error e => exact hx pins σ H s e s' I hq
  | ok fl =>
    cases fl with
    | ret w =>
      obtain ⟨z, H', I', rz, b, ez, ex⟩ := I.after hq
      subst ez
      cases rz
      exact ⟨b, rfl, ex _ I'⟩
    | next => exact False.elim hq
    | brk => exact False.elim hq
    | cont => exact False.elim hq
theorem op_own (F : FnOk X.prog X.w X.K X.mg X.base CX n f fd ps sp) (hr : Room n X.A) (hs : PySem.W.findIn X.K (.ref C) "__eq__" = some (some (.ref f))) (hf : PySem.W.isFn X.K (.ref f) = true)
    (hb : Binds X.K fd ps []) (hx : Passes CX X E) (hsq : ∀ vs H (Q Q' : VK), (∀ v H', Q v H' → Q' v H') → sp vs H Q E → sp vs H Q' E) : OpR X (compareOp .Eq) (rOwn C sp E id) := by
  intro pins s σ H x y v u Q I rx ry h
  obtain ⟨a, dx, fs, t, rfl, ha, ho, hsp⟩ := h
  cases rx
  obtain ⟨mA, J, _⟩ := ins_get I.hok ha
  obtain ⟨od, J, _⟩ := J.look
  obtain ⟨m, hF⟩ := I.fr
  refine PySem.W.cmp_K (op := .Eq) (tb := t) hr.units0 hF I.ok.mod.kin J (ho.looks I ry) ho.first hs hf ?_
  refine wpAny_mono (run_own F hr rfl hb hx I ry (Q := fun b s' => EP X pins σ Q (.bool b) s') (hsq _ _ _ _ (fun v H' q => ?_) hsp)) (fun r s' z => ?_) fun _ _ e => e
  · obtain ⟨b, e, q⟩ := q
    exact ⟨b, e, fun s' I' => ⟨.bl b, H', I', rfl, q⟩⟩
  · obtain ⟨b, rfl, q⟩ := z
    exact q
theorem op_ownNe (F : FnOk X.prog X.w X.K X.mg X.base CX n f fd ps sp) (hr : Room (n + 1) X.A) (hs : PySem.W.findIn X.K (.ref C) "__eq__" = some (some (.ref f))) (hf : PySem.W.isFn X.K (.ref f) = true)
    (hm : PySem.W.mroIn X.K C (.type "object") = some true) (hN : PySem.W.findIn X.K (.ref C) "__ne__" = some (some (.builtin "object.__ne__")))
    (hb : Binds X.K fd ps []) (hx : Passes CX X E) (hsq : ∀ vs H (Q Q' : VK), (∀ v H', Q v H' → Q' v H') → sp vs H Q E → sp vs H Q' E) : OpR X (compareOp .NotEq) (rOwn C sp E not) := by
  intro pins s σ H x y v u Q I rx ry h
  obtain ⟨a, dx, fs, t, rfl, ha, ho, hsp⟩ := h
  cases rx
  obtain ⟨mA, J, _⟩ := ins_get I.hok ha
  obtain ⟨od, J, _⟩ := J.look
  show wpAny (model X.prog X.w) X.A (richCompare .NotEq (.ref a) u) (EP X pins σ Q) X.xe s
  refine ne_K (by have := hr.units; omega) I.kIn J (ho.looks I ry) ho.first hm hN hs hf ?_
  refine run_own F hr.in1 rfl hb hx I ry (Q := fun b s' => EP X pins σ Q (.bool (!b)) s') (hsq _ _ _ _ (fun v H' q => ?_) hsp)
  obtain ⟨b, e, q⟩ := q
  exact ⟨b, e, fun s' I' => ⟨.bl (!b), H', I', rfl, q⟩⟩
end
end K13
set_option maxHeartbeats 8000000
namespace K13
open PySem PySem.Spec PyProof.Rows L2

/-! ### dicts of numbers compared -/
def hitR (fs : Es) : Es → Bool
  | [] => true
  | (n, v) :: r => match fs.lookup n with
    | some u => (v == u) && hitR fs r
    | none => false
theorem hits_int {A : Around} {s : Shared} {fs : Es} {vb : List (Key × Value)} (rb : KV (kv fs) vb) : ∀ {es : Es} {va : List (Key × Value)}, KV (kv es) va → PySem.W.KeqHits A s vb va (hitR fs es)
  | [], va, ra => by
    unfold KV at ra
    cases ra
    exact .nil
  | (n, v) :: r, va, ra => by
    unfold KV at ra
    cases ra with
    | @cons p q ps qs h t =>
      obtain ⟨h1, h2⟩ := h
      obtain ⟨k, x⟩ := q
      have h1' : ky n = k := h1
      subst h1'
      obtain ⟨tk, rfl⟩ := (show ∃ t, x = Value.int v t from h2)
      have ih := hits_int (A := A) (s := s) rb (es := r) (va := qs) t
      have rr := rb.val (ky n)
      rw [val_kv] at rr
      show PySem.W.KeqHits A s vb _ (match fs.lookup n with
        | some u => (v == u) && hitR fs r
        | none => false)
      cases e : fs.lookup n with
      | none =>
        rw [e] at rr
        have z : valueAt vb (ky n) = none := RelO.none_of rr
        exact .miss z
      | some u =>
        rw [e] at rr
        obtain ⟨y, hy, ry⟩ := RelO.some_of rr
        obtain ⟨tu, rfl⟩ := (show ∃ t, y = Value.int u t from ry)
        exact .hit hy (SeqAt.EqAt.int_int v tk u tu) ih
theorem pig {α : Type} [DecidableEq α] : ∀ (l m : List α), l.Nodup → (∀ x, x ∈ l → x ∈ m) → m.length ≤ l.length → ∀ x, x ∈ m → x ∈ l
  | [], m, _, _, hl, x, hx => by
    cases m with
    | nil => exact hx
    | cons a t => simp at hl
  | a :: r, m, hn, hs, hl, x, hx => by
    obtain ⟨n1, n2⟩ := List.pairwise_cons.mp hn
    by_cases e : x = a
    · rw [e]; exact List.mem_cons_self ..
    · have ha := hs a (List.mem_cons_self ..)
      have h1 : ∀ y, y ∈ r → y ∈ m.erase a := fun y hy => (List.mem_erase_of_ne (fun z => n1 y hy z.symm)).mpr (hs y (List.mem_cons_of_mem _ hy))
      have h2 : (m.erase a).length ≤ r.length := by
        rw [List.length_erase_of_mem ha]
        simp at hl
        omega
      exact List.mem_cons_of_mem _ (pig r (m.erase a) n2 h1 h2 x ((List.mem_erase_of_ne e).mpr hx))
theorem look_get {es : Es} (h : (es.map (·.1)).Nodup) {n : Str} {v : Int} (hm : (n, v) ∈ es) : es.lookup n = some v := by
  induction es with
  | nil => cases hm
  | cons p r ih =>
    rw [List.map_cons] at h
    obtain ⟨n1, n2⟩ := List.pairwise_cons.mp h
    rcases List.mem_cons.mp hm with e | hm
    · subst e
      exact List.lookup_cons_self
    · have ne : (n == p.1) = false := by
        have : n ≠ p.1 := fun z => n1 n (List.mem_map.mpr ⟨_, hm, rfl⟩) z.symm
        simpa using this
      rw [List.lookup_cons, ne]
      exact ih n2 hm
theorem hit_all {fs : Es} : ∀ {es : Es}, hitR fs es = true → ∀ n v, (n, v) ∈ es → fs.lookup n = some v
  | [], _, _, _, h => by cases h
  | (m, u) :: r, h, n, v, hm => by
    have h' : (match fs.lookup m with
      | some w => (u == w) && hitR fs r
      | none => false) = true := h
    cases e : fs.lookup m with
    | none =>
      rw [e] at h'
      cases h'
    | some w =>
      rw [e] at h'
      obtain ⟨h1, h2⟩ := Bool.and_eq_true_iff.mp h'
      rcases List.mem_cons.mp hm with z | z
      · cases z
        rw [e, beq_iff_eq.mp h1]
      · exact hit_all h2 n v z
theorem hit_self {es : Es} (h : (es.map (·.1)).Nodup) : ∀ {r : Es}, (∀ p ∈ r, p ∈ es) → hitR es r = true
  | [], _ => rfl
  | (n, v) :: r, hs => by
    show (match es.lookup n with
      | some w => (v == w) && hitR es r
      | none => false) = true
    rw [look_get h (hs _ (List.mem_cons_self ..))]
    show ((v == v) && hitR es r) = true
    rw [hit_self h fun p hp => hs p (List.mem_cons_of_mem _ hp)]
    simp
theorem eq_hit {es fs : Es} (h : SdE es) (g : SdE fs) : (es.length == fs.length && hitR fs es) = decide (es = fs) := by
  by_cases e : es = fs
  · subst e
    rw [decide_eq_true rfl, hit_self h.nodup fun _ q => q]
    simp
  · rw [decide_eq_false e]
    cases c : (es.length == fs.length && hitR fs es) with
    | false => rfl
    | true =>
      obtain ⟨c1, c2⟩ := Bool.and_eq_true_iff.mp c
      have hl := beq_iff_eq.mp c1
      have hA := hit_all c2
      refine absurd (SdE.one h g fun n => ?_) e
      cases q : es.lookup n with
      | some v =>
        have hin : ∃ u, (n, u) ∈ es := by
          have z := look_mem.mp (show (es.lookup n).isSome = true by rw [q]; rfl)
          obtain ⟨p, hp, e⟩ := List.mem_map.mp z
          exact ⟨p.2, by rw [← e]; exact hp⟩
        obtain ⟨u, hu⟩ := hin
        have q2 := look_get h.nodup hu
        rw [q] at q2
        rw [hA n u hu, ← q2]
      | none =>
        cases q2 : fs.lookup n with
        | none => rfl
        | some u =>
          have z := look_mem.mp (show (fs.lookup n).isSome = true by rw [q2]; rfl)
          have z2 := pig (es.map (·.1)) (fs.map (·.1)) h.nodup (fun x hx => by
            obtain ⟨p, hp, e⟩ := List.mem_map.mp hx
            exact look_mem.mp (by rw [← e, hA p.1 p.2 hp]; rfl)) (by rw [List.length_map, List.length_map]; omega) n z
          have z3 := look_mem.mpr z2
          rw [q] at z3
          cases z3
def rEqI (g : Bool → Bool) : R2 := fun x y H Q => ∃ (a b : Addr) (es fs : Es), x = .ref a ∧ y = .ref b ∧ H a = some (.dK (kv es)) ∧ H b = some (.dK (kv fs)) ∧ SdE es ∧ SdE fs ∧ Q (.bl (g (decide (es = fs)))) H
section
variable {X : Cx}
theorem op_eqI (hu : X.A.units < cLine) : OpR X (compareOp .Eq) (rEqI id) := by
  intro pins s σ H x y v u Q I rx ry h
  obtain ⟨a, b, es, fs, rfl, rfl, ea, eb, he, hf, q⟩ := h
  obtain rfl : v = Value.ref a := rx
  obtain rfl : u = Value.ref b := ry
  obtain ⟨_, ya, va, ra, da⟩ := (show ObjOk X.prog X.w H s.heap a (.dK (kv es)) from I.hok a _ ea)
  obtain ⟨_, yb, vb, rb, db⟩ := (show ObjOk X.prog X.w H s.heap b (.dK (kv fs)) from I.hok b _ eb)
  refine PySem.W.keq_eq (knd := mixKind X.prog X.w) (r := hitR fs es) ya yb da db hu (fun _ => hits_int rb ra) (fin_bl I q ?_)
  rw [← ra.length, ← rb.length, kv_len, kv_len, eq_hit he hf]
  rfl
theorem op_neI (hu : X.A.units < cLine) : OpR X (compareOp .NotEq) (rEqI not) := by
  intro pins s σ H x y v u Q I rx ry h
  obtain ⟨a, b, es, fs, rfl, rfl, ea, eb, he, hf, q⟩ := h
  obtain rfl : v = Value.ref a := rx
  obtain rfl : u = Value.ref b := ry
  obtain ⟨_, ya, va, ra, da⟩ := (show ObjOk X.prog X.w H s.heap a (.dK (kv es)) from I.hok a _ ea)
  obtain ⟨_, yb, vb, rb, db⟩ := (show ObjOk X.prog X.w H s.heap b (.dK (kv fs)) from I.hok b _ eb)
  refine PySem.W.keq_ne (knd := mixKind X.prog X.w) (r := hitR fs es) ya yb da db hu (fun _ => hits_int rb ra) (fin_bl I q ?_)
  rw [← ra.length, ← rb.length, kv_len, kv_len, eq_hit he hf]
end
abbrev sEq : Stmt := inClass sSize 17
def spEqS (K : PySem.W.Frag) (C : Addr) : Sp := fun vs H Q _ => ∃ (p : Addr) (es : Es) (y : V), vs = [.ref p, y] ∧ SizeAt C H p es ∧
  ((∃ (q : Addr) (fs : Es), y = .ref q ∧ SizeAt C H q fs ∧ Q (.bl (decide (es = fs))) H) ∨ ∃ t, TyX K H y t ∧ PySem.W.kitOne K t (.ref C) = some false ∧ Q (.bl false) H)
section
variable {P : Program} {w : World} {K : PySem.W.Frag} {mg : Str → Option Value} {base : Heap} {C : Addr}
theorem scEq : FnScope ["self", "other"] ["self", "other"] (defScope sEq) :=
  ⟨rfl, rfl, rfl, by decide +kernel, rfl, by decide +kernel, by decide +kernel⟩
theorem ok_eq {f : Addr} {fd : FuncData} (F : Fun K "__eq__" "Size.__eq__" sEq f fd) (T : Nk mg) (Tc : Ck K mg C) :
    FnOk P w K mg base CX0 1 f fd ["self", "other"] (spEqS K C) := by
  refine F.ok scEq (fun vs H Q E h => ?_) (fun cdv A outer s H vs Q E hr h => ?_)
  · obtain ⟨p, es, y, rfl, _⟩ := h
    rfl
  · obtain ⟨p, es, y, rfl, h1, h2⟩ := h
    have hu : (A.deeper (envOfC "Size.__eq__" (defScope sEq) s.heap.objs.size f cdv)).units < cLine := by have := hr.units; omega
    refine ⟨_, pss_one (ps_ret (pe_and (pe_callB call_isi (by rfl) T.isi (by decide +kernel) (pa_cons (pv 1) (pa_cons (pe_glob (v := .ref C) (by rfl) Tc.gC rfl) pa_nil)))
      (pe_one (pe_cmpR (op_eqI hu) (pe_fld (pv 0) rfl) (pe_fld (pv 1) rfl) (nomark _))))), ?_⟩
    obtain ⟨dx, D, p1, p2, p3, p4⟩ := h1
    rcases h2 with ⟨q, fs, rfl, ⟨dy, D', q1, q2, q3, q4⟩, k⟩ | ⟨t, ht, hk, k⟩
    · refine ⟨_, rfl, _, _, _, _, true, rfl, .own _, .base (.ins q1 Tc.cl Tc.cc Tc.cn Tc.ct Tc.co), ?_, _, rfl, ?_⟩
      · unfold PySem.W.kitOne
        rw [if_pos (by simp)]
      refine iteT' rfl ?_
      exact ⟨_, rfl, p, C, dx, _, _, rfl, p1, Tc.cl, Tc.nE, rfl, _, rfl, q, C, dy, _, _, rfl, q1, Tc.cl, Tc.nE, rfl, D, D', es, fs, rfl, rfl, p2, q2, p3, q3, k⟩
    · exact ⟨_, rfl, _, _, _, _, false, rfl, .own _, ht, hk, _, rfl, iteF k⟩
end
theorem spEq_mono {K : PySem.W.Frag} {C : Addr} {E : XK} : ∀ vs H (Q Q' : VK), (∀ v H', Q v H' → Q' v H') → spEqS K C vs H Q E → spEqS K C vs H Q' E := by
  rintro vs H Q Q' h ⟨p, es, y, e, h1, h2⟩
  refine ⟨p, es, y, e, h1, ?_⟩
  rcases h2 with ⟨q, fs, e, h3, k⟩ | ⟨t, h3, h4, k⟩
  · exact .inl ⟨q, fs, e, h3, h _ _ k⟩
  · exact .inr ⟨t, h3, h4, h _ _ k⟩
end K13
set_option maxHeartbeats 8000000
namespace K13
open PySem PySem.Spec PyProof.Rows L2 TL

/-! ### texts of numbers and Sizes -/
def decS (n : Int) : Str := Str.ofString (toString n)
def pwT (n : Str) (v : Int) : Str := if v = 1 then n else n ++ ("^" : Str) ++ decS v
def texE (es : Es) : Str := if es = [] then "1" else Txt.join "*" (es.map fun q => pwT q.1 q.2)
def Big (v : Int) : Prop := -(10 ^ 60) < v ∧ v < 10 ^ 60
theorem dec_len0 {v : Int} (h0 : 0 ≤ v) (h : v < 10 ^ 60) : (decS v).length ≤ 60 := toString_length_le h0 (by decide) h
theorem dec_len {v : Int} (h : Big v) : (decS v).length ≤ 61 := by
  by_cases h0 : 0 ≤ v
  · have := dec_len0 h0 h.2
    omega
  · unfold decS
    rw [len_text_neg (by omega)]
    have := dec_len0 (v := 0 - v) (by omega) (by have := h.1; omega)
    unfold decS at this
    omega
theorem log_of {v : Int} (h : Big v) : v.natAbs.log2 < 1920 := by
  have h1 : v.natAbs < 2 ^ 200 := by
    have h2 : (10 : Int) ^ 60 < 2 ^ 200 := by decide
    have h3 : ((v.natAbs : Nat) : Int) < 2 ^ 200 := by
      have := h.1
      have := h.2
      omega
    exact_mod_cast h3
  by_cases h0 : v.natAbs = 0
  · rw [h0]
    decide
  · have := (Nat.log2_lt h0).mpr h1
    omega
theorem of_append (a b : String) : Str.ofString (a ++ b) = Str.ofString a ++ Str.ofString b := by
  apply str_eq
  show tl _ = tl _
  rw [tl_append]
  show (Str.ofString (a ++ b)).cps.toList = (Str.ofString a).cps.toList ++ (Str.ofString b).cps.toList
  rw [Str.ofString_eq_toList, Str.ofString_eq_toList, Str.ofString_eq_toList]
  simp [String.toList_append]
theorem dec_neg {v : Int} (h : v < 0) : ("-" : Str) ++ decS (-v) = decS v := by
  unfold decS
  rw [toString_neg h, of_append, Int.zero_sub]
theorem join_one (y x : Str) : Txt.join y [x] = x := by
  rw [join_eq]
  rfl
theorem len_joinL (S : List Nat) : ∀ ps : List (List Nat), (joinL S ps).length ≤ (ps.map List.length).sum + ps.length * S.length
  | [] => Nat.zero_le _
  | [p] => by
    show p.length ≤ p.length + 0 + 1 * S.length
    omega
  | p :: q :: r => by
    have ih := len_joinL S (q :: r)
    show (p ++ (S ++ joinL S (q :: r))).length ≤ (p.length + ((q :: r).map List.length).sum) + ((q :: r).length + 1) * S.length
    rw [List.length_append, List.length_append, Nat.add_mul, Nat.one_mul]
    omega
theorem len_join (y : Str) (ps : List Str) {b : Nat} (h : ∀ p ∈ ps, p.length ≤ b) : (Txt.join y ps).length ≤ ps.length * b + ps.length * y.length := by
  rw [join_eq, len_tl, tl_join]
  have h1 := len_joinL (tl y) (ps.map tl)
  rw [List.length_map, ← len_tl] at h1
  have h2 : ∀ l : List Str, (∀ p ∈ l, p.length ≤ b) → ((l.map tl).map List.length).sum ≤ l.length * b := fun l => by
    induction l with
    | nil => intro _; exact Nat.zero_le _
    | cons p r ih =>
      intro hl
      have z := ih fun q hq => hl q (List.mem_cons_of_mem _ hq)
      have z2 := hl p (List.mem_cons_self ..)
      rw [len_tl] at z2
      show (tl p).length + ((r.map tl).map List.length).sum ≤ (r.length + 1) * b
      rw [Nat.add_mul, Nat.one_mul]
      omega
  have := h2 ps h
  omega
theorem pw_len {n : Str} {v : Int} (hn : n.length ≤ 8) (h : Big v) : (pwT n v).length ≤ 70 := by
  unfold pwT
  split
  · omega
  · have := dec_len h
    rw [len_tl, tl_append, tl_append, List.length_append, List.length_append, ← len_tl, ← len_tl, ← len_tl]
    have e : ("^" : Str).length = 1 := by decide
    omega
theorem tex_len {es : Es} (h : ∀ q ∈ es, q.1.length ≤ 8 ∧ Big q.2) (hl : es.length < 64) : (texE es).length ≤ 10000 := by
  unfold texE
  split
  · decide
  · have z := len_join "*" (es.map fun q => pwT q.1 q.2) (b := 70) fun p hp => by
      obtain ⟨q, hq, e⟩ := List.mem_map.mp hp
      rw [← e]
      exact pw_len (h q hq).1 (h q hq).2
    rw [List.length_map] at z
    have e : ("*" : Str).length = 1 := by decide
    rw [e] at z
    omega

abbrev sDec : Stmt := top 18
abbrev sPw : Stmt := top 23
abbrev sTex : Stmt := top 21
abbrev sStr : Stmt := inClass sSize 18
def spDec0 : Sp := fun vs H Q _ => ∃ n : Int, vs = [.int n] ∧ 0 ≤ n ∧ n < 10 ^ 60 ∧ ∀ H', Same H H' → Q (.str (decS n)) H'
def spDec : Sp := fun vs H Q _ => ∃ n : Int, vs = [.int n] ∧ Big n ∧ ∀ H', Same H H' → Q (.str (decS n)) H'
def spPw : Sp := fun vs H Q _ => ∃ (x : Str) (n : Int), vs = [.str x, .int n] ∧ x.length ≤ 8 ∧ Big n ∧ ∀ H', Same H H' → Q (.str (pwT x n)) H'
def spTex : Sp := fun vs H Q _ => ∃ (d : Addr) (es : Es), vs = [.ref d] ∧ H d = some (.dK (kv es)) ∧ (es.map (·.1)).Nodup ∧ es.length < 64 ∧ (∀ q ∈ es, q.1.length ≤ 8 ∧ Big q.2) ∧ ∀ ss, SdE ss → (∀ n, ss.lookup n = es.lookup n) → ∀ H', Same H H' → Q (.str (texE ss)) H'
def spStr (C : Addr) : Sp := fun vs H Q _ => ∃ (p : Addr) (es : Es), vs = [.ref p] ∧ SizeAt C H p es ∧ (∀ q ∈ es, Big q.2) ∧ ∀ H', Same H H' → Q (.str (texE es)) H'
structure Ns (mg : Str → Option Value) : Prop where
  str : mg "str" = none
  chunk : ∃ t, mg "CHUNK" = some (.int (10 ^ 60) t)
section
variable {P : Program} {w : World} {K : PySem.W.Frag} {mg : Str → Option Value} {base : Heap} {C : Addr}
theorem scDec : FnScope ["number", "parts", "low"] ["number"] (defScope sDec) :=
  ⟨rfl, rfl, rfl, by decide +kernel, rfl, by decide +kernel, by decide +kernel⟩

theorem ok_dec0 {f : Addr} {fd : FuncData} (F : Fun K "decimal_text" "decimal_text" sDec f fd) (T : Ns mg) :
    FnOk P w K mg base CX0 1 f fd ["number"] spDec0 := by
  obtain ⟨tc, gc⟩ := T.chunk
  refine F.ok scDec (fun vs H Q E h => ?_) (fun cdv A outer s H vs Q E hr h => ?_)
  · obtain ⟨n, rfl, _⟩ := h
    rfl
  · obtain ⟨n, rfl, h0, h1, k⟩ := h
    refine ⟨_, pss_cons (ps_if (pt_cmpR op_lt (pv 0) pe_int (nomark _)) (pss_one ps_no) pss_nil)
      (pss_cons (ps_set (i := 1) scDec.nd rfl (.inl rfl) (pe_lst pa_nil))
      (pss_cons (ps_while PassesOwn.never (pt_cmpR op_ge (pv 0) (pe_glob (v := .int (10 ^ 60)) (by rfl) gc ⟨tc, rfl⟩) (nomark _)) (pss_cons ps_no (pss_one ps_no)))
      (pss_cons (ps_expr (pe_bm PySem.F.plainAttrs_list PySem.F.slot_list_append PySem.F.type_list_append mt_append (pv 1) (pa_cons (pe_callTy call_str_int (by rfl) T.str (by decide +kernel) (pa_cons (pv 0) pa_nil)) pa_nil)))
      (pss_one (ps_ret (pe_join pe_str (pe_revL (pv 1)))))))), ?_⟩
    refine ⟨_, rfl, _, _, rfl, rfl, _, rfl, ?_⟩
    refine iteN' (by omega) ?_
    refine ⟨Nat.zero_le _, fun a na => ?_⟩
    have S1 := fresh_upd (o := .lst []) na
    refine ⟨fun m σ H2 => σ = [some (.int n), some (.ref a), none] ∧ H2 = upd H a (.lst []), ⟨0, rfl, rfl⟩, ?_⟩
    rintro m σ H2 ⟨rfl, rfl⟩
    refine ⟨_, rfl, _, _, rfl, rfl, _, rfl, ?_⟩
    refine iteN' (by omega) ?_
    refine ⟨_, rfl, .inl ⟨rfl, _, SqL.of upd_same⟩, _, rfl, n, rfl, log_of ⟨by omega, h1⟩, a, [], _, rfl, rfl, upd_same, by rw [sizeLine_eq]; show 0 < 16777216; decide, ?_⟩
    refine ⟨⟨_, rfl⟩, _, rfl, a, _, rfl, SqL.of upd_same, fun p np => ?_⟩
    have hL := dec_len0 h0 h1
    refine ⟨_, p, [decS n], rfl, rfl, .inl (SqL.of upd_same), ?_, ?_⟩
    · show (decS n).length + 0 + 1 * Str.empty.length ≤ 16777216
      have e : Str.empty.length = 0 := rfl
      omega
    · rw [join_one]
      refine k _ fun b o e => ?_
      have ba : b ≠ a := ne_of_none e na
      have e1 := S1 _ _ e
      have bp : b ≠ p := ne_of_none ((upd_ne ba).trans e1) np
      rw [upd_ne bp, upd_ne ba]
      exact e1
theorem ok_dec {f : Addr} {fd : FuncData} (F : Fun K "decimal_text" "decimal_text" sDec f fd) (T : Ns mg) (bD : Binds K fd ["number"] []) (gD : mg "decimal_text" = some (.ref f)) (kD : PySem.W.keepIn K (.ref f) = true) :
    FnOk P w K mg base CX0 2 f fd ["number"] spDec := by
  have G0 : FnOk P w K mg base CX0 1 f fd ["number"] spDec0 := ok_dec0 F T
  obtain ⟨tc, gc⟩ := T.chunk
  refine F.ok scDec (fun vs H Q E h => ?_) (fun cdv A outer s H vs Q E hr h => ?_)
  · obtain ⟨n, rfl, _⟩ := h
    rfl
  · obtain ⟨n, rfl, hB, k⟩ := h
    by_cases h0 : n < 0
    · refine ⟨_, pss_cons (ps_if (pt_cmpR op_lt (pv 0) pe_int (nomark _)) (pss_one (ps_ret (pe_op op_add_str pe_str (pe_call G0 hr rfl gD kD bD .nil pass0 (pa_cons (pe_un un_neg (pv 0)) pa_nil))))) pss_nil)
        (pss_cons ps_no (pss_cons ps_no (pss_cons ps_no (pss_one ps_no)))), ?_⟩
      refine ⟨_, rfl, _, _, rfl, rfl, _, rfl, ?_⟩
      refine iteT' (decide_eq_true h0) ?_
      refine ⟨_, rfl, _, rfl, -n, rfl, by omega, by have := hB.1; omega, fun H' S => ⟨_, _, rfl, rfl, ?_, ?_⟩⟩
      · have := dec_len0 (v := -n) (by omega) (by have := hB.1; omega)
        have e : ("-" : Str).length = 1 := by decide
        rw [e, sizeLine_eq]
        omega
      · rw [dec_neg h0]
        exact k H' S
    · have h0 : 0 ≤ n := by omega
      have h1 := hB.2
      obtain ⟨t, ht, hq⟩ := (show ∃ t, PSs (cxOf CX0 P w K mg base ["number", "parts", "low"] "decimal_text" (defScope sDec) f cdv A outer s H E).nox (defBody sDec) t ∧ t { nx := fun _ H' => Q .non H', rt := Q } (start ["number", "parts", "low"] [.int n]) H from by
        refine ⟨_, pss_cons (ps_if (pt_cmpR op_lt (pv 0) pe_int (nomark _)) (pss_one ps_no) pss_nil)
          (pss_cons (ps_set (i := 1) scDec.nd rfl (.inl rfl) (pe_lst pa_nil))
          (pss_cons (ps_while PassesOwn.never (pt_cmpR op_ge (pv 0) (pe_glob (v := .int (10 ^ 60)) (by rfl) gc ⟨tc, rfl⟩) (nomark _)) (pss_cons ps_no (pss_one ps_no)))
          (pss_cons (ps_expr (pe_bm PySem.F.plainAttrs_list PySem.F.slot_list_append PySem.F.type_list_append mt_append (pv 1) (pa_cons (pe_callTy call_str_int (by rfl) T.str (by decide +kernel) (pa_cons (pv 0) pa_nil)) pa_nil)))
          (pss_one (ps_ret (pe_join pe_str (pe_revL (pv 1)))))))), ?_⟩
        refine ⟨_, rfl, _, _, rfl, rfl, _, rfl, ?_⟩
        refine iteN' (by omega) ?_
        refine ⟨Nat.zero_le _, fun a na => ?_⟩
        have S1 := fresh_upd (o := .lst []) na
        refine ⟨fun m σ H2 => σ = [some (.int n), some (.ref a), none] ∧ H2 = upd H a (.lst []), ⟨0, rfl, rfl⟩, ?_⟩
        rintro m σ H2 ⟨rfl, rfl⟩
        refine ⟨_, rfl, _, _, rfl, rfl, _, rfl, ?_⟩
        refine iteN' (by omega) ?_
        refine ⟨_, rfl, .inl ⟨rfl, _, SqL.of upd_same⟩, _, rfl, n, rfl, log_of ⟨by omega, h1⟩, a, [], _, rfl, rfl, upd_same, by rw [sizeLine_eq]; show 0 < 16777216; decide, ?_⟩
        refine ⟨⟨_, rfl⟩, _, rfl, a, _, rfl, SqL.of upd_same, fun p np => ?_⟩
        have hL := dec_len0 h0 h1
        refine ⟨_, p, [decS n], rfl, rfl, .inl (SqL.of upd_same), ?_, ?_⟩
        · show (decS n).length + 0 + 1 * Str.empty.length ≤ 16777216
          have e : Str.empty.length = 0 := rfl
          omega
        · rw [join_one]
          refine k _ fun b o e => ?_
          have ba : b ≠ a := ne_of_none e na
          have e1 := S1 _ _ e
          have bp : b ≠ p := ne_of_none ((upd_ne ba).trans e1) np
          rw [upd_ne bp, upd_ne ba]
          exact e1)
      exact ⟨t, ht, hq⟩
theorem scPw : FnScope ["name", "exponent"] ["name", "exponent"] (defScope sPw) :=
  ⟨rfl, rfl, rfl, by decide +kernel, rfl, by decide +kernel, by decide +kernel⟩
theorem ok_pw {f fD : Addr} {fd fdD : FuncData} (F : Fun K "_power_text" "_power_text" sPw f fd)
    (GD : FnOk P w K mg base CX0 2 fD fdD ["number"] spDec) (kD : PySem.W.keepIn K (.ref fD) = true) (bD : Binds K fdD ["number"] []) (gD : mg "decimal_text" = some (.ref fD)) :
    FnOk P w K mg base CX0 3 f fd ["name", "exponent"] spPw := by
  refine F.ok scPw (fun vs H Q E h => ?_) (fun cdv A outer s H vs Q E hr h => ?_)
  · obtain ⟨x, n, rfl, _⟩ := h
    rfl
  · obtain ⟨x, n, rfl, hx, hB, k⟩ := h
    refine ⟨_, pss_one (ps_ret (pe_ifExp (pt_cmpR op_eq (pv 1) pe_int (nomark _)) (pv 0) (pe_op op_add_str (pe_op op_add_str (pv 0) pe_str) (pe_call GD hr rfl gD kD bD .nil pass0 (pa_cons (pv 1) pa_nil))))), ?_⟩
    refine ⟨_, rfl, rfl, _, rfl, ?_⟩
    unfold pwT at k
    by_cases h1 : n = 1
    · subst h1
      refine iteT' (decide_eq_true rfl) ?_
      refine ⟨_, rfl, ?_⟩
      have z := k H (Same.refl H)
      rw [if_pos rfl] at z
      exact z
    · refine iteN' (fun z => h1 (V.int.inj z)) ?_
      have e : ("^" : Str).length = 1 := by decide
      have hd := dec_len hB
      refine ⟨_, rfl, _, _, rfl, rfl, by rw [e, sizeLine_eq]; omega, _, rfl, n, rfl, hB, fun H' S => ⟨_, _, rfl, rfl, ?_, ?_⟩⟩
      · rw [len_tl, tl_append, List.length_append, ← len_tl, ← len_tl, e, sizeLine_eq]
        omega
      · have z := k H' S
        rw [if_neg h1] at z
        exact z
theorem scTex : FnScope ["exponents", "name"] ["exponents"] (defScope sTex) :=
  ⟨rfl, rfl, rfl, by decide +kernel, rfl, by decide +kernel, by decide +kernel⟩
theorem ok_tex {f fP : Addr} {fd fdP : FuncData} (F : Fun K "exponents_text" "exponents_text" sTex f fd) (T : Na mg) (T2 : Nt mg)
    (GP : FnOk P w K mg base CX0 3 fP fdP ["name", "exponent"] spPw) (kP : PySem.W.keepIn K (.ref fP) = true) (bP : Binds K fdP ["name", "exponent"] []) (gP : mg "_power_text" = some (.ref fP)) :
    FnOk P w K mg base CX0 4 f fd ["exponents"] spTex := by
  refine F.ok scTex (fun vs H Q E h => ?_) (fun cdv A outer s H vs Q E hr h => ?_)
  · obtain ⟨d, es, rfl, _⟩ := h
    rfl
  · obtain ⟨d, es, rfl, hd, hS, hl, hB, k⟩ := h
    have hu : (A.deeper (envOfC "exponents_text" (defScope sTex) s.heap.objs.size f cdv)).units + 1 < cLine := by have := hr.units; omega
    refine ⟨_, pss_cons (ps_if (pt_cmpR op_eq (pe_callB call_lenD (by rfl) T2.len PySem.boot_len (pa_cons (pv 0) pa_nil)) pe_int (nomark _)) (pss_one (ps_ret pe_str)) pss_nil)
      (pss_one (ps_ret (pe_join pe_str (pe_lc (own := [("name", 1)]) (g := gName 1) (tt := tYes) (te := tCall spPw [] E0 (tCons (tVar 1) (tCons (tDGet (tVar 0) (tVar 1)) tNil))) rfl scTex.nd
        (pi_list (pe_callB (call_sortedD rfl) (by rfl) T.sorted (by decide +kernel) (pa_cons (pv 0) pa_nil)))
        (blkOk_by (own := [("name", 1)]) (N := ["exponents", "name"]) (sc := defScope sTex) (by decide +kernel)) (fun _ _ _ _ _ => pg_name (i := 1) scTex.nd rfl (Or.inl rfl))
        (fun _ _ _ _ _ => pts_nil) (fun _ _ _ _ _ => by
          exact pe_call GP hr rfl gP kP bP .nil pass0 (pa_cons (pv 1) (pa_cons (pe_dget hu (pv 0) (pv 1) (fun _ _ => rfl)) pa_nil))))))), ?_⟩
    refine ⟨_, rfl, d, _, rfl, hd, rfl, _, rfl, ?_⟩
    rw [kv_len]
    by_cases h0 : es = []
    · subst h0
      refine iteT' (decide_eq_true rfl) ?_
      exact k [] List.Pairwise.nil (fun _ => rfl) H (Same.refl H)
    · have h0' : es.length ≠ 0 := fun z => h0 (List.length_eq_zero_iff.mp z)
      refine iteN' (fun z => h0' (by have := V.int.inj z; omega)) ?_
      refine ⟨⟨_, rfl⟩, _, rfl, d, _, es.map (·.1), rfl, .inl hd, ?_, by rw [List.length_map]; exact hl, fun ys r perm srt nr => ?_⟩
      · unfold kv
        rw [List.map_map, List.map_map]
        rfl
      have hys : Sd ys := sd_of srt (perm.nodup_iff.mpr hS)
      obtain ⟨ss, hss, ess⟩ : ∃ ss : Es, ss = ys.map (fun n => (n, g0 es n)) ∧ ss.map (·.1) = ys := ⟨_, rfl, by
        rw [List.map_map]
        exact List.map_id _⟩
      have hSd : SdE ss := by
        unfold SdE
        rw [ess]
        exact hys
      have hlen : ss.length = es.length := by
        have z := perm.length_eq
        rw [← ess, List.length_map, List.length_map] at z
        exact z
      have hin : ∀ q ∈ ss, es.lookup q.1 = some q.2 := fun q hq => by
        rw [hss] at hq
        obtain ⟨n, hn, rfl⟩ := List.mem_map.mp hq
        have z := look_mem.mpr (perm.mem_iff.mp hn)
        show es.lookup n = some (g0 es n)
        unfold g0
        cases e : es.lookup n with
        | none =>
          rw [e] at z
          cases z
        | some v => rfl
      have hlk : ∀ n, ss.lookup n = es.lookup n := fun n => by
        by_cases hn : n ∈ es.map (·.1)
        · have h2 : n ∈ ss.map (·.1) := by
            rw [ess]
            exact perm.mem_iff.mpr hn
          obtain ⟨q, hq, rfl⟩ := List.mem_map.mp h2
          rw [hin q hq]
          exact look_get hSd.nodup (n := q.1) (v := q.2) hq
        · rw [g0_none hn, g0_none]
          intro z
          rw [ess] at z
          exact hn (perm.mem_iff.mp z)
      have hBs : ∀ q ∈ ss, q.1.length ≤ 8 ∧ Big q.2 := fun q hq => by
        have z := hin q hq
        obtain ⟨p, hp, e⟩ := List.mem_map.mp (look_mem.mp (show (es.lookup q.1).isSome = true by rw [z]; rfl))
        have z2 := look_get hS (n := p.1) (v := p.2) hp
        rw [e, z] at z2
        have e2 := Option.some.inj z2
        rw [e2, ← e]
        exact hB p hp
      have hs0 : ss ≠ [] := fun z => h0' (by rw [← hlen, z]; rfl)
      have S3 := fresh_upd (o := .lst (ys.map V.str)) nr
      rw [← ess] at S3
      rw [← ess]
      refine ⟨r, rfl, ⟨_, SqL.of upd_same⟩, fun D hD => ?_⟩
      refine lc_it (walk_list (K := K) (a := r) (xs := (ss.map (·.1)).map V.str)) (fun i H3 => H3 D = some (.lst (((ss.take i).map fun q => pwT q.1 q.2).map V.str)) ∧
        Same (upd H r (.lst ((ss.map (·.1)).map V.str))) H3) ⟨upd_same, fresh_upd hD⟩ (fun i H3 _ h => SqL.of (h.2 _ _ upd_same)) ?_ ?_
      · rintro i x H3 H4 hi ⟨hD3, S4⟩ ⟨rfl, hx⟩
        rw [List.length_map, List.length_map] at hi
        have ex : x = .str ss[i].1 := by
          rw [List.getElem?_map, List.getElem?_map, List.getElem?_eq_getElem hi] at hx
          exact (Option.some.inj hx).symm
        subst ex
        obtain ⟨b1, b2⟩ := hBs ss[i] (List.getElem_mem hi)
        refine ⟨rfl, ?_⟩
        unfold tYes
        dsimp only
        rw [if_pos rfl]
        refine ⟨_, rfl, _, rfl, _, rfl, d, .int ss[i].2, rfl, .inl ⟨_, ky ss[i].1, .inl (S4 _ _ (S3 _ _ hd)), rfl, (by rw [val_kv, hin _ (List.getElem_mem hi)]; rfl)⟩, ss[i].1, ss[i].2, rfl, b1, b2, fun H5 S5 => ?_⟩
        refine ⟨_, S5 _ _ hD3, by rw [List.length_map, List.length_map, List.length_take, sizeLine_eq]; omega, ?_, fun b o e => ?_⟩
        · have et : ss.take (i + 1) = ss.take i ++ [ss[i]] := by
            rw [List.take_add_one, List.getElem?_eq_getElem hi]
            rfl
          rw [upd_same, et, List.map_append, List.map_append]
          rfl
        · rw [upd_ne (ne_of_none e hD)]
          exact S5 _ _ (S4 b o e)
      · rintro H3 ⟨hD3, S4⟩
        rw [List.length_map, List.length_map, List.take_length] at hD3
        refine ⟨_, D, ss.map (fun q => pwT q.1 q.2), rfl, rfl, .inl (SqL.of hD3), ?_, ?_⟩
        · have hs : ∀ l : Es, (∀ q ∈ l, q.1.length ≤ 8 ∧ Big q.2) → ((l.map fun q => pwT q.1 q.2).map (·.length)).sum ≤ l.length * 70 := fun l => by
            induction l with
            | nil => intro _; exact Nat.zero_le _
            | cons p r ih =>
              intro hb
              have z := ih fun q hq => hb q (List.mem_cons_of_mem _ hq)
              have z2 := pw_len (hb p (List.mem_cons_self ..)).1 (hb p (List.mem_cons_self ..)).2
              show (pwT p.1 p.2).length + ((r.map fun q => pwT q.1 q.2).map (·.length)).sum ≤ (r.length + 1) * 70
              omega
          have z := hs ss hBs
          have e : ("*" : Str).length = 1 := by decide
          rw [e, List.length_map]
          omega
        · have z := k ss hSd hlk H3 (S3.trans S4)
          unfold texE at z
          rw [if_neg hs0] at z
          exact z
theorem scStr : FnScope ["self"] ["self"] (defScope sStr) :=
  ⟨rfl, rfl, rfl, by decide +kernel, rfl, by decide +kernel, by decide +kernel⟩
theorem ok_str {f fT : Addr} {fd fdT : FuncData} (F : Fun K "__str__" "Size.__str__" sStr f fd) (T : Ns mg) (Tc : Ck K mg C)
    (GT : FnOk P w K mg base CX0 4 fT fdT ["exponents"] spTex) (kT : PySem.W.keepIn K (.ref fT) = true) (bT : Binds K fdT ["exponents"] []) (gT : mg "exponents_text" = some (.ref fT)) :
    FnOk P w K mg base CX0 5 f fd ["self"] (spStr C) := by
  refine F.ok scStr (fun vs H Q E h => ?_) (fun cdv A outer s H vs Q E hr h => ?_)
  · obtain ⟨p, es, rfl, _⟩ := h
    rfl
  · obtain ⟨p, es, rfl, ⟨dx, D, p1, p2, p3, p4, p5, p6⟩, hB, k⟩ := h
    refine ⟨_, pss_one (ps_ret (pe_callTy SkE.call_str_str (by rfl) T.str (by decide +kernel) (pa_cons (pe_call GT hr rfl gT kT bT .nil pass0 (pa_cons (pe_fld (pv 0) rfl) pa_nil)) pa_nil))), ?_⟩
    exact ⟨_, rfl, p, C, dx, _, _, rfl, p1, Tc.cl, Tc.nE, rfl, D, es, rfl, p2, p3.nodup, p6, fun q hq => ⟨by have := nm_len (p5 q hq); omega, hB q hq⟩, fun ss sd lk H' S => ⟨_, rfl, by rw [sd.one p3 lk]; exact k H' S⟩⟩
end
end K13
set_option maxHeartbeats 8000000
namespace K13
open PySem PySem.Spec PyProof.Rows L2 TL

/-! ### str(o), o an instance with an own __str__ -/
def rStrO (C : Addr) (sp : Sp) (E : XK) : List V → Hp → VK → Prop := fun xs H Q => ∃ (a dx : Addr) (fs : List (Str × V)), xs = [.ref a] ∧ H a = some (.ins C dx fs) ∧
  sp [.ref a] H (fun v H' => ∃ x, v = .str x ∧ Q (.str x) H') E
section
variable {X : Cx} {CX : CXT} {C f : Addr} {fd : FuncData} {ps : List Str} {sp : Sp} {E : XK} {n : Nat}
theorem call_strO (F : FnOk X.prog X.w X.K X.mg X.base CX n f fd ps sp) (hr : Room (n + 2) X.A) (hs : PySem.W.findIn X.K (.ref C) "__str__" = some (some (.ref f))) (hf : PySem.W.isFn X.K (.ref f) = true)
    (hb : Binds X.K fd ps []) (hx : Passes CX X E) : CallR X (.type "str") (rStrO C sp E) := by
  intro pins s σ H xs us Q I r h
  obtain ⟨a, dx, fs, rfl, ha, hsp⟩ := h
  obtain ⟨u, rfl, ru⟩ := vals1 r
  cases (show u = Value.ref a from ru)
  obtain ⟨mA, J, _⟩ := ins_get I.hok ha
  obtain ⟨od, J, _⟩ := J.look
  refine PySem.W.kso_call (by have := hr.units; show X.A.units + 1 + 1 < cLine; omega) I.kIn J hs hf ?_
  have e0 : Env0 X.prog X.w X.K X.mg X.base X.A.in1.in1 X.stack s H := by
    have e := I.env0
    exact ⟨e.frames, e.mod, e.bs, e.bsz, e.funs, e.frf, e.hok, e.bare⟩
  have hl := F.len _ _ _ _ hsp
  have r2 : Vals [V.ref a] [Value.ref a] := .cons rfl .nil
  refine wpAny_call (codeAny_mono (F.run X.A.in1.in1 X.stack s H ⟨[.ref a], []⟩ [.ref a] [.ref a] _ E hr.in1.in1 e0 (by
    have := hb s [.ref a] I.kIn (by simpa using hl)
    simpa using this) r2 hsp) fun r s' hq => ?_)
  cases r with
  | error e => exact hx pins σ H s e s' I hq
  | ok fl =>
    cases fl with
    | ret w =>
      obtain ⟨z, H', I', rz, x, ez, ex⟩ := I.after hq
      subst ez
      obtain ⟨t, rfl⟩ := (show ∃ t, w = Value.str x t from rz)
      exact ⟨.str x, H', I', ⟨t, rfl⟩, ex⟩
    | next => exact False.elim hq
    | brk => exact False.elim hq
    | cont => exact False.elim hq
end

/-! ### models: a function from names to numbers, and the one dict that says it -/
theorem sub_len {α : Type} [DecidableEq α] : ∀ (l m : List α), l.Nodup → (∀ x, x ∈ l → x ∈ m) → l.length ≤ m.length
  | [], m, _, _ => Nat.zero_le _
  | a :: r, m, hn, hs => by
    obtain ⟨n1, n2⟩ := List.pairwise_cons.mp hn
    have ha := hs a (List.mem_cons_self ..)
    have h1 : ∀ y, y ∈ r → y ∈ m.erase a := fun y hy => (List.mem_erase_of_ne (fun z => n1 y hy z.symm)).mpr (hs y (List.mem_cons_of_mem _ hy))
    have h2 := sub_len r (m.erase a) n2 h1
    rw [List.length_erase_of_mem ha] at h2
    have h3 : 0 < m.length := List.length_pos_of_mem ha
    show r.length + 1 ≤ m.length
    omega
/-- names that may be drawn -/
structure Pool (N : List Str) : Prop where
  nd : N.Nodup
  nm : ∀ n ∈ N, isNm n = true
  ln : N.length ≤ 10
structure Md (N : List Str) (b : Int) (f : Str → Int) (es : Es) : Prop where
  sd : SdE es
  lk : ∀ n, es.lookup n = cz (f n)
  sup : ∀ n, n ∉ N → f n = 0
  bd : ∀ n, -b ≤ f n ∧ f n ≤ b
theorem Md.g {N : List Str} {b : Int} {f : Str → Int} {es : Es} (h : Md N b f es) (n : Str) : g0 es n = f n := g0_cz (h.lk n)
theorem Md.one {N M : List Str} {b c : Int} {f g : Str → Int} {es fs : Es} (h : Md N b f es) (k : Md M c g fs) (e : ∀ n, f n = g n) : es = fs :=
  h.sd.one k.sd fun n => by rw [h.lk, k.lk, e]
theorem Md.at {N : List Str} {b : Int} {f : Str → Int} {es : Es} (h : Md N b f es) {q : Str × Int} (hq : q ∈ es) : q.2 = f q.1 ∧ f q.1 ≠ 0 := by
  have z := look_get h.sd.nodup (n := q.1) (v := q.2) hq
  rw [h.lk] at z
  unfold cz at z
  by_cases h0 : f q.1 = 0
  · rw [if_pos h0] at z
    cases z
  · rw [if_neg h0] at z
    exact ⟨(Option.some.inj z).symm, h0⟩
theorem Md.key {N : List Str} {b : Int} {f : Str → Int} {es : Es} (h : Md N b f es) {q : Str × Int} (hq : q ∈ es) : q.1 ∈ N := by
  by_cases z : q.1 ∈ N
  · exact z
  · exact absurd (h.sup _ z) (h.at hq).2
theorem Md.len {N : List Str} {b : Int} {f : Str → Int} {es : Es} (h : Md N b f es) (P : Pool N) : es.length ≤ 10 := by
  have z := sub_len (es.map (·.1)) N h.sd.nodup fun x hx => by
    obtain ⟨q, hq, e⟩ := List.mem_map.mp hx
    rw [← e]
    exact h.key hq
  rw [List.length_map] at z
  have := P.ln
  omega
theorem Md.nm {N : List Str} {b : Int} {f : Str → Int} {es : Es} (h : Md N b f es) (P : Pool N) : ∀ q ∈ es, isNm q.1 = true := fun q hq => P.nm _ (h.key hq)
theorem Md.nz {N : List Str} {b : Int} {f : Str → Int} {es : Es} (h : Md N b f es) : ∀ q ∈ es, q.2 ≠ 0 := fun q hq => by
  rw [(h.at hq).1]
  exact (h.at hq).2
theorem Md.bq {N : List Str} {b : Int} {f : Str → Int} {es : Es} (h : Md N b f es) {q : Str × Int} (hq : q ∈ es) : -b ≤ q.2 ∧ q.2 ≤ b := by
  rw [(h.at hq).1]
  exact h.bd _
theorem Md.mem {N : List Str} {b : Int} {f : Str → Int} {es : Es} (h : Md N b f es) {n : Str} (hn : n ∈ es.map (·.1)) : f n ≠ 0 := by
  obtain ⟨q, hq, e⟩ := List.mem_map.mp hn
  rw [← e]
  exact (h.at hq).2
/-- what a Size says of its model -/
theorem Md.of {C p : Addr} {N : List Str} {b : Int} {f : Str → Int} {es : Es} {H : Hp} (h : SizeAt C H p es) (lk : ∀ n, es.lookup n = cz (f n)) (sup : ∀ n, n ∉ N → f n = 0) (bd : ∀ n, -b ≤ f n ∧ f n ≤ b) : Md N b f es := by
  obtain ⟨_, _, _, _, sd, _⟩ := h
  exact ⟨sd, lk, sup, bd⟩
theorem Md.nil (N : List Str) : Md N 0 (fun _ => 0) [] := ⟨List.Pairwise.nil, fun _ => rfl, fun _ _ => rfl, fun _ => ⟨by decide, by decide⟩⟩
theorem Md.congr {N : List Str} {b c : Int} {f g : Str → Int} {es : Es} (h : Md N b f es) (e : ∀ n, f n = g n) (hb : b ≤ c) : Md N c g es :=
  ⟨h.sd, fun n => by rw [h.lk, e], fun n hn => by rw [← e]; exact h.sup n hn, fun n => by have := h.bd n; rw [← e]; omega⟩
end K13
set_option maxHeartbeats 8000000
namespace K13
open PySem PySem.Spec PyProof.Rows L2 TL StrLaws

/-! ### words of texts of Sizes -/
def isDg (c : Nat) : Bool := decide (48 ≤ c) && decide (c ≤ 57)
def lMin (l : List Nat) : Bool := l.head? == some 45
def lBare (l : List Nat) : List Nat := if lMin l = true then l.drop 1 else l
def dgVal (l : List Nat) : Int := ((NumText.digitsVal l : Nat) : Int)
theorem tl_min : tl ("-" : Str) = [45] := by decide
theorem len_min : ("-" : Str).length = 1 := by decide
theorem starts_min (x : Str) : Txt.startswith x "-" = lMin (tl x) := by
  have h := at_iff (x := x) (y := "-") (by rw [tl_min]; simp) 0
  have e : Txt.startswith x "-" = true ↔ At x "-" x.length 0 := by
    unfold Txt.startswith At
    rw [Bool.and_eq_true, decide_eq_true_eq]
  have e2 : pre (tl ("-" : Str)) ((tl x).drop 0) = lMin (tl x) := by
    rw [tl_min, List.drop_zero]
    unfold pre lMin
    cases tl x with
    | nil => rfl
    | cons c r =>
      show ([c] == [45]) = (some c == some 45)
      by_cases hc : c = 45
      · subst hc; rfl
      · have h1 : ([c] == [45]) = false := by simpa using hc
        have h2 : (some c == some 45) = false := by simpa using hc
        rw [h1, h2]
  rw [e2] at h
  exact Bool.eq_iff_iff.mpr (e.trans h)
theorem tl_remove (x : Str) : tl (Txt.removeprefix x "-") = lBare (tl x) := by
  have hs := starts_min x
  unfold Txt.startswith at hs
  rw [StrLaws.removeprefix_eq]
  unfold lBare
  rw [hs]
  by_cases h : lMin (tl x) = true
  · rw [if_pos h, if_pos h, tl_mk, len_min]
    refine List.take_of_length_le ?_
    rw [List.length_drop, len_tl] <;> exact Nat.le_refl _
  · rw [if_neg h, if_neg h]
theorem tl_cut1 (x : Str) : tl (cutS x (some 1) none) = (tl x).drop 1 := by
  unfold cutS
  rw [tl_mk, HT.sIx_none]
  have e : HT.sIx x.length 0 (some 1) = min 1 x.length := HT.sIx_nat x.length 0 1
  rw [e]
  have hl := len_tl x
  by_cases h : 1 ≤ x.length
  · rw [Nat.min_eq_left h]
    refine List.take_of_length_le ?_
    rw [List.length_drop, ← hl] <;> exact Nat.le_refl _
  · have h0 : (tl x) = [] := List.length_eq_zero_iff.mp (by omega)
    show ((tl x).drop _).take _ = _
    rw [h0]
    simp
theorem str_nil {x : Str} : x = "" ↔ tl x = [] := ⟨fun e => by rw [e]; rfl, fun e => ext_tl (by rw [e]; rfl)⟩

/-- a text of an integer is read -/
def rdD (x : Str) : Option Int :=
  if lBare (tl x) = [] ∨ ((lBare (tl x)).all isDg) = false then none else some (if lMin (tl x) = true then -dgVal (lBare (tl x)) else dgVal (lBare (tl x)))
theorem all_dg {l : List Nat} : l.all isDg = true ↔ NumText.AllDigits l := by
  unfold NumText.AllDigits
  rw [List.all_eq_true]
  unfold isDg
  constructor
  · intro h c hc
    have z := h c hc
    rw [Bool.and_eq_true, decide_eq_true_eq, decide_eq_true_eq] at z
    exact z
  · intro h c hc
    rw [Bool.and_eq_true, decide_eq_true_eq, decide_eq_true_eq]
    exact h c hc
theorem tl_dec0 {v : Int} (h : 0 ≤ v) : tl (decS v) = numL v.toNat := by
  have e : v = ((v.toNat : Nat) : Int) := by omega
  unfold decS
  rw [e, tl_num, Int.toNat_natCast]
theorem tl_decN {v : Int} (h : v < 0) : tl (decS v) = 45 :: numL (-v).toNat := by
  rw [← dec_neg h, tl_append, tl_min, tl_dec0 (by omega)]
  rfl
theorem dec_parts (v : Int) : lMin (tl (decS v)) = decide (v < 0) ∧ lBare (tl (decS v)) = numL v.natAbs := by
  by_cases h : v < 0
  · rw [tl_decN h, decide_eq_true h]
    have e : (-v).toNat = v.natAbs := by omega
    rw [e]
    exact ⟨rfl, rfl⟩
  · rw [tl_dec0 (by omega), decide_eq_false h]
    have e : v.toNat = v.natAbs := by omega
    rw [e]
    have hm : lMin (numL v.natAbs) = false := by
      unfold lMin
      cases e : numL v.natAbs with
      | nil => rfl
      | cons c r =>
        have z := numL_digits v.natAbs c (by rw [e]; exact List.mem_cons_self ..)
        show (some c == some 45) = false
        have : c ≠ 45 := by omega
        simpa using this
    refine ⟨hm, ?_⟩
    unfold lBare
    rw [hm]
    rfl
theorem rdD_dec (v : Int) : rdD (decS v) = some v := by
  obtain ⟨h1, h2⟩ := dec_parts v
  unfold rdD
  rw [h1, h2, if_neg]
  · unfold dgVal
    rw [numL_val]
    by_cases h : v < 0
    · rw [if_pos (decide_eq_true h)]
      congr 1
      omega
    · rw [if_neg (by simpa using h)]
      congr 1
      omega
  · intro z
    rcases z with z | z
    · exact numL_ne _ z
    · rw [all_dg.mpr (numL_digits _)] at z
      cases z
/-- int(x) of a text of digits -/
theorem int_rd {x : Str} {v : Int} (h : rdD x = some v) (hl : x.length ≤ 640) : intText? x = some v := by
  unfold rdD at h
  by_cases hc : lBare (tl x) = [] ∨ ((lBare (tl x)).all isDg) = false
  · rw [if_pos hc] at h
    cases h
  · rw [if_neg hc] at h
    have h1 : lBare (tl x) ≠ [] := fun z => hc (.inl z)
    have h2 : (lBare (tl x)).all isDg = true := by
      cases e : (lBare (tl x)).all isDg with
      | true => rfl
      | false => exact absurd (.inr e) hc
    have h3 := all_dg.mp h2
    have h := Option.some.inj h
    by_cases hm : lMin (tl x) = true
    · rw [if_pos hm] at h
      obtain ⟨c, r, e⟩ : ∃ c r, tl x = c :: r := by
        cases e : tl x with
        | nil =>
          rw [e] at hm
          cases hm
        | cons c r => exact ⟨c, r, rfl⟩
      have ec : c = 45 := by
        rw [e] at hm
        unfold lMin at hm
        simpa using hm
      subst ec
      have eb : lBare (tl x) = r := by
        unfold lBare
        rw [if_pos hm, e]
        rfl
      rw [eb] at h h1 h3
      rw [← h]
      exact intText_neg e h3 h1 (by omega)
    · rw [if_neg hm] at h
      have eb : lBare (tl x) = tl x := by
        unfold lBare
        rw [if_neg hm]
      rw [eb] at h h1 h3
      rw [← h]
      exact intText_digits h3 h1 (by omega)
/-- how many digits there are -/
def nDg (x : Str) : Nat := ((tl x).filter isDg).length
theorem bare_sub (l : List Nat) : (lBare l).Sublist l := by
  unfold lBare
  split
  · exact List.drop_sublist _ _
  · exact List.Sublist.refl _
theorem rdD_len {x : Str} {v : Int} (h : rdD x = some v) : (lBare (tl x)).length ≤ nDg x := by
  unfold rdD at h
  by_cases hc : lBare (tl x) = [] ∨ ((lBare (tl x)).all isDg) = false
  · rw [if_pos hc] at h
    cases h
  · have h2 : (lBare (tl x)).all isDg = true := by
      cases e : (lBare (tl x)).all isDg with
      | true => rfl
      | false => exact absurd (.inr e) hc
    have z := (List.Sublist.filter isDg (bare_sub (tl x))).length_le
    rw [List.filter_eq_self.mpr fun a ha => List.all_eq_true.mp h2 a ha] at z
    exact z
theorem dv_lt : ∀ (l : List Nat) (a : Nat), NumText.AllDigits l → l.foldl (fun acc c => acc * 10 + (c - 48)) a < (a + 1) * 10 ^ l.length
  | [], a, _ => by
    show a < (a + 1) * 1
    omega
  | c :: r, a, h => by
    have hc := h.head
    have ih := dv_lt r (a * 10 + (c - 48)) h.tail
    rw [List.foldl_cons]
    refine Nat.lt_of_lt_of_le ih ?_
    rw [List.length_cons, Nat.pow_succ, Nat.mul_comm (10 ^ r.length) 10, ← Nat.mul_assoc]
    exact Nat.mul_le_mul_right _ (by omega)
theorem rdD_big {x : Str} {v : Int} (h : rdD x = some v) (hd : nDg x ≤ 59) : Big v := by
  have hl := rdD_len h
  unfold rdD at h
  by_cases hc : lBare (tl x) = [] ∨ ((lBare (tl x)).all isDg) = false
  · rw [if_pos hc] at h
    cases h
  · rw [if_neg hc] at h
    have h2 : (lBare (tl x)).all isDg = true := by
      cases e : (lBare (tl x)).all isDg with
      | true => rfl
      | false => exact absurd (.inr e) hc
    have z := dv_lt (lBare (tl x)) 0 (all_dg.mp h2)
    have z2 : NumText.digitsVal (lBare (tl x)) < 10 ^ 60 := by
      refine Nat.lt_of_lt_of_le z ?_
      rw [Nat.zero_add, Nat.one_mul]
      exact Nat.pow_le_pow_right (by decide) (by omega)
    have z3 : dgVal (lBare (tl x)) < 10 ^ 60 := by
      unfold dgVal
      exact_mod_cast z2
    have z4 : 0 ≤ dgVal (lBare (tl x)) := by
      unfold dgVal
      omega
    have h := Option.some.inj h
    unfold Big
    generalize (10 : Int) ^ 60 = T at *
    split at h <;> omega
end K13
set_option maxHeartbeats 8000000
namespace K13
open PySem PySem.Spec PyProof.Rows L2 TL

/-! ### texts of Sizes: what is right -/
theorem abc_tl : tl abc = (List.range 26).map (· + 97) := by decide
theorem nm_sign {n : Str} (h : isNm n = true) {c : Nat} (hc : c ∈ tl n) : 97 ≤ c ∧ c ≤ 122 := by
  unfold isNm at h
  rw [Bool.and_eq_true, Bool.and_eq_true] at h
  have z := of_decide_eq_true (List.all_eq_true.mp h.2.2 c hc)
  have z2 : c ∈ tl abc := z
  rw [abc_tl] at z2
  obtain ⟨k, hk, e⟩ := List.mem_map.mp z2
  have := List.mem_range.mp hk
  omega
theorem nm_free {n : Str} (h : isNm n = true) {c : Nat} (hc : c < 97) : c ∉ tl n := fun z => by
  have := (nm_sign h z).1
  omega
theorem nm_ne {n : Str} (h : isNm n = true) : tl n ≠ [] := fun z => by
  unfold isNm at h
  rw [Bool.and_eq_true] at h
  have := of_decide_eq_true h.1
  rw [len_tl, z] at this
  exact absurd this (by decide)
theorem tl_hat : tl ("^" : Str) = [94] := by decide
theorem tl_star : tl ("*" : Str) = [42] := by decide
theorem dec_free {v : Int} {c : Nat} (hc : c = 94 ∨ c = 42) : c ∉ tl (decS v) := fun z => by
  by_cases h : v < 0
  · rw [tl_decN h] at z
    rcases List.mem_cons.mp z with e | z
    · omega
    · exact numL_free (by omega) z
  · rw [tl_dec0 (by omega)] at z
    exact numL_free (by omega) z
theorem pw_tl {n : Str} {v : Int} (h : v ≠ 1) : pwT n v = n ++ ("^" : Str) ++ decS v := if_neg h
theorem pw_free {n : Str} {v : Int} (h : isNm n = true) : 42 ∉ tl (pwT n v) := fun z => by
  by_cases hv : v = 1
  · unfold pwT at z
    rw [if_pos hv] at z
    exact nm_free h (by decide) z
  · rw [pw_tl hv, tl_append, tl_append, tl_hat] at z
    rcases List.mem_append.mp z with z | z
    · rcases List.mem_append.mp z with z | z
      · exact nm_free h (by decide) z
      · exact absurd (List.mem_singleton.mp z) (by decide)
    · exact dec_free (.inr rfl) z

/-- the program's reading of a word -/
def wName (w : Str) : Str := (Txt.partition w "^").1
def wExp (w : Str) : Option Int := if (Txt.partition w "^").2.1 = "" then some 1 else rdD (Txt.partition w "^").2.2
def rdW (w : Str) : Option (Str × Int) := match wExp w with
  | none => none
  | some v => if isNm (wName w) = true ∧ v ≠ 0 then some (wName w, v) else none
theorem rdW_pw {n : Str} {v : Int} (hn : isNm n = true) (hv : v ≠ 0) : rdW (pwT n v) = some (n, v) := by
  by_cases h1 : v = 1
  · subst h1
    have e : pwT n 1 = n := if_pos rfl
    have p := partition_none (y := "^") tl_hat (nm_free hn (c := 94) (by decide))
    unfold rdW wExp wName
    rw [e, p]
    show (match (if Str.empty = ("" : Str) then some (1 : Int) else rdD Str.empty) with | none => none | some v => if isNm n = true ∧ v ≠ 0 then some (n, v) else none) = _
    rw [if_pos (by rfl)]
    exact if_pos ⟨hn, by decide⟩
  · have p := partition_app (y := "^") (b := decS v) tl_hat (nm_free hn (c := 94) (by decide))
    unfold rdW wExp wName
    rw [pw_tl h1, p]
    show (match (if ("^" : Str) = ("" : Str) then some (1 : Int) else rdD (decS v)) with | none => none | some v => if isNm n = true ∧ v ≠ 0 then some (n, v) else none) = _
    rw [if_neg (by decide), rdD_dec]
    exact if_pos ⟨hn, hv⟩
theorem rdW_ok {w : Str} {p : Str × Int} (h : rdW w = some p) : isNm p.1 = true ∧ p.2 ≠ 0 ∧ wExp w = some p.2 ∧ p.1 = wName w := by
  unfold rdW at h
  cases e : wExp w with
  | none =>
    rw [e] at h
    cases h
  | some v =>
    rw [e] at h
    by_cases hc : isNm (wName w) = true ∧ v ≠ 0
    · have h : (if isNm (wName w) = true ∧ v ≠ 0 then some (wName w, v) else none) = some p := h
      rw [if_pos hc] at h
      cases h
      exact ⟨hc.1, hc.2, rfl, rfl⟩
    · have h : (if isNm (wName w) = true ∧ v ≠ 0 then some (wName w, v) else none) = some p := h
      rw [if_neg hc] at h
      cases h

/-- the law's reading of a word -/
def lwW (w : Str) : Option (Str × Int) :=
  if 2 < (Txt.split w "^").length then none else
  if isNm ((Txt.split w "^").headD "") = true then
    (rdD (if (Txt.split w "^").length = 2 then (Txt.split w "^").getD 1 "" else "1")).map fun v => ((Txt.split w "^").headD "", v)
  else none
theorem kind_hat : ("^" : Str).cps.all (· < 256) = true := by decide +kernel
theorem join_two (y a b : Str) : Txt.join y [a, b] = a ++ y ++ b := ext_tl (by
  rw [join_eq, tl_join, tl_append, tl_append]
  show tl a ++ (tl y ++ tl b) = _
  rw [List.append_assoc])
theorem split_pw {n : Str} {v : Int} (hn : isNm n = true) : Txt.split (pwT n v) "^" = if v = 1 then [n] else [n, decS v] := by
  by_cases h1 : v = 1
  · rw [if_pos h1]
    have e : pwT n v = Txt.join "^" [n] := by
      rw [join_one]
      exact if_pos h1
    rw [e]
    exact split_join tl_hat kind_hat (by simp) fun p hp => by
      rw [List.mem_singleton.mp hp]
      exact nm_free hn (by decide)
  · rw [if_neg h1, pw_tl h1, ← join_two]
    exact split_join tl_hat kind_hat (by simp) fun p hp => by
      rcases List.mem_cons.mp hp with e | hp
      · rw [e]
        exact nm_free hn (by decide)
      · rw [List.mem_singleton.mp hp]
        exact dec_free (.inl rfl)
theorem rdD_one : rdD ("1" : Str) = some 1 := by decide
theorem lwW_pw {n : Str} {v : Int} (hn : isNm n = true) : lwW (pwT n v) = some (n, v) := by
  unfold lwW
  rw [split_pw hn]
  by_cases h1 : v = 1
  · rw [if_pos h1, if_neg (by show ¬ 2 < 1; decide)]
    show (if isNm n = true then (rdD (if (1 : Nat) = 2 then _ else "1")).map _ else none) = _
    rw [if_pos hn, if_neg (by decide), rdD_one, h1]
    rfl
  · rw [if_neg h1, if_neg (by show ¬ 2 < 2; decide)]
    show (if isNm n = true then (rdD (if (2 : Nat) = 2 then decS v else "1")).map _ else none) = _
    rw [if_pos hn, if_pos rfl, rdD_dec]
    rfl

/-- a text of a Size -/
structure Val (x : Str) (es : Es) : Prop where
  tx : texE es = x
  sd : SdE es
  nm : ∀ q ∈ es, isNm q.1 = true
  nz : ∀ q ∈ es, q.2 ≠ 0
theorem kind_star : ("*" : Str).cps.all (· < 256) = true := by decide +kernel
theorem Val.words {x : Str} {es : Es} (h : Val x es) (he : es ≠ []) : Txt.split x "*" = es.map fun q => pwT q.1 q.2 := by
  have z := h.tx
  unfold texE at z
  rw [if_neg he] at z
  rw [← z]
  exact split_join tl_star kind_star (by simpa using he) fun p hp => by
    obtain ⟨q, hq, rfl⟩ := List.mem_map.mp hp
    exact pw_free (h.nm q hq)
theorem Val.one {es : Es} (h : Val "1" es) : es = [] := by
  by_cases he : es = []
  · exact he
  · have z := h.words he
    have z2 : (Txt.split ("1" : Str) "*").map tl = [[49]] := by
      rw [split_spl _ _ (by rw [tl_star]; simp) (kind_ok kind_star), tl_star]
      rfl
    rw [z, List.map_map] at z2
    cases es with
    | nil => rfl
    | cons q r =>
      have hd : tl (pwT q.1 q.2) = [49] := (List.cons.inj z2).1
      have hn := h.nm q (List.mem_cons_self ..)
      obtain ⟨c, t, e⟩ : ∃ c t, tl q.1 = c :: t := by
        cases e : tl q.1 with
        | nil => exact absurd e (nm_ne hn)
        | cons c t => exact ⟨c, t, rfl⟩
      have hc := (nm_sign hn (by rw [e]; exact List.mem_cons_self ..)).1
      by_cases h1 : q.2 = 1
      · unfold pwT at hd
        rw [if_pos h1, e] at hd
        have := (List.cons.inj hd).1
        omega
      · rw [pw_tl h1, tl_append, tl_append, e] at hd
        have := (List.cons.inj hd).1
        omega
theorem val_one : Val "1" [] := ⟨rfl, List.Pairwise.nil, (fun q h => nomatch h), (fun q h => nomatch h)⟩
theorem Val.ne {x : Str} {es : Es} (h : Val x es) (hx : x ≠ "1") : es ≠ [] := fun z => by
  subst z
  exact hx h.tx.symm

/-- words read one by one into a dict -/
def rdF (f : Str → Option (Str × Int)) (t : Es) : List Str → Option Es
  | [] => some t
  | w :: r => match f w with
    | none => none
    | some p => rdF f (putE t p.1 p.2) r
theorem rdF_snoc (f : Str → Option (Str × Int)) (w : Str) : ∀ (l : List Str) (t t' : Es), rdF f t l = some t' → rdF f t (l ++ [w]) = (f w).map fun p => putE t' p.1 p.2
  | [], t, t', h => by
    cases h
    show (match f w with | none => none | some p => some (putE t p.1 p.2)) = _
    cases f w <;> rfl
  | a :: r, t, t', h => by
    show (match f a with | none => none | some p => rdF f (putE t p.1 p.2) (r ++ [w])) = _
    have h : (match f a with | none => none | some p => rdF f (putE t p.1 p.2) r) = some t' := h
    cases e : f a with
    | none =>
      rw [e] at h
      cases h
    | some p =>
      rw [e] at h
      exact rdF_snoc f w r _ _ h
theorem put_fresh {t : Es} {n : Str} {v : Int} (h : n ∉ t.map (·.1)) : putE t n v = t ++ [(n, v)] := by
  unfold putE
  rw [if_neg]
  intro z
  obtain ⟨p, hp, e⟩ := List.any_eq_true.mp z
  exact h (List.mem_map.mpr ⟨p, hp, of_decide_eq_true e⟩)
theorem rdF_pw {f : Str → Option (Str × Int)} : ∀ (r t : Es), (∀ q ∈ r, f (pwT q.1 q.2) = some q) → ((t ++ r).map (·.1)).Nodup → rdF f t (r.map fun q : Str × Int => pwT q.1 q.2) = some (t ++ r)
  | [], t, _, _ => by
    rw [List.append_nil]
    rfl
  | q :: r, t, hf, hn => by
    show (match f (pwT q.1 q.2) with | none => none | some p => rdF f (putE t p.1 p.2) (r.map fun q : Str × Int => pwT q.1 q.2)) = _
    rw [hf q (List.mem_cons_self ..)]
    have e : t ++ q :: r = (t ++ [q]) ++ r := by rw [List.append_assoc]; rfl
    have hq : q.1 ∉ t.map (·.1) := fun z => by
      rw [List.map_append, List.nodup_append] at hn
      exact hn.2.2 q.1 z q.1 (by rw [List.map_cons]; exact List.mem_cons_self ..) rfl
    show rdF f (putE t q.1 q.2) (r.map fun q => pwT q.1 q.2) = _
    rw [put_fresh hq, e]
    rw [e] at hn
    exact rdF_pw r (t ++ [q]) (fun p hp => hf p (List.mem_cons_of_mem _ hp)) hn
theorem Val.rd {x : Str} {es : Es} (h : Val x es) (hx : x ≠ "1") : rdF rdW [] (Txt.split x "*") = some es ∧ ∀ w ∈ Txt.split x "*", rdW w ≠ none := by
  have hw := h.words (h.ne hx)
  rw [hw]
  refine ⟨rdF_pw es [] (fun q hq => rdW_pw (h.nm q hq) (h.nz q hq)) h.sd.nodup, fun w hw => ?_⟩
  obtain ⟨q, hq, rfl⟩ := List.mem_map.mp hw
  rw [rdW_pw (h.nm q hq) (h.nz q hq)]
  exact fun z => nomatch z
theorem Val.lw {x : Str} {es : Es} (h : Val x es) (hx : x ≠ "1") : rdF lwW [] (Txt.split x "*") = some es ∧ ∀ w ∈ Txt.split x "*", lwW w ≠ none := by
  have hw := h.words (h.ne hx)
  rw [hw]
  refine ⟨rdF_pw es [] (fun q hq => lwW_pw (h.nm q hq)) h.sd.nodup, fun w hw => ?_⟩
  obtain ⟨q, hq, rfl⟩ := List.mem_map.mp hw
  rw [lwW_pw (h.nm q hq)]
  exact fun z => nomatch z
/-- what the words that are read give -/
structure Red (B : Nat) (t : Es) : Prop where
  nd : (t.map (·.1)).Nodup
  nm : ∀ q ∈ t, isNm q.1 = true
  bg : ∀ q ∈ t, Big q.2
  ln : t.length ≤ B
theorem Red.nil (B : Nat) : Red B [] := ⟨List.Pairwise.nil, (fun q h => nomatch h), (fun q h => nomatch h), Nat.zero_le _⟩
theorem mem_putE {t : Es} {n : Str} {v : Int} {q : Str × Int} (h : q ∈ putE t n v) : q ∈ t ∨ q = (n, v) := by
  unfold putE at h
  split at h
  · obtain ⟨p, hp, e⟩ := List.mem_map.mp h
    split at e
    · rename_i hn
      right
      rw [← e, hn]
    · left
      rw [← e]
      exact hp
  · rcases List.mem_append.mp h with h | h
    · exact .inl h
    · exact .inr (List.mem_singleton.mp h)
theorem Red.put {B : Nat} {t : Es} (h : Red B t) {n : Str} {v : Int} (hn : isNm n = true) (hv : Big v) : Red (B + 1) (putE t n v) := by
  refine ⟨nod_put h.nd n v, fun q hq => ?_, fun q hq => ?_, ?_⟩
  · rcases mem_putE hq with z | z
    · exact h.nm q z
    · rw [z]; exact hn
  · rcases mem_putE hq with z | z
    · exact h.bg q z
    · rw [z]; exact hv
  · have := len_put t n v
    have := h.ln
    omega
theorem nz_put {t : Es} (h : ∀ q ∈ t, q.2 ≠ 0) {n : Str} {v : Int} (hv : v ≠ 0) : ∀ q ∈ putE t n v, q.2 ≠ 0 := fun q hq => by
  rcases mem_putE hq with z | z
  · exact h q z
  · rw [z]; exact hv
/-- read words, put in sequence -/
theorem memG {t ss : Es} (h1 : (t.map (·.1)).Nodup) (h2 : (ss.map (·.1)).Nodup) (lk : ∀ n, ss.lookup n = t.lookup n) {q : Str × Int} (hq : q ∈ ss) : q ∈ t := by
  have z := look_get h2 (n := q.1) (v := q.2) hq
  rw [lk] at z
  obtain ⟨p, hp, e⟩ := List.mem_map.mp (look_mem.mp (show (t.lookup q.1).isSome = true by rw [z]; rfl))
  have z2 := look_get h1 (n := p.1) (v := p.2) hp
  rw [e, z] at z2
  have e2 : q = p := by
    have := Option.some.inj z2
    exact Prod.ext e.symm this
  rw [e2]
  exact hp
theorem rd_good {x : Str} {t ss : Es} {B : Nat} (hx : x ≠ "1") (hr : rdF rdW [] (Txt.split x "*") = some t) (hR : Red B t) (hz : ∀ q ∈ t, q.2 ≠ 0) (sd : SdE ss) (lk : ∀ n, ss.lookup n = t.lookup n) (e : texE ss = x) : Val x t := by
  have hv : Val x ss := ⟨e, sd, fun q hq => hR.nm q (memG hR.nd sd.nodup lk hq), fun q hq => hz q (memG hR.nd sd.nodup lk hq)⟩
  have z := (hv.rd hx).1
  rw [hr] at z
  rw [Option.some.inj z]
  exact hv
theorem rd_bad {x : Str} {t ss : Es} (hx : x ≠ "1") (hr : rdF rdW [] (Txt.split x "*") = some t) (sd : SdE ss) (lk : ∀ n, ss.lookup n = t.lookup n) (e : texE ss ≠ x) (es : Es) : ¬ Val x es := fun h => by
  have z := (h.rd hx).1
  rw [hr] at z
  have z2 := Option.some.inj z
  subst z2
  have e2 : ss = t := sd.one h.sd lk
  rw [e2] at e
  exact e h.tx
theorem Val.uniq {x : Str} {es fs : Es} (h : Val x es) (g : Val x fs) : es = fs := by
  by_cases hx : x = "1"
  · subst hx
    rw [h.one, g.one]
  · have z := (h.rd hx).1
    rw [(g.rd hx).1] at z
    exact (Option.some.inj z).symm
end K13
set_option maxHeartbeats 8000000
namespace K13
open PySem PySem.Spec PyProof.Rows L2 TL

/-! ### read_decimal -/
abbrev sRdD : Stmt := top 19
def oV : Option Int → V
  | none => .non
  | some v => .int v
def dgT : Str := "0123456789"
theorem dg_tl : tl dgT = (List.range 10).map (· + 48) := by decide
theorem in_dg (c : Nat) : decide (c ∈ dgT.cps.toList) = isDg c := by
  have e : (c ∈ dgT.cps.toList) ↔ 48 ≤ c ∧ c ≤ 57 := by
    rw [show dgT.cps.toList = tl dgT from rfl, dg_tl, List.mem_map]
    constructor
    · rintro ⟨k, hk, e⟩
      have := List.mem_range.mp hk
      omega
    · rintro ⟨h1, h2⟩
      exact ⟨c - 48, List.mem_range.mpr (by omega), by omega⟩
  unfold isDg
  rw [← Bool.decide_and]
  exact decide_eq_decide.mpr e
def spRdD : Sp := fun vs H Q _ => ∃ x : Str, vs = [.str x] ∧ x.length ≤ 100000 ∧ nDg x ≤ 59 ∧ ∀ H', Same H H' → Q (oV (rdD x)) H'
def rNin : R2 := fun x y H Q => ∃ (c : Nat) (z : Str), x = .str ⟨#[c]⟩ ∧ y = .str z ∧ Q (.bl (!decide (c ∈ z.cps.toList))) H
def NRd : List Str := ["text", "digits", "digit", "number"]
structure Nd (mg : Str → Option Value) : Prop where
  any : mg "any" = none
  int : mg "int" = none
  dg : ∃ t, mg "DIGITS" = some (.str dgT t)
def vFold (l : List Nat) : Int := l.foldl (fun (t : Int) (c : Nat) => t * 10 + ((c : Int) - 48)) 0
theorem vFold_snoc (l : List Nat) (c : Nat) : vFold (l ++ [c]) = vFold l * 10 + ((c : Int) - 48) := by
  unfold vFold
  rw [List.foldl_append]
  rfl
theorem vFold_val {l : List Nat} (h : NumText.AllDigits l) : vFold l = dgVal l := fold_digits l 0 h
section
variable {P : Program} {w : World} {K : PySem.W.Frag} {mg : Str → Option Value} {base : Heap}
theorem scRdD : FnScope NRd ["text"] (defScope sRdD) :=
  ⟨rfl, rfl, rfl, by decide +kernel, rfl, by decide +kernel, by decide +kernel⟩
theorem ok_rdD {f : Addr} {fd : FuncData} (F : Fun K "read_decimal" "read_decimal" sRdD f fd) (T : Nd mg) :
    FnOk P w K mg base CX0 1 f fd ["text"] spRdD := by
  obtain ⟨td, gd⟩ := T.dg
  refine F.ok scRdD (fun vs H Q E h => ?_) (fun cdv A outer s H vs Q E hr h => ?_)
  · obtain ⟨x, rfl, _⟩ := h
    rfl
  · obtain ⟨x, rfl, hx, hn, k⟩ := h
    refine ⟨_, pss_cons (ps_set (i := 1) scRdD.nd rfl (.inl rfl) (pe_m1 PySem.F.slot_str_removeprefix PySem.F.type_str_removeprefix mt_removeprefix (pv 0) pe_str))
      (pss_cons (ps_if (PW.pt (pw_or (pt_cmpR op_eq (pv 1) pe_str (nomark _)) (pw_or1 (pt_val (pe_callB (cr_any rfl) (by rfl) T.any (by decide +kernel) (pa_cons
          (pe_lc (own := [("digit", 2)]) (g := gName 2) (tt := tYes) (te := tOp rNin (tVar 2) (tC (.str dgT))) rfl scRdD.nd (pi_str (pv 1))
            (blkOk_by (own := [("digit", 2)]) (N := NRd) (sc := defScope sRdD) (by decide +kernel)) (fun _ _ _ _ _ => pg_name (i := 2) scRdD.nd rfl (Or.inl rfl))
            (fun _ _ _ _ _ => pts_nil) (fun _ _ _ _ _ => by exact pe_cmpR op_notIn_sign (pv 2) (pe_glob (v := .str dgT) (by rfl) gd ⟨td, rfl⟩) rfl)) pa_nil)))))) (pss_one (ps_ret pe_non)) pss_nil)
      (pss_cons (ps_set (i := 3) scRdD.nd rfl (.inl rfl) pe_int)
      (pss_cons (ps_for PassesOwn.never rfl (pi_str (pv 1)) (pg_name (i := 2) scRdD.nd rfl (Or.inl rfl))
        (pss_one (ps_set (i := 3) scRdD.nd rfl (.inl rfl) (pe_op op_add (pe_op op_mul (pv 3) pe_int) (pe_callTy call_int_str (by rfl) T.int (by decide +kernel) (pa_cons (pv 2) pa_nil))))))
      (pss_one (ps_ret (pe_ifExp (pt_val (pe_m1 PySem.F.slot_str_startswith PySem.F.type_str_startswith mt_startswith (pv 0) pe_str)) (pe_un un_neg (pv 3)) (pv 3))))))), ?_⟩
    refine ⟨_, rfl, ⟨_, rfl⟩, x, "-", rfl, rfl, by rw [sizeLine_eq]; omega, ?_⟩
    have tD := tl_remove x
    generalize Txt.removeprefix x "-" = d at tD
    refine ⟨_, rfl, rfl, _, rfl, ?_⟩
    by_cases h0 : d = ""
    · refine iteT' (decide_eq_true (congrArg V.str h0)) ?_
      have e : rdD x = none := by
        unfold rdD
        rw [if_pos (.inl (by rw [← tD, h0]; rfl))]
      have z := k H (Same.refl H)
      rw [e] at z
      exact z
    refine iteN' (fun z => h0 (V.str.inj z)) ?_
    have h0' : lBare (tl x) ≠ [] := fun z => h0 (str_nil.mpr (tD.trans z))
    have hdl : d.length ≤ 100000 := by
      have z := (bare_sub (tl x)).length_le
      rw [← tD, ← len_tl, ← len_tl] at z
      omega
    refine ⟨_, rfl, d, rfl, fun D hD => ?_⟩
    refine lc_it walk_str (fun i H2 => H2 D = some (.lst ((((tl d).take i).map fun c => !isDg c).map V.bl)) ∧ Same H H2)
      ⟨upd_same, fresh_upd hD⟩ (fun _ _ _ _ => trivial) ?_ ?_
    · rintro i v H2 H3 hi ⟨hD2, S2⟩ ⟨rfl, c, hc, rfl⟩
      refine ⟨rfl, ?_⟩
      unfold tYes
      dsimp only
      rw [if_pos rfl]
      refine ⟨_, rfl, c, dgT, rfl, rfl, _, hD2, ?_, ?_, fun b o e => ?_⟩
      · rw [List.length_map, List.length_map, List.length_take, sizeLine_eq, ← len_tl]
        have hm := Nat.min_le_right i d.length
        omega
      · have hc2 : (tl d)[i]? = some c := by rw [Array.getElem?_toList]; exact hc
        rw [upd_same, List.take_add_one, hc2, in_dg]
        simp
      · rw [upd_ne (ne_of_none e hD)]
        exact S2 b o e
    rintro H2 ⟨hD2, S2⟩
    have el : (tl d).take d.cps.size = tl d := List.take_of_length_le (by rw [← len_tl]; exact Nat.le_refl _)
    rw [el] at hD2
    refine ⟨D, _, rfl, SqL.of hD2, ?_⟩
    have ea : ((tl d).map fun c => !isDg c).any id = !((lBare (tl x)).all isDg) := by
      rw [tD, List.any_map]
      induction lBare (tl x) with
      | nil => rfl
      | cons c r ih =>
        rw [List.any_cons, List.all_cons, ih, Bool.not_and]
        rfl
    rw [ea]
    refine ⟨_, rfl, ?_⟩
    by_cases h2 : (lBare (tl x)).all isDg = true
    · rw [h2]
      refine iteF ?_
      have er : rdD x = some (if lMin (tl x) = true then -dgVal (lBare (tl x)) else dgVal (lBare (tl x))) := by
        unfold rdD
        rw [if_neg]
        rintro (z | z)
        · exact h0' z
        · rw [h2] at z
          cases z
      have h3 := all_dg.mp h2
      rw [← tD] at h3
      refine ⟨_, rfl, d, rfl, for_it walk_str (fun i σ H3 => (∃ o2, σ = [some (.str x), some (.str d), o2, some (.int (vFold ((tl d).take i)))]) ∧ Same H H3) ⟨⟨none, rfl⟩, S2⟩ (fun _ _ _ _ _ => trivial) ?_ ?_⟩
      · rintro i v σ H3 H4 hi ⟨⟨o2, rfl⟩, S3⟩ ⟨rfl, c, hc, rfl⟩
        have hc2 : (tl d)[i]? = some c := by rw [Array.getElem?_toList]; exact hc
        have hcd := h3 c (List.mem_of_getElem? hc2)
        have ei : intText? (⟨#[c]⟩ : Str) = some ((c : Int) - 48) := by
          have z := intText_digits (x := (⟨#[c]⟩ : Str)) (fun a ha => by
            have e : a = c := List.mem_singleton.mp ha
            rw [e]
            exact hcd) (fun z => nomatch z) (by show 1 ≤ 4300; decide)
          rw [z]
          show some ((0 * 10 + (c - 48) : Nat) : Int) = _
          congr 1
          omega
        refine ⟨_, rfl, _, _, rfl, rfl, .inr ⟨by decide, by decide⟩, _, rfl, _, _, rfl, ei, by show 1 ≤ 640; decide, _, _, rfl, rfl, ⟨some (.str ⟨#[c]⟩), ?_⟩, S3⟩
        rw [List.take_add_one, hc2]
        show _ = [_, _, _, some (V.int (vFold (List.take i (tl d) ++ [c])))]
        rw [vFold_snoc]
        rfl
      · rintro σ H3 ⟨⟨o2, rfl⟩, S3⟩
        rw [el]
        refine ⟨_, rfl, ⟨_, rfl⟩, _, _, rfl, rfl, ?_⟩
        have z := k H3 S3
        rw [er] at z
        rw [starts_min, vFold_val h3, tD]
        by_cases hm : lMin (tl x) = true
        · rw [if_pos hm] at z
          rw [hm]
          refine ⟨_, rfl, iteT' rfl ?_⟩
          exact ⟨_, rfl, _, rfl, z⟩
        · rw [if_neg hm] at z
          refine ⟨_, rfl, ?_⟩
          have hm2 : lMin (tl x) = false := by simpa using hm
          rw [hm2]
          exact iteF ⟨_, rfl, z⟩
    · have h2' : (lBare (tl x)).all isDg = false := by simpa using h2
      rw [h2']
      refine iteT' rfl ?_
      have e : rdD x = none := by
        unfold rdD
        rw [if_pos (.inr h2')]
      have z := k H2 S2
      rw [e] at z
      exact z
end
end K13
set_option maxHeartbeats 8000000
namespace K13
open PySem PySem.Spec PyProof.Rows L2 TL

/-! ### repr of Sizes -/
def sgn (c : Nat) : Bool := (decide (97 ≤ c) && decide (c ≤ 122)) || (isDg c || (c == 94 || (c == 42 || c == 45)))
theorem sgn_lt {c : Nat} (h : sgn c = true) : c < 123 := by
  unfold sgn isDg at h
  simp only [Bool.or_eq_true, Bool.and_eq_true, decide_eq_true_eq, beq_iff_eq] at h
  omega
theorem sgn_all : ((List.range 123).all fun c => !sgn c || (Unicode.isPrintable c && (c != 39 && (c != 92 && (c != 10 && (c != 13 && c != 9)))))) = true := by decide +kernel
theorem sgn_char {c : Nat} (h : sgn c = true) : Builtin.Str.reprChar 39 c = [c] ∧ c ≠ 39 := by
  have z := List.all_eq_true.mp sgn_all c (List.mem_range.mpr (sgn_lt h))
  rw [h] at z
  simp only [Bool.not_true, Bool.false_or, Bool.and_eq_true, bne_iff_ne, ne_eq] at z
  obtain ⟨z1, z2, z3, z4, z5, z6⟩ := z
  refine ⟨?_, z2⟩
  unfold Builtin.Str.reprChar
  have e1 : (c == 39 || c == 92) = false := by simp [z2, z3]
  have e2 : (c == 10) = false := by simpa using z4
  have e3 : (c == 13) = false := by simpa using z5
  have e4 : (c == 9) = false := by simpa using z6
  simp only [e1, e2, e3, e4, z1]
  rfl
theorem repr_fold : ∀ (l : List Nat) (acc : Array Nat), (∀ c ∈ l, sgn c = true) → (l.foldl (fun out c => out ++ (Builtin.Str.reprChar 39 c).toArray) acc).toList = acc.toList ++ l
  | [], acc, _ => by simp
  | c :: r, acc, h => by
    rw [List.foldl_cons, repr_fold r _ fun a ha => h a (List.mem_cons_of_mem _ ha), (sgn_char (h c (List.mem_cons_self ..))).1]
    simp
theorem repr_plain {x : Str} (h : ∀ c ∈ tl x, sgn c = true) : tl (reprText x) = 39 :: (tl x ++ [39]) := by
  have hq : reprQuote x = 39 := by
    unfold reprQuote
    rw [if_neg]
    intro z
    rw [Bool.and_eq_true] at z
    have z1 : 39 ∈ tl x := by
      have := z.1
      rw [Array.contains_iff_mem] at this
      exact Array.mem_toList_iff.mpr this
    exact (sgn_char (h 39 z1)).2 rfl
  unfold reprText
  show tl ⟨(x.cps.foldl (fun out c => out ++ (Builtin.Str.reprChar (reprQuote x) c).toArray) #[reprQuote x]).push (reprQuote x)⟩ = _
  rw [hq, ← Array.foldl_toList]
  show ((x.cps.toList.foldl (fun out c => out ++ (Builtin.Str.reprChar 39 c).toArray) #[39]).push 39).toList = _
  rw [Array.toList_push, repr_fold _ _ h]
  rfl
theorem mem_joinL {S : List Nat} {c : Nat} : ∀ {ps : List (List Nat)}, c ∈ joinL S ps → c ∈ S ∨ ∃ p ∈ ps, c ∈ p
  | [], h => by cases h
  | [p], h => .inr ⟨p, List.mem_cons_self .., by
      have e : joinL S [p] = p := by first | rfl | simp [joinL]
      rwa [e] at h⟩
  | p :: q :: r, h => by
    have e : joinL S (p :: q :: r) = p ++ (S ++ joinL S (q :: r)) := by first | rfl | simp [joinL]
    rw [e] at h
    rcases List.mem_append.mp h with h | h
    · exact .inr ⟨p, List.mem_cons_self .., h⟩
    · rcases List.mem_append.mp h with h | h
      · exact .inl h
      · rcases mem_joinL h with h | ⟨a, ha, h⟩
        · exact .inl h
        · exact .inr ⟨a, List.mem_cons_of_mem _ ha, h⟩
theorem sgn_nm {n : Str} (h : isNm n = true) {c : Nat} (hc : c ∈ tl n) : sgn c = true := by
  have := nm_sign h hc
  unfold sgn
  rw [decide_eq_true this.1, decide_eq_true this.2]
  rfl
theorem sgn_num {n c : Nat} (hc : c ∈ numL n) : sgn c = true := by
  have z : isDg c = true := by
    have := numL_digits n c hc
    unfold isDg
    rw [decide_eq_true this.1, decide_eq_true this.2]
    rfl
  unfold sgn
  rw [z]
  simp
theorem sgn_dec {v : Int} {c : Nat} (hc : c ∈ tl (decS v)) : sgn c = true := by
  by_cases h : v < 0
  · rw [tl_decN h] at hc
    rcases List.mem_cons.mp hc with e | hc
    · rw [e]; rfl
    · exact sgn_num hc
  · rw [tl_dec0 (by omega)] at hc
    exact sgn_num hc
theorem sgn_pw {n : Str} {v : Int} (h : isNm n = true) {c : Nat} (hc : c ∈ tl (pwT n v)) : sgn c = true := by
  by_cases h1 : v = 1
  · unfold pwT at hc
    rw [if_pos h1] at hc
    exact sgn_nm h hc
  · rw [pw_tl h1, tl_append, tl_append, tl_hat] at hc
    rcases List.mem_append.mp hc with hc | hc
    · rcases List.mem_append.mp hc with hc | hc
      · exact sgn_nm h hc
      · rw [List.mem_singleton.mp hc]; rfl
    · exact sgn_dec hc
theorem sgn_tex {es : Es} (h : ∀ q ∈ es, isNm q.1 = true) {c : Nat} (hc : c ∈ tl (texE es)) : sgn c = true := by
  unfold texE at hc
  split at hc
  · have : c = 49 := List.mem_singleton.mp hc
    rw [this]; rfl
  · rw [join_eq, tl_join, tl_star] at hc
    rcases mem_joinL hc with hc | ⟨p, hp, hc⟩
    · rw [List.mem_singleton.mp hc]; rfl
    · obtain ⟨x, hx, rfl⟩ := List.mem_map.mp hp
      obtain ⟨q, hq, rfl⟩ := List.mem_map.mp hx
      exact sgn_pw (h q hq) hc
def reprS (x : Str) : Str := ("Size('" : Str) ++ x ++ ("')" : Str)
theorem repr_size {es : Es} (h : ∀ q ∈ es, isNm q.1 = true) : Str.empty ++ ("Size(" : Str) ++ reprText (texE es) ++ (")" : Str) = reprS (texE es) := by
  refine ext_tl ?_
  unfold reprS
  rw [tl_append, tl_append, tl_append, tl_append, tl_append, repr_plain fun c hc => sgn_tex h hc]
  have e1 : tl Str.empty = [] := rfl
  have e2 : tl ("Size(" : Str) = [83, 105, 122, 101, 40] := by decide
  have e3 : tl (")" : Str) = [41] := by decide
  have e4 : tl ("Size('" : Str) = [83, 105, 122, 101, 40, 39] := by decide
  have e5 : tl ("')" : Str) = [39, 41] := by decide
  rw [e1, e2, e3, e4, e5]
  simp
theorem reprT_len {es : Es} (h : ∀ q ∈ es, isNm q.1 = true) : (reprText (texE es)).length = (texE es).length + 2 := by
  rw [len_tl, repr_plain fun c hc => sgn_tex h hc, len_tl]
  simp
abbrev sRepr : Stmt := inClass sSize 19
def spRepr (C : Addr) : Sp := fun vs H Q _ => ∃ (p : Addr) (es : Es), vs = [.ref p] ∧ SizeAt C H p es ∧ (∀ q ∈ es, Big q.2) ∧ ∀ H', Same H H' → Q (.str (reprS (texE es))) H'
section
variable {P : Program} {w : World} {K : PySem.W.Frag} {mg : Str → Option Value} {base : Heap} {C : Addr}
theorem scRepr : FnScope ["self"] ["self"] (defScope sRepr) :=
  ⟨rfl, rfl, rfl, by decide +kernel, rfl, by decide +kernel, by decide +kernel⟩
theorem ok_repr {f fT : Addr} {fd fdT : FuncData} (F : Fun K "__repr__" "Size.__repr__" sRepr f fd) (Tc : Ck K mg C)
    (GT : FnOk P w K mg base CX0 4 fT fdT ["exponents"] spTex) (kT : PySem.W.keepIn K (.ref fT) = true) (bT : Binds K fdT ["exponents"] []) (gT : mg "exponents_text" = some (.ref fT)) :
    FnOk P w K mg base CX0 5 f fd ["self"] (spRepr C) := by
  refine F.ok scRepr (fun vs H Q E h => ?_) (fun cdv A outer s H vs Q E hr h => ?_)
  · obtain ⟨p, es, rfl, _⟩ := h
    rfl
  · obtain ⟨p, es, rfl, ⟨dx, D, p1, p2, p3, p4, p5, p6⟩, hB, k⟩ := h
    refine ⟨_, pss_one (ps_ret (pe_joined (.cons pe_str (.cons (pe_fmtR (pe_call GT hr rfl gT kT bT .nil pass0 (pa_cons (pe_fld (pv 0) rfl) pa_nil))) (.cons pe_str .nil))))), ?_⟩
    have hb : ∀ q ∈ es, q.1.length ≤ 8 ∧ Big q.2 := fun q hq => ⟨by have := nm_len (p5 q hq); omega, hB q hq⟩
    have hl := tex_len hb p6
    have hl2 := reprT_len p5
    have e1 : (Str.empty ++ ("Size(" : Str)).length = 5 := by decide
    refine ⟨_, rfl, by rw [e1, sizeLine_eq]; decide, _, rfl, p, C, dx, _, _, rfl, p1, Tc.cl, Tc.nE, rfl, D, es, rfl, p2, p3.nodup, p6, hb, fun ss sd lk H' S => ?_⟩
    rw [sd.one p3 lk]
    refine .inl ⟨_, rfl, by rw [sizeLine_eq]; omega, _, rfl, ?_, _, rfl, ?_, ?_⟩
    · rw [len_tl, tl_append, List.length_append, ← len_tl, ← len_tl, e1, sizeLine_eq]
      omega
    · have e3 : (")" : Str).length = 1 := by decide
      rw [len_tl, tl_append, tl_append, List.length_append, List.length_append, ← len_tl, ← len_tl, ← len_tl, e1, e3, sizeLine_eq]
      omega
    · show Q (.str (Str.empty ++ ("Size(" : Str) ++ reprText (texE es) ++ (")" : Str))) H'
      rw [repr_size p5]
      exact k H' S
end
/-! ### repr(o), o an instance with an own __repr__ -/
section
variable {X : Cx} {CX : CXT} {C f : Addr} {fd : FuncData} {ps : List Str} {sp : Sp} {E : XK} {n : Nat}
theorem call_reprO (F : FnOk X.prog X.w X.K X.mg X.base CX n f fd ps sp) (hr : Room (n + 1) X.A) (hs : PySem.W.findIn X.K (.ref C) "__repr__" = some (some (.ref f))) (hf : PySem.W.isFn X.K (.ref f) = true)
    (hb : Binds X.K fd ps []) (hx : Passes CX X E) : CallR X (.builtin "repr") (rStrO C sp E) := by
  intro pins s σ H xs us Q I r h
  obtain ⟨a, dx, fs, rfl, ha, hsp⟩ := h
  obtain ⟨u, rfl, ru⟩ := vals1 r
  cases (show u = Value.ref a from ru)
  obtain ⟨mA, J, _⟩ := ins_get I.hok ha
  obtain ⟨od, J, _⟩ := J.look
  obtain ⟨m, hF⟩ := I.fr
  refine PySem.W.repr_K (by have := hr.units; show X.A.units + 1 < cLine; omega) hF I.ok.mod.kin J hs hf ?_
  have e0 : Env0 X.prog X.w X.K X.mg X.base X.A.in1 X.stack s H := by
    have e := I.env0
    exact ⟨e.frames, e.mod, e.bs, e.bsz, e.funs, e.frf, e.hok, e.bare⟩
  have hl := F.len _ _ _ _ hsp
  have r2 : Vals [V.ref a] [Value.ref a] := .cons rfl .nil
  refine wpAny_call (codeAny_mono (F.run X.A.in1 X.stack s H ⟨[.ref a], []⟩ [.ref a] [.ref a] _ E hr.in1 e0 (by
    have := hb s [.ref a] I.kIn (by simpa using hl)
    simpa using this) r2 hsp) fun r s' hq => ?_)
  cases r with
  | error e => exact hx pins σ H s e s' I hq
  | ok fl =>
    cases fl with
    | ret w =>
      obtain ⟨z, H', I', rz, x, ez, ex⟩ := I.after hq
      subst ez
      obtain ⟨t, rfl⟩ := (show ∃ t, w = Value.str x t from rz)
      exact ⟨.str x, H', I', ⟨t, rfl⟩, ex⟩
    | next => exact False.elim hq
    | brk => exact False.elim hq
    | cont => exact False.elim hq
end
end K13
set_option maxHeartbeats 8000000
namespace K13
open PySem PySem.Spec PyProof.Rows L2 TL

/-! ### words and their lengths -/
theorem pre1 {s c : Nat} {r : List Nat} : pre [s] (c :: r) = (c == s) := by
  unfold pre
  show ([c] == [s]) = _
  by_cases h : c = s
  · subst h
    simp
  · have h1 : ([c] == [s]) = false := by simpa using h
    have h2 : (c == s) = false := by simpa using h
    rw [h1, h2]
theorem spl1_len (s : Nat) : ∀ (l acc : List Nat), (spl [s] 0 acc l).length = l.count s + 1
  | [], acc => by rw [spl_nil]; rfl
  | c :: r, acc => by
    by_cases h : c = s
    · subst h
      rw [spl_hit (by rw [pre1]; simp)]
      show (spl [c] 0 [] r).length + 1 = _
      rw [spl1_len c r [], List.count_cons_self]
    · rw [spl_miss (by rw [pre1]; simpa using h), spl1_len s r, List.count_cons_of_ne (by simpa using h)]
theorem spl1_sub (s : Nat) : ∀ (l acc : List Nat), ∀ p ∈ spl [s] 0 acc l, p.Sublist (acc ++ l)
  | [], acc, p, hp => by
    rw [spl_nil] at hp
    rw [List.mem_singleton.mp hp, List.append_nil]
    exact List.Sublist.refl _
  | c :: r, acc, p, hp => by
    by_cases h : c = s
    · subst h
      rw [spl_hit (by rw [pre1]; simp)] at hp
      have hp : p ∈ acc :: spl [c] 0 [] r := hp
      rcases List.mem_cons.mp hp with e | hp
      · rw [e]
        exact List.sublist_append_left _ _
      · have z := spl1_sub c r [] p hp
        rw [List.nil_append] at z
        exact (z.trans (List.sublist_cons_self c r)).trans (List.sublist_append_right _ _)
    · rw [spl_miss (by rw [pre1]; simpa using h)] at hp
      have z := spl1_sub s r (acc ++ [c]) p hp
      rw [List.append_assoc] at z
      exact z
structure Sep (y : Str) (s : Nat) : Prop where
  tl : tl y = [s]
  kd : y.cps.all (· < 256) = true
theorem sepS : Sep "*" 42 := ⟨tl_star, kind_star⟩
theorem sepH : Sep "^" 94 := ⟨tl_hat, kind_hat⟩
theorem split_tl {y : Str} {s : Nat} (h : Sep y s) (x : Str) : (Txt.split x y).map tl = spl [s] 0 [] (tl x) := by
  have z := split_spl x y (by rw [h.tl]; simp) (kind_ok h.kd)
  rw [h.tl] at z
  exact z
theorem split_len {y : Str} {s : Nat} (h : Sep y s) (x : Str) : (Txt.split x y).length = (tl x).count s + 1 := by
  have z := congrArg List.length (split_tl h x)
  rw [List.length_map, spl1_len] at z
  exact z
theorem split_sub {y : Str} {s : Nat} (h : Sep y s) {x p : Str} (hp : p ∈ Txt.split x y) : (tl p).Sublist (tl x) := by
  have z : tl p ∈ spl [s] 0 [] (tl x) := by
    rw [← split_tl h x]
    exact List.mem_map.mpr ⟨p, hp, rfl⟩
  exact spl1_sub s _ [] _ z
theorem sub_len2 {x p : Str} (h : (tl p).Sublist (tl x)) : p.length ≤ x.length := by
  rw [len_tl, len_tl]
  exact h.length_le
theorem sub_dg {x p : Str} (h : (tl p).Sublist (tl x)) : nDg p ≤ nDg x := (List.Sublist.filter isDg h).length_le
theorem part_sub (x y : Str) : (tl (Txt.partition x y).1).Sublist (tl x) ∧ (tl (Txt.partition x y).2.2).Sublist (tl x) := by
  rcases PyProof.Rows.partition_whole x y with ⟨e, _⟩ | ⟨i, e, _, _⟩
  · rw [e]
    exact ⟨List.Sublist.refl _, List.nil_sublist _⟩
  · rw [e]
    constructor
    · rw [tl_strSub]
      exact (List.take_sublist _ _).trans (List.drop_sublist _ _)
    · rw [tl_strSub_end]
      exact List.drop_sublist _ _

/-! ### read_exponents -/
abbrev sRdE : Stmt := top 22
/-- a text that is short enough -/
structure Sht (x : Str) : Prop where
  ln : x.length ≤ 100000
  ct : (tl x).count 42 ≤ 60
  dg : ∀ p ∈ Txt.split x "*", nDg p ≤ 59
theorem Sht.words {x : Str} (h : Sht x) : (Txt.split x "*").length ≤ 61 := by
  rw [split_len sepS]
  have := h.ct
  omega
theorem big_one : Big 1 := ⟨by decide, by decide⟩
theorem wExp_big {p : Str} {v : Int} (h : wExp p = some v) (hd : nDg p ≤ 59) : Big v := by
  unfold wExp at h
  split at h
  · rw [← Option.some.inj h]
    exact big_one
  · exact rdD_big h (Nat.le_trans (sub_dg (part_sub p "^").2) hd)
theorem Val.red {x : Str} {es : Es} (h : Val x es) (hS : Sht x) : Red 61 es := by
  by_cases hx : x = "1"
  · subst hx
    rw [h.one]
    exact Red.nil 61
  · have hw := h.words (h.ne hx)
    refine ⟨h.sd.nodup, h.nm, fun q hq => ?_, ?_⟩
    · have hp : pwT q.1 q.2 ∈ Txt.split x "*" := by
        rw [hw]
        exact List.mem_map.mpr ⟨q, hq, rfl⟩
      exact wExp_big (rdW_ok (rdW_pw (h.nm q hq) (h.nz q hq))).2.2.1 (hS.dg _ hp)
    · have z := hS.words
      rw [hw, List.length_map] at z
      exact z
def spRdE : Sp := fun vs H Q _ => ∃ x : Str, vs = [.str x] ∧ Sht x ∧
  (∀ es, Val x es → ∀ H' D, Same H H' → H D = none → H' D = some (.dK (kv es)) → Q (.ref D) H') ∧ ((∀ es, ¬ Val x es) → ∀ H', Same H H' → Q .non H')
def NRe : List Str := ["text", "exponents", "part", "name", "caret", "digits", "exponent"]
section
variable {P : Program} {w : World} {K : PySem.W.Frag} {mg : Str → Option Value} {base : Heap}
theorem scRdE : FnScope NRe ["text"] (defScope sRdE) :=
  ⟨rfl, rfl, rfl, by decide +kernel, rfl, by decide +kernel, by decide +kernel⟩
theorem ok_rdE {f fD fN fT : Addr} {fd fdD fdN fdT : FuncData} (F : Fun K "read_exponents" "read_exponents" sRdE f fd)
    (GD : FnOk P w K mg base CX0 1 fD fdD ["text"] spRdD) (kD : PySem.W.keepIn K (.ref fD) = true) (bD : Binds K fdD ["text"] []) (gD : mg "read_decimal" = some (.ref fD))
    (GN : FnOk P w K mg base CX0 1 fN fdN ["value"] (spIsName K)) (kN : PySem.W.keepIn K (.ref fN) = true) (bN : Binds K fdN ["value"] []) (gN : mg "is_name" = some (.ref fN))
    (GT : FnOk P w K mg base CX0 4 fT fdT ["exponents"] spTex) (kT : PySem.W.keepIn K (.ref fT) = true) (bT : Binds K fdT ["exponents"] []) (gT : mg "exponents_text" = some (.ref fT)) :
    FnOk P w K mg base CX0 5 f fd ["text"] spRdE := by
  have GD4 := GD.mono (k := 4) (by decide)
  have GN4 := GN.mono (k := 4) (by decide)
  refine F.ok scRdE (fun vs H Q E h => ?_) (fun cdv A outer s H vs Q E hr h => ?_)
  · obtain ⟨x, rfl, _⟩ := h
    rfl
  · obtain ⟨x, rfl, hS, k1, k2⟩ := h
    have hu : (A.deeper (envOfC "read_exponents" (defScope sRdE) s.heap.objs.size f cdv)).units + 1 < cLine := by have := hr.units; omega
    refine ⟨_, pss_cons (ps_if (pt_cmpR op_eq (pv 0) pe_str (nomark _)) (pss_one (ps_ret pe_dnewK)) pss_nil)
      (pss_cons (ps_set (i := 1) scRdE.nd rfl (.inl rfl) pe_dnewK)
      (pss_cons (ps_for PassesOwn.never rfl (pi_list (pe_split (pv 0) pe_str)) (pg_name (i := 2) scRdE.nd rfl (Or.inl rfl))
        (pss_cons (ps_asg (pe_partition (pv 2) pe_str) (pg_tup rfl (pgs_cons (pg_name (i := 3) scRdE.nd rfl (Or.inl rfl)) (pgs_cons (pg_name (i := 4) scRdE.nd rfl (Or.inl rfl)) (pgs_cons (pg_name (i := 5) scRdE.nd rfl (Or.inl rfl)) pgs_nil)))))
        (pss_cons (ps_set (i := 6) scRdE.nd rfl (.inl rfl) (pe_ifExp (pt_cmpR op_eq (pv 4) pe_str (nomark _)) pe_int (pe_call GD4 hr rfl gD kD bD .nil pass0 (pa_cons (pv 5) pa_nil))))
        (pss_cons (ps_if (PW.pt (pw_or (pt_not (pt_val (pe_call GN4 hr rfl gN kN bN .nil pass0 (pa_cons (pv 3) pa_nil)))) (pw_or (pt_cmpR op_isN (pv 6) pe_non (nomark _)) (pw_or1 (pt_cmpR op_eq (pv 6) pe_int (nomark _))))))
          (pss_one (ps_ret pe_non)) pss_nil)
        (pss_one (ps_dput hu (pv 1) (pv 3) (pv 6) rfl))))))
      (pss_one (ps_ret (pe_ifExp (pt_cmpR op_eq (pe_call GT hr rfl gT kT bT .nil pass0 (pa_cons (pv 1) pa_nil)) (pv 0) (nomark _)) (pv 1) pe_non))))), ?_⟩
    refine ⟨_, rfl, rfl, _, rfl, ?_⟩
    by_cases hx : x = "1"
    · subst hx
      refine iteT' (decide_eq_true rfl) fun D nD => ?_
      exact k1 [] val_one _ D (fresh_upd nD) nD upd_same
    refine iteN' (fun z => hx (V.str.inj z)) fun D nD => ?_
    have S0 := fresh_upd (o := .dK []) nD
    have hxl := hS.ln
    refine ⟨_, rfl, ⟨_, rfl⟩, x, "*", rfl, rfl, by decide, by rw [sizeLine_eq]; omega, fun L nL => ?_⟩
    have S1 := fresh_upd (o := .lst ((Txt.split x "*").map V.str)) nL
    have hL1 : upd (upd H D (.dK [])) L (.lst ((Txt.split x "*").map V.str)) L = some (.lst ((Txt.split x "*").map V.str)) := upd_same
    have DL : D ≠ L := ne_of_none upd_same nL
    have hD1 : upd (upd H D (.dK [])) L (.lst ((Txt.split x "*").map V.str)) D = some (.dK (kv [])) := (upd_ne DL).trans upd_same
    have S01 := S0.trans S1
    generalize upd (upd H D (.dK [])) L (.lst ((Txt.split x "*").map V.str)) = H1 at S1 hL1 hD1 S01
    have hws := hS.words
    have dgs := hS.dg
    have kx : ∀ es, Val x es → rdF rdW [] (Txt.split x "*") = some es ∧ ∀ w ∈ Txt.split x "*", rdW w ≠ none := fun es h => h.rd hx
    have wl : ∀ p ∈ Txt.split x "*", p.length ≤ 100000 := fun p hp => Nat.le_trans (sub_len2 (split_sub sepS hp)) hxl
    have good := fun t ss (B : Nat) => rd_good (x := x) (t := t) (ss := ss) (B := B) hx
    have bad := fun t ss => rd_bad (x := x) (t := t) (ss := ss) hx
    generalize Txt.split x "*" = ws at *
    refine ⟨L, rfl, ⟨_, SqL.of hL1⟩, for_it (walk_list (K := K) (a := L) (xs := ws.map V.str)) (fun i σ H2 => (∃ o2 o3 o4 o5 o6, σ = [some (.str x), some (.ref D), o2, o3, o4, o5, o6]) ∧
      (∀ b o, b ≠ D → H1 b = some o → H2 b = some o) ∧ ∃ t, H2 D = some (.dK (kv t)) ∧ rdF rdW [] (ws.take i) = some t ∧ Red i t ∧ ∀ q ∈ t, q.2 ≠ 0)
      ⟨⟨none, none, none, none, none, rfl⟩, fun _ _ _ e => e, [], hD1, rfl, Red.nil 0, fun q h => nomatch h⟩ (fun i σ H2 _ h => SqL.of (h.2.1 _ _ DL.symm hL1)) ?_ ?_⟩
    · rintro i v σ H9 H2 hi ⟨⟨o2, o3, o4, o5, o6, rfl⟩, S2, t, hD2, hr2, hR2, hz2⟩ ⟨rfl, hv⟩
      rw [List.length_map] at hi
      have ev : v = .str ws[i] := by
        rw [List.getElem?_map, List.getElem?_eq_getElem hi] at hv
        exact (Option.some.inj hv).symm
      subst ev
      have hp : ws[i] ∈ ws := List.getElem_mem hi
      have hpl := wl _ hp
      have hpd := dgs _ hp
      have hsn : ∀ q, rdW ws[i] = some q → rdF rdW [] (ws.take (i + 1)) = some (putE t q.1 q.2) := fun q e => by
        rw [List.take_add_one, List.getElem?_eq_getElem hi]
        show rdF rdW [] (ws.take i ++ [ws[i]]) = _
        rw [rdF_snoc rdW ws[i] _ _ _ hr2, e]
        rfl
      generalize ws[i] = p at *
      have hps := part_sub p "^"
      refine ⟨_, rfl, ⟨_, rfl⟩, p, "^", rfl, rfl, by decide, by rw [sizeLine_eq]; omega, fun T nT => ?_⟩
      refine ⟨T, _, rfl, SqT.of upd_same, rfl, _, _, rfl, _, _, rfl, _, _, rfl, rfl, ?_⟩
      have S3 := fresh_upd (o := .tup [.str (Txt.partition p "^").1, .str (Txt.partition p "^").2.1, .str (Txt.partition p "^").2.2]) nT
      generalize upd H2 T (.tup [.str (Txt.partition p "^").1, .str (Txt.partition p "^").2.1, .str (Txt.partition p "^").2.2]) = H5 at S3
      refine ⟨_, rfl, rfl, _, rfl, ?_⟩
      by_cases hc : (Txt.partition p "^").2.1 = ""
      case' pos =>
        refine iteT' (decide_eq_true (congrArg V.str hc)) ?_
        have ew : wExp p = some 1 := if_pos hc
        rw [show V.int 1 = oV (wExp p) by rw [ew]; rfl]
        have S5 : Same H2 H5 := S3
        clear S3
      case' neg =>
        refine iteN' (fun z => hc (V.str.inj z)) ?_
        refine ⟨_, rfl, _, rfl, Nat.le_trans (sub_len2 hps.2) hpl, Nat.le_trans (sub_dg hps.2) hpd, fun H5 S4 => ?_⟩
        have ew : wExp p = rdD (Txt.partition p "^").2.2 := if_neg hc
        rw [← ew]
        have S5 : Same H2 H5 := S3.trans S4
        clear S4 S3
      all_goals
        clear ew
        have hDH : ∀ b o, H b = some o → b ≠ D := fun b o e => ne_of_none e nD
        have SH : Same H H5 := fun b o e => S5 _ _ (S2 _ _ (hDH _ _ e) (S01 _ _ e))
        have none_ : rdW p = none → ∀ H', Same H H' → Q .non H' := fun e => k2 fun es h => (kx es h).2 p hp e
        have hD5 := S5 _ _ hD2
        refine ⟨_, rfl, .inl ⟨(Txt.partition p "^").1, rfl, by have := sub_len2 hps.1; omega, fun H6 S6 => ?_⟩⟩
        have SH6 := SH.trans S6
        have hD6 := S6 _ _ hD5
        cases hn : isNm (Txt.partition p "^").1 with
        | false =>
          have e : rdW p = none := by
            unfold rdW
            cases wExp p with
            | none => rfl
            | some v => exact if_neg (fun z => Bool.noConfusion (hn.symm.trans (show isNm (Txt.partition p "^").1 = true from z.1)))
          refine ⟨_, rfl, iteT' rfl ?_⟩
          exact none_ e H6 SH6
        | true =>
          refine ⟨_, rfl, iteF ?_⟩
          cases he : wExp p with
          | none =>
            have e : rdW p = none := by
              unfold rdW
              rw [he]
            refine ⟨_, rfl, rfl, _, rfl, iteT' (decide_eq_true rfl) ?_⟩
            exact none_ e H6 SH6
          | some v =>
            refine ⟨_, rfl, rfl, _, rfl, iteN' (fun z => nomatch z) ?_⟩
            by_cases hv : v = 0
            · have e : rdW p = none := by
                unfold rdW
                rw [he]
                exact if_neg fun z => z.2 hv
              refine ⟨_, rfl, rfl, _, rfl, iteT' (decide_eq_true (congrArg V.int hv)) ?_⟩
              exact none_ e H6 SH6
            · have e : rdW p = some (wName p, v) := by
                unfold rdW
                rw [he]
                exact if_pos ⟨hn, hv⟩
              refine ⟨_, rfl, rfl, _, rfl, iteN' (fun z => hv (V.int.inj z)) ?_⟩
              have hRn := hR2.put hn (wExp_big he hpd)
              have hlt := hR2.ln
              refine ⟨_, rfl, _, rfl, _, rfl, D, _, rfl, .inl ⟨_, ky (wName p), hD6, rfl, by rw [kv_len, sizeLine_eq]; omega, rfl⟩, ⟨_, _, _, _, _, rfl⟩, fun b o hb eb => ?_, putE t (wName p) v, by rw [upd_same, kv_put]; rfl, hsn _ e, hRn, nz_put hz2 hv⟩
              rw [upd_ne hb]
              exact S6 _ _ (S5 _ _ (S2 b o hb eb))
    · rintro σ H2 ⟨⟨o2, o3, o4, o5, o6, rfl⟩, S2, t, hD2, hr2, hR2, hz2⟩
      rw [List.length_map] at hr2 hR2
      rw [List.take_length] at hr2
      have SH : Same H H2 := fun b o e => S2 _ _ (ne_of_none e nD) (S01 _ _ e)
      have hln := hR2.ln
      refine ⟨_, rfl, D, t, rfl, hD2, hR2.nd, by omega, fun q hq => ⟨nm_len (hR2.nm q hq), hR2.bg q hq⟩, fun ss sd lk H3 S3 => ?_⟩
      have S03 := SH.trans S3
      refine ⟨_, rfl, rfl, _, rfl, ?_⟩
      by_cases he : texE ss = x
      · refine iteT' (decide_eq_true (congrArg V.str he)) ?_
        refine ⟨_, rfl, ?_⟩
        exact k1 t (good t ss _ hr2 hR2 hz2 sd lk he) H3 D S03 nD (S3 _ _ hD2)
      · refine iteN' (fun z => he (V.str.inj z)) ?_
        exact k2 (bad t ss hr2 sd lk he) H3 S03
end
end K13
set_option maxHeartbeats 8000000
/-! own exceptions that are raised; methods that raise -/
namespace L2
open PySem PySem.Spec PyProof.Rows

/-- C(e, ..), to be raised: its dict is new -/
def tXm (C : Addr) (ps : List Str) (ta : TA) : St → Hp → XK → Prop := fun σ H Q => ta σ H fun vs H1 => vs.length = ps.length ∧
  ∀ d, H1 d = none → Q (.ref C) (some d) (upd H1 d (.xd (ps.zip vs.reverse)))
section
variable {X : Cx} {C : Addr} {p₀ : Str} {ps : List Str} {k : Nat} {x : Str} {p pos : Pos} {e : Expr} {es : List Expr} {ta : TA}
theorem pmk_x (M : MkAll X.prog X.w X.K X.mg C (p₀ :: ps)) (hr : Room k X.A) (hg : Gl X x) (hm : X.mg x = some (.ref C)) (R : Raises X (.ref C))
    (ha : PA X (e :: es) ta) (hdb : (x == ("__debug__" : Str)) = false := by decide)
    (he : starEach (e :: es) X.env = (false, eval e X.env) :: starEach es X.env := by rfl)
    (hpl : (backTo pos (starEach es X.env)).any (·.1) = false := by rfl) :
    PMk X (.Call (.Name x p) (e :: es) [] pos) (tXm C (p₀ :: ps) ta) := by
  intro pins s σ H Q I h
  refine wpAny_Call_Name_kw (ld_glob I hg hm ?_ hdb)
  refine PySem.W.callWith_K (h₀ := X.base) I.ok.mod.kin M.kp
    (thn (ha.run pos pins s σ H _ I h) fun us s1 ⟨vs, H1, I1, r, hl, q⟩ => ⟨I1.kIn, ?_⟩) he hpl
  have lu : us.length = (p₀ :: ps).length := r.length.symm.trans hl
  have Z := M.pos ((p₀ :: ps).zip us.reverse) (zip_fst (by rw [List.length_reverse]; exact lu))
  rw [zip_rev lu] at Z
  have kv := zip_kv (p₀ :: ps) (vals_rev r)
  have hd := hr.dp
  show wpAny _ _ (call (.ref C) us) _ _ _
  refine wpAny_call (Z X.A _ s1 I1.mh I1.nolimit (by omega) fun h' tk a W => ?_)
  have zo := W.obj
  obtain ⟨u0, ur, eu⟩ : ∃ u0 ur, us.reverse = u0 :: ur := by
    cases e : us.reverse with
    | nil =>
      have z := congrArg List.length e
      rw [List.length_reverse, lu] at z
      cases z
    | cons a b => exact ⟨a, b, rfl⟩
  obtain ⟨y0, yr, ey⟩ : ∃ y0 yr, vs.reverse = y0 :: yr := by
    cases e : vs.reverse with
    | nil =>
      have z := congrArg List.length e
      rw [List.length_reverse, hl] at z
      cases z
    | cons a b => exact ⟨a, b, rfl⟩
  rw [eu] at zo kv
  obtain ⟨t1, dx, e1, e2, e3, e4⟩ := zo
  obtain ⟨G, g1', g2'⟩ := restrict h' fun b => decide (b ≠ a)
  have gk : ∀ b, b ≠ a → G.get? b = h'.get? b := fun b hb => g1' b (decide_eq_true hb)
  have ge : G.get? a = none := g2' a (by simp)
  have na0 : H1 a = none := I1.hok.fresh W.new
  have hdx : H1 dx = none := I1.hok.fresh e2
  have keep : ∀ b o, s1.heap.get? b = some o → G.get? b = some o := fun b o z =>
    (gk b (Nat.ne_of_lt (Nat.lt_of_lt_of_le (Heap.lt_size z) W.new))).trans (W.keep b o z)
  have ok : ObjOk X.prog X.w H1 G dx (.xd ((p₀ :: ps).zip vs.reverse)) := by
    refine ⟨_, e4.at fun o y => (gk dx e3).trans y, ?_⟩
    exact kv_lookup kv
  have J := I1.laid (t' := tk) (a := dx) (o := .xd ((p₀ :: ps).zip vs.reverse)) (h' := G) keep e2 ok
  refine ⟨a, _, _, { s1 with heap := G, toks := tk }, _, .ref C, some dx, rfl, J, fun b o z => ?_, ge, e1, ⟨rfl, rfl⟩, rfl, rfl, ?_, rfl, I1.bare, R, q dx hdx⟩
  · by_cases hb : b = a
    · subst hb
      rw [show ({ s1 with heap := G, toks := tk } : Shared).heap = G from rfl, ge] at z
      cases z
    · exact (gk b hb).symm.trans z
  · rw [upd_ne e3.symm]
    exact na0
end

section
variable {X : Cx} {CX : CXT} {k : Nat} {f C : Addr} {fd : FuncData} {ps : List Str} {sp : Sp} {E : St → XK} {m : Str} {p apos : Pos} {e o : Expr} {es : List Expr} {ta : TE} {t : TA}
/-- o.m(e, ..), which may raise, as the slots stand -/
def tMethE (C : Addr) (m : Str) (sp : Sp) (E : St → XK) (ta : TE) (t : TA) : TE := fun σ H Q => ta σ H fun x H1 =>
  ∃ a dx fs, x = .ref a ∧ H1 a = some (.ins C dx fs) ∧ fs.lookup m = none ∧ t σ H1 fun vs H2 => sp (x :: vs) H2 Q (E σ)
theorem pe_methE {pl : Sem Bool} (he : PE X o ta) (c : Cls X.K C) (hm : Meth X.K C m f) (F : FnOk X.prog X.w X.K X.mg X.base CX k f fd ps sp) (hr : Room k X.A) (hb : Binds X.K fd ps []) (hx : ∀ σ, PassesAt CX X σ (E σ)) (ha : PA X (e :: es) t)
    (hst : starEach (e :: es) X.env = (false, eval e X.env) :: starEach es X.env := by rfl) (hpl : (backTo pos (starEach es X.env)).any (·.1) = false := by rfl)
    (ht : eval (.Call (.Attribute o m apos) (e :: es) [] pos) X.env = (do
      let ov ← eval o X.env
      standAt apos.atName
      let (f, first) ← holding [ov] (getMethod ov m pl)
      callWith pos f first (backTo pos (starEach (e :: es) X.env)) (backToKw pos (keywordEach [] X.env))) := by rfl) :
    PE X (.Call (.Attribute o m apos) (e :: es) [] pos) (tMethE C m sp E ta t) := by
  refine ⟨fun pins s σ H Q I h => ?_⟩
  refine PySem.W.methodCall_KW (pl := pl) (thn (he.run pins s σ H _ I h) fun u s1 ⟨x, H1, I1, rx, a, dx, fs, ex, ea, l, q⟩ => ?_) ht
  subst ex
  obtain rfl : u = Value.ref a := rx
  refine getmeth_ok I1 ea c hm l ?_
  refine PySem.W.callWith_K (first := [.ref a]) (h₀ := X.base) I.ok.mod.kin hm.kp (thn (ha.run pos pins s1 σ H1 _ I1 q) fun us s2 ⟨vs, H2, I2, r, q2⟩ => ⟨I2.kIn, ?_⟩) hst hpl
  exact run_fnS (us := .ref a :: us) (vs := .ref a :: vs) F hr hb (hx σ) I2 (.cons rfl r) q2
end

/-! ### what a suite asks of the exception that it holds -/
def tXb (a : Addr) (cls : Value) (d : Option Addr) (C : Addr) (f : Str) (te : TE) : TE := fun σ H Q => te σ H fun x H1 => x = .ref a ∧ cls = .ref C ∧
  ∃ (dd : Addr) (fs : List (Str × V)) (v : V), d = some dd ∧ H1 dd = some (.xd fs) ∧ fs.lookup f = some v ∧ Q v H1
def rXb (K : PySem.W.Frag) (a : Addr) (cls : Value) (d : Option Addr) (C : Addr) : List V → Hp → VK → Prop := fun xs H Q =>
  ∃ (c : V) (u : Value) (b : Bool) (dd : Addr) (fs : List (Str × V)), xs = [.ref a, c] ∧ cls = .ref C ∧ d = some dd ∧ H dd = some (.xd fs) ∧ ClsV c u ∧ PySem.W.kitOne K (.ref C) u = some b ∧ Q (.bl b) H
section
variable {X : Cx} {a C : Addr} {oe : Obj} {cls : Value} {d : Option Addr} {pn : List (Addr × Obj)} {e : Expr} {te : TE} {pos : Pos} {n : Str}
theorem pe_xb (T : XG X.K C) (hno : PySem.W.findIn X.K (.ref C) n = some none)
    (hz : Zc cls d oe) (hf : ∃ vs, oe.data = .fields vs) (he : PE (X.suite a ((a, oe) :: pn)) e te) (hb : attributeBase e n X.env (eval e X.env) = eval e X.env := by rfl) :
    PE (X.suite a ((a, oe) :: pn)) (.Attribute e n pos) (tXb a cls d C n te) := by
  refine ⟨fun pins s σ H Q I h => ?_⟩
  refine attr_of hb (thn (he.run pins s σ H _ I h) fun u s1 hh => ?_)
  obtain ⟨x, H1, I1, rx, ex, ec, dd, fs, v, ed, ea, l, q⟩ := hh
  subst ex
  obtain rfl : u = Value.ref a := rx
  subst ec
  subst ed
  obtain ⟨ha, _⟩ := I1.pin (a, oe) (List.mem_append_left _ List.mem_cons_self)
  obtain ⟨vs, hd⟩ := hf
  have hx : ObjOk X.prog X.w H1 s1.heap dd (.xd fs) := I1.hok dd _ ea
  obtain ⟨mA, hns, hr⟩ := hx
  obtain ⟨od, ho, hl⟩ := lookIn_ns hns
  obtain ⟨u, hu, ru⟩ := RelO.some_of (v := v) (o := mA n) (by rw [← l]; exact hr n)
  have J : PySem.W.InstAt s1.heap a oe C (some od) := ⟨ha, hz.1, by unfold PySem.W.notCls; rw [hd] <;> rfl, by rw [hz.2]; exact ho⟩
  exact HandSPX.exc_get I1.kIn J T.ga T.gg T.ex (PySem.W.findObj_own T.hd hno rfl (by rw [hl, hu])) (handed_of ru) ⟨v, H1, I1.tok _, ru, q⟩
theorem call_xb (G : XG X.K C) (hz : Zc cls d oe) (hf : ∃ vs, oe.data = .fields vs) : CallR (X.suite a ((a, oe) :: pn)) (.builtin "isinstance") (rXb X.K a cls d C) := by
  intro pins s σ H xs us Q I r h
  obtain ⟨c, u, b, dd, fs, rfl, ec, ed, ea, k, ek, q⟩ := h
  obtain ⟨u1, u2, rfl, r1, r2⟩ := vals2 r
  have e2 := k.eq r2
  subst e2
  obtain rfl : u1 = Value.ref a := r1
  subst ec
  subst ed
  obtain ⟨ha, _⟩ := I.pin (a, oe) (List.mem_append_left _ List.mem_cons_self)
  obtain ⟨vs, hd⟩ := hf
  have hx : ObjOk X.prog X.w H s.heap dd (.xd fs) := I.hok dd _ ea
  obtain ⟨mA, hns, hr⟩ := hx
  obtain ⟨od, ho, hl⟩ := lookIn_ns hns
  have J : PySem.W.InstAt s.heap a oe C (some od) := ⟨ha, hz.1, by unfold PySem.W.notCls; rw [hd] <;> rfl, by rw [hz.2]; exact ho⟩
  exact PySem.W.kia_one (PySem.W.kitx_exc G.cl G.ga G.gg G.ex G.cc G.cn G.ct G.co) I.kIn J ek (fun z => nomatch z) fun tk => ⟨.bl b, H, I.tok tk, rfl, q⟩
end

/-! ### defs that raise nothing, called whatever is being handled -/
structure RoomW (k : Nat) (A : Around) : Prop where
  dp : A.depth + 3 * k + 5 < recursionLimit
  un : A.units + 16 * k + 200 < cLine
theorem RoomW.mono {j k : Nat} {A : Around} (r : RoomW k A) (h : j ≤ k) : RoomW j A := ⟨by have := r.dp; omega, by have := r.un; omega⟩
theorem RoomW.deeper {k : Nat} {A : Around} (r : RoomW (k + 1) A) (env : Env) : RoomW k (A.deeper env) :=
  ⟨by have := r.dp; show A.depth + 1 + 3 * k + 5 < _; omega, by have := r.un; show A.units + 3 + 16 * k + 200 < _; omega⟩
theorem RoomW.depth {k : Nat} {A : Around} (r : RoomW k A) : A.depth < recursionLimit := by have := r.dp; omega
theorem RoomW.mark {k : Nat} {A : Around} (r : Room k A) (v : Option Value) : RoomW k (A.mark v) := ⟨r.dp, r.un⟩
theorem roomW_of {k : Nat} {A : Around} (r : Room k A) : RoomW k A := ⟨r.dp, r.un⟩
structure FnW (P : Program) (w : World) (K : PySem.W.Frag) (mg : Str → Option Value) (base : Heap) (k : Nat) (f : Addr) (fd : FuncData) (ps : List Str) (sp : Sp) : Prop where
  len : ∀ vs H Q, sp vs H Q E0 → vs.length = ps.length
  run : ∀ (A : Around) (outer : List Env) (s : Shared) (H : Hp) (args : Args) (us : List Value) (vs : List V) (Q : VK), RoomW k A → Env0 P w K mg base A outer s H → BindsTo s fd args (ps.zip us) → Vals vs us → sp vs H Q E0 →
    codeAny (model P w) A (.call (.ref f) args) (CR CX0 outer P w H s Q E0) s
def cxW (P : Program) (w : World) (K : PySem.W.Frag) (mg : Str → Option Value) (base : Heap) (N : List Str) (qual : Str) (scope : Scope) (f : Addr) (cd : Value) (A : Around) (outer : List Env) (s : Shared) (H : Hp) : Cx :=
  { cxOf CX0 P w K mg base N qual scope f cd A outer s H E0 with calm := false }
theorem inv_startW {P : Program} {w : World} {K : PySem.W.Frag} {mg : Str → Option Value} {base : Heap} {N ps : List Str} {qual : Str} {scope : Scope} {f : Addr} {cd : Value} {A : Around} {outer : List Env} {s s1 : Shared} {H : Hp} {us : List Value} {vs : List V}
    (S : FnScope N ps scope) (e0 : Env0 P w K mg base A outer s H) (hl : vs.length = ps.length) (r : Vals vs us)
    (x : InCallC s s.heap.objs.size (bindL (envOfC qual scope s.heap.objs.size f cd).kindOf (ps.zip us) fun _ => none) (cellsFrom (s.heap.objs.size + 1) scope.names []) (bindC (envOfC qual scope s.heap.objs.size f cd).kindOf (ps.zip us) fun _ => none) s1) :
    Inv (cxW P w K mg base N qual scope f cd A outer s H) [] (L2.start N vs) H s1 := by
  have hpl : ps.length ≤ N.length := by have := congrArg List.length S.pre; rw [List.length_take] at this; omega
  obtain ⟨h1, tk, rfl, hk⟩ := x.done
  have noA : ∀ b : Addr, b ∉ (cxW P w K mg base N qual scope f cd A outer s H).ex := fun b z => absurd (show b ∈ ([] : List Addr) from z) (by simp)
  refine ⟨⟨e0.mod, S.kind, rfl, rfl, Nat.le_refl _, fun y z c h1 h2 => ?_, fun y hy => ?_, fun y c _ h => ?_, (fun z => Bool.noConfusion (show false = true from z)), Around.frames_deeper e0.frames, .inr ⟨rfl, rfl⟩, fun b z => absurd z (noA b), e0.bs, e0.bsz, fun b _ _ => noA b, fun b z => absurd z (noA b), e0.funs, e0.frf⟩,
    rfl, e0.bare, Un.kept hk, ⟨_, x.toInCall.ns, fun i y v h1 h2 h3 => ?_⟩, fun y c h => ⟨_, x.cell y c h⟩, e0.hok.fresh (Nat.le_refl _), fun y c h => ?_, fun q hq => ?_, e0.hok.kept hk, ?_⟩
  · exact name_of_addr x.apart (PySem.mem_of_lookup h1) (PySem.mem_of_lookup h2)
  · have hy : scope.names.lookup y = some .cell ∨ scope.names.lookup y = some .free := hy
    rcases hy with hy | hy
    · exact cell_has hy
    · exact absurd rfl (S.nofree _ (PySem.mem_of_lookup hy))
  · exact Nat.le_of_lt (x.above y c (PySem.mem_of_lookup h))
  · have hi : i < vs.length := by
      unfold L2.start at h2
      by_cases hi : i < vs.length
      · exact hi
      · rw [List.getElem?_append_right (by simpa using hi)] at h2
        rw [List.getElem?_replicate] at h2
        split at h2 <;> cases h2
    have ha : vs[i]? = some v := by
      unfold L2.start at h2
      rw [List.getElem?_append_left (by simpa using hi), List.getElem?_map] at h2
      cases e : vs[i]? with
      | none => rw [e] at h2; cases h2
      | some a => rw [e] at h2; cases h2; rfl
    obtain ⟨u, hu, rv⟩ := r.get ha
    have hp : ps[i]? = some y := by
      rw [← S.pre, List.getElem?_take_of_lt (by omega)]; exact h1
    have ndP : ps.Nodup := by rw [← S.pre]; exact S.nd.sublist (List.take_sublist _ _)
    refine ⟨u, rv, ?_⟩
    rcases S.par y (List.mem_of_getElem? hp) with k | k
    · exact .inl ⟨k, bindL_get ndP hp hu k⟩
    · obtain ⟨c, e⟩ := cell_has (n := s.heap.objs.size + 1) k
      refine .inr ⟨.inl k, c, e, ?_⟩
      have q := x.cell y c e
      rw [bindC_get ndP hp hu (by show scope.names.lookup y ≠ _; rw [k]; decide)] at q
      exact q
  · exact e0.hok.fresh (Nat.le_of_lt (x.above y c (PySem.mem_of_lookup h)))
  · cases hq
  · unfold L2.start
    show _ = N.length
    rw [List.length_append, List.length_map, List.length_replicate]
    omega
theorem fn_ofW {P : Program} {w : World} {K : PySem.W.Frag} {mg : Str → Option Value} {base : Heap} {k : Nat} {f : Addr} {name qual : Str} {params : Arguments} {body : List Stmt} {scope : Scope} {dV kV doc pm cdv ct oc : Value} {an od : Option Addr}
    {osl : Array (Option Value)} {N ps : List Str} {sp : Sp} (lk : K.lookup f = some ⟨oc, od, .func (PySem.W.fnOf name qual params body scope dV kV doc pm an cdv ct), osl⟩) (hcd : PySem.W.codeIn K cdv qual = true) (S : FnScope N ps scope)
    (len : ∀ vs H Q, sp vs H Q E0 → vs.length = ps.length)
    (hbody : ∀ (A : Around) (outer : List Env) (s : Shared) (H : Hp) (vs : List V) (Q : VK), RoomW k (A.deeper (envOfC qual scope s.heap.objs.size f cdv)) → sp vs H Q E0 →
      ∃ t, PSs (cxW P w K mg base N qual scope f cdv A outer s H) body t ∧ t { nx := fun _ H' => Q .non H', rt := Q } (L2.start N vs) H) :
    FnW P w K mg base (k + 1) f (PySem.W.fnOf name qual params body scope dV kV doc pm an cdv ct) ps sp := by
  refine ⟨len, fun A outer s H args us vs Q hr e0 hb r hsp => ?_⟩
  have hl := len _ _ _ hsp
  have KX : K.In s.heap := e0.mod.kin.keeps fun b o e => (e0.bs b o e).1
  have lim : s.heap.NoLimit := e0.mod.nolimit.keeps fun b o e => (e0.bs b o e).1
  have hkind : ∀ y ∈ ps.zip us, scope.names.lookup y.1 = some .local ∨ (scope.names.lookup y.1 = some .cell ∧ ((cellsFrom (s.heap.objs.size + 1) scope.names []).lookup y.1).isSome = true) := fun ⟨n, v⟩ hy => by
    rcases S.par n (List.of_mem_zip hy).1 with q | q
    · exact .inl q
    · exact .inr ⟨q, PySem.W.cellsFrom_some _ _ _ (.inl q)⟩
  refine codeAny_call_function hr.depth (KX _ _ lk) rfl S.co S.gen rfl (PySem.W.codeRec_of KX hcd) (hb _ _ _ _ ?_)
  refine wpAny_newFunctionEnv_cells S.kind hkind fun env he s1 x => ?_
  subst he
  refine ⟨lim.keeps x.toInCall.keep, codeAny_func ?_⟩
  obtain ⟨t, ht, hq⟩ := hbody A outer s H vs Q (hr.deeper _) hsp
  have I : Inv (cxW P w K mg base N qual scope f cdv A outer s H) [] (L2.start N vs) H s1 := inv_startW S e0 hl r x
  refine wpAny_mono (ht.run [] s1 (L2.start N vs) H _ I hq) (fun fl s' hs => ?_) fun e s' hs => hs
  have fin : ∀ {σ' : St} {H' : Hp} {v : V} {u : Value}, Inv (cxW P w K mg base N qual scope f cdv A outer s H) [] σ' H' s' → RelV v u → Q v H' → CE outer P w H s Q u s' :=
    fun {σ' H' v u} J rv q => ⟨v, H', J.os, J.bare, J.base, J.hok, rv, q⟩
  cases fl with
  | ret u =>
    obtain ⟨v, σ', H', J, rv, q⟩ := hs
    exact fin J rv q
  | next =>
    obtain ⟨σ', H', J, q⟩ := hs
    exact fin (v := V.non) (u := Value.none) J rfl q
  | brk =>
    obtain ⟨_, _, _, q⟩ := hs
    exact False.elim q
  | cont =>
    obtain ⟨_, _, _, q⟩ := hs
    exact False.elim q
/-- as Fun.ok -/
theorem Fun.okW {P : Program} {w : World} {K : PySem.W.Frag} {mg : Str → Option Value} {base : Heap} {x qual : Str} {st : Stmt} {f : Addr} {fd : FuncData} {N ps : List Str} {k : Nat} {sp : Sp} (F : Fun K x qual st f fd) (S : FnScope N ps (defScope st)) (len : ∀ vs H Q, sp vs H Q E0 → vs.length = ps.length)
    (hbody : ∀ (cdv : Value) (A : Around) (outer : List Env) (s : Shared) (H : Hp) (vs : List V) (Q : VK), RoomW k (A.deeper (envOfC qual (defScope st) s.heap.objs.size f cdv)) → sp vs H Q E0 →
      ∃ t, PSs (cxW P w K mg base N qual (defScope st) f cdv A outer s H) (defBody st) t ∧ t { nx := fun _ H' => Q .non H', rt := Q } (L2.start N vs) H) : FnW P w K mg base (k + 1) f fd ps sp := by
  obtain ⟨oc, od, kV, doc, pm, an, cdv, ct, osl, rfl, lk, hcd⟩ := F.ex
  exact fn_ofW lk hcd S len fun A outer s H vs Q hr hsp => hbody cdv A outer s H vs Q hr hsp
end L2
set_option maxHeartbeats 8000000
namespace K13
open PySem PySem.Spec PyProof.Rows L2 TL

/-! ### a class that a local name holds is called -/
def tMakeL (i : Nat) (C : Addr) (sp : Sp) (dvs : List V) (E : XK) (t : TA) : TE := fun σ H Q => σ[i]? = some (some (.ref C)) ∧ t σ H fun vs H1 => ∀ x dx, H1 x = none → H1 dx = none → dx ≠ x →
  sp (.ref x :: (vs ++ dvs)) (upd (upd H1 dx (.own x)) x (.ins C dx [])) (fun v H2 => v = .non ∧ Q (.ref x) H2) E
section
variable {X : Cx} {CX : CXT} {k i : Nat} {f C : Addr} {fd : FuncData} {ps : List Str} {sp : Sp} {dvs : List V} {ds : List Value} {E : XK} {x : Str} {p pos : Pos} {e : Expr} {es : List Expr} {t : TA}
theorem pe_makeL (M : Mk X.K C f) (F : FnOk X.prog X.w X.K X.mg X.base CX k f fd ps sp) (hr : Room (k + 1) X.A) (hN : X.N[i]? = some x) (hv : Vis X.env.scope x) (hb : Binds X.K fd ps ds) (hd : Vals dvs ds) (hx : Passes CX X E)
    (ha : PA X (e :: es) t) (hdb : (x == ("__debug__" : Str)) = false := by decide) (hcd : (x == ("__classdict__" : Str)) = false := by decide)
    (he : starEach (e :: es) X.env = (false, eval e X.env) :: starEach es X.env := by rfl) (hpl : (backTo pos (starEach es X.env)).any (·.1) = false := by rfl) :
    PE X (.Call (.Name x p) (e :: es) [] pos) (tMakeL i C sp dvs E t) := by
  refine ⟨fun pins s σ H Q I h => ?_⟩
  obtain ⟨hs, ht⟩ := h
  refine wpAny_Call_Name_kw (thn ((pe_var (pos := p) hN hv hdb hcd).run pins s σ H (fun v H1 => v = .ref C ∧ H1 = H) I ⟨.ref C, hs, rfl, rfl⟩) fun u s1 ⟨v, H1, I1, r1, q1⟩ => ?_)
  obtain ⟨rfl, rfl⟩ := q1
  cases r1
  refine PySem.W.callWith_K (h₀ := X.base) I.ok.mod.kin M.kp (thn (ha.run pos pins s1 σ _ _ I1 ht) fun us s2 ⟨vs, H2, I2, r, q⟩ => ⟨I2.kIn, ?_⟩) he hpl
  exact run_make M F hr hb hd hx I2 r q
end


/-! ### a classmethod that may raise -/
def tCMethE (C : Addr) (sp : Sp) (E : L2.St → XK) (ta : TE) (t : TA) : TE := fun σ H Q => ta σ H fun x H1 => x = .ref C ∧ t σ H1 fun vs H2 => sp (.ref C :: vs) H2 Q (E σ)
section
variable {X : Cx} {CX : CXT} {k : Nat} {C p g : Addr} {mc : Value} {sp : Sp} {E : L2.St → XK} {o e : Expr} {es : List Expr} {f m : Str} {pos apos : Pos} {ta : TE} {t : TA} {pl : Sem Bool}
theorem run_cmE {pins : List (Addr × Obj)} {σ : L2.St} {H : Hp} {s : Shared} {q : Addr} {Q : VK} {us : List Value} {vs : List V} (F : FnR X.prog X.w X.K X.mg X.base CX k g sp) (hr : Room k X.A) (hx : PassesAt CX X σ (E σ)) (I : Inv X ((q, PySem.W.methodObj (.ref g) (.ref C)) :: pins) σ H s)
    (r : Vals vs us) (h : sp (.ref C :: vs) H Q (E σ)) : wpAny (model X.prog X.w) X.A (call (.ref q) us) (EP X pins σ Q) X.xe s := by
  have z : wpAny (model X.prog X.w) X.A (call (.ref q) us) (EP X ((q, PySem.W.methodObj (.ref g) (.ref C)) :: pins) σ Q) X.xe s := by
    refine wpAny_call (PySem.W.method_call (ClX.pin_at I) ?_)
    refine codeAny_mono (F X.A X.stack s H (.ref C :: us) (.ref C :: vs) Q (E σ) hr I.env0 (.cons rfl r) h) fun r s' hq => ?_
    cases r with
    | error e => exact hx _ H s e s' I hq
    | ok fl =>
      cases fl with
      | ret u => exact I.after hq
      | next => exact False.elim hq
      | brk => exact False.elim hq
      | cont => exact False.elim hq
  exact thn z fun _ _ y => ClX.unpinE y
theorem pe_cmethE (he : PE X o ta) (r : ClX.CRead X.K C mc) (c : ClX.CMet X.K C mc m p g) (F : FnR X.prog X.w X.K X.mg X.base CX k g sp) (hr : Room k X.A) (hx : ∀ σ, PassesAt CX X σ (E σ)) (ha : PA X (e :: es) t)
    (hst : starEach (e :: es) X.env = (false, eval e X.env) :: starEach es X.env := by rfl) (hpl : (backTo pos (starEach es X.env)).any (·.1) = false := by rfl)
    (ht : eval (.Call (.Attribute o m apos) (e :: es) [] pos) X.env = (do
      let ov ← eval o X.env
      standAt apos.atName
      let (f, first) ← holding [ov] (getMethod ov m pl)
      callWith pos f first (backTo pos (starEach (e :: es) X.env)) (backToKw pos (keywordEach [] X.env))) := by rfl) :
    PE X (.Call (.Attribute o m apos) (e :: es) [] pos) (tCMethE C sp E ta t) := by
  refine ⟨fun pins s σ H Q I h => ?_⟩
  refine PySem.W.methodCall_KW (pl := pl) (thn (he.run pins s σ H _ I h) fun u s1 ⟨x, H1, I1, rx, ex, q⟩ => ?_) ht
  subst ex
  obtain rfl : u = Value.ref C := rx
  refine ClX.getmethcm_ok I1 r c fun s2 I2 => ?_
  refine ClX.callwith_cm I2 (ClX.base_none I1 (Nat.le_refl _)) c.fi (thn (ha.run pos _ s2 σ H1 _ I2 q) fun us s3 ⟨vs, H2, I3, rv, q2⟩ => ⟨⟨ClX.pin_at I3, I3.kIn⟩, ?_⟩) hst hpl
  exact run_cmE F hr (hx σ) I3 rv q2
end

/-! ### Size.read -/
theorem cz_g0 {es : Es} (hn : (es.map (·.1)).Nodup) (nz : ∀ q ∈ es, q.2 ≠ 0) (n : Str) : cz (g0 es n) = es.lookup n := by
  unfold g0
  by_cases h : n ∈ es.map (·.1)
  · obtain ⟨q, hq, rfl⟩ := List.mem_map.mp h
    rw [look_get hn (n := q.1) (v := q.2) hq]
    exact if_neg (nz q hq)
  · rw [g0_none h]
    rfl
abbrev sRead : Stmt := inClass sSize 2
def spRead (K : PySem.W.Frag) (C CT : Addr) : Sp := fun vs H Q E => ∃ v : V, vs = [.ref C, v] ∧
  ((∃ x : Str, v = .str x ∧ Sht x ∧ (∀ es, Val x es → ∀ H' r, Same H H' → SizeAt C H' r es → Q (.ref r) H') ∧
      ((∀ es, ¬ Val x es) → ∀ H' dd, Same H H' → H dd = none → H' dd = some (.xd [("line", .int 1)]) → E (.ref CT) (some dd) H')) ∨
    (∃ t, TyX K H v t ∧ PySem.W.kitOne K t (.type "str") = some false ∧ ∀ H' dd, Same H H' → H dd = none → H' dd = some (.xd [("line", .int 0)]) → E (.ref CT) (some dd) H'))
section
variable {P : Program} {w : World} {K : PySem.W.Frag} {mg : Str → Option Value} {base : Heap} {C CT : Addr}
theorem scRead : FnScope ["cls", "text", "exponents"] ["cls", "text"] (defScope sRead) :=
  ⟨rfl, rfl, rfl, by decide +kernel, rfl, by decide +kernel, by decide +kernel⟩
theorem ok_read {f fE fI : Addr} {fd fdE fdI : FuncData} (F : Fun K "read" "Size.read" sRead f fd) (T : Nk mg) (Tc : Ck K mg C)
    (GE : FnOk P w K mg base CX0 5 fE fdE ["text"] spRdE) (kE : PySem.W.keepIn K (.ref fE) = true) (bE : Binds K fdE ["text"] []) (gE : mg "read_exponents" = some (.ref fE))
    (MI : Mk K C fI) (GI : FnOk P w K mg base CX0 3 fI fdI ["self", "exponents"] (spInit C)) (bI : Binds K fdI ["self", "exponents"] [])
    (M : MkAll P w K mg CT ["line"]) (gT : mg "InvalidText" = some (.ref CT)) (R1 : PySem.W.subIn K (.ref CT) (.type "BaseException") = some true) (R2 : PySem.W.typeIn K (.ref CT) = some (.type "type")) :
    FnOk P w K mg base (L2.CX P w) 6 f fd ["cls", "text"] (spRead K C CT) := by
  refine F.okX scRead (fun vs H Q E h => ?_) (fun cdv A outer s H vs Q E hr h => ?_)
  · obtain ⟨v, rfl, _⟩ := h
    rfl
  · obtain ⟨v, rfl, h⟩ := h
    refine ⟨_, pss_cons (ps_if (pt_not (pt_val (pe_callB call_isi (by rfl) T.isi (by decide +kernel) (pa_cons (pv 1) (pa_cons (pe_bltn (v := .ty "str") (u := .type "str") (by rfl) T.str (by decide +kernel) rfl) pa_nil)))))
        (pss_one (ps_raise rfl (takes_of rfl rfl rfl rfl) (pmk_x M hr rfl gT (raises_own R1 R2) (pa_cons pe_int pa_nil)))) pss_nil)
      (pss_cons (ps_set (i := 2) scRead.nd rfl (.inl rfl) (pe_call GE hr rfl gE kE bE .nil pass0 (pa_cons (pv 1) pa_nil)))
      (pss_cons (ps_if (pt_cmpR op_isN (pv 2) pe_non (nomark _))
        (pss_one (ps_raise rfl (takes_of rfl rfl rfl rfl) (pmk_x M hr rfl gT (raises_own R1 R2) (pa_cons pe_int pa_nil)))) pss_nil)
      (pss_one (ps_ret (pe_makeL (i := 0) MI (GI.mono (k := 4) (by decide)) hr rfl (.inl rfl) bI .nil pass0 (pa_cons (pv 2) pa_nil)))))), ?_⟩
    rcases h with ⟨x, rfl, hS, k1, k2⟩ | ⟨t, ht, hk, k⟩
    · refine ⟨_, rfl, _, _, _, _, true, rfl, .ty _, .base (.str x), kit_ty (by decide +kernel), _, rfl, iteF ?_⟩
      refine ⟨_, rfl, x, rfl, hS, fun es hv H1 D S1 nD hD => ?_, fun hno H1 S1 => ?_⟩
      · have hR := hv.red hS
        have hl := hR.ln
        refine ⟨_, rfl, rfl, _, rfl, iteN' (fun z => nomatch z) ⟨rfl, _, rfl, rd_make hD hR.nd (by omega) hR.nm fun H2 r rs S2 hz nw lk => ?_⟩⟩
        obtain ⟨_, _, _, _, sd, _⟩ := id hz
        have e : rs = es := sd.one hv.sd fun n => by rw [lk, cz_g0 hv.sd.nodup hv.nz]
        subst e
        exact k1 rs hv H2 r (S1.trans S2) hz
      · refine ⟨_, rfl, rfl, _, rfl, iteT' (decide_eq_true rfl) ?_⟩
        refine ⟨rfl, fun dd hdd => ?_⟩
        refine k2 hno _ dd (S1.trans (fresh_upd hdd)) ?_ upd_same
        cases e : H dd with
        | none => rfl
        | some o =>
          have z := S1 _ _ e
          rw [hdd] at z
          cases z
    · refine ⟨_, rfl, _, _, _, _, false, rfl, .ty _, ht, hk, _, rfl, iteT' rfl ?_⟩
      exact ⟨rfl, fun dd hdd => k _ dd (fresh_upd hdd) hdd upd_same⟩
end
end K13
set_option maxHeartbeats 8000000
namespace K13
open PySem PySem.Spec PyProof.Rows L2 TL

/-! ### names that are drawn -/
def one (c : Nat) : Str := ⟨#[c]⟩
/-- _law_choice(rng, text) -/
def spChoiceS : Sp := fun vs H Q _ => ∃ (r : Addr) (x : Str), vs = [.ref r, .str x] ∧ Rg H r ∧ 0 < x.length ∧ x.length < 1000000 ∧
  ∀ (H' : Hp) (c : Nat), c ∈ tl x → Rg H' r → But r H H' → Q (.str (one c)) H'
theorem But.refl (r : Addr) (H : Hp) : But r H H := fun _ _ _ e => e
theorem But.of {r : Addr} {H H' : Hp} (S : Same H H') : But r H H' := fun b o _ e => S b o e
theorem Rg.same {H H' : Hp} {r : Addr} (h : Rg H r) (S : Same H H') : Rg H' r := by
  obtain ⟨x, y, h1, h2⟩ := h
  exact ⟨x, y, S _ _ h1, h2⟩
theorem Rg.ne {H : Hp} {r p : Addr} (h : Rg H r) (n : H p = none) : r ≠ p := by
  obtain ⟨x, y, h1, h2⟩ := h
  exact ne_of_none h1 n
theorem Rg.upd {H : Hp} {r p : Addr} {o : HO} (h : Rg H r) (n : p ≠ r) : Rg (upd H p o) r := by
  obtain ⟨x, y, h1, h2⟩ := h
  exact ⟨x, y, (upd_ne n.symm).trans h1, h2⟩
theorem But.upd {H H' : Hp} {r p : Addr} {o : HO} (h : But r H H') (n : H p = none) : But r H (upd H' p o) := fun b u hb e => by
  rw [upd_ne (ne_of_none e n)]
  exact h b u hb e
theorem sum_ones : ∀ {ys : List Str}, (∀ y ∈ ys, y.length ≤ 1) → (ys.map (·.length)).sum ≤ ys.length
  | [], _ => Nat.le_refl _
  | y :: r, h => by
    have ih := sum_ones (ys := r) fun z hz => h z (List.mem_cons_of_mem _ hz)
    have h1 := h y (List.mem_cons_self ..)
    show y.length + (r.map (·.length)).sum ≤ r.length + 1
    omega
theorem eq_str (a b : Str) : eqV (.str a) (.str b) = (a == b) := rfl
theorem inV_str {x : Str} : ∀ {ns : List Str}, inV (.str x) (ns.map V.str) = decide (x ∈ ns)
  | [] => by simp [inV]
  | n :: r => by
    have ih := inV_str (x := x) (ns := r)
    show (eqV (.str n) (.str x) || inV (.str x) (r.map V.str)) = _
    rw [ih, eq_str]
    by_cases h : n = x
    · subst h
      simp
    · have h1 : (n == x) = false := by simpa using h
      have h2 : ¬ x = n := fun z => h z.symm
      rw [h1]
      simp [h2]
theorem flat_strs : ∀ ns : List Str, (ns.map V.str).all flatV = true
  | [] => rfl
  | n :: r => by
    rw [List.map_cons, List.all_cons, flat_strs r]
    rfl
/-- a drawn text -/
def Ltr (x : Str) : Prop := 1 ≤ x.length ∧ x.length ≤ 8 ∧ ∀ c ∈ tl x, c ∈ tl abc
def rest1 (x : Str) : Str := cutS x (some 1) none
def spare (x : Str) : List Str := x :: (tl abc).map fun c => one c ++ rest1 x
theorem nm_of {x : Str} (h1 : 1 ≤ x.length) (h2 : x.length ≤ 8) (h3 : ∀ c ∈ tl x, c ∈ tl abc) : isNm x = true := by
  unfold isNm
  rw [decide_eq_true h1, decide_eq_true h2, Bool.true_and, Bool.true_and, List.all_eq_true]
  intro c hc
  exact decide_eq_true (h3 c hc)
theorem tl_one (c : Nat) : tl (one c) = [c] := rfl
theorem tl_rest (x : Str) : tl (rest1 x) = (tl x).drop 1 := tl_cut1 x
theorem spare_nm {x : Str} (h : Ltr x) : ∀ y ∈ spare x, isNm y = true := fun y hy => by
  obtain ⟨h1, h2, h3⟩ := h
  rcases List.mem_cons.mp hy with rfl | hy
  · exact nm_of h1 (by omega) h3
  · obtain ⟨c, hc, rfl⟩ := List.mem_map.mp hy
    have e : (one c ++ rest1 x).length = x.length := by
      rw [len_tl, tl_append, List.length_append, tl_rest, List.length_drop, ← len_tl, ← len_tl]
      show 1 + (x.length - 1) = _
      omega
    refine nm_of (by omega) (by omega) fun d hd => ?_
    rw [tl_append, tl_rest] at hd
    rcases List.mem_append.mp hd with hd | hd
    · rw [tl_one] at hd
      rw [List.mem_singleton.mp hd]
      exact hc
    · exact h3 d (List.mem_of_mem_drop hd)
theorem spare_nd (x : Str) : ((tl abc).map fun c => one c ++ rest1 x).Nodup := by
  have hn : (tl abc).Nodup := by decide +kernel
  refine List.Pairwise.map _ (fun a b h e => h ?_) hn
  have e2 := congrArg tl e
  rw [tl_append, tl_append, tl_one, tl_one] at e2
  exact (List.cons.inj e2).1
theorem spare_len (x : Str) : (spare x).length = 27 := by
  unfold spare
  rw [List.length_cons, List.length_map]
  have : (tl abc).length = 26 := by decide +kernel
  omega
theorem spare_free {x : Str} {ns : List Str} (h : ns.length < 26) : (spare x).filter (fun y => decide (y ∉ ns)) ≠ [] := fun e => by
  have z := sub_len ((tl abc).map fun c => one c ++ rest1 x) ns (spare_nd x) fun y hy => by
    by_cases q : y ∈ ns
    · exact q
    · have : y ∈ (spare x).filter (fun y => decide (y ∉ ns)) := List.mem_filter.mpr ⟨List.mem_cons_of_mem _ hy, decide_eq_true q⟩
      rw [e] at this
      cases this
  rw [List.length_map] at z
  have : (tl abc).length = 26 := by decide +kernel
  omega
theorem joinL_nil : ∀ ps : List (List Nat), joinL [] ps = ps.flatten
  | [] => rfl
  | [p] => by
    show p = (p :: []).flatten
    simp
  | p :: q :: r => by
    have ih := joinL_nil (q :: r)
    show p ++ ([] ++ joinL [] (q :: r)) = p ++ (q :: r).flatten
    rw [ih]
    rfl
theorem ltr_of {ys : List Str} (h1 : 1 ≤ ys.length) (h2 : ys.length ≤ 8) (h : ∀ y ∈ ys, ∃ c ∈ tl abc, y = one c) : Ltr (Txt.join "" ys) := by
  have e : tl (Txt.join "" ys) = (ys.map tl).flatten := by
    rw [join_eq, tl_join]
    exact joinL_nil _
  have hl : ∀ zs : List Str, (∀ y ∈ zs, ∃ c ∈ tl abc, y = one c) → (zs.map tl).flatten.length = zs.length ∧ ∀ c ∈ (zs.map tl).flatten, c ∈ tl abc := fun zs => by
    induction zs with
    | nil => intro _; exact ⟨rfl, fun c hc => by cases hc⟩
    | cons z r ih =>
      intro hz
      obtain ⟨i1, i2⟩ := ih fun y hy => hz y (List.mem_cons_of_mem _ hy)
      obtain ⟨c, hc, rfl⟩ := hz z (List.mem_cons_self ..)
      rw [List.map_cons, List.flatten_cons, tl_one]
      refine ⟨by rw [List.length_append, i1, List.length_cons, List.length_cons, List.length_nil]; omega, fun d hd => ?_⟩
      rcases List.mem_append.mp hd with hd | hd
      · rw [List.mem_singleton.mp hd]
        exact hc
      · exact i2 d hd
  obtain ⟨i1, i2⟩ := hl ys h
  have e2 : (Txt.join "" ys).length = ys.length := by rw [len_tl, e, i1]
  exact ⟨by omega, by omega, fun c hc => i2 c (by rw [← e]; exact hc)⟩


abbrev sNm : Stmt := top 33
def spNm : Sp := fun vs H Q _ => ∃ (r : Addr) (m : Int), vs = [.ref r, .int m] ∧ Rg H r ∧ 0 ≤ m ∧ m ≤ 10 ∧
  ∀ (H' : Hp) (l : Addr) (ns : List Str), But r H H' → Rg H' r → H l = none → H' l = some (.lst (ns.map V.str)) → Pool ns → ns.length = m.toNat → Q (.ref l) H'
def NNm : List Str := ["_law_rng_here", "_law_many", "_law_found", "_law_k", "_law_wide", "_law_name", "_law_spare", "_law_turn", "_law_one"]
def wides : List V := [V.int 1, V.int 1, V.int 1, V.int 2, V.int 3, V.int 8]
theorem wides_ok : ∀ v ∈ wides, ∃ i : Int, v = .int i ∧ 1 ≤ i ∧ i ≤ 8 := by
  intro v hv
  unfold wides at hv
  simp only [List.mem_cons, List.not_mem_nil, or_false] at hv
  rcases hv with rfl | rfl | rfl | rfl | rfl | rfl
  all_goals exact ⟨_, rfl, by decide, by decide⟩
section
variable {P : Program} {w : World} {K : PySem.W.Frag} {mg : Str → Option Value} {base : Heap}
theorem ok_choiceS {f fD : Addr} {fd fdD : FuncData} (F : Fun K "_law_choice" "_law_choice" sChoice f fd) (T : Nb mg)
    (FD : Fun K "_law_draw" "_law_draw" sDraw fD fdD) (bD : Binds K fdD ["_law_rng_here", "_law_many"] [])
    (gD : mg "_law_draw" = some (.ref fD)) :
    FnOk P w K mg base CX0 2 f fd ["_law_rng_here", "_law_some"] spChoiceS := by
  have GD : FnOk P w K mg base CX0 1 fD fdD ["_law_rng_here", "_law_many"] spDraw := ok_draw FD T
  refine F.ok scChoice (fun vs H Q E h => ?_) (fun cdv A outer s H vs Q E hr h => ?_)
  · obtain ⟨r, x, rfl, _⟩ := h
    rfl
  · obtain ⟨r, x, rfl, hR, h0, h1, q⟩ := h
    refine ⟨_, pss_one (ps_ret (pe_ix ix_str (pv 1) (pe_call GD hr rfl gD FD.kp bD .nil pass0
      (pa_cons (pv 0) (pa_cons (pe_callB call_len_str (by rfl) T.len PySem.boot_len (pa_cons (pv 1) pa_nil)) pa_nil)))
      (fun _ _ => rfl))), ?_⟩
    refine ⟨_, rfl, _, rfl, _, rfl, x, rfl, by rw [sizeLine_eq]; omega, ?_⟩
    refine ⟨r, _, rfl, hR, by omega, by omega, fun H' d d0 d1 hR' hB => ?_⟩
    obtain ⟨j, rfl⟩ : ∃ j : Nat, d = (j : Int) := ⟨d.toNat, by omega⟩
    have hj : j < x.cps.toList.length := by
      have e : x.length = x.cps.toList.length := len_tl x
      omega
    exact ⟨x, _, x.cps.toList[j], rfl, rfl, by rw [sizeLine_eq]; omega, atI_nat (List.getElem?_eq_getElem hj), q H' _ (List.getElem_mem hj) hR' hB⟩
theorem scNm : FnScope NNm ["_law_rng_here", "_law_many"] (defScope sNm) :=
  ⟨rfl, rfl, rfl, by decide +kernel, rfl, by decide +kernel, by decide +kernel⟩
theorem ok_nm {f fD fC : Addr} {fd fdD fdC : FuncData} (F : Fun K "_law_names" "_law_names" sNm f fd) (T : Nb mg)
    (FD : Fun K "_law_draw" "_law_draw" sDraw fD fdD) (bD : Binds K fdD ["_law_rng_here", "_law_many"] []) (gD : mg "_law_draw" = some (.ref fD))
    (FC : Fun K "_law_choice" "_law_choice" sChoice fC fdC) (bC : Binds K fdC ["_law_rng_here", "_law_some"] []) (gC : mg "_law_choice" = some (.ref fC)) :
    FnOk P w K mg base CX0 3 f fd ["_law_rng_here", "_law_many"] spNm := by
  have GC : FnOk P w K mg base CX0 2 fC fdC ["_law_rng_here", "_law_some"] spChoiceS := ok_choiceS FC T FD bD gD
  have GI : FnOk P w K mg base CX0 2 fC fdC ["_law_rng_here", "_law_some"] spChoice := ok_choice FC T FD bD gD
  refine F.ok scNm (fun vs H Q E h => ?_) (fun cdv A outer s H vs Q E hr h => ?_)
  · obtain ⟨r, m, rfl, _⟩ := h
    rfl
  · obtain ⟨r, m, rfl, hR, hm, hm2, q⟩ := h
    refine ⟨_, pss_cons (ps_set (i := 2) scNm.nd rfl (.inr rfl) (pe_lst pa_nil))
      (pss_cons (ps_for PassesOwn.never rfl (pi_range1 (by rfl) T.range (pa_cons (pv 1) pa_nil)) (pg_name (i := 3) scNm.nd rfl (Or.inl rfl))
        (pss_cons (ps_set (i := 4) scNm.nd rfl (.inl rfl) (pe_call GI hr rfl gC FC.kp bC .nil pass0 (pa_cons (pv 0) (pa_cons (pe_lst (pa_cons pe_int (pa_cons pe_int (pa_cons pe_int (pa_cons pe_int (pa_cons pe_int (pa_cons pe_int pa_nil))))))) pa_nil))))
        (pss_cons (ps_set (i := 5) scNm.nd rfl (.inr rfl) (pe_join pe_str (pe_lc (own := [("_law_turn", 7)]) (g := gName 7) (tt := tYes) (te := tCall spChoiceS [] E0 (tCons (tVar 0) (tCons (tC (.str abc)) tNil))) rfl scNm.nd
          (pi_range1 (by rfl) T.range (pa_cons (pv 4) pa_nil))
          (blkOk_by (own := [("_law_turn", 7)]) (N := NNm) (sc := defScope sNm) (by decide +kernel)) (fun _ _ _ _ _ => pg_name (i := 7) scNm.nd rfl (Or.inl rfl))
          (fun _ _ _ _ _ => pts_nil) (fun _ _ _ _ _ => by exact pe_call GC hr rfl gC FC.kp bC .nil pass0 (pa_cons (pv 0) (pa_cons pe_str pa_nil))))))
        (pss_cons (ps_set (i := 6) scNm.nd rfl (.inl rfl) (pe_op op_cat (pe_lst (pa_cons (pv 5) pa_nil)) (pe_lc (own := [("_law_one", 8)]) (g := gName 8) (tt := tYes)
          (te := tOp (fun x y H Q => ∃ i j, x = .str i ∧ y = .str j ∧ i.length + j.length ≤ sizeLine ∧ Q (.str (i ++ j)) H) (tVar 8) (tSl rSlS (tVar 5) (tPart (tC (.int 1))) tNoPart)) rfl scNm.nd (pi_str pe_str)
          (blkOk_by (own := [("_law_one", 8)]) (N := NNm) (sc := defScope sNm) (by decide +kernel)) (fun _ _ _ _ _ => pg_name (i := 8) scNm.nd rfl (Or.inl rfl))
          (fun _ _ _ _ _ => pts_nil) (fun _ _ _ _ _ => by exact pe_op op_add_str (pv 8) (pe_slice sl_str (pv 5) (po_some pe_int) po_none)))))
        (pss_one (ps_expr (pe_bm PySem.F.plainAttrs_list PySem.F.slot_list_append PySem.F.type_list_append mt_append (pv 2) (pa_cons
          (pe_ix ix_list (pe_lc (own := [("_law_one", 8)]) (g := gName 8) (tt := tTest (tOp (rIn K true) (tVar 8) (tVar 2))) (te := tVar 8) rfl scNm.nd (pi_list (pv 6))
            (blkOk_by (own := [("_law_one", 8)]) (N := NNm) (sc := defScope sNm) (by decide +kernel)) (fun _ _ _ _ _ => pg_name (i := 8) scNm.nd rfl (Or.inl rfl))
            (fun _ _ _ _ _ => pts_one (by exact pt_cmpR op_notIn_seq (pv 8) (pv 2) rfl)) (fun _ _ _ _ _ => by exact pv 8))
            pe_int (fun _ _ => rfl)) pa_nil))))))))
      (pss_one (ps_ret (pv 2)))), ?_⟩
    refine ⟨Nat.zero_le _, fun l nl => ?_⟩
    have S0 := fresh_upd (o := .lst []) nl
    have rl := hR.ne nl
    refine ⟨_, rfl, m, rfl, by omega, by omega, ?_⟩
    refine for_it (walk_range (lo := 0) (n := m.toNat)) (fun i σ H2 => (∃ o3 o4 o5 o6, σ = [some (.ref r), some (.int m), some (.ref l), o3, o4, o5, o6, none, none]) ∧ Rg H2 r ∧ But r H H2 ∧
      ∃ ns : List Str, H2 l = some (.lst (ns.map V.str)) ∧ ns.Nodup ∧ ns.length = i ∧ ∀ n ∈ ns, isNm n = true)
      ⟨⟨none, none, none, none, rfl⟩, hR.same S0, But.of S0, [], upd_same, List.Pairwise.nil, rfl, fun n hn => by cases hn⟩ (fun _ _ _ _ _ => trivial) ?_ ?_
    · rintro i x σ H9 H2 hi ⟨⟨o3, o4, o5, o6, rfl⟩, hR2, B2, ns, hl2, nd, hln, hnm⟩ ⟨rfl, rfl⟩
      refine ⟨_, rfl, by rw [sizeLine_eq]; show 6 ≤ 16777216; decide, fun t nt => ?_⟩
      have St := fresh_upd (o := .lst wides) nt
      have rt := hR2.ne nt
      refine ⟨r, t, wides, rfl, hR2.same St, rt.symm, upd_same, by decide, by decide, fun H3 v hv hR3 Bt => ?_⟩
      obtain ⟨d, rfl, d0, d1⟩ := wides_ok v hv
      have B3 : But r H2 H3 := (But.of St).trans Bt
      refine ⟨⟨_, rfl⟩, _, rfl, d, rfl, by omega, by omega, fun D hD => ?_⟩
      have Dr : D ≠ r := (hR3.ne hD).symm
      refine lc_range (lo := 0) (n := d.toNat) (fun j H4 => Rg H4 r ∧ But r H3 H4 ∧ ∃ ys : List Str, H4 D = some (.lst (ys.map V.str)) ∧ ys.length = j ∧ ∀ y ∈ ys, ∃ c ∈ TL.tl abc, y = one c)
        ⟨hR3.upd Dr, But.of (fresh_upd hD), [], upd_same, rfl, fun y hy => by cases hy⟩ ?_ ?_
      · rintro j H4 hj ⟨hR4, B4, ys, hD4, hy, hys⟩
        refine ⟨rfl, ?_⟩
        unfold tYes
        dsimp only
        rw [if_pos rfl]
        refine ⟨_, rfl, r, abc, rfl, hR4, by decide +kernel, by decide +kernel, fun H5 c hc hR5 B5 => ?_⟩
        refine ⟨_, B5 _ _ Dr hD4, by rw [List.length_map, sizeLine_eq]; omega, hR5.upd Dr, (B4.trans B5).upd hD, ys ++ [one c], ?_, by rw [List.length_append, hy]; rfl, fun y hy' => ?_⟩
        · rw [upd_same, List.map_append]
          rfl
        · rcases List.mem_append.mp hy' with z | z
          · exact hys y z
          · exact ⟨c, hc, List.mem_singleton.mp z⟩
      · rintro H4 ⟨hR4, B4, ys, hD4, hy, hys⟩
        have hx : Ltr (Txt.join "" ys) := ltr_of (by omega) (by omega) hys
        refine ⟨_, D, ys, rfl, rfl, .inl (SqL.of hD4), ?_, ?_⟩
        · have z := sum_ones (ys := ys) fun y hy => by
            obtain ⟨c, _, rfl⟩ := hys y hy
            exact Nat.le_refl _
          have e : ("" : Str).length = 0 := rfl
          rw [e]
          omega
        generalize Txt.join (Str.ofString "") ys = x at hx
        refine ⟨_, rfl, by rw [sizeLine_eq]; show 1 ≤ 16777216; decide, fun p1 np1 => ?_⟩
        have S1 := fresh_upd (o := .lst [.str x]) np1
        have hxl := hx.2.1
        refine ⟨_, rfl, fun D2 hD2 => ?_⟩
        refine lc_it walk_str (fun j H5 => H5 D2 = some (.lst ((((TL.tl abc).take j).map fun c => one c ++ rest1 x).map V.str)) ∧ Same (L2.upd H4 p1 (.lst [.str x])) H5)
          ⟨upd_same, fresh_upd hD2⟩ (fun _ _ _ _ => trivial) ?_ ?_
        · rintro j v H5 H6 hj ⟨hD5, S5⟩ ⟨rfl, c, hc, rfl⟩
          refine ⟨rfl, ?_⟩
          unfold tYes
          dsimp only
          rw [if_pos rfl]
          have l26 : (TL.tl abc).length = 26 := by decide +kernel
          refine ⟨_, rfl, _, rfl, 1, rfl, x, rfl, by rw [sizeLine_eq]; omega, _, _, rfl, rfl, ?_, _, hD5, ?_, ?_, fun b o e => ?_⟩
          · have e : (⟨#[c]⟩ : Str).length = 1 := rfl
            have z := cutS_length x (some 1) none
            rw [e, sizeLine_eq]
            omega
          · rw [List.length_map, List.length_map, List.length_take, sizeLine_eq]
            omega
          · have hc2 : (TL.tl abc)[j]? = some c := by
              show abc.cps.toList[j]? = some c
              rw [Array.getElem?_toList]
              exact hc
            rw [upd_same, List.take_add_one, hc2]
            simp
            rfl
          · rw [upd_ne (ne_of_none e hD2)]
            exact S5 b o e
        · rintro H5 ⟨hD5, S5⟩
          have S45 : Same H4 H5 := S1.trans S5
          have e1 : (TL.tl abc).take abc.cps.size = TL.tl abc := by
            rw [show abc.cps.size = (TL.tl abc).length from (Array.length_toList ..).symm, List.take_length]
          have hD5' : H5 D2 = some (.lst (((TL.tl abc).map fun c => one c ++ rest1 x).map V.str)) := by
            rw [← e1]
            exact hD5
          refine ⟨p1, D2, [.str x], ((TL.tl abc).map fun c => one c ++ rest1 x).map V.str, rfl, rfl, S5 _ _ upd_same, hD5', ?_, fun p3 np3 => ?_⟩
          · rw [List.length_map, List.length_map, sizeLine_eq]
            have l26 : (TL.tl abc).length = 26 := by decide +kernel
            show 1 + _ ≤ _
            omega
          have S6 := fresh_upd (o := .lst ((spare x).map V.str)) np3
          have S46 := S45.trans S6
          have nDl : D ≠ l := fun z => by
            rw [z, B3 _ _ rl.symm hl2] at hD
            cases hD
          have hl6 : L2.upd H5 p3 (.lst ((spare x).map V.str)) l = some (.lst (ns.map V.str)) := S46 _ _ (B4 _ _ rl.symm (B3 _ _ rl.symm hl2))
          refine ⟨_, rfl, .inl ⟨rfl, _, SqL.of hl6⟩, _, rfl, p3, rfl, ⟨_, SqL.of upd_same⟩, fun D3 hD3 => ?_⟩
          have S7' := fresh_upd (o := .lst []) hD3
          refine lc_it (walk_list (K := K) (a := p3) (xs := (spare x).map V.str)) (fun j H7 => H7 D3 = some (.lst ((((spare x).take j).filter fun y => decide (y ∉ ns)).map V.str)) ∧ Same (L2.upd H5 p3 (.lst ((spare x).map V.str))) H7)
            ⟨upd_same, S7'⟩ (fun i H7 _ h => SqL.of (h.2 _ _ upd_same)) ?_ ?_
          · rintro j v H7 H8 hj ⟨hD7, S7⟩ ⟨rfl, hv⟩
            rw [List.length_map, spare_len] at hj
            have hj' : j < (spare x).length := by rw [spare_len]; exact hj
            have ex : v = .str (spare x)[j] := by
              rw [List.getElem?_map, List.getElem?_eq_getElem hj'] at hv
              exact (Option.some.inj hv).symm
            subst ex
            have et : (spare x).take (j + 1) = (spare x).take j ++ [(spare x)[j]] := by
              rw [List.take_add_one, List.getElem?_eq_getElem hj']
              rfl
            refine ⟨rfl, ?_⟩
            refine ⟨_, rfl, _, rfl, l, _, rfl, .inl (SqL.of (S7 _ _ hl6)), rfl, flat_strs ns, _, rfl, ?_⟩
            rw [if_pos rfl, inV_str]
            by_cases hin : (spare x)[j] ∈ ns
            · rw [decide_eq_true hin]
              refine iteF ⟨?_, S7⟩
              rw [et, List.filter_append]
              simpa [hin] using hD7
            · rw [decide_eq_false hin]
              refine iteT' rfl ?_
              refine ⟨_, rfl, _, hD7, ?_, ?_, fun b o e => ?_⟩
              · rw [List.length_map, sizeLine_eq]
                have h1 := List.length_filter_le (fun y => decide (y ∉ ns)) ((spare x).take j)
                have h2 : ((spare x).take j).length ≤ j := by rw [List.length_take]; exact Nat.min_le_left ..
                omega
              · rw [upd_same, et, List.filter_append, List.map_append]
                simp [hin]
              · rw [upd_ne (ne_of_none e hD3)]
                exact S7 b o e
          · rintro H7 ⟨hD7, S7⟩
            rw [List.length_map, List.take_length] at hD7
            have hne := spare_free (x := x) (ns := ns) (by omega)
            obtain ⟨y, rest, ey⟩ : ∃ y rest, (spare x).filter (fun y => decide (y ∉ ns)) = y :: rest := by
              cases q : (spare x).filter (fun y => decide (y ∉ ns)) with
              | nil => exact absurd q hne
              | cons y rest => exact ⟨y, rest, rfl⟩
            have hyin : y ∈ (spare x).filter (fun y => decide (y ∉ ns)) := by
              rw [ey]
              exact List.mem_cons_self ..
            obtain ⟨hy1, hy2⟩ := List.mem_filter.mp hyin
            have hy3 : y ∉ ns := of_decide_eq_true hy2
            rw [ey] at hD7
            refine ⟨D3, _, 0, .str y, rfl, rfl, SqL.of hD7, (show atI (List.map V.str (y :: rest)) ((0 : Nat) : Int) = some (V.str y) from atI_nat rfl), l, _, _, rfl, rfl, S7 _ _ hl6, by rw [List.length_map, sizeLine_eq]; omega, ⟨_, _, _, _, rfl⟩, ?_, ?_, ns ++ [y], ?_, ?_, ?_, ?_⟩
            · exact ((hR4.same S46).same S7).upd rl.symm
            · refine But.upd (fun b o hb e => ?_) nl
              exact S7 _ _ (S46 _ _ (B4 _ _ hb (B3 _ _ hb (B2 _ _ hb e))))
            · rw [upd_same, List.map_append]
              rfl
            · rw [List.nodup_append]
              refine ⟨nd, List.pairwise_singleton .., fun a ha b hb e => ?_⟩
              rw [List.mem_singleton.mp hb] at e
              exact hy3 (by rw [← e]; exact ha)
            · rw [List.length_append, hln]
              rfl
            · intro n hn
              rcases List.mem_append.mp hn with z | z
              · exact hnm n z
              · rw [List.mem_singleton.mp z]
                exact spare_nm hx y hy1
    · rintro σ H2 ⟨⟨o3, o4, o5, o6, rfl⟩, hR2, B2, ns, hl2, nd, hln, hnm⟩
      exact ⟨_, rfl, q _ l ns B2 hR2 nl hl2 ⟨nd, hnm, by omega⟩ hln⟩
end
end K13
set_option maxHeartbeats 8000000
namespace K13
open PySem PySem.Spec PyProof.Rows L2 TL

/-! ### _law_drawn -/
/-- a drawn model -/
structure Mod (es : Es) : Prop where
  sd : SdE es
  nm : ∀ q ∈ es, isNm q.1 = true
  nz : ∀ q ∈ es, q.2 ≠ 0
  bg : ∀ q ∈ es, q.2.natAbs < 10 ^ 30
  ln : es.length ≤ 6
abbrev sDrawn : Stmt := top 34
def spDrawn : Sp := fun vs H Q _ => ∃ r : Addr, vs = [.ref r] ∧ Rg H r ∧
  ∀ (H' : Hp) (D : Addr) (es : Es), But r H H' → Rg H' r → H D = none → H' D = some (.dK (kv es)) → Mod es → Q (.ref D) H'
def NDr : List Str := ["_law_rng_here", "_law_found", "_law_name"]
def pows : List V := [V.int 1, V.int 1, V.int 2, V.int (-1), V.int 3, V.int 10, V.int (-12), V.int (10 ^ 29 + 7), V.int (-10 ^ 30 + 1)]
theorem pows_ok : ∀ v ∈ pows, ∃ i : Int, v = .int i ∧ i ≠ 0 ∧ i.natAbs < 10 ^ 30 := by
  intro v hv
  unfold pows at hv
  simp only [List.mem_cons, List.not_mem_nil, or_false] at hv
  rcases hv with rfl | rfl | rfl | rfl | rfl | rfl | rfl | rfl | rfl
  all_goals exact ⟨_, rfl, by decide, by decide⟩
theorem SizeAt.but {C r p : Addr} {es : Es} {H H' : Hp} (h : SizeAt C H p es) (hR : Rg H r) (B : But r H H') : SizeAt C H' p es := by
  obtain ⟨dx, D, h1, h2, h3⟩ := h
  obtain ⟨x, y, e, _⟩ := hR
  refine ⟨dx, D, B _ _ (fun z => ?_) h1, B _ _ (fun z => ?_) h2, h3⟩
  · rw [z, e] at h1
    cases h1
  · rw [z, e] at h2
    cases h2
theorem rg_ne {H : Hp} {r d : Addr} {kvs : List (Key × V)} (hR : Rg H r) (e : H d = some (.dK kvs)) : d ≠ r := fun z => by
  obtain ⟨x, y, e2, _⟩ := hR
  rw [z, e2] at e
  cases e
theorem none_of {H H' : Hp} {r a : Addr} (hR : Rg H r) (B : But r H H') (hR' : Rg H' r) (n : H' a = none) : H a = none := by
  cases e : H a with
  | none => rfl
  | some o =>
    by_cases h : a = r
    · obtain ⟨x, y, e2, _⟩ := hR'
      rw [h, e2] at n
      cases n
    · have z := B _ _ h e
      rw [n] at z
      cases z
section
variable {P : Program} {w : World} {K : PySem.W.Frag} {mg : Str → Option Value} {base : Heap}
theorem scDrawn : FnScope NDr ["_law_rng_here"] (defScope sDrawn) :=
  ⟨rfl, rfl, rfl, by decide +kernel, rfl, by decide +kernel, by decide +kernel⟩
theorem ok_drawn {f fC fN fD : Addr} {fd fdC fdN fdD : FuncData} (F : Fun K "_law_drawn" "_law_drawn" sDrawn f fd) (T : Na mg)
    (GC : FnOk P w K mg base CX0 2 fC fdC ["_law_rng_here", "_law_some"] spChoice) (kC : PySem.W.keepIn K (.ref fC) = true) (bC : Binds K fdC ["_law_rng_here", "_law_some"] []) (gC : mg "_law_choice" = some (.ref fC))
    (GD : FnOk P w K mg base CX0 1 fD fdD ["_law_rng_here", "_law_many"] spDraw) (kD : PySem.W.keepIn K (.ref fD) = true) (bD : Binds K fdD ["_law_rng_here", "_law_many"] []) (gD : mg "_law_draw" = some (.ref fD))
    (GN : FnOk P w K mg base CX0 3 fN fdN ["_law_rng_here", "_law_many"] spNm) (kN : PySem.W.keepIn K (.ref fN) = true) (bN : Binds K fdN ["_law_rng_here", "_law_many"] []) (gN : mg "_law_names" = some (.ref fN)) :
    FnOk P w K mg base CX0 4 f fd ["_law_rng_here"] spDrawn := by
  have GC3 := GC.mono (k := 3) (by decide)
  have GD3 := GD.mono (k := 3) (by decide)
  refine F.ok scDrawn (fun vs H Q E h => ?_) (fun cdv A outer s H vs Q E hr h => ?_)
  · obtain ⟨r, rfl, _⟩ := h
    rfl
  · obtain ⟨r, rfl, hR, q⟩ := h
    have hu : (A.deeper (envOfC "_law_drawn" (defScope sDrawn) s.heap.objs.size f cdv)).units + 1 < cLine := by have := hr.units; omega
    refine ⟨_, pss_cons (ps_set (i := 1) scDrawn.nd rfl (.inl rfl) pe_dnewK)
      (pss_cons (ps_for PassesOwn.never rfl (pi_list (pe_callB cr_sortedS (by rfl) T.sorted (by decide +kernel) (pa_cons
          (pe_call GN hr rfl gN kN bN .nil pass0 (pa_cons (pv 0) (pa_cons (pe_call GD3 hr rfl gD kD bD .nil pass0 (pa_cons (pv 0) (pa_cons pe_int pa_nil))) pa_nil))) pa_nil))) (pg_name (i := 2) scDrawn.nd rfl (Or.inl rfl))
        (pss_one (ps_dput hu (pv 1) (pv 2) (pe_call GC3 hr rfl gC kC bC .nil pass0 (pa_cons (pv 0) (pa_cons
          (pe_lst (pa_cons pe_int (pa_cons pe_int (pa_cons pe_int (pa_cons (pe_un un_neg pe_int) (pa_cons pe_int (pa_cons pe_int (pa_cons (pe_un un_neg pe_int) (pa_cons (pe_op op_add (pe_op op_pow pe_int pe_int) pe_int) (pa_cons (pe_op op_add (pe_un un_neg (pe_op op_pow pe_int pe_int)) pe_int) pa_nil)))))))))) pa_nil))) rfl)))
      (pss_one (ps_ret (pv 1)))), ?_⟩
    intro p np
    have S0 := fresh_upd (o := .dK []) np
    have ep : upd H p (.dK []) p = some (.dK (kv [])) := upd_same
    have rp := hR.ne np
    generalize upd H p (.dK []) = H1 at S0 ep
    have hR1 := hR.same S0
    refine ⟨_, rfl, _, rfl, r, 7, rfl, hR1, by decide, by decide, fun H2 m m0 m1 hR2 B2 => ?_⟩
    refine ⟨r, m, rfl, hR2, m0, by omega, fun H3 l ns B3 hR3 nl hl hP hnl => ?_⟩
    refine ⟨l, ns, rfl, SqL.of hl, by omega, fun ys L perm srt nL => ?_⟩
    have S4 := fresh_upd (o := .lst (ys.map V.str)) nL
    have eL : upd H3 L (.lst (ys.map V.str)) L = some (.lst (ys.map V.str)) := upd_same
    have hys : Sd ys := sd_of srt (perm.nodup_iff.mpr hP.nd)
    have hyl : ys.length ≤ 6 := by
      rw [perm.length_eq, hnl]
      omega
    have hyn : ∀ n ∈ ys, isNm n = true := fun n hn => hP.nm n (perm.mem_iff.mp hn)
    have hp3 := B3 _ _ rp.symm (B2 _ _ rp.symm ep)
    have hp4 := S4 _ _ hp3
    have hR4 := hR3.same S4
    have B4 : But r H (upd H3 L (.lst (ys.map V.str))) := (((But.of S0).trans B2).trans B3).trans (But.of S4)
    have Lr : L ≠ r := (hR3.ne nL).symm
    have pL : p ≠ L := ne_of_none hp3 nL
    generalize upd H3 L (.lst (ys.map V.str)) = H4 at eL hp4 hR4 B4
    refine ⟨L, rfl, ⟨_, SqL.of eL⟩, for_it (walk_list (K := K) (a := L) (xs := ys.map V.str)) (fun i σ H5 => (∃ o2, σ = [some (.ref r), some (.ref p), o2]) ∧ Rg H5 r ∧ But r H H5 ∧ H5 L = some (.lst (ys.map V.str)) ∧
      ∃ es, H5 p = some (.dK (kv es)) ∧ es.map (·.1) = ys.take i ∧ ∀ q ∈ es, q.2 ≠ 0 ∧ q.2.natAbs < 10 ^ 30)
      ⟨⟨none, rfl⟩, hR4, B4, eL, [], hp4, rfl, fun q h => nomatch h⟩ (fun i σ H5 _ h => SqL.of h.2.2.2.1) ?_ ?_⟩
    · rintro i v σ H9 H5 hi ⟨⟨o2, rfl⟩, hR5, B5, hL5, es, hp5, hes, hv5⟩ ⟨rfl, hv⟩
      rw [List.length_map] at hi
      have ev : v = .str ys[i] := by
        rw [List.getElem?_map, List.getElem?_eq_getElem hi] at hv
        exact (Option.some.inj hv).symm
      subst ev
      have hel : es.length ≤ 6 := by
        have z := congrArg List.length hes
        rw [List.length_map, List.length_take] at z
        omega
      refine ⟨_, rfl, 1, rfl, 12, rfl, _, _, rfl, rfl, ⟨by decide, by decide, by decide⟩, _, _, rfl, rfl, _, _, rfl, rfl, ⟨by decide, by decide, by decide⟩, _, rfl, _, _, rfl, rfl, by rw [sizeLine_eq]; show 9 ≤ 16777216; decide, fun t nt => ?_⟩
      have S6 := fresh_upd (o := .lst pows) nt
      have rt := hR5.ne nt
      refine ⟨r, t, pows, rfl, hR5.same S6, rt.symm, upd_same, by decide, by decide, fun H7 v hv hR7 B7 => ?_⟩
      obtain ⟨k, rfl, k0, k1⟩ := pows_ok v hv
      have B57 := (But.of S6).trans B7
      have hp7 := B57 _ _ rp.symm hp5
      have hk : es.length = i := by
        have z := congrArg List.length hes
        rw [List.length_map, List.length_take] at z
        omega
      have hnew : ys[i] ∉ es.map (·.1) := by
        rw [hes]
        intro z
        obtain ⟨j, hj, e⟩ := List.mem_take_iff_getElem.mp z
        have hj1 : j < ys.length := by omega
        have := List.pairwise_iff_getElem.mp hys.nodup j i hj1 hi (by omega)
        exact this e
      refine ⟨_, rfl, _, rfl, p, _, rfl, .inl ⟨_, ky ys[i], hp7, rfl, by rw [kv_len, sizeLine_eq]; omega, rfl⟩, ⟨_, rfl⟩, hR7.upd rp.symm, But.upd (B5.trans B57) np, ?_, es ++ [(ys[i], k)], by rw [upd_same, ← put_fresh hnew, kv_put], ?_, fun q hq => ?_⟩
      · rw [upd_ne pL.symm]
        exact B57 _ _ Lr hL5
      · rw [List.map_append, hes, List.take_add_one, List.getElem?_eq_getElem hi]
        rfl
      · rcases List.mem_append.mp hq with z | z
        · exact hv5 q z
        · rw [List.mem_singleton.mp z]
          exact ⟨k0, k1⟩
    · rintro σ H5 ⟨⟨o2, rfl⟩, hR5, B5, hL5, es, hp5, hes, hv5⟩
      rw [List.length_map, List.take_length] at hes
      refine ⟨_, rfl, q H5 p es B5 hR5 np hp5 ⟨?_, fun q hq => ?_, fun q hq => (hv5 q hq).1, fun q hq => (hv5 q hq).2, ?_⟩⟩
      · unfold SdE
        rw [hes]
        exact hys
      · exact hyn _ (by rw [← hes]; exact List.mem_map.mpr ⟨q, hq, rfl⟩)
      · have z := congrArg List.length hes
        rw [List.length_map] at z
        omega
end
end K13
set_option maxHeartbeats 8000000
namespace K13
open PySem PySem.Spec PyProof.Rows L2 TL

/-! ### lists of texts as data -/
theorem dp_strs {K : PySem.W.Frag} {H : Hp} : ∀ ns : List Str, DpAll K H (ns.map V.str) (ns.map PyData.str)
  | [] => .nil
  | n :: r => .cons (.str n) (dp_strs r)
theorem eqv_strs : ∀ ns ms : List Str, PyData.eqvAll (ns.map PyData.str) (ms.map PyData.str) = decide (ns = ms)
  | [], [] => rfl
  | [], m :: r => rfl
  | n :: r, [] => rfl
  | n :: r, m :: t => by
    show ((n == m) && PyData.eqvAll (r.map PyData.str) (t.map PyData.str)) = _
    rw [eqv_strs r t]
    by_cases h : n = m
    · subst h
      simp
    · have : (n == m) = false := by simpa using h
      rw [this]
      simp [h]
theorem lay_strs : ∀ {ns : List Str}, (∀ n ∈ ns, ∀ c ∈ tl n, c < 0x110000) → PyData.canLayAll0 (ns.map PyData.str) = true
  | [], _ => rfl
  | n :: r, h => by
    have ih := lay_strs (ns := r) fun m hm => h m (List.mem_cons_of_mem _ hm)
    have h1 : PyData.strOk n = true := by
      unfold PyData.strOk
      rw [← Array.all_toList, List.all_eq_true]
      exact fun c hc => decide_eq_true (h n (List.mem_cons_self ..) c hc)
    show (PyData.strOk n && PyData.canLayAll0 (r.map PyData.str)) = true
    rw [h1, ih]
    rfl
theorem dep_strs : ∀ ns : List Str, PyData.depthAll (ns.map PyData.str) = 0
  | [] => rfl
  | n :: r => by
    show max 0 (PyData.depthAll (r.map PyData.str)) = 0
    rw [dep_strs r]
    rfl
theorem sh_strs {ns : List Str} (h : ∀ n ∈ ns, ∀ c ∈ tl n, c < 0x110000) : SeqAt.shaped (.list (ns.map PyData.str)) = true := by
  unfold SeqAt.shaped
  have e1 : PyData.canLay0 (.list (ns.map PyData.str)) = true := lay_strs h
  have e2 : PyData.depth (.list (ns.map PyData.str)) = 1 := by
    show PyData.depthAll (ns.map PyData.str) + 1 = 1
    rw [dep_strs]
  rw [e1, e2]
  rfl

/-! ### _law_text -/
abbrev sTxL : Stmt := top 35
def spTxL : Sp := fun vs H Q _ => ∃ (m : Addr) (es : Es), vs = [.ref m] ∧ H m = some (.dK (kv es)) ∧ es.length < 64 ∧ (∀ q ∈ es, isNm q.1 = true ∧ Big q.2) ∧ ∀ H', Same H H' → Q (.str (texE es)) H'
def NTx : List Str := ["_law_model", "_law_words", "_law_name", "_law_power"]
section
variable {P : Program} {w : World} {K : PySem.W.Frag} {mg : Str → Option Value} {base : Heap}
theorem scTxL : FnScope NTx ["_law_model"] (defScope sTxL) :=
  ⟨rfl, rfl, rfl, by decide +kernel, rfl, by decide +kernel, by decide +kernel⟩
theorem ok_txL {f : Addr} {fd : FuncData} (F : Fun K "_law_text" "_law_text" sTxL f fd) (T : Ns mg) :
    FnOk P w K mg base CX0 1 f fd ["_law_model"] spTxL := by
  refine F.ok scTxL (fun vs H Q E h => ?_) (fun cdv A outer s H vs Q E hr h => ?_)
  · obtain ⟨m, es, rfl, _⟩ := h
    rfl
  · obtain ⟨m, es, rfl, hm, hz, hb, k⟩ := h
    have hu : (A.deeper (envOfC "_law_text" (defScope sTxL) s.heap.objs.size f cdv)).units + 64 < cLine := by have := hr.units; omega
    refine ⟨_, pss_cons (ps_lock (ps_setLc (i := 1) (own := [("_law_name", 2), ("_law_power", 3)]) (g := gTup K 2 (gCons (gName 2) (gCons (gName 3) gNil))) (tt := tYes)
          (te := tIf (tTest (tOp rEq (tVar 3) (tC (.int 1)))) (tVar 2) (tOp (fun x y H Q => ∃ i j, x = .str i ∧ y = .str j ∧ i.length + j.length ≤ sizeLine ∧ Q (.str (i ++ j)) H) (tOp (fun x y H Q => ∃ i j, x = .str i ∧ y = .str j ∧ i.length + j.length ≤ sizeLine ∧ Q (.str (i ++ j)) H) (tVar 2) (tC (.str "^"))) (tCB (fun xs H Q => ∃ i, xs = [.int i] ∧ i.natAbs.log2 < 1920 ∧ Q (.str (toString i)) H) (tCons (tVar 3) tNil))))
          rfl scTxL.nd rfl rfl (sw_true rfl rfl rfl rfl) (pi_items (pv 0))
          (blkOk_by (own := [("_law_name", 2), ("_law_power", 3)]) (N := NTx) (sc := defScope sTxL) (by decide +kernel))
          (fun _ _ _ _ _ => pg_tup rfl (pgs_cons (pg_name (i := 2) scTxL.nd rfl (Or.inl rfl)) (pgs_cons (pg_name (i := 3) scTxL.nd rfl (Or.inl rfl)) pgs_nil)))
          (fun _ _ _ _ _ => pts_nil) (fun _ _ _ _ _ => by exact pe_ifExp (pt_cmpR op_eq (pv 3) pe_int (nomark _)) (pv 2) (pe_op op_add_str (pe_op op_add_str (pv 2) pe_str) (pe_callTy call_str_int (by rfl) T.str (by decide +kernel) (pa_cons (pv 3) pa_nil))))))
      (pss_one (ps_ret (pe_ifExp (pt_cmpR (op_neD hu) (pv 1) (pe_lst pa_nil) (nomark _)) (pe_join pe_str (pv 1)) pe_str))), ?_⟩
    refine ⟨m, _, hm, trivial, fun od => ?_⟩
    refine ⟨_, rfl, m, od, kv es, rfl, upd_same, fun L hL => ?_⟩
    have Lm : L ≠ m := fun z => by
      rw [z, upd_same] at hL
      cases hL
    have hL0 : H L = none := by
      rw [upd_ne Lm] at hL
      exact hL
    refine lc_it walk_items (fun i H3 => H3 L = some (.lst (((es.take i).map fun q => pwT q.1 q.2).map V.str)) ∧ H3 m = some (.frz od (.dK (kv es))) ∧ ∀ b o, b ≠ m → H b = some o → H3 b = some o)
      ⟨upd_same, (upd_ne Lm.symm).trans upd_same, fun b o e1 e2 => ?_⟩ (fun i H3 _ q => q.2.1) ?_ ?_
    · rw [upd_ne (ne_of_none e2 hL0), upd_ne e1]
      exact e2
    · rintro i v H3 H4 hi ⟨hL3, hm3, S3⟩ ⟨T, x, y, rfl, nT, rfl, e1, e2⟩
      rw [kv_len] at hi
      have ei : (kv es)[i]? = some (ky es[i].1, V.int es[i].2) := by
        unfold kv
        rw [List.getElem?_map, List.getElem?_eq_getElem hi]
        rfl
      dsimp only at e1 e2
      rw [ei] at e1 e2
      cases e1
      cases e2
      have LT : L ≠ T := ne_of_none hL3 nT
      have mT : m ≠ T := ne_of_none hm3 nT
      obtain ⟨hb1, hb2⟩ := hb es[i] (List.getElem_mem hi)
      have hb3 := nm_len hb1
      refine ⟨T, _, rfl, SqT.of upd_same, rfl, _, _, rfl, _, _, rfl, rfl, rfl, ?_⟩
      unfold tYes
      dsimp only
      rw [if_pos rfl]
      have hnew : ∀ x : Str, x = pwT es[i].1 es[i].2 → ∀ b o, b = L → some (HO.lst ((((es.take i).map fun q => pwT q.1 q.2).map V.str) ++ [V.str x])) = o → o = some (.lst (((es.take (i + 1)).map fun q => pwT q.1 q.2).map V.str)) := fun x e b o _ e2 => by
        rw [← e2, e, List.take_add_one, List.getElem?_eq_getElem hi, List.map_append, List.map_append]
        rfl
      have hsz : ((((es.take i).map fun q => pwT q.1 q.2).map V.str)).length < sizeLine := by
        rw [List.length_map, List.length_map, List.length_take, sizeLine_eq]
        omega
      have e1 : ("^" : Str).length = 1 := by decide
      refine ⟨_, rfl, rfl, _, rfl, ?_⟩
      by_cases h1 : es[i].2 = 1
      case' pos =>
        refine iteT' (decide_eq_true (congrArg V.int h1)) ?_
        refine ⟨_, rfl, ?_⟩
        have ex : es[i].1 = pwT es[i].1 es[i].2 := by
          unfold pwT
          rw [if_pos h1]
      case' neg =>
        refine iteN' (fun z => h1 (V.int.inj z)) ?_
        have hd := dec_len hb2
        refine ⟨_, rfl, _, _, rfl, rfl, by rw [e1, sizeLine_eq]; omega, _, rfl, _, rfl, log_of hb2, _, _, rfl, rfl, ?_, ?_⟩
        · rw [len_tl, tl_append, List.length_append, ← len_tl, ← len_tl, e1, sizeLine_eq]
          show _ + (decS es[i].2).length ≤ _
          omega
        have ex : es[i].1 ++ ("^" : Str) ++ decS es[i].2 = pwT es[i].1 es[i].2 := by
          unfold pwT
          rw [if_neg h1]
      all_goals
        refine ⟨_, (upd_ne LT).trans hL3, hsz, ?_, ?_, fun b o hb' e => ?_⟩
        · rw [upd_same]
          exact hnew _ ex L _ rfl rfl
        · rw [upd_ne Lm.symm, upd_ne mT]
          exact hm3
        · rw [upd_ne (ne_of_none e hL0), upd_ne (ne_of_none (S3 b o hb' e) nT)]
          exact S3 b o hb' e
    · rintro H3 ⟨hL3, hm3, S3⟩
      rw [kv_len, List.take_length] at hL3
      refine ⟨hm3, ?_⟩
      have S4 : Same H (upd H3 m (.dK (kv es))) := fun b o e => by
        by_cases hbD : b = m
        · subst hbD
          rw [upd_same]
          exact hm.symm.trans e
        · exact (upd_ne hbD).trans (S3 b o hbD e)
      have hL4 : upd H3 m (.dK (kv es)) L = some (.lst ((es.map fun q => pwT q.1 q.2).map V.str)) := (upd_ne Lm).trans hL3
      generalize upd H3 m (.dK (kv es)) = H4 at S4 hL4
      refine ⟨_, rfl, by rw [sizeLine_eq]; show 0 ≤ 16777216; decide, fun e0 n0 => ?_⟩
      have S5 := fresh_upd (o := .lst []) n0
      have hsg : ∀ n ∈ es.map (fun q => pwT q.1 q.2), ∀ c ∈ tl n, c < 0x110000 := fun n hn c hc => by
        obtain ⟨q, hq, rfl⟩ := List.mem_map.mp hn
        have := sgn_lt (sgn_pw (hb q hq).1 hc)
        omega
      refine ⟨.list ((es.map fun q => pwT q.1 q.2).map PyData.str), .list ([].map PyData.str), .lst (SqL.of (S5 _ _ hL4)) (dp_strs _), .lst (SqL.of upd_same) .nil, sh_strs hsg, by decide, _, rfl, ?_⟩
      show (if (!PyData.eqvAll ((es.map fun q => pwT q.1 q.2).map PyData.str) (([] : List Str).map PyData.str)) = true then _ else _)
      rw [eqv_strs]
      by_cases h0 : es = []
      · subst h0
        have z := k _ (S4.trans S5)
        unfold texE at z
        rw [if_pos rfl] at z
        exact iteF z
      · have z := k _ (S4.trans S5)
        unfold texE at z
        rw [if_neg h0] at z
        rw [decide_eq_false (show ¬ es.map (fun q => pwT q.1 q.2) = [] by simpa using h0)]
        refine iteT' rfl ?_
        refine ⟨⟨_, rfl⟩, _, rfl, _, L, _, rfl, rfl, .inl (SqL.of (S5 _ _ hL4)), ?_, z⟩
        have hs : ∀ l : Es, (∀ q ∈ l, isNm q.1 = true ∧ Big q.2) → ((l.map fun q => pwT q.1 q.2).map (·.length)).sum ≤ l.length * 70 := fun l => by
          induction l with
          | nil => intro _; exact Nat.zero_le _
          | cons p r ih =>
            intro hb
            have z := ih fun q hq => hb q (List.mem_cons_of_mem _ hq)
            have z2 := pw_len (nm_len (hb p (List.mem_cons_self ..)).1) (hb p (List.mem_cons_self ..)).2
            show (pwT p.1 p.2).length + ((r.map fun q => pwT q.1 q.2).map (·.length)).sum ≤ (r.length + 1) * 70
            omega
        have z := hs es hb
        have e : ("*" : Str).length = 1 := by decide
        rw [e, List.length_map]
        omega
end

/-! ### _law_is_name -/
abbrev sIsN : Stmt := top 36
def spIsN : Sp := fun vs H Q _ => ∃ x : Str, vs = [.str x] ∧ x.length ≤ 1000000 ∧ ∀ H', Same H H' → Q (.bl (isNm x)) H'
def NIs : List Str := ["_law_word", "_law_sign"]
section
variable {P : Program} {w : World} {K : PySem.W.Frag} {mg : Str → Option Value} {base : Heap}
theorem scIsN : FnScope NIs ["_law_word"] (defScope sIsN) :=
  ⟨rfl, rfl, rfl, by decide +kernel, rfl, by decide +kernel, by decide +kernel⟩
theorem ok_isN {f : Addr} {fd : FuncData} (F : Fun K "_law_is_name" "_law_is_name" sIsN f fd) (T : Nb mg) :
    FnOk P w K mg base CX0 1 f fd ["_law_word"] spIsN := by
  refine F.ok scIsN (fun vs H Q E h => ?_) (fun cdv A outer s H vs Q E hr h => ?_)
  · obtain ⟨x, rfl, _⟩ := h
    rfl
  · obtain ⟨x, rfl, hx, k⟩ := h
    refine ⟨_, pss_one (ps_ret (pe_and (pe_chain op_lt op_lt pe_int (pe_callB call_len_str (by rfl) T.len PySem.boot_len (pa_cons (pv 0) pa_nil)) pe_int)
      (pe_one (pe_callB (cr_all rfl) (by rfl) T.all (by decide +kernel) (pa_cons
        (pe_lc (own := [("_law_sign", 1)]) (g := gName 1) (tt := tYes) (te := tOp rInS (tVar 1) (tC (.str abc))) rfl scIsN.nd (pi_str (pv 0))
          (blkOk_by (own := [("_law_sign", 1)]) (N := NIs) (sc := defScope sIsN) (by decide +kernel)) (fun _ _ _ _ _ => pg_name (i := 1) scIsN.nd rfl (Or.inl rfl))
          (fun _ _ _ _ _ => pts_nil) (fun _ _ _ _ _ => by exact pe_cmpR op_inS (pv 1) pe_str rfl)) pa_nil))))), ?_⟩
    have nmF : ∀ b : Bool, isNm x = b → ∀ H', Same H H' → Q (.bl b) H' := fun b e => by
      rw [← e]
      exact k
    refine ⟨_, rfl, x, rfl, by rw [sizeLine_eq]; omega, _, _, rfl, rfl, _, rfl, ?_⟩
    refine ite2 (fun h1 => ?_) fun h1 => ?_
    · have h1' : 1 ≤ x.length := by
        have := of_decide_eq_true h1
        omega
      refine ⟨_, _, rfl, rfl, _, rfl, ?_⟩
      refine ite2 (fun h2 => ?_) fun h2 => ?_
      · have h2' : x.length ≤ 8 := by
          have := of_decide_eq_true h2
          omega
        refine ⟨_, rfl, x, rfl, fun D hD => ?_⟩
        refine lc_it walk_str (fun i H2 => H2 D = some (.lst (((x.cps.toList.take i).map fun c => decide (c ∈ abc.cps.toList)).map V.bl)) ∧ Same H H2)
          ⟨upd_same, fresh_upd hD⟩ (fun _ _ _ _ => trivial) ?_ ?_
        · rintro i v H2 H3 hi ⟨hD2, S2⟩ ⟨rfl, c, hc, rfl⟩
          refine ⟨rfl, ?_⟩
          unfold tYes
          dsimp only
          rw [if_pos rfl]
          refine ⟨_, rfl, c, abc, rfl, rfl, _, hD2, ?_, ?_, fun b o e => ?_⟩
          · rw [List.length_map, List.length_map, List.length_take, sizeLine_eq]
            have hl : x.length = x.cps.size := rfl
            have hm := Nat.min_le_left i x.cps.toList.length
            omega
          · have hc2 : x.cps.toList[i]? = some c := by rw [Array.getElem?_toList]; exact hc
            rw [upd_same, List.take_add_one, hc2]
            simp
          · rw [upd_ne (ne_of_none e hD)]
            exact S2 b o e
        · rintro H2 ⟨hD2, S2⟩
          refine ⟨D, _, rfl, SqL.of hD2, ?_⟩
          have e : ((x.cps.toList.take x.cps.size).map fun c => decide (c ∈ abc.cps.toList)).all id = isNm x := by
            unfold isNm
            rw [decide_eq_true h1', decide_eq_true h2', Bool.true_and, Bool.true_and,
              show x.cps.size = x.cps.toList.length from (Array.length_toList ..).symm, List.take_length, List.all_map]
            rfl
          rw [e]
          exact k H2 S2
      · have h2' : ¬ x.length ≤ 8 := fun z => by
          have := of_decide_eq_false (Bool.eq_false_iff.mpr h2)
          omega
        refine nmF false ?_ H (Same.refl H)
        unfold isNm
        rw [decide_eq_false h2', Bool.false_and, Bool.and_false]
    · have h1' : ¬ 1 ≤ x.length := fun z => by
        have := of_decide_eq_false (Bool.eq_false_iff.mpr h1)
        omega
      refine ⟨_, rfl, iteF (nmF false ?_ H (Same.refl H))⟩
      unfold isNm
      rw [decide_eq_false h1']
      rfl
end
end K13
set_option maxHeartbeats 8000000
namespace K13
open PySem PySem.Spec PyProof.Rows L2 TL

/-! ### dict([(name, number), ..]) -/
def PsAt (H : Hp) (ps : List Addr) (es : Es) : Prop := Paired (fun p q => H p = some (.tup [V.str q.1, V.int q.2])) ps es
theorem PsAt.same {H H' : Hp} (S : ∀ b xs, H b = some (.tup xs) → H' b = some (.tup xs)) {ps : List Addr} {es : Es} (h : PsAt H ps es) : PsAt H' ps es :=
  Paired.mapP h fun _ _ e => S _ _ e
theorem PsAt.snoc {H : Hp} {ps : List Addr} {es : Es} {p : Addr} {q : Str × Int} (h : PsAt H ps es) (e : H p = some (.tup [V.str q.1, V.int q.2])) : PsAt H (ps ++ [p]) (es ++ [q]) :=
  Paired.snoc h e
theorem PsAt.pairs {K : PySem.W.Frag} {H : Hp} : ∀ {ps : List Addr} {es : Es}, PsAt H ps es → Paired (fun p kv => SqT K H p [kV kv.1, kv.2]) ps (kv es)
  | _, _, .nil => .nil
  | _, _, .cons h t => .cons (SqT.of h) (PsAt.pairs t)
theorem merge_new : ∀ {ys xs : Es}, ((xs ++ ys).map (·.1)).Nodup → mergeK (kv xs) (kv ys) = kv (xs ++ ys)
  | [], xs, _ => by
    rw [List.append_nil]
    rfl
  | (n, v) :: r, xs, h => by
    have e : xs ++ (n, v) :: r = (xs ++ [(n, v)]) ++ r := by simp
    have hn : n ∉ xs.map (·.1) := fun z => by
      rw [List.map_append, List.nodup_append] at h
      exact h.2.2 n z n (by simp) rfl
    have ih := merge_new (ys := r) (xs := xs ++ [(n, v)]) (by rw [← e]; exact h)
    show mergeK (putK (kv xs) (ky n) (.int v)) (kv r) = _
    rw [putK_new _ (val_none hn), e, ← ih]
    unfold kv
    rw [List.map_append]
    rfl
theorem merge_kv {es : Es} (h : (es.map (·.1)).Nodup) : mergeK [] (kv es) = kv es := merge_new (xs := []) h


/-! ### _law_reads -/
abbrev sReads : Stmt := top 37
def lwWs (x : Str) : List Str := if x = "1" then [] else Txt.split x "*"
theorem lw_words {x : Str} {es : Es} (h : Val x es) : rdF lwW [] (lwWs x) = some es ∧ ∀ w ∈ lwWs x, lwW w ≠ none := by
  unfold lwWs
  by_cases hx : x = "1"
  · rw [if_pos hx]
    subst hx
    rw [h.one]
    exact ⟨rfl, fun w hw => nomatch hw⟩
  · rw [if_neg hx]
    exact h.lw hx
theorem flE_mem {t : Es} {ys : List Str} (hn : (t.map (·.1)).Nodup) (h : ∀ n, n ∈ ys ↔ n ∈ t.map (·.1)) {q : Str × Int} (hq : q ∈ flE t ys) : q ∈ t ∧ q.2 ≠ 0 := by
  unfold flE at hq
  obtain ⟨h1, h2⟩ := List.mem_filter.mp hq
  obtain ⟨n, hn1, e⟩ := List.mem_map.mp h1
  refine ⟨?_, of_decide_eq_true h2⟩
  obtain ⟨p, hp, e2⟩ := List.mem_map.mp ((h n).mp hn1)
  have z := look_get hn (n := p.1) (v := p.2) hp
  rw [← e, ← e2]
  have : (p.1, g0 t p.1) = p := by
    unfold g0
    rw [z]
    rfl
  rw [this]
  exact hp
theorem nzE_look {es : Es} (hn : (es.map (·.1)).Nodup) (nz : ∀ q ∈ es, q.2 ≠ 0) (n : Str) : nzE es n = es.lookup n := by
  rw [nz_cz, cz_g0 hn nz]
theorem lw_good {x : Str} {t : Es} {ys : List Str} {B : Nat} (hR : Red B t) (hy : Sd ys) (h : ∀ n, n ∈ ys ↔ n ∈ t.map (·.1)) (e : texE (flE t ys) = x) : Val x (flE t ys) :=
  ⟨e, List.Pairwise.sublist (fl_keys _ ys) hy, fun q hq => hR.nm q (flE_mem hR.nd h hq).1, fun q hq => (flE_mem hR.nd h hq).2⟩
theorem lw_bad {x : Str} {t : Es} {ys : List Str} (hr : rdF lwW [] (lwWs x) = some t) (hy : Sd ys) (h : ∀ n, n ∈ ys ↔ n ∈ t.map (·.1)) (e : texE (flE t ys) ≠ x) (es : Es) : ¬ Val x es := fun hv => by
  have z := (lw_words hv).1
  rw [hr] at z
  have z2 := Option.some.inj z
  subst z2
  have hS : SdE (flE t ys) := List.Pairwise.sublist (fl_keys _ ys) hy
  have e2 : flE t ys = t := hS.one hv.sd fun n => by rw [fl_nz h n, nzE_look hv.sd.nodup hv.nz]
  rw [e2] at e
  exact e hv.tx
def spReads : Sp := fun vs H Q _ => ∃ x : Str, vs = [.str x] ∧ Sht x ∧
  (∀ es, Val x es → ∀ H' D, Same H H' → H D = none → H' D = some (.dK (kv es)) → Q (.ref D) H') ∧ ((∀ es, ¬ Val x es) → ∀ H', Same H H' → Q .non H')
def NRs : List Str := ["_law_text_here", "_law_found", "_law_word", "_law_parts", "_law_power", "_law_bare", "_law_model", "_law_sign", "_law_name"]
section
variable {P : Program} {w : World} {K : PySem.W.Frag} {mg : Str → Option Value} {base : Heap}
theorem scReads : FnScope NRs ["_law_text_here"] (defScope sReads) :=
  ⟨rfl, rfl, rfl, by decide +kernel, rfl, by decide +kernel, by decide +kernel⟩
theorem ok_reads {f fN fT : Addr} {fd fdN fdT : FuncData} (F : Fun K "_law_reads" "_law_reads" sReads f fd) (T : Nb mg) (Ta : Na mg) (T2 : Nt mg)
    (GN : FnOk P w K mg base CX0 1 fN fdN ["_law_word"] spIsN) (kN : PySem.W.keepIn K (.ref fN) = true) (bN : Binds K fdN ["_law_word"] []) (gN : mg "_law_is_name" = some (.ref fN))
    (GT : FnOk P w K mg base CX0 1 fT fdT ["_law_model"] spTxL) (kT : PySem.W.keepIn K (.ref fT) = true) (bT : Binds K fdT ["_law_model"] []) (gT : mg "_law_text" = some (.ref fT)) :
    FnOk P w K mg base CX0 2 f fd ["_law_text_here"] spReads := by
  refine F.ok scReads (fun vs H Q E h => ?_) (fun cdv A outer s H vs Q E hr h => ?_)
  · obtain ⟨x, rfl, _⟩ := h
    rfl
  · obtain ⟨x, rfl, hS, k1, k2⟩ := h
    have hu : (A.deeper (envOfC "_law_reads" (defScope sReads) s.heap.objs.size f cdv)).units + 1 < cLine := by have := hr.units; omega
    refine ⟨_, pss_cons (ps_set (i := 1) scReads.nd rfl (.inr rfl) pe_dnewK)
      (pss_cons (ps_for PassesOwn.never rfl (pi_list (pe_ifExp (pt_cmpR op_eq (pv 0) pe_str (nomark _)) (pe_lst pa_nil) (pe_split (pv 0) pe_str))) (pg_name (i := 2) scReads.nd rfl (Or.inl rfl))
        (pss_cons (ps_set (i := 3) scReads.nd rfl (.inl rfl) (pe_split (pv 2) pe_str))
        (pss_cons (ps_set (i := 4) scReads.nd rfl (.inl rfl) (pe_ifExp (pt_cmpR op_eq (pe_callB call_len_seq (by rfl) T.len PySem.boot_len (pa_cons (pv 3) pa_nil)) pe_int (nomark _)) (pe_ix ix_list (pv 3) pe_int (fun _ _ => rfl)) pe_str))
        (pss_cons (ps_set (i := 5) scReads.nd rfl (.inl rfl) (pe_ifExp (pt_val (pe_m1 PySem.F.slot_str_startswith PySem.F.type_str_startswith mt_startswith (pv 4) pe_str)) (pe_slice sl_str (pv 4) (po_some pe_int) po_none) (pv 4)))
        (pss_cons (ps_if (PW.pt (pw_or (pt_cmpR op_gt (pe_callB call_len_seq (by rfl) T.len PySem.boot_len (pa_cons (pv 3) pa_nil)) pe_int (nomark _))
            (pw_or (pt_not (pt_val (pe_call GN hr rfl gN kN bN .nil pass0 (pa_cons (pe_ix ix_list (pv 3) pe_int (fun _ _ => rfl)) pa_nil)))) (pw_or1 (pt_cmpR op_eq (pv 5) pe_str (nomark _))))))
          (pss_one (ps_ret pe_non)) pss_nil)
        (pss_cons (ps_if (pt_not (pt_val (pe_callB (cr_all rfl) (by rfl) T.all (by decide +kernel) (pa_cons
            (pe_lc (own := [("_law_sign", 7)]) (g := gName 7) (tt := tYes) (te := tOp rInS (tVar 7) (tC (.str dgT))) rfl scReads.nd (pi_str (pv 5))
              (blkOk_by (own := [("_law_sign", 7)]) (N := NRs) (sc := defScope sReads) (by decide +kernel)) (fun _ _ _ _ _ => pg_name (i := 7) scReads.nd rfl (Or.inl rfl))
              (fun _ _ _ _ _ => pts_nil) (fun _ _ _ _ _ => by exact pe_cmpR op_inS (pv 7) pe_str rfl)) pa_nil)))) (pss_one (ps_ret pe_non)) pss_nil)
        (pss_one (ps_dput hu (pv 1) (pe_ix ix_list (pv 3) pe_int (fun _ _ => rfl)) (pe_callTy call_int_str (by rfl) T.int (by decide +kernel) (pa_cons (pv 4) pa_nil)) rfl))))))))
      (pss_cons (ps_set (i := 6) scReads.nd rfl (.inl rfl) (pe_callTy (call_dictP rfl) (by rfl) T2.dict (by decide +kernel) (pa_cons
        (pe_lc (own := [("_law_name", 8)]) (g := gName 8) (tt := tTest (tOp rNe (tDGet (tVar 1) (tVar 8)) (tC (.int 0)))) (te := tTup (tCons (tVar 8) (tCons (tDGet (tVar 1) (tVar 8)) tNil))) rfl scReads.nd
        (pi_list (pe_callB (call_sortedD rfl) (by rfl) Ta.sorted (by decide +kernel) (pa_cons (pv 1) pa_nil)))
        (blkOk_by (own := [("_law_name", 8)]) (N := NRs) (sc := defScope sReads) (by decide +kernel)) (fun _ _ _ _ _ => pg_name (i := 8) scReads.nd rfl (Or.inl rfl))
        (fun _ _ _ _ _ => pts_one (by exact pt_cmpR op_ne (pe_dget hu (pv 1) (pv 8) (fun _ _ => rfl)) pe_int (nomark _)))
        (fun _ _ _ _ _ => by exact pe_tup (pa_cons (pv 8) (pa_cons (pe_dget hu (pv 1) (pv 8) (fun _ _ => rfl)) pa_nil)))) pa_nil)))
      (pss_one (ps_ret (pe_ifExp (pt_cmpR op_eq (pe_call GT hr rfl gT kT bT .nil pass0 (pa_cons (pv 6) pa_nil)) (pv 0) (nomark _)) (pv 6) pe_non))))), ?_⟩
    intro D nD
    have S0 := fresh_upd (o := .dK []) nD
    have hD0 : upd H D (.dK []) D = some (.dK (kv [])) := upd_same
    generalize upd H D (.dK []) = H0 at S0 hD0
    have hxl := hS.ln
    have kx := fun es (h : Val x es) => lw_words h
    have bad := fun t ys => lw_bad (x := x) (t := t) (ys := ys)
    have hwl : ∀ p ∈ lwWs x, p.length ≤ 100000 ∧ nDg p ≤ 59 := fun p hp => by
      unfold lwWs at hp
      split at hp
      · cases hp
      · exact ⟨Nat.le_trans (sub_len2 (split_sub sepS hp)) hxl, hS.dg p hp⟩
    have hws : (lwWs x).length ≤ 61 := by
      unfold lwWs
      split
      · exact Nat.zero_le _
      · exact hS.words
    refine ⟨_, rfl, rfl, _, rfl, ?_⟩
    by_cases hx : x = "1"
    case' pos =>
      refine iteT' (decide_eq_true (congrArg V.str hx)) ?_
      refine ⟨by rw [sizeLine_eq]; show 0 ≤ 16777216; decide, fun L nL => ?_⟩
      rw [show upd H0 L (.lst []) = upd H0 L (.lst ((lwWs x).map V.str)) by unfold lwWs; rw [if_pos hx]; rfl]
    case' neg =>
      refine iteN' (fun z => hx (V.str.inj z)) ?_
      refine ⟨_, rfl, ⟨_, rfl⟩, x, "*", rfl, rfl, by decide, by rw [sizeLine_eq]; omega, fun L nL => ?_⟩
      rw [show upd H0 L (.lst ((Txt.split x "*").map V.str)) = upd H0 L (.lst ((lwWs x).map V.str)) by unfold lwWs; rw [if_neg hx]]
    all_goals
      clear hx
      have S1 := fresh_upd (o := .lst ((lwWs x).map V.str)) nL
      have hL1 : upd H0 L (.lst ((lwWs x).map V.str)) L = some (.lst ((lwWs x).map V.str)) := upd_same
      have DL : D ≠ L := ne_of_none hD0 nL
      have hD1 := S1 _ _ hD0
      have S01 := S0.trans S1
      generalize upd H0 L (.lst ((lwWs x).map V.str)) = H1 at S1 hL1 hD1 S01
      generalize lwWs x = ws at *
      refine ⟨L, rfl, ⟨_, SqL.of hL1⟩, for_it (walk_list (K := K) (a := L) (xs := ws.map V.str)) (fun i σ H2 => (∃ o2 o3 o4 o5, σ = [some (.str x), some (.ref D), o2, o3, o4, o5, none, none, none]) ∧
        (∀ b o, b ≠ D → H1 b = some o → H2 b = some o) ∧ ∃ t, H2 D = some (.dK (kv t)) ∧ rdF lwW [] (ws.take i) = some t ∧ Red i t)
        ⟨⟨none, none, none, none, rfl⟩, fun _ _ _ e => e, [], hD1, rfl, Red.nil 0⟩ (fun i σ H2 _ h => SqL.of (h.2.1 _ _ DL.symm hL1)) ?_ ?_⟩
      · rintro i v σ H9 H2 hi ⟨⟨o2, o3, o4, o5, rfl⟩, S2, t, hD2, hr2, hR2⟩ ⟨rfl, hv⟩
        rw [List.length_map] at hi
        have ev : v = .str ws[i] := by
          rw [List.getElem?_map, List.getElem?_eq_getElem hi] at hv
          exact (Option.some.inj hv).symm
        subst ev
        have hp : ws[i] ∈ ws := List.getElem_mem hi
        obtain ⟨hpl, hpd⟩ := hwl _ hp
        have hsn : ∀ q, lwW ws[i] = some q → rdF lwW [] (ws.take (i + 1)) = some (putE t q.1 q.2) := fun q e => by
          rw [List.take_add_one, List.getElem?_eq_getElem hi]
          show rdF lwW [] (ws.take i ++ [ws[i]]) = _
          rw [rdF_snoc lwW ws[i] _ _ _ hr2, e]
          rfl
        generalize ws[i] = p at *
        have hlw : lwW p = (if 2 < (Txt.split p "^").length then none else if isNm ((Txt.split p "^").headD "") = true then
          (rdD (if (Txt.split p "^").length = 2 then (Txt.split p "^").getD 1 "" else "1")).map fun v => ((Txt.split p "^").headD "", v) else none) := rfl
        have hql : 1 ≤ (Txt.split p "^").length := by
          rw [split_len sepH]
          omega
        have hqw : ∀ q ∈ Txt.split p "^", q.length ≤ 100000 ∧ nDg q ≤ 59 := fun q hq =>
          ⟨Nat.le_trans (sub_len2 (split_sub sepH hq)) hpl, Nat.le_trans (sub_dg (split_sub sepH hq)) hpd⟩
        refine ⟨_, rfl, ⟨_, rfl⟩, p, "^", rfl, rfl, by decide, by rw [sizeLine_eq]; omega, fun Lp nLp => ?_⟩
        generalize Txt.split p "^" = qs at *
        have S3 := fresh_upd (o := .lst (qs.map V.str)) nLp
        have hLp : upd H2 Lp (.lst (qs.map V.str)) Lp = some (.lst (qs.map V.str)) := upd_same
        have hD3 := S3 _ _ hD2
        generalize upd H2 Lp (.lst (qs.map V.str)) = H3 at S3 hLp hD3
        obtain ⟨q0, qr, eqs⟩ : ∃ q0 qr, qs = q0 :: qr := by
          cases qs with
          | nil => exact absurd hql (by decide)
          | cons a b => exact ⟨a, b, rfl⟩
        have ehd : qs.headD "" = q0 := by rw [eqs]; rfl
        have hq0 := (hqw q0 (by rw [eqs]; exact List.mem_cons_self ..)).1
        have at0' : atI (qs.map V.str) (((0 : Nat) : Nat) : Int) = some (.str q0) := atI_nat (by rw [eqs]; rfl)
        rw [ehd] at hlw
        obtain ⟨pw, hpw⟩ : ∃ pw, pw = (if qs.length = 2 then qs.getD 1 "" else "1") := ⟨_, rfl⟩
        rw [← hpw] at hlw
        have hDH : ∀ b o, H b = some o → b ≠ D := fun b o e => ne_of_none e nD
        have SH : Same H H3 := fun b o e => S3 _ _ (S2 _ _ (hDH _ _ e) (S01 _ _ e))
        have none_ : lwW p = none → ∀ H', Same H H' → Q .non H' := fun e => k2 fun es h => (kx es h).2 p hp e
        have hpw2 : pw.length ≤ 100000 ∧ nDg pw ≤ 59 := by
          rw [hpw]
          split
          · rename_i h2
            refine hqw _ ?_
            rw [List.getD_eq_getElem?_getD, List.getElem?_eq_getElem (by omega)]
            exact List.getElem_mem _
          · exact ⟨by decide, by decide⟩
        refine ⟨_, rfl, Lp, _, rfl, .inl (SqL.of hLp), rfl, _, rfl, ?_⟩
        rw [List.length_map]
        by_cases h2 : qs.length = 2
        case' pos =>
          refine iteT' (decide_eq_true (by rw [h2]; rfl)) ?_
          refine ⟨_, rfl, Lp, _, 1, .str pw, rfl, rfl, SqL.of hLp, (show atI (qs.map V.str) ((1 : Nat) : Int) = some (V.str pw) from atI_nat (by rw [hpw, if_pos h2, List.getElem?_map, List.getD_eq_getElem?_getD, List.getElem?_eq_getElem (by omega)]; rfl)), ?_⟩
        case' neg =>
          refine iteN' (fun z => h2 (by have := V.int.inj z; omega)) ?_
          rw [show V.str "1" = V.str pw by rw [hpw, if_neg h2]]
        all_goals
          obtain ⟨bt, hbt⟩ : ∃ bt : Str, bt = (if lMin (tl pw) = true then cutS pw (some 1) none else pw) := ⟨_, rfl⟩
          have tb : tl bt = lBare (tl pw) := by
            rw [hbt]
            unfold lBare
            by_cases hm : lMin (tl pw) = true
            · rw [if_pos hm, if_pos hm, tl_cut1]
            · rw [if_neg hm, if_neg hm]
          have hbl : bt.length ≤ 100000 := by
            have z := (bare_sub (tl pw)).length_le
            rw [← tb, ← len_tl, ← len_tl] at z
            omega
          refine ⟨_, rfl, ⟨_, rfl⟩, pw, "-", rfl, rfl, ?_⟩
          rw [starts_min]
          refine ⟨_, rfl, ?_⟩
          by_cases hm : lMin (tl pw) = true
          case' pos =>
            rw [hm]
            refine iteT' rfl ?_
            refine ⟨_, rfl, 1, rfl, pw, rfl, by rw [sizeLine_eq]; omega, ?_⟩
            rw [show cutS pw (some 1) none = bt by rw [hbt, if_pos hm]]
          case' neg =>
            rw [show lMin (tl pw) = false by simpa using hm]
            refine iteF ?_
            refine ⟨_, rfl, ?_⟩
            rw [show V.str pw = V.str bt by rw [hbt, if_neg hm]]
            have epb : bt = pw := by rw [hbt, if_neg hm]
          all_goals
            clear hm
            refine ⟨_, rfl, Lp, _, rfl, .inl (SqL.of hLp), _, _, rfl, rfl, _, rfl, ?_⟩
            rw [List.length_map]
            refine ite2 (fun h3 => ?_) fun h3 => ?_
            · have h3' : 2 < qs.length := by
                have := of_decide_eq_true h3
                omega
              exact none_ (by rw [hlw, if_pos h3']) H3 SH
            have h3' : ¬ 2 < qs.length := fun z => by
              have := of_decide_eq_false (Bool.eq_false_iff.mpr h3)
              omega
            rw [if_neg h3'] at hlw
            refine ⟨_, rfl, Lp, _, 0, .str q0, rfl, rfl, SqL.of hLp, at0', q0, rfl, by omega, fun H4 S4 => ⟨_, rfl, ?_⟩⟩
            have SH4 := SH.trans S4
            cases hn : isNm q0 with
            | false =>
              refine iteT' rfl ?_
              exact none_ (by rw [hlw, hn]; rfl) H4 SH4
            | true =>
              rw [if_pos hn] at hlw
              refine iteF ?_
              refine ⟨_, rfl, rfl, _, rfl, ?_⟩
              by_cases hb0 : bt = ""
              · refine iteT' (decide_eq_true (congrArg V.str hb0)) ?_
                have e0 : rdD pw = none := by
                  unfold rdD
                  rw [if_pos (.inl (by rw [← tb]; exact str_nil.mp hb0))]
                exact none_ (by rw [hlw, e0]; rfl) H4 SH4
              refine iteN' (fun z => hb0 (V.str.inj z)) ?_
              refine ⟨_, rfl, bt, rfl, fun D2 nD2 => ?_⟩
              refine lc_it walk_str (fun i H5 => H5 D2 = some (.lst ((((tl bt).take i).map isDg).map V.bl)) ∧ Same H4 H5)
                ⟨upd_same, fresh_upd nD2⟩ (fun _ _ _ _ => trivial) ?_ ?_
              · rintro i v H5 H6 hi ⟨hD5, S5⟩ ⟨rfl, c, hc, rfl⟩
                refine ⟨rfl, ?_⟩
                unfold tYes
                dsimp only
                rw [if_pos rfl]
                refine ⟨_, rfl, c, dgT, rfl, rfl, _, hD5, ?_, ?_, fun b o e => ?_⟩
                · rw [List.length_map, List.length_map, List.length_take, sizeLine_eq, ← len_tl]
                  have hm := Nat.min_le_right i bt.length
                  omega
                · have hc2 : (tl bt)[i]? = some c := by rw [Array.getElem?_toList]; exact hc
                  rw [upd_same, List.take_add_one, hc2, in_dg]
                  simp
                · rw [upd_ne (ne_of_none e nD2)]
                  exact S5 b o e
              rintro H5 ⟨hD5, S5⟩
              have el : (tl bt).take bt.cps.size = tl bt := List.take_of_length_le (by rw [← len_tl]; exact Nat.le_refl _)
              rw [el] at hD5
              have SH5 := SH4.trans S5
              refine ⟨D2, _, rfl, SqL.of hD5, ?_⟩
              have ea : ((tl bt).map isDg).all id = (lBare (tl pw)).all isDg := by
                rw [tb, List.all_map]
                rfl
              rw [ea]
              refine ⟨_, rfl, ?_⟩
              cases hd : (lBare (tl pw)).all isDg with
              | false =>
                refine iteT' rfl ?_
                have e0 : rdD pw = none := by
                  unfold rdD
                  rw [if_pos (.inr hd)]
                exact none_ (by rw [hlw, e0]; rfl) H5 SH5
              | true =>
                refine iteF ?_
                obtain ⟨v, ev⟩ : ∃ v, rdD pw = some v := by
                  unfold rdD
                  rw [if_neg]
                  · exact ⟨_, rfl⟩
                  · rintro (z | z)
                    · exact hb0 (str_nil.mpr (tb.trans z))
                    · rw [hd] at z
                      cases z
                have elw : lwW p = some (q0, v) := by
                  rw [hlw, ev]
                  rfl
                have hpl2 : pw.length ≤ 640 := by
                  have z := rdD_len ev
                  have z2 : (tl pw).length ≤ (lBare (tl pw)).length + 1 := by
                    unfold lBare
                    split
                    · rw [List.length_drop]
                      omega
                    · omega
                  have z3 := hpw2.2
                  rw [len_tl]
                  omega
                have hD6 := S5 _ _ (S4 _ _ hD3)
                have hLp6 := S5 _ _ (S4 _ _ hLp)
                have hlt := hR2.ln
                have hRn := hR2.put hn (rdD_big ev hpw2.2)
                first
                  | refine ⟨_, rfl, pw, v, rfl, int_rd ev hpl2, hpl2, _, rfl, _, rfl, Lp, _, 0, .str q0, rfl, rfl, SqL.of hLp6, at0', D, _, rfl, .inl ⟨_, ky q0, hD6, rfl, by rw [kv_len, sizeLine_eq]; omega, rfl⟩, ⟨_, _, _, _, rfl⟩, fun b o hb eb => ?_, putE t q0 v, by rw [upd_same, kv_put], hsn _ elw, hRn⟩
                  | refine ⟨_, rfl, bt, v, rfl, (by rw [epb]; exact int_rd ev hpl2), (by rw [epb]; exact hpl2), _, rfl, _, rfl, Lp, _, 0, .str q0, rfl, rfl, SqL.of hLp6, at0', D, _, rfl, .inl ⟨_, ky q0, hD6, rfl, by rw [kv_len, sizeLine_eq]; omega, rfl⟩, ⟨_, _, _, _, rfl⟩, fun b o hb eb => ?_, putE t q0 v, by rw [upd_same, kv_put], hsn _ elw, hRn⟩
                rw [upd_ne hb]
                exact S5 _ _ (S4 _ _ (S3 _ _ (S2 b o hb eb)))
      · rintro σ H2 ⟨⟨o2, o3, o4, o5, rfl⟩, S2, t, hD2, hr2, hR2⟩
        rw [List.length_map] at hr2 hR2
        rw [List.take_length] at hr2
        have SH : Same H H2 := fun b o e => S2 _ _ (ne_of_none e nD) (S01 _ _ e)
        have hln := hR2.ln
        refine ⟨_, rfl, D, _, t.map (·.1), rfl, .inl hD2, ?_, by rw [List.length_map]; omega, fun ys r perm srt nr => ?_⟩
        · unfold kv
          rw [List.map_map, List.map_map]
          rfl
        have S5 := fresh_upd (o := .lst (ys.map V.str)) nr
        have hyd : ys.Nodup := perm.nodup_iff.mpr hR2.nd
        have hys : Sd ys := sd_of srt hyd
        have hyl : ys.length = t.length := by rw [perm.length_eq, List.length_map]
        have hD5 := S5 _ _ hD2
        refine ⟨r, rfl, ⟨_, SqL.of upd_same⟩, fun M nM => ?_⟩
        refine lc_it (walk_list (K := K) (a := r) (xs := ys.map V.str)) (fun i H5 => (∃ ps, H5 M = some (.lst (ps.map V.ref)) ∧ PsAt H5 ps (flE t (ys.take i))) ∧
          Same (upd H2 r (.lst (ys.map V.str))) H5) ⟨⟨[], upd_same, .nil⟩, fresh_upd nM⟩ (fun i H5 _ h => SqL.of (h.2 _ _ upd_same)) ?_ ?_
        · rintro i x' H5 H6 hi ⟨⟨ps, hM5, hps⟩, S6⟩ ⟨rfl, hx⟩
          rw [List.length_map] at hi
          have ex : x' = .str ys[i] := by
            rw [List.getElem?_map, List.getElem?_eq_getElem hi] at hx
            exact (Option.some.inj hx).symm
          subst ex
          have hin : ys[i] ∈ t.map (·.1) := perm.mem_iff.mp (List.getElem_mem hi)
          obtain ⟨u, hu'⟩ := Option.isSome_iff_exists.mp (look_mem.mpr hin)
          have hgu : g0 t ys[i] = u := by
            unfold g0
            rw [hu']
            rfl
          have dg : DGet H6 D (kV (ky ys[i])) (some (.int u)) := .inl ⟨_, ky ys[i], .inl (S6 _ _ hD5), rfl, by rw [val_kv, hu']; rfl⟩
          refine ⟨rfl, ?_⟩
          refine ⟨_, rfl, _, rfl, D, .int u, rfl, dg, rfl, _, rfl, ?_⟩
          by_cases h0 : u = 0
          · subst h0
            rw [decide_eq_true rfl]
            refine iteF ⟨⟨ps, hM5, ?_⟩, S6⟩
            rw [fl_step hi, hgu, if_neg (fun z => z rfl)]
            exact hps
          · rw [decide_eq_false (show ¬ V.int u = V.int 0 from fun z => h0 (V.int.inj z))]
            refine iteT' rfl ?_
            refine ⟨_, rfl, _, rfl, _, rfl, D, .int u, rfl, dg, by rw [sizeLine_eq]; show 2 ≤ 16777216; decide, fun T nT => ?_⟩
            have MT : M ≠ T := ne_of_none hM5 nT
            have hlp := hps.length
            refine ⟨ps.map V.ref, (upd_ne MT).trans hM5, ?_, ⟨ps ++ [T], ?_, ?_⟩, fun c o e => ?_⟩
            · rw [List.length_map, hlp, sizeLine_eq]
              have h1 : (flE t (ys.take i)).length ≤ (ys.take i).length := by
                unfold flE
                refine Nat.le_trans (List.length_filter_le _ _) ?_
                rw [List.length_map]
                exact Nat.le_refl _
              have h2 : (ys.take i).length ≤ i := by rw [List.length_take]; exact Nat.min_le_left ..
              omega
            · rw [upd_same, List.map_append]
              rfl
            · rw [fl_step hi, hgu, if_pos h0]
              refine (hps.same fun c xs e => ?_).snoc ?_
              · have cT : c ≠ T := ne_of_none e nT
                have cM : c ≠ M := fun z => by
                  rw [z, hM5] at e
                  cases e
                rw [upd_ne cM, upd_ne cT]
                exact e
              · rw [upd_ne MT.symm]
                exact upd_same
            · rw [upd_ne (ne_of_none e nM), upd_ne (ne_of_none (S6 c o e) nT)]
              exact S6 c o e
        · rintro H5 ⟨⟨ps, hM5, hps⟩, S6⟩
          rw [List.length_map, List.take_length] at hps
          have hmem : ∀ n, n ∈ ys ↔ n ∈ t.map (·.1) := fun n => perm.mem_iff
          have hSd : SdE (flE t ys) := List.Pairwise.sublist (fl_keys _ ys) hys
          refine ⟨M, ps, _, rfl, SqL.of hM5, hps.pairs, fun R nR => ?_⟩
          rw [merge_kv hSd.nodup]
          have S7 := fresh_upd (o := .dK (kv (flE t ys))) nR
          have hR7 : upd H5 R (.dK (kv (flE t ys))) R = some (.dK (kv (flE t ys))) := upd_same
          have SH5 : Same H H5 := SH.trans (S5.trans S6)
          have nR0 := none_pre SH5 nR
          have SH7 := SH5.trans S7
          generalize upd H5 R (.dK (kv (flE t ys))) = H7 at hR7 SH7
          have hfl : (flE t ys).length ≤ t.length := by
            rw [← hyl]
            unfold flE
            refine Nat.le_trans (List.length_filter_le _ _) ?_
            rw [List.length_map]
            exact Nat.le_refl _
          refine ⟨_, rfl, R, flE t ys, rfl, hR7, by omega, fun q hq => ⟨hR2.nm q (flE_mem hR2.nd hmem hq).1, hR2.bg q (flE_mem hR2.nd hmem hq).1⟩, fun H8 S8 => ?_⟩
          have SH8 := SH7.trans S8
          refine ⟨_, rfl, rfl, _, rfl, ?_⟩
          by_cases he : texE (flE t ys) = x
          · refine iteT' (decide_eq_true (congrArg V.str he)) ?_
            refine ⟨_, rfl, ?_⟩
            exact k1 _ (lw_good hR2 hys hmem he) H8 R SH8 nR0 (S8 _ _ hR7)
          · refine iteN' (fun z => he (V.str.inj z)) ?_
            exact k2 (bad t ys hr2 hys hmem he) H8 SH8
end
end K13
set_option maxHeartbeats 8000000
namespace K13
open PySem PySem.Spec PyProof.Rows L2 TL

/-! ### _law_met -/
abbrev sMet : Stmt := top 38
/-- the classes of the errors -/
structure Xt (K : PySem.W.Frag) (mg : Str → Option Value) (CT CA : Addr) : Prop where
  gT : mg "InvalidText" = some (.ref CT)
  gA : mg "AnyshapeError" = some (.ref CA)
  ex : PySem.W.exmOne K (.ref CT) (.ref CT) = some true
  ki : PySem.W.kitOne K (.ref CT) (.ref CA) = some true
  no : PySem.W.findIn K (.ref CT) "line" = some none
  xg : XG K CT
def lMet (i : Int) : HO := .lst [.str "text", .int i, .bl true]
def spMet (K : PySem.W.Frag) : Sp := fun vs H Q _ => ∃ v : V, vs = [v] ∧
  ((∃ x : Str, v = .str x ∧ Sht x ∧ (∀ es, Val x es → ∀ H' L D, Same H H' → H' L = some (.lst [.str "size", .ref D]) → H' D = some (.dK (kv es)) → Q (.ref L) H') ∧
      ((∀ es, ¬ Val x es) → ∀ H' L, Same H H' → H' L = some (lMet 1) → Q (.ref L) H')) ∨
    (∃ t, TyX K H v t ∧ PySem.W.kitOne K t (.type "str") = some false ∧ ∀ H' L, Same H H' → H' L = some (lMet 0) → Q (.ref L) H'))
section
variable {P : Program} {w : World} {K : PySem.W.Frag} {mg : Str → Option Value} {base : Heap} {C CT CA : Addr}
theorem scMet : FnScope ["_law_told", "e"] ["_law_told"] (defScope sMet) :=
  ⟨rfl, rfl, rfl, by decide +kernel, rfl, by decide +kernel, by decide +kernel⟩
theorem ok_met {f gR pR fX : Addr} {fd fdX : FuncData} {mc : Value} (F : Fun K "_law_met" "_law_met" sMet f fd) (Tk : Nk mg) (Tc : Ck K mg C) (Tx : Xt K mg CT CA)
    (CR : ClX.CRead K C mc) (CM : ClX.CMet K C mc "read" pR gR) (GR : L2.FnR P w K mg base (L2.CX P w) 6 gR (spRead K C CT))
    (mX : Meth K C "exponents" fX) (GX : FnOk P w K mg base CX0 1 fX fdX ["self"] (spExpo C)) (bX : Binds K fdX ["self"] []) :
    FnOk P w K mg base CX0 7 f fd ["_law_told"] (spMet K) := by
  have GX6 := GX.mono (k := 6) (by decide)
  refine F.ok scMet (fun vs H Q E h => ?_) (fun cdv A outer s H vs Q E hr h => ?_)
  · obtain ⟨v, rfl, _⟩ := h
    rfl
  · obtain ⟨v, rfl, h⟩ := h
    refine ⟨_, pss_one (ps_try_as (i := 1) rfl rfl scMet.nd rfl rfl ⟨rfl, by decide, .inl Tx.gT⟩ takes0
        (fun W pn xe tk _ => pss_one (ps_ret (pe_lst (pa_cons pe_str (pa_cons
          (pe_meth0 (pe_cmethE (pe_glob (v := .ref C) (by rfl) Tc.gC rfl) CR CM GR hr (fun σ => passAt tk σ) (pa_cons (pv 0) pa_nil)) Tc.cl mX GX6 hr bX .nil pass0) pa_nil)))))
        (fun a oe cls d pn hz hf => pss_one (ps_ret (pe_lst (pa_cons pe_str (pa_cons (pe_xb Tx.xg Tx.no hz hf (pv 1)) (pa_cons
          (pe_callB (call_xb Tx.xg hz hf) (by rfl) Tk.isi (by decide +kernel) (pa_cons (pv 1) (pa_cons (pe_glob (v := .ref CA) (by rfl) Tx.gA rfl) pa_nil))) pa_nil))))))), ?_⟩
    rcases h with ⟨x, rfl, hS, k1, k2⟩ | ⟨t, ht, hk, k⟩
    · refine ⟨rfl, _, rfl, .str x, rfl, .inl ⟨x, rfl, hS, fun es hv H1 r S1 hz => ?_, fun hno H1 dd S1 n1 e1 => ?_⟩⟩
      · obtain ⟨dx, D0, z1, z2, z3, z4, z5, z6⟩ := id hz
        refine ⟨r, dx, _, rfl, z1, rfl, r, es, rfl, hz, fun l nl => ?_⟩
        have S2 := fresh_upd (o := .dK (kv es)) nl
        refine ⟨by rw [sizeLine_eq]; show 2 ≤ 16777216; decide, fun L nL => ?_⟩
        have S3 := fresh_upd (o := .lst [.str "size", .ref l]) nL
        exact k1 es hv _ L l (S1.trans (S2.trans S3)) upd_same (S3 _ _ upd_same)
      · refine ⟨true, Tx.ex, (fun _ a ha => ?_), (fun q => nomatch q)⟩
        refine ⟨_, rfl, rfl, rfl, dd, _, .int 1, rfl, e1, rfl, ?_⟩
        refine ⟨_, rfl, _, _, true, dd, _, rfl, rfl, rfl, e1, .own CA, Tx.ki, ?_⟩
        refine ⟨by rw [sizeLine_eq]; show 3 ≤ 16777216; decide, fun L nL => ?_⟩
        exact k2 hno _ L (S1.trans (fresh_upd nL)) upd_same
    · refine ⟨rfl, _, rfl, v, rfl, .inr ⟨t, ht, hk, fun H1 dd S1 n1 e1 => ?_⟩⟩
      refine ⟨true, Tx.ex, (fun _ a ha => ?_), (fun q => nomatch q)⟩
      refine ⟨_, rfl, rfl, rfl, dd, _, .int 0, rfl, e1, rfl, ?_⟩
      refine ⟨_, rfl, _, _, true, dd, _, rfl, rfl, rfl, e1, .own CA, Tx.ki, ?_⟩
      refine ⟨by rw [sizeLine_eq]; show 3 ≤ 16777216; decide, fun L nL => ?_⟩
      exact k _ L (S1.trans (fresh_upd nL)) upd_same
end
end K13
set_option maxHeartbeats 8000000
namespace K13
open PySem PySem.Spec PyProof.Rows L2 TL

/-! ### _law_is_far -/
abbrev sFar : Stmt := top 39
def farW (p : Str) : Bool := decide (30 < nDg p)
def far (x : Str) : Bool := ((Txt.split x "*").map farW).any id
def spFar : Sp := fun vs H Q _ => ∃ x : Str, vs = [.str x] ∧ x.length ≤ 100000 ∧ (tl x).count 42 ≤ 60 ∧ ∀ H', Same H H' → Q (.bl (far x)) H'
def NFa : List Str := ["_law_text_here", "_law_word", "_law_sign"]
section
variable {P : Program} {w : World} {K : PySem.W.Frag} {mg : Str → Option Value} {base : Heap}
theorem scFar : FnScope NFa ["_law_text_here"] (defScope sFar) :=
  ⟨rfl, rfl, rfl, by decide +kernel, rfl, by decide +kernel, by decide +kernel⟩
theorem ok_far {f : Addr} {fd : FuncData} (F : Fun K "_law_is_far" "_law_is_far" sFar f fd) (T : Nb mg) (aN : mg "any" = none) :
    FnOk P w K mg base CX0 1 f fd ["_law_text_here"] spFar := by
  refine F.ok scFar (fun vs H Q E h => ?_) (fun cdv A outer s H vs Q E hr h => ?_)
  · obtain ⟨x, rfl, _⟩ := h
    rfl
  · obtain ⟨x, rfl, hx, hc, k⟩ := h
    refine ⟨_, pss_one (ps_ret (pe_callB (cr_any rfl) (by rfl) aN (by decide +kernel) (pa_cons
        (pe_lc (own := [("_law_word", 1)]) (g := gName 1) (tt := tYes) (te := tOp (rI0 fun i j => V.bl (decide (j < i))) (tCB (fun xs H Q => ∃ p ys, xs = [.ref p] ∧ (SqL K H p ys ∨ SqT K H p ys) ∧ Q (.int ys.length) H)
            (tCons (tLc (iStr (tVar 1)) (gName 2) (tTest (tOp rInS (tVar 2) (tC (.str dgT)))) (tVar 2) [2]) tNil)) (tC (.int 30))) rfl scFar.nd (pi_list (pe_split (pv 0) pe_str))
          (blkOk_by (own := [("_law_word", 1)]) (N := NFa) (sc := defScope sFar) (by decide +kernel)) (fun _ _ _ _ _ => pg_name (i := 1) scFar.nd rfl (Or.inl rfl))
          (fun _ _ _ _ _ => pts_nil) (fun _ _ _ _ _ => by
            exact pe_cmpR op_gt (pe_callB call_len_seq (by rfl) T.len PySem.boot_len (pa_cons
              (pe_lc (own := [("_law_sign", 2)]) (g := gName 2) (tt := tTest (tOp rInS (tVar 2) (tC (.str dgT)))) (te := tVar 2) rfl scFar.nd (pi_str (pv 1))
                (blkOk_by (own := [("_law_sign", 2)]) (N := NFa) (sc := { kind := .function, names := [(".0", .local), ("_law_word", .local), ("len", .globalImplicit)], isGenerator := false, isCoroutine := false }) (by decide +kernel)) (fun _ _ _ _ _ => pg_name (i := 2) scFar.nd rfl (Or.inl rfl))
                (fun _ _ _ _ _ => pts_one (by exact pt_cmpR op_inS (pv 2) pe_str rfl)) (fun _ _ _ _ _ => by exact pv 2)) pa_nil)) pe_int (nomark _))) pa_nil))), ?_⟩
    refine ⟨_, rfl, ⟨_, rfl⟩, x, "*", rfl, rfl, by decide, by rw [sizeLine_eq]; omega, fun L nL => ?_⟩
    have S1 := fresh_upd (o := .lst ((Txt.split x "*").map V.str)) nL
    have hL1 : upd H L (.lst ((Txt.split x "*").map V.str)) L = some (.lst ((Txt.split x "*").map V.str)) := upd_same
    have hwl : ∀ p ∈ Txt.split x "*", p.length ≤ 100000 := fun p hp => Nat.le_trans (sub_len2 (split_sub sepS hp)) hx
    have hws : (Txt.split x "*").length ≤ 61 := by
      rw [split_len sepS]
      omega
    unfold far at k
    generalize upd H L (.lst ((Txt.split x "*").map V.str)) = H1 at S1 hL1
    generalize Txt.split x "*" = ws at *
    refine ⟨L, rfl, ⟨_, SqL.of hL1⟩, fun D nD => ?_⟩
    refine lc_it (walk_list (K := K) (a := L) (xs := ws.map V.str)) (fun i H2 => H2 D = some (.lst (((ws.take i).map farW).map V.bl)) ∧ Same H1 H2)
      ⟨upd_same, fresh_upd nD⟩ (fun i H2 _ h => SqL.of (h.2 _ _ hL1)) ?_ ?_
    · rintro i v H9 H2 hi ⟨hD2, S2⟩ ⟨rfl, hv⟩
      rw [List.length_map] at hi
      have ev : v = .str ws[i] := by
        rw [List.getElem?_map, List.getElem?_eq_getElem hi] at hv
        exact (Option.some.inj hv).symm
      subst ev
      have hpl := hwl _ (List.getElem_mem hi)
      have hst : (ws.take (i + 1)).map farW = (ws.take i).map farW ++ [farW ws[i]] := by
        rw [List.take_add_one, List.getElem?_eq_getElem hi, List.map_append]
        rfl
      generalize ws[i] = p at *
      refine ⟨rfl, ?_⟩
      unfold tYes
      dsimp only
      rw [if_pos rfl]
      refine ⟨_, rfl, p, rfl, fun D2 nD2 => ?_⟩
      refine lc_it walk_str (fun j H3 => H3 D2 = some (.lst ((((tl p).take j).filter isDg).map fun c => V.str (one c))) ∧ Same H2 H3)
        ⟨upd_same, fresh_upd nD2⟩ (fun _ _ _ _ => trivial) ?_ ?_
      · rintro j v H9 H3 hj ⟨hD3, S3⟩ ⟨rfl, c, hc, rfl⟩
        have hc2 : (tl p)[j]? = some c := by rw [Array.getElem?_toList]; exact hc
        have et : (tl p).take (j + 1) = (tl p).take j ++ [c] := by
          rw [List.take_add_one, hc2]
          rfl
        refine ⟨rfl, ?_⟩
        refine ⟨_, rfl, c, dgT, rfl, rfl, _, rfl, ?_⟩
        rw [in_dg]
        cases hd : isDg c with
        | false =>
          refine iteF ⟨?_, S3⟩
          rw [et, List.filter_append, List.filter_cons, hd]
          simpa using hD3
        | true =>
          refine iteT' rfl ?_
          refine ⟨_, rfl, _, hD3, ?_, ?_, fun b o e => ?_⟩
          · rw [List.length_map, sizeLine_eq]
            have h1 := List.length_filter_le isDg ((tl p).take j)
            rw [List.length_take, ← len_tl] at h1
            have := Nat.min_le_right j p.length
            omega
          · rw [upd_same, et, List.filter_append, List.filter_cons, hd, List.map_append]
            rfl
          · rw [upd_ne (ne_of_none e nD2)]
            exact S3 b o e
      · rintro H3 ⟨hD3, S3⟩
        have el : (tl p).take p.cps.size = tl p := List.take_of_length_le (by rw [← len_tl]; exact Nat.le_refl _)
        rw [el] at hD3
        refine ⟨D2, _, rfl, .inl (SqL.of hD3), _, _, rfl, rfl, ?_⟩
        rw [List.length_map]
        have hD23 := S3 _ _ hD2
        refine ⟨_, hD23, by rw [List.length_map, List.length_map, List.length_take, sizeLine_eq]; omega, ?_, fun b o e => ?_⟩
        · rw [upd_same, hst, List.map_append]
          show _ = some (HO.lst (_ ++ [V.bl (farW p)]))
          have e : decide ((30 : Int) < (((tl p).filter isDg).length : Nat)) = farW p := by
            unfold farW nDg
            exact decide_eq_decide.mpr (by omega)
          rw [← e]
        · rw [upd_ne (ne_of_none e nD)]
          exact S3 _ _ (S2 b o e)
    · rintro H2 ⟨hD2, S2⟩
      rw [List.length_map, List.take_length] at hD2
      exact ⟨D, _, rfl, SqL.of hD2, k H2 (S1.trans S2)⟩
end
end K13
set_option maxHeartbeats 8000000
namespace K13
open PySem PySem.Spec PyProof.Rows L2

theorem abc_small : ∀ c ∈ abc.cps.toList, c < 256 := by decide +kernel
/-! ### what is told of data -/
theorem from_len : ∀ (ts : List Str) (k : Nat) (acc : Str) (B : Nat), (∀ t ∈ ts, t.length ≤ B) →
    (textFrom k acc ts).length ≤ acc.length + ts.length * (B + 2)
  | [], k, acc, B, _ => by
    show acc.length ≤ _
    omega
  | t :: r, k, acc, B, h => by
    have h1 := from_len r (k + 1) (acc ++ (if k > 0 then ", " else "" : String) ++ t) B fun u hu => h u (List.mem_cons_of_mem _ hu)
    have h2 := h t (List.mem_cons_self ..)
    have e : (acc ++ (if k > 0 then ", " else "" : String) ++ t).length = acc.length + (if k > 0 then 2 else 0) + t.length := by
      rw [strLen_append, strLen_append]
      split <;> rfl
    rw [e] at h1
    show (textFrom (k + 1) _ r).length ≤ _
    have h3 : (if k > 0 then 2 else 0 : Nat) ≤ 2 := by split <;> omega
    have h4 : (r.length + 1) * (B + 2) = r.length * (B + 2) + (B + 2) := Nat.succ_mul _ _
    rw [List.length_cons, h4]
    omega
theorem shownAll_map : ∀ xs : List PyData, PyData.shownAll xs = xs.map PyData.shown
  | [] => by simp only [PyData.shownAll, List.map_nil]
  | x :: xs => by simp only [PyData.shownAll, List.map_cons, shownAll_map xs]
theorem shown_list {xs : List PyData} {B : Nat} (h : ∀ x ∈ xs, x.shown.length ≤ B) : (PyData.list xs).shown.length ≤ 2 + xs.length * (B + 2) := by
  have e : (PyData.list xs).shown = textFrom 0 "[" (xs.map PyData.shown) ++ "]" := by
    simp only [PyData.shown, shownAll_map]
    rfl
  rw [e, strLen_append]
  have h1 := from_len (xs.map PyData.shown) 0 "[" B fun t ht => by
    obtain ⟨x, hx, rfl⟩ := List.mem_map.mp ht
    exact h x hx
  rw [List.length_map] at h1
  have e1 : (("[" : String) : Str).length = 1 := rfl
  have e2 : (("]" : String) : Str).length = 1 := rfl
  rw [e1] at h1
  rw [e2]
  omega
theorem showable_all : ∀ {xs : List PyData}, (∀ x ∈ xs, x.showable = true) → PyData.showableAll xs = true
  | [], _ => by simp only [PyData.showableAll]
  | x :: xs, h => by
    simp only [PyData.showableAll, h x (List.mem_cons_self ..), showable_all fun y hy => h y (List.mem_cons_of_mem _ hy), Bool.and_self]
theorem depth_all : ∀ {xs : List PyData} {n : Nat}, (∀ x ∈ xs, x.depth ≤ n) → PyData.depthAll xs ≤ n
  | [], n, _ => by
    simp only [PyData.depthAll]
    exact Nat.zero_le _
  | x :: xs, n, h => by
    simp only [PyData.depthAll]
    exact Nat.max_le.mpr ⟨h x (List.mem_cons_self ..), depth_all fun y hy => h y (List.mem_cons_of_mem _ hy)⟩
/-- small data -/
structure Sm (d : PyData) (B n : Nat) : Prop where
  sh : d.showable = true
  dp : d.depth ≤ n
  ln : d.shown.length ≤ B
theorem Sm.list {xs : List PyData} {B n : Nat} (h : ∀ x ∈ xs, Sm x B n) : Sm (.list xs) (2 + xs.length * (B + 2)) (n + 1) := by
  refine ⟨?_, ?_, shown_list fun x hx => (h x hx).ln⟩
  · simp only [PyData.showable]
    exact showable_all fun x hx => (h x hx).sh
  · simp only [PyData.depth]
    exact Nat.succ_le_succ (depth_all fun x hx => (h x hx).dp)
theorem Sm.mono {d : PyData} {B C n m : Nat} (h : Sm d B n) (h1 : B ≤ C) (h2 : n ≤ m) : Sm d C m :=
  ⟨h.sh, Nat.le_trans h.dp h2, Nat.le_trans h.ln h1⟩

theorem shownKv_len : ∀ {kvs : List (PyData × PyData)} {B : Nat}, (∀ p ∈ kvs, p.1.shown.length ≤ B ∧ p.2.shown.length ≤ B) → ∀ t ∈ PyData.shownKv kvs, t.length ≤ 2 * B + 2
  | [], _, _, t, ht => by
    simp only [PyData.shownKv] at ht
    cases ht
  | (k, v) :: r, B, h, t, ht => by
    simp only [PyData.shownKv] at ht
    rcases List.mem_cons.mp ht with rfl | ht
    · obtain ⟨h1, h2⟩ := h _ (List.mem_cons_self ..)
      dsimp only at h1 h2
      rw [strLen_append, strLen_append]
      have e : ((": " : String) : Str).length = 2 := rfl
      rw [e]
      omega
    · exact shownKv_len (fun p hp => h p (List.mem_cons_of_mem _ hp)) t ht
theorem shownKv_count : ∀ kvs : List (PyData × PyData), (PyData.shownKv kvs).length = kvs.length
  | [] => by simp only [PyData.shownKv, List.length_nil]
  | (k, v) :: r => by simp only [PyData.shownKv, List.length_cons, shownKv_count r]
theorem shown_dict {kvs : List (PyData × PyData)} {B : Nat} (h : ∀ p ∈ kvs, p.1.shown.length ≤ B ∧ p.2.shown.length ≤ B) : (PyData.dict kvs).shown.length ≤ 2 + kvs.length * (2 * B + 4) := by
  have e : (PyData.dict kvs).shown = ("{" : Str) ++ Txt.join ", " (PyData.shownKv kvs) ++ "}" := by
    simp only [PyData.shown]
    rw [TL.join_eq]
    rfl
  rw [e, strLen_append, strLen_append]
  have z := len_join ", " (PyData.shownKv kvs) (shownKv_len h)
  rw [shownKv_count] at z
  have e1 : ((", " : String) : Str).length = 2 := rfl
  have e2 : (("{" : String) : Str).length = 1 := rfl
  have e3 : (("}" : String) : Str).length = 1 := rfl
  rw [e1] at z
  rw [e2, e3]
  have e4 : kvs.length * (2 * B + 4) = kvs.length * (2 * B + 2) + kvs.length * 2 := by rw [← Nat.mul_add]
  omega
theorem showable_kv : ∀ {kvs : List (PyData × PyData)}, (∀ p ∈ kvs, p.1.showable = true ∧ p.2.showable = true) → PyData.showableKv kvs = true
  | [], _ => by simp only [PyData.showableKv]
  | (k, v) :: r, h => by
    obtain ⟨h1, h2⟩ := h _ (List.mem_cons_self ..)
    dsimp only at h1 h2
    simp only [PyData.showableKv, h1, h2, showable_kv fun p hp => h p (List.mem_cons_of_mem _ hp), Bool.and_self]
theorem depth_kv : ∀ {kvs : List (PyData × PyData)} {n : Nat}, (∀ p ∈ kvs, p.1.depth ≤ n ∧ p.2.depth ≤ n) → PyData.depthKv kvs ≤ n
  | [], n, _ => by
    simp only [PyData.depthKv]
    exact Nat.zero_le _
  | (k, v) :: r, n, h => by
    obtain ⟨h1, h2⟩ := h _ (List.mem_cons_self ..)
    simp only [PyData.depthKv]
    exact Nat.max_le.mpr ⟨Nat.max_le.mpr ⟨h1, h2⟩, depth_kv fun p hp => h p (List.mem_cons_of_mem _ hp)⟩
theorem Sm.dict {kvs : List (PyData × PyData)} {B n : Nat} (h : ∀ p ∈ kvs, Sm p.1 B n ∧ Sm p.2 B n) : Sm (.dict kvs) (2 + kvs.length * (2 * B + 4)) (n + 1) := by
  refine ⟨?_, ?_, shown_dict fun p hp => ⟨(h p hp).1.ln, (h p hp).2.ln⟩⟩
  · simp only [PyData.showable]
    exact showable_kv fun p hp => ⟨(h p hp).1.sh, (h p hp).2.sh⟩
  · simp only [PyData.depth]
    exact Nat.succ_le_succ (depth_kv fun p hp => ⟨(h p hp).1.dp, (h p hp).2.dp⟩)
theorem Sm.nm {n : Str} (h : isNm n = true) : Sm (.str n) 82 0 := by
  refine ⟨by simp only [PyData.showable], by simp only [PyData.depth]; exact Nat.le_refl _, ?_⟩
  have h8 := nm_len h
  unfold isNm at h
  rw [Bool.and_eq_true, Bool.and_eq_true, decide_eq_true_eq, decide_eq_true_eq, List.all_eq_true] at h
  obtain ⟨_, h2, h3⟩ := h
  simp only [PyData.shown]
  have z := StrLaws.reprText_len n fun c hc => Nat.lt_trans (abc_small c (of_decide_eq_true (h3 c hc))) (by decide)
  omega
theorem Sm.int {v : Int} (h : Big v) : Sm (.int v) 61 0 := by
  refine ⟨?_, by simp only [PyData.depth]; exact Nat.le_refl _, ?_⟩
  · simp only [PyData.showable]
    exact decide_eq_true (log_of h)
  · simp only [PyData.shown]
    exact dec_len h
theorem Sm.bl (b : Bool) : Sm (.bool b) 10 0 := by
  cases b
  · exact ⟨by simp only [PyData.showable], by simp only [PyData.depth]; exact Nat.le_refl _, by decide +kernel⟩
  · exact ⟨by simp only [PyData.showable], by simp only [PyData.depth]; exact Nat.le_refl _, by decide +kernel⟩
/-- fit for what is told -/
structure Tel (es : Es) : Prop where
  nm : ∀ q ∈ es, isNm q.1 = true
  bg : ∀ q ∈ es, Big q.2
  ln : es.length < 64
def dN (es : Es) : PyData := .list (es.map fun q => .str q.1)
def dV (es : Es) : PyData := .list (es.map fun q => .int q.2)
def dX (es : Es) : PyData := .dict (((kv es).map fun p => kD p.1).zip (es.map fun q => .int q.2))
theorem dN_sm {es : Es} (h : Tel es) : Sm (dN es) 20000 1 := by
  refine (Sm.list (B := 82) (n := 0) fun x hx => ?_).mono (by rw [List.length_map]; have := h.ln; omega) (Nat.le_refl _)
  obtain ⟨q, hq, rfl⟩ := List.mem_map.mp hx
  exact Sm.nm (h.nm q hq)
theorem dV_sm {es : Es} (h : Tel es) : Sm (dV es) 20000 1 := by
  refine (Sm.list (B := 82) (n := 0) fun x hx => ?_).mono (by rw [List.length_map]; have := h.ln; omega) (Nat.le_refl _)
  obtain ⟨q, hq, rfl⟩ := List.mem_map.mp hx
  exact (Sm.int (h.bg q hq)).mono (by omega) (Nat.le_refl _)
theorem dX_sm {es : Es} (h : Tel es) : Sm (dX es) 20000 1 := by
  refine (Sm.dict (B := 82) (n := 0) fun p hp => ?_).mono (by
    rw [List.length_zip, List.length_map, List.length_map, kv_len]
    have := h.ln
    omega) (Nat.le_refl _)
  obtain ⟨h1, h2⟩ := List.of_mem_zip (a := p.1) (b := p.2) hp
  obtain ⟨k, hk, e1⟩ := List.mem_map.mp h1
  obtain ⟨q, hq, e2⟩ := List.mem_map.mp h2
  unfold kv at hk
  obtain ⟨r, hr, e3⟩ := List.mem_map.mp hk
  rw [← e1, ← e2, ← e3]
  exact ⟨Sm.nm (h.nm r hr), (Sm.int (h.bg q hq)).mono (by omega) (Nat.le_refl _)⟩
theorem dw_strs {H : Hp} : ∀ es : Es, DwAll H (es.map fun q => V.str q.1) (es.map fun q => PyData.str q.1)
  | [] => .nil
  | q :: r => .cons (.str q.1) (dw_strs r)
theorem dw_ints {H : Hp} : ∀ es : Es, DwAll H (es.map fun q => V.int q.2) (es.map fun q => PyData.int q.2)
  | [] => .nil
  | q :: r => .cons (.int q.2) (dw_ints r)
theorem kv_vals (es : Es) : (kv es).map (·.2) = es.map fun q => V.int q.2 := by
  unfold kv
  rw [List.map_map]
  rfl
theorem dw_dict {H : Hp} {a : Addr} {es : Es} (e : H a = some (.dK (kv es))) : Dw H (.ref a) (dX es) := .dct e (by rw [kv_vals]; exact dw_ints es)


/-! ### _law_is_read -/
def dSz (es : Es) : PyData := .list [.str "size", dX es]
def dTx (i : Int) : PyData := .list [.str "text", .int i, .bool true]
theorem Sm.st {x : Str} (h : (reprText x).length ≤ 100) : Sm (.str x) 100 0 := ⟨by simp only [PyData.showable], by simp only [PyData.depth]; exact Nat.le_refl _, by simp only [PyData.shown]; exact h⟩
theorem dSz_sm {es : Es} (h : Tel es) : Sm (dSz es) 70000 2 := by
  refine (Sm.list (B := 20000) (n := 1) fun x hx => ?_).mono (by simp) (Nat.le_refl _)
  rcases List.mem_cons.mp hx with rfl | hx
  · exact (Sm.st (by decide +kernel)).mono (by omega) (by omega)
  rcases List.mem_cons.mp hx with rfl | hx
  · exact dX_sm h
  cases hx
theorem dTx_sm {i : Int} (h : Big i) : Sm (dTx i) 70000 2 := by
  refine (Sm.list (B := 20000) (n := 1) fun x hx => ?_).mono (by simp) (Nat.le_refl _)
  rcases List.mem_cons.mp hx with rfl | hx
  · exact (Sm.st (by decide +kernel)).mono (by omega) (by omega)
  rcases List.mem_cons.mp hx with rfl | hx
  · exact (Sm.int h).mono (by omega) (by omega)
  rcases List.mem_cons.mp hx with rfl | hx
  · exact (Sm.bl true).mono (by omega) (by omega)
  cases hx
theorem dw_sz {H : Hp} {L D : Addr} {es : Es} (h1 : H L = some (.lst [.str "size", .ref D])) (h2 : H D = some (.dK (kv es))) : Dw H (.ref L) (dSz es) :=
  .lst h1 (.cons (.str _) (.cons (dw_dict h2) .nil))
theorem dw_tx {H : Hp} {L : Addr} {i : Int} (h1 : H L = some (lMet i)) : Dw H (.ref L) (dTx i) := .lst h1 (.cons (.str _) (.cons (.int i) (.cons (.bl true) .nil)))
abbrev sIsR : Stmt := top 40
def spIsR : Sp := fun vs H Q _ => ∃ x : Str, vs = [.str x] ∧ x.length ≤ 100000 ∧ (TL.tl x).count 42 ≤ 60 ∧ ∀ H', Same H H' → Q (.bl true) H'
section
variable {P : Program} {w : World} {K : PySem.W.Frag} {mg : Str → Option Value} {base : Heap}
theorem scIsR : FnScope ["_law_text_here", "_law_model"] ["_law_text_here"] (defScope sIsR) :=
  ⟨rfl, rfl, rfl, by decide +kernel, rfl, by decide +kernel, by decide +kernel⟩
theorem ok_isR {f fF fM fR : Addr} {fd fdF fdM fdR : FuncData} (F : Fun K "_law_is_read" "_law_is_read" sIsR f fd) (T : Nb mg) (hsys : (K.lookup sysModules).isSome = true)
    (GF : FnOk P w K mg base CX0 1 fF fdF ["_law_text_here"] spFar) (kF : PySem.W.keepIn K (.ref fF) = true) (bF : Binds K fdF ["_law_text_here"] []) (gF : mg "_law_is_far" = some (.ref fF))
    (GR : FnOk P w K mg base CX0 2 fR fdR ["_law_text_here"] spReads) (kR : PySem.W.keepIn K (.ref fR) = true) (bR : Binds K fdR ["_law_text_here"] []) (gR : mg "_law_reads" = some (.ref fR))
    (GM : FnOk P w K mg base CX0 7 fM fdM ["_law_told"] (spMet K)) (kM : PySem.W.keepIn K (.ref fM) = true) (bM : Binds K fdM ["_law_told"] []) (gM : mg "_law_met" = some (.ref fM)) :
    FnG P w K mg base 8 f fd ["_law_text_here"] spIsR := by
  have GF7 := GF.mono (k := 7) (by decide)
  have GR7 := GR.mono (k := 7) (by decide)
  refine F.okG scIsR (fun vs H Q h => ?_) (fun cdv A outer s H vs Q hgu hr h => ?_)
  · obtain ⟨x, rfl, _⟩ := h
    rfl
  · obtain ⟨x, rfl, hx, hc, k⟩ := h
    have hgu' : (A.deeper (envOfC "_law_is_read" (defScope sIsR) s.heap.objs.size f cdv)).guards = some [] := hgu
    refine ⟨_, pss_cons (ps_if (pt_val (pe_call GF7 hr rfl gF kF bF .nil pass0 (pa_cons (pv 0) pa_nil))) (pss_one (ps_ret pe_bl)) pss_nil)
      (pss_cons (ps_set (i := 1) scIsR.nd rfl (.inl rfl) (pe_call GR7 hr rfl gR kR bR .nil pass0 (pa_cons (pv 0) pa_nil)))
      (pss_one (ps_ret (pe_cmpR op_eq
        (pe_callB (call_reprD hgu' hr.units hsys) (by rfl) T.repr (by decide +kernel) (pa_cons (pe_call GM hr rfl gM kM bM .nil pass0 (pa_cons (pv 0) pa_nil)) pa_nil))
        (pe_callB (call_reprD hgu' hr.units hsys) (by rfl) T.repr (by decide +kernel) (pa_cons (pe_ifExp (pt_cmpR op_notN (pv 1) pe_non (nomark _)) (pe_lst (pa_cons pe_str (pa_cons (pv 1) pa_nil)))
          (pe_lst (pa_cons pe_str (pa_cons pe_int (pa_cons pe_bl pa_nil))))) pa_nil)) (nomark _))))), ?_⟩
    refine ⟨_, rfl, x, rfl, hx, hc, fun H1 S1 => ⟨_, rfl, ?_⟩⟩
    cases hf : far x with
    | true => exact iteT' rfl (k H1 S1)
    | false =>
      refine iteF ?_
      have hS : Sht x := ⟨hx, hc, fun p hp => by
        have z : farW p = false := by
          cases e : farW p with
          | false => rfl
          | true =>
            have : far x = true := List.any_eq_true.mpr ⟨true, by rw [← e]; exact List.mem_map.mpr ⟨p, hp, rfl⟩, rfl⟩
            rw [hf] at this
            cases this
        have := of_decide_eq_false z
        omega⟩
      refine ⟨_, rfl, x, rfl, hS, fun es hv H2 D S2 nD hD => ?_, fun hno H2 S2 => ?_⟩
      · have hR := hv.red hS
        have hTel : Tel es := ⟨hR.nm, hR.bg, by have := hR.ln; omega⟩
        have sm := dSz_sm hTel
        refine ⟨_, rfl, .str x, rfl, .inl ⟨x, rfl, hS, fun fs hv' H3 L D' S3 hL hD' => ?_, fun hno _ _ _ _ => (hno es hv).elim⟩⟩
        have efs := hv'.uniq hv
        subst efs
        refine ⟨L, dSz fs, rfl, dw_sz hL hD', sm.sh, Nat.le_trans sm.dp (by decide), Nat.le_trans sm.ln (by rw [sizeLine_eq]; decide), ?_⟩
        refine ⟨_, rfl, rfl, _, rfl, iteT' rfl ?_⟩
        refine ⟨_, rfl, by rw [sizeLine_eq]; show 2 ≤ 16777216; decide, fun L2 nL2 => ?_⟩
        have S4 := fresh_upd (o := .lst [.str "size", .ref D]) nL2
        refine ⟨L2, dSz fs, rfl, dw_sz upd_same (S4 _ _ (S3 _ _ hD)), sm.sh, Nat.le_trans sm.dp (by decide), Nat.le_trans sm.ln (by rw [sizeLine_eq]; decide), ?_⟩
        refine ⟨rfl, ?_⟩
        rw [decide_eq_true rfl]
        exact k _ (S1.trans (S2.trans (S3.trans S4)))
      · have sm := dTx_sm big_one
        refine ⟨_, rfl, .str x, rfl, .inl ⟨x, rfl, hS, fun fs hv' _ _ _ _ _ _ => (hno fs hv').elim, fun _ H3 L S3 hL => ?_⟩⟩
        refine ⟨L, dTx 1, rfl, dw_tx hL, sm.sh, Nat.le_trans sm.dp (by decide), Nat.le_trans sm.ln (by rw [sizeLine_eq]; decide), ?_⟩
        refine ⟨_, rfl, rfl, _, rfl, iteF ?_⟩
        refine ⟨by rw [sizeLine_eq]; show 3 ≤ 16777216; decide, fun L2 nL2 => ?_⟩
        have S4 := fresh_upd (o := lMet 1) nL2
        refine ⟨L2, dTx 1, rfl, dw_tx upd_same, sm.sh, Nat.le_trans sm.dp (by decide), Nat.le_trans sm.ln (by rw [sizeLine_eq]; decide), ?_⟩
        refine ⟨rfl, ?_⟩
        rw [decide_eq_true rfl]
        exact k _ (S1.trans (S2.trans (S3.trans S4)))
end
end K13
set_option maxHeartbeats 8000000
namespace K13
open PySem PySem.Spec PyProof.Rows L2 TL

/-! ### _law_spoilt_word -/
theorem cutS_sub (z : Str) (lo hi : Option Int) : (tl (cutS z lo hi)).Sublist (tl z) := by
  unfold cutS
  rw [tl_mk]
  exact (List.take_sublist _ _).trans (List.drop_sublist _ _)
def cStar (x : Str) : Nat := (tl x).count 42
theorem cStar_app (x y : Str) : cStar (x ++ y) = cStar x + cStar y := by
  unfold cStar
  rw [tl_append, List.count_append]
theorem len_app (x y : Str) : (x ++ y).length = x.length + y.length := by
  rw [len_tl, tl_append, List.length_append, ← len_tl, ← len_tl]
theorem cStar_sub {x y : Str} (h : (tl x).Sublist (tl y)) : cStar x ≤ cStar y := h.count_le 42
theorem cStar_word {x p : Str} (hp : p ∈ Txt.split x "*") : cStar p = 0 := by
  have z : tl p ∈ spl [42] 0 [] (tl x) := by
    rw [← split_tl sepS x]
    exact List.mem_map.mpr ⟨p, hp, rfl⟩
  have go : ∀ (l acc : List Nat), acc.count 42 = 0 → ∀ p ∈ spl [42] 0 acc l, p.count 42 = 0 := fun l => by
    induction l with
    | nil =>
      intro acc ha p hp
      rw [spl_nil] at hp
      rw [List.mem_singleton.mp hp]
      exact ha
    | cons c r ih =>
      intro acc ha p hp
      by_cases h : c = 42
      · subst h
        rw [spl_hit (by rw [pre1]; simp)] at hp
        have hp : p ∈ acc :: spl [42] 0 [] r := hp
        rcases List.mem_cons.mp hp with e | hp
        · rw [e]
          exact ha
        · exact ih [] rfl p hp
      · rw [spl_miss (by rw [pre1]; simpa using h)] at hp
        refine ih (acc ++ [c]) ?_ p hp
        rw [List.count_append, ha, List.count_cons_of_ne (by simpa using h)]
        rfl
  exact go _ [] rfl _ z
/-- what a choice among texts gives -/
theorem of_strs {L : List Str} {v : V} (h : v ∈ L.map V.str) : ∃ y ∈ L, v = .str y := by
  obtain ⟨y, hy, rfl⟩ := List.mem_map.mp h
  exact ⟨y, hy, rfl⟩
def Sho (y : Str) : Prop := y.length ≤ 10 ∧ cStar y ≤ 1
instance (y : Str) : Decidable (Sho y) := inferInstanceAs (Decidable (_ ∧ _))
def more : List Str := ["^1", "^0", "^01", "^-0", "^+2", "^2 ", "^", "^^2", "^b", "^2^3", "A", "1", " ", "abcdefgh", "^-2", "^3"]
def signs : List Str := [" ", "*", "^", "-", "0", "Z", "\n", "_", "."]
def odds : List Str := ["", "1", "a", "2", "zz^-1", "0", "a^1", "b^0", "-a", "a b"]
theorem more_ok : ∀ y ∈ more, Sho y := by decide +kernel
theorem signs_ok : ∀ y ∈ signs, Sho y := by decide +kernel
theorem odds_ok : ∀ y ∈ odds, Sho y := by decide +kernel
abbrev sSpw : Stmt := top 41
def spSpw : Sp := fun vs H Q _ => ∃ (r : Addr) (x : Str), vs = [.ref r, .str x] ∧ Rg H r ∧ x.length ≤ 100000 ∧ cStar x = 0 ∧
  ∀ (H' : Hp) (y : Str), But r H H' → Rg H' r → y.length ≤ 2 * x.length + 20 → cStar y ≤ 1 → Q (.str y) H'
def NSw : List Str := ["_law_rng_here", "_law_word", "_law_more", "_law_way", "_law_at"]
section
variable {P : Program} {w : World} {K : PySem.W.Frag} {mg : Str → Option Value} {base : Heap}
theorem scSpw : FnScope NSw ["_law_rng_here", "_law_word"] (defScope sSpw) :=
  ⟨rfl, rfl, rfl, by decide +kernel, rfl, by decide +kernel, by decide +kernel⟩
theorem ok_spw {f fC fD : Addr} {fd fdC fdD : FuncData} (F : Fun K "_law_spoilt_word" "_law_spoilt_word" sSpw f fd) (T : Nb mg)
    (GC : FnOk P w K mg base CX0 2 fC fdC ["_law_rng_here", "_law_some"] spChoice) (kC : PySem.W.keepIn K (.ref fC) = true) (bC : Binds K fdC ["_law_rng_here", "_law_some"] []) (gC : mg "_law_choice" = some (.ref fC))
    (GD : FnOk P w K mg base CX0 1 fD fdD ["_law_rng_here", "_law_many"] spDraw) (kD : PySem.W.keepIn K (.ref fD) = true) (bD : Binds K fdD ["_law_rng_here", "_law_many"] []) (gD : mg "_law_draw" = some (.ref fD)) :
    FnOk P w K mg base CX0 3 f fd ["_law_rng_here", "_law_word"] spSpw := by
  have GD2 := GD.mono (k := 2) (by decide)
  refine F.ok scSpw (fun vs H Q E h => ?_) (fun cdv A outer s H vs Q E hr h => ?_)
  · obtain ⟨r, x, rfl, _⟩ := h
    rfl
  · obtain ⟨r, x, rfl, hR, hx, hc, k⟩ := h
    refine ⟨_, pss_cons (ps_set (i := 2) scSpw.nd rfl (.inl rfl) (pe_lst (pa_cons pe_str (pa_cons pe_str (pa_cons pe_str (pa_cons pe_str (pa_cons pe_str (pa_cons pe_str (pa_cons pe_str (pa_cons pe_str (pa_cons pe_str (pa_cons pe_str (pa_cons pe_str (pa_cons pe_str (pa_cons pe_str (pa_cons pe_str (pa_cons pe_str (pa_cons pe_str pa_nil))))))))))))))))))
      (pss_cons (ps_par (i := 3) (j := 4) rfl scSpw.nd rfl rfl (by decide) rfl rfl (pa_cons (pe_call GD2 hr rfl gD kD bD .nil pass0 (pa_cons (pv 0) (pa_cons pe_int pa_nil)))
          (pa_cons (pe_call GD2 hr rfl gD kD bD .nil pass0 (pa_cons (pv 0) (pa_cons (pe_callB (call_max2 rfl) (by rfl) T.max (by decide +kernel) (pa_cons pe_int (pa_cons (pe_callB call_len_str (by rfl) T.len PySem.boot_len (pa_cons (pv 1) pa_nil)) pa_nil))) pa_nil))) pa_nil)) rfl)
      (pss_cons (ps_if (pt_cmpR op_eq (pv 3) pe_int (nomark _)) (pss_one (ps_ret (pe_op op_add_str (pv 1) (pe_call GC hr rfl gC kC bC .nil pass0 (pa_cons (pv 0) (pa_cons (pv 2) pa_nil)))))) pss_nil)
      (pss_cons (ps_if (pt_cmpR op_eq (pv 3) pe_int (nomark _)) (pss_one (ps_ret (pe_op op_add_str (pe_slice sl_str (pv 1) po_none (po_some (pv 4))) (pe_slice sl_str (pv 1) (po_some (pe_op op_add (pv 4) pe_int)) po_none)))) pss_nil)
      (pss_cons (ps_if (pt_cmpR op_eq (pv 3) pe_int (nomark _)) (pss_one (ps_ret (pe_op op_add_str (pe_op op_add_str (pe_slice sl_str (pv 1) po_none (po_some (pv 4)))
          (pe_call GC hr rfl gC kC bC .nil pass0 (pa_cons (pv 0) (pa_cons (pe_lst (pa_cons pe_str (pa_cons pe_str (pa_cons pe_str (pa_cons pe_str (pa_cons pe_str (pa_cons pe_str (pa_cons pe_str (pa_cons pe_str (pa_cons pe_str pa_nil)))))))))) pa_nil)))) (pe_slice sl_str (pv 1) (po_some (pv 4)) po_none)))) pss_nil)
      (pss_one (ps_ret (pe_call GC hr rfl gC kC bC .nil pass0 (pa_cons (pv 0) (pa_cons (pe_lst (pa_cons pe_str (pa_cons pe_str (pa_cons pe_str (pa_cons pe_str (pa_cons pe_str (pa_cons pe_str (pa_cons pe_str (pa_cons pe_str (pa_cons pe_str (pa_cons pe_str pa_nil))))))))))) pa_nil))))))))), ?_⟩
    refine ⟨by rw [sizeLine_eq]; show 16 ≤ 16777216; decide, fun m nm => ?_⟩
    have S0 := fresh_upd (o := .lst (more.map V.str)) nm
    have em : upd H m (.lst (more.map V.str)) m = some (.lst (more.map V.str)) := upd_same
    have mr := (hR.ne nm).symm
    refine ⟨_, rfl, r, 4, rfl, hR.same S0, by decide, by decide, fun H1 a a0 a1 hR1 B1 => ?_⟩
    refine ⟨_, rfl, _, rfl, x, rfl, by rw [sizeLine_eq]; omega, _, _, rfl, ?_⟩
    have hxl : x.length < 1000000 := by omega
    refine ⟨r, _, rfl, hR1, by split <;> omega, by split <;> omega, fun H2 b b0 b1 hR2 B2 => ?_⟩
    clear b1
    refine ⟨_, _, rfl, ?_⟩
    have B02 : But r H H2 := ((But.of S0).trans B1).trans B2
    have hm2 := B2 _ _ mr (B1 _ _ mr em)
    have hsz : x.length ≤ sizeLine := by rw [sizeLine_eq]; omega
    have cl : ∀ lo hi, (cutS x lo hi).length ≤ x.length := fun lo hi => cutS_length x lo hi
    have cc : ∀ lo hi, cStar (cutS x lo hi) = 0 := fun lo hi => by
      have := cStar_sub (cutS_sub x lo hi)
      omega
    refine ⟨_, rfl, rfl, _, rfl, ?_⟩
    refine ite2 (fun _ => ?_) fun _ => ?_
    · refine ⟨_, rfl, _, rfl, _, rfl, r, m, more.map V.str, rfl, hR2, mr, hm2, by decide, by decide, fun H3 v hv hR3 B3 => ?_⟩
      obtain ⟨y, hy, rfl⟩ := of_strs hv
      obtain ⟨h1, h2⟩ := more_ok y hy
      refine ⟨_, _, rfl, rfl, by rw [sizeLine_eq]; omega, ?_⟩
      exact k H3 _ (B02.trans B3) hR3 (by rw [len_app]; omega) (by rw [cStar_app]; omega)
    refine ⟨_, rfl, rfl, _, rfl, ?_⟩
    refine ite2 (fun _ => ?_) fun _ => ?_
    · refine ⟨_, rfl, _, rfl, b, rfl, x, rfl, hsz, _, rfl, _, rfl, _, _, rfl, rfl, _, rfl, x, rfl, hsz, _, _, rfl, rfl, ?_, ?_⟩
      · have z1 := cl none (some b)
        have z2 := cl (some (b + 1)) none
        rw [sizeLine_eq]
        omega
      · have z1 := cl none (some b)
        have z2 := cl (some (b + 1)) none
        exact k H2 _ B02 hR2 (by rw [len_app]; omega) (by rw [cStar_app, cc, cc]; omega)
    refine ⟨_, rfl, rfl, _, rfl, ?_⟩
    refine ite2 (fun _ => ?_) fun _ => ?_
    · refine ⟨_, rfl, _, rfl, b, rfl, x, rfl, hsz, ?_⟩
      refine ⟨_, rfl, by rw [sizeLine_eq]; show 9 ≤ 16777216; decide, fun t nt => ?_⟩
      have S3 := fresh_upd (o := .lst (signs.map V.str)) nt
      refine ⟨r, t, signs.map V.str, rfl, hR2.same S3, (hR2.ne nt).symm, upd_same, by decide, by decide, fun H3 v hv hR3 B3 => ?_⟩
      obtain ⟨y, hy, rfl⟩ := of_strs hv
      obtain ⟨h1, h2⟩ := signs_ok y hy
      have z1 := cl none (some b)
      have z2 := cl (some b) none
      refine ⟨_, _, rfl, rfl, by rw [sizeLine_eq]; omega, _, rfl, _, rfl, b, rfl, x, rfl, hsz, _, _, rfl, rfl, by rw [len_app, sizeLine_eq]; omega, ?_⟩
      exact k H3 _ ((B02.trans (But.of S3)).trans B3) hR3 (by rw [len_app, len_app]; omega) (by rw [cStar_app, cStar_app, cc, cc]; omega)
    refine ⟨_, rfl, by rw [sizeLine_eq]; show 10 ≤ 16777216; decide, fun t nt => ?_⟩
    have S3 := fresh_upd (o := .lst (odds.map V.str)) nt
    refine ⟨r, t, odds.map V.str, rfl, hR2.same S3, (hR2.ne nt).symm, upd_same, by decide, by decide, fun H3 v hv hR3 B3 => ?_⟩
    obtain ⟨y, hy, rfl⟩ := of_strs hv
    obtain ⟨h1, h2⟩ := odds_ok y hy
    exact k H3 _ ((B02.trans (But.of S3)).trans B3) hR3 (by omega) (by omega)
end
end K13
set_option maxHeartbeats 8000000
namespace K13
open PySem PySem.Spec PyProof.Rows L2 TL

/-! ### _law_spoilt -/
theorem spl1_sum (s : Nat) : ∀ (l acc : List Nat), ((spl [s] 0 acc l).map List.length).sum ≤ acc.length + l.length
  | [], acc => by
    rw [spl_nil]
    simp
  | c :: r, acc => by
    by_cases h : c = s
    · subst h
      rw [spl_hit (by rw [pre1]; simp)]
      have ih := spl1_sum c r []
      show acc.length + ((spl [c] 0 [] r).map List.length).sum ≤ _
      rw [List.length_cons]
      rw [List.length_nil] at ih
      omega
    · rw [spl_miss (by rw [pre1]; simpa using h)]
      have ih := spl1_sum s r (acc ++ [c])
      rw [List.length_append] at ih
      rw [List.length_cons]
      simp only [List.length_cons, List.length_nil] at ih
      omega
theorem split_sum (x : Str) : ((Txt.split x "*").map (·.length)).sum ≤ x.length := by
  have z := spl1_sum 42 (tl x) []
  rw [← split_tl sepS x, List.map_map] at z
  have e : ((Txt.split x "*").map (·.length)) = (Txt.split x "*").map (List.length ∘ tl) := List.map_congr_left fun p _ => len_tl p
  rw [e, len_tl]
  simpa using z
theorem split_cs (x : Str) : ((Txt.split x "*").map cStar).sum = 0 := by
  have go : ∀ l : List Str, (∀ p ∈ l, cStar p = 0) → (l.map cStar).sum = 0 := fun l => by
    induction l with
    | nil => intro _; rfl
    | cons p r ih =>
      intro h
      show cStar p + (r.map cStar).sum = 0
      rw [h p (List.mem_cons_self ..), ih fun q hq => h q (List.mem_cons_of_mem _ hq)]
  exact go _ fun p hp => cStar_word hp
theorem sum_set (f : Str → Nat) (v : Str) : ∀ (l : List Str) (i : Nat), ((l.set i v).map f).sum ≤ (l.map f).sum + f v
  | [], i => by
    show 0 ≤ _
    omega
  | a :: r, 0 => by
    show f v + (r.map f).sum ≤ f a + (r.map f).sum + f v
    omega
  | a :: r, i + 1 => by
    have ih := sum_set f v r i
    show f a + ((r.set i v).map f).sum ≤ f a + (r.map f).sum + f v
    omega
theorem sum_take (f : Str → Nat) (l : List Str) (i : Nat) : ((l.take i).map f).sum + ((l.drop i).map f).sum = (l.map f).sum := by
  rw [← List.sum_append, ← List.map_append, List.take_append_drop]
theorem sum_mem (f : Str → Nat) {l : List Str} {p : Str} (h : p ∈ l) : f p ≤ (l.map f).sum := by
  induction l with
  | nil => cases h
  | cons a r ih =>
    show _ ≤ f a + (r.map f).sum
    rcases List.mem_cons.mp h with e | h
    · rw [e]
      omega
    · have := ih h
      omega
theorem join_len : ∀ ys : List Str, (joinL [42] (ys.map tl)).length ≤ (ys.map (·.length)).sum + ys.length
  | [] => Nat.zero_le _
  | [y] => by
    have e : joinL [42] ([y].map tl) = tl y := by first | rfl | simp [joinL]
    rw [e, ← len_tl]
    show y.length ≤ y.length + 0 + 1
    omega
  | y :: z :: r => by
    have ih := join_len (z :: r)
    have e : joinL [42] ((y :: z :: r).map tl) = tl y ++ ([42] ++ joinL [42] ((z :: r).map tl)) := by first | rfl | simp [joinL]
    rw [e, List.length_append, List.length_append, ← len_tl]
    show y.length + (1 + _) ≤ y.length + ((z :: r).map (·.length)).sum + ((z :: r).length + 1)
    omega
theorem join_cs : ∀ ys : List Str, (joinL [42] (ys.map tl)).count 42 ≤ (ys.map cStar).sum + (ys.length - 1)
  | [] => Nat.zero_le _
  | [y] => by
    have e : joinL [42] ([y].map tl) = tl y := by first | rfl | simp [joinL]
    rw [e]
    show cStar y ≤ cStar y + 0 + 0
    omega
  | y :: z :: r => by
    have ih := join_cs (z :: r)
    have e : joinL [42] ((y :: z :: r).map tl) = tl y ++ ([42] ++ joinL [42] ((z :: r).map tl)) := by first | rfl | simp [joinL]
    rw [e, List.count_append, List.count_append]
    have e1 : ([42] : List Nat).count 42 = 1 := rfl
    rw [e1]
    show cStar y + (1 + _) ≤ cStar y + ((z :: r).map cStar).sum + ((z :: r).length + 1 - 1)
    rw [List.length_cons] at ih ⊢
    omega
theorem join_bd {ys : List Str} {A M C : Nat} (h1 : (ys.map (·.length)).sum ≤ A) (h2 : ys.length ≤ M) (h3 : (ys.map cStar).sum ≤ C) :
    (Txt.join "*" ys).length ≤ A + M ∧ cStar (Txt.join "*" ys) ≤ C + (M - 1) := by
  have e : tl (Txt.join "*" ys) = joinL [42] (ys.map tl) := by rw [join_eq, tl_join, tl_star]
  constructor
  · rw [len_tl, e]
    have := join_len ys
    omega
  · unfold cStar
    rw [e]
    have := join_cs ys
    omega
def seven (x : Str) : List Str := [x ++ ("\n" : Str), (" " : Str) ++ x, x ++ ("*" : Str), ("*" : Str) ++ x, x ++ ("*1" : Str), ("1*" : Str) ++ x, x ++ (" " : Str)]
theorem seven_ok {x y : Str} (h : y ∈ seven x) : y.length ≤ x.length + 2 ∧ cStar y ≤ cStar x + 1 := by
  unfold seven at h
  simp only [List.mem_cons, List.not_mem_nil, or_false] at h
  rcases h with rfl | rfl | rfl | rfl | rfl | rfl | rfl
  all_goals
    rw [len_app, cStar_app]
    exact ⟨by
      first
        | exact Nat.add_le_add_left (by decide) _
        | exact Nat.le_trans (Nat.le_of_eq (Nat.add_comm _ _)) (Nat.add_le_add_left (by decide) _), by
      first
        | exact Nat.add_le_add_left (by decide) _
        | exact Nat.le_trans (Nat.le_of_eq (Nat.add_comm _ _)) (Nat.add_le_add_left (by decide) _)⟩
theorem ixN_n {n j : Nat} (hj : j < n) : ixN n (j : Int) = some j := by
  unfold ixN
  rw [if_pos (by omega), if_pos (by omega), Int.toNat_natCast]
theorem cutV_to (ws : List Str) {i : Nat} (h : i ≤ ws.length) : cutV (ws.map V.str) none (some (i : Int)) = (ws.take i).map V.str := by
  unfold cutV
  rw [HT.sIx_none, HT.sIx_nat, List.length_map, Nat.min_eq_left h, List.drop_zero, Nat.sub_zero, List.map_take]
theorem cutV_from (ws : List Str) {i : Nat} (h : i ≤ ws.length) : cutV (ws.map V.str) (some (i : Int)) none = (ws.drop i).map V.str := by
  unfold cutV
  rw [HT.sIx_none, HT.sIx_nat, List.length_map, Nat.min_eq_left h, ← List.map_drop]
  refine List.take_of_length_le ?_
  rw [List.length_map, List.length_drop]
  omega
abbrev sSpo : Stmt := top 42
def spSpo : Sp := fun vs H Q _ => ∃ (r : Addr) (x : Str), vs = [.ref r, .str x] ∧ Rg H r ∧ x.length ≤ 30100 ∧ cStar x ≤ 30 ∧
  ∀ (H' : Hp) (y : Str), But r H H' → Rg H' r → y.length ≤ 3 * x.length + 100 → cStar y ≤ cStar x + 1 → Q (.str y) H'
def NSp : List Str := ["_law_rng_here", "_law_text_here", "_law_words", "_law_at", "_law_far", "_law_way"]
section
variable {P : Program} {w : World} {K : PySem.W.Frag} {mg : Str → Option Value} {base : Heap}
theorem scSpo : FnScope NSp ["_law_rng_here", "_law_text_here"] (defScope sSpo) :=
  ⟨rfl, rfl, rfl, by decide +kernel, rfl, by decide +kernel, by decide +kernel⟩
theorem ok_spo {f fC fD fW : Addr} {fd fdC fdD fdW : FuncData} (F : Fun K "_law_spoilt" "_law_spoilt" sSpo f fd) (T : Nb mg)
    (GC : FnOk P w K mg base CX0 2 fC fdC ["_law_rng_here", "_law_some"] spChoice) (kC : PySem.W.keepIn K (.ref fC) = true) (bC : Binds K fdC ["_law_rng_here", "_law_some"] []) (gC : mg "_law_choice" = some (.ref fC))
    (GD : FnOk P w K mg base CX0 1 fD fdD ["_law_rng_here", "_law_many"] spDraw) (kD : PySem.W.keepIn K (.ref fD) = true) (bD : Binds K fdD ["_law_rng_here", "_law_many"] []) (gD : mg "_law_draw" = some (.ref fD))
    (GW : FnOk P w K mg base CX0 3 fW fdW ["_law_rng_here", "_law_word"] spSpw) (kW : PySem.W.keepIn K (.ref fW) = true) (bW : Binds K fdW ["_law_rng_here", "_law_word"] []) (gW : mg "_law_spoilt_word" = some (.ref fW)) :
    FnOk P w K mg base CX0 4 f fd ["_law_rng_here", "_law_text_here"] spSpo := by
  have GD3 := GD.mono (k := 3) (by decide)
  have GC3 := GC.mono (k := 3) (by decide)
  refine F.ok scSpo (fun vs H Q E h => ?_) (fun cdv A outer s H vs Q E hr h => ?_)
  · obtain ⟨r, x, rfl, _⟩ := h
    rfl
  · obtain ⟨r, x, rfl, hR, hx, hc, k⟩ := h
    refine ⟨_, pss_cons (ps_set (i := 2) scSpo.nd rfl (.inl rfl) (pe_split (pv 1) pe_str))
      (pss_cons (ps_par3 (i := 3) (j := 4) (l := 5) rfl scSpo.nd rfl rfl rfl (by decide) (by decide) (by decide) rfl rfl rfl
          (pa_cons (pe_call GD3 hr rfl gD kD bD .nil pass0 (pa_cons (pv 0) (pa_cons (pe_callB call_len_seq (by rfl) T.len PySem.boot_len (pa_cons (pv 2) pa_nil)) pa_nil)))
          (pa_cons (pe_call GD3 hr rfl gD kD bD .nil pass0 (pa_cons (pv 0) (pa_cons (pe_callB call_len_seq (by rfl) T.len PySem.boot_len (pa_cons (pv 2) pa_nil)) pa_nil)))
          (pa_cons (pe_call GD3 hr rfl gD kD bD .nil pass0 (pa_cons (pv 0) (pa_cons pe_int pa_nil))) pa_nil))) rfl)
      (pss_cons (ps_if (pt_cmpR op_eq (pv 5) pe_int (nomark _))
          (pss_one (ps_asg (pe_tup (pa_cons (pe_ix ix_list (pv 2) (pv 4) (fun _ _ => rfl)) (pa_cons (pe_ix ix_list (pv 2) (pv 3) (fun _ _ => rfl)) pa_nil)))
            (pg_tup rfl (pgs_cons (pg_sub (pv 2) (pv 3) set_list) (pgs_cons (pg_sub (pv 2) (pv 4) set_list) pgs_nil)))))
        (pss_one (ps_if (pt_cmpR op_eq (pv 5) pe_int (nomark _))
          (pss_one (ps_set (i := 2) scSpo.nd rfl (.inl rfl) (pe_op op_cat (pe_op op_cat (pe_slice sl_list (pv 2) po_none (po_some (pv 3))) (pe_lst (pa_cons (pe_ix ix_list (pv 2) (pv 4) (fun _ _ => rfl)) pa_nil))) (pe_slice sl_list (pv 2) (po_some (pv 3)) po_none))))
        (pss_one (ps_if (pt_cmpR op_eq (pv 5) pe_int (nomark _))
          (pss_one (ps_set (i := 2) scSpo.nd rfl (.inl rfl) (pe_op op_cat (pe_slice sl_list (pv 2) po_none (po_some (pv 3))) (pe_slice sl_list (pv 2) (po_some (pe_op op_add (pv 3) pe_int)) po_none))))
        (pss_one (ps_if (pt_cmpR op_eq (pv 5) pe_int (nomark _))
          (pss_one (ps_ret (pe_call GC3 hr rfl gC kC bC .nil pass0 (pa_cons (pv 0) (pa_cons (pe_lst (pa_cons (pe_op op_add_str (pv 1) pe_str) (pa_cons (pe_op op_add_str pe_str (pv 1)) (pa_cons (pe_op op_add_str (pv 1) pe_str) (pa_cons (pe_op op_add_str pe_str (pv 1))
            (pa_cons (pe_op op_add_str (pv 1) pe_str) (pa_cons (pe_op op_add_str pe_str (pv 1)) (pa_cons (pe_op op_add_str (pv 1) pe_str) pa_nil)))))))) pa_nil)))))
          (pss_one (ps_asg (pe_call GW hr rfl gW kW bW .nil pass0 (pa_cons (pv 0) (pa_cons (pe_ix ix_list (pv 2) (pv 3) (fun _ _ => rfl)) pa_nil))) (pg_sub (pv 2) (pv 3) set_list))))))))))
      (pss_one (ps_ret (pe_join pe_str (pv 2)))))), ?_⟩
    refine ⟨_, rfl, ⟨_, rfl⟩, x, "*", rfl, rfl, by decide, by rw [sizeLine_eq]; omega, fun L nL => ?_⟩
    have S0 := fresh_upd (o := .lst ((Txt.split x "*").map V.str)) nL
    have hL1 : upd H L (.lst ((Txt.split x "*").map V.str)) L = some (.lst ((Txt.split x "*").map V.str)) := upd_same
    have Lr : L ≠ r := (hR.ne nL).symm
    have hn : (Txt.split x "*").length = cStar x + 1 := split_len sepS x
    have hsum := split_sum x
    have hcs := split_cs x
    have hwl : ∀ p ∈ Txt.split x "*", p.length ≤ x.length ∧ cStar p = 0 := fun p hp => ⟨sub_len2 (split_sub sepS hp), cStar_word hp⟩
    generalize upd H L (.lst ((Txt.split x "*").map V.str)) = H1 at S0 hL1
    generalize Txt.split x "*" = ws at *
    have hl : ∀ {H' : Hp}, But r H1 H' → H' L = some (.lst (ws.map V.str)) := fun B => B _ _ Lr hL1
    refine ⟨_, rfl, _, rfl, L, _, rfl, .inl (SqL.of hL1), r, _, rfl, hR.same S0, by rw [List.length_map]; omega, by rw [List.length_map]; omega, fun H2 a a0 a1 hR2 B2 => ?_⟩
    refine ⟨_, rfl, _, rfl, L, _, rfl, .inl (SqL.of (hl B2)), r, _, rfl, hR2, by rw [List.length_map]; omega, by rw [List.length_map]; omega, fun H3 b b0 b1 hR3 B3 => ?_⟩
    have B13 := B2.trans B3
    refine ⟨_, rfl, r, 6, rfl, hR3, by decide, by decide, fun H4 c c0 c1 hR4 B4 => ?_⟩
    have B14 := B13.trans B4
    have B04 : But r H H4 := (But.of S0).trans B14
    have hL4 := hl B14
    rw [List.length_map] at a1 b1
    obtain ⟨i, rfl⟩ : ∃ i : Nat, a = (i : Int) := ⟨a.toNat, by omega⟩
    obtain ⟨j, rfl⟩ : ∃ j : Nat, b = (j : Int) := ⟨b.toNat, by omega⟩
    have hi : i < ws.length := by omega
    have hj : j < ws.length := by omega
    refine ⟨_, _, _, rfl, ?_⟩
    clear B2 B3 B4 B13 hR2 hR3 a0 a1 b0 b1
    have hsz : ws.length ≤ 31 := by omega
    have hat : ∀ {m : Nat} (hm : m < ws.length), atI (ws.map V.str) (m : Int) = some (.str ws[m]) := fun {m} hm => atI_nat (by rw [List.getElem?_map, List.getElem?_eq_getElem hm]; rfl)
    have nLn : ∀ {b : Addr}, H4 b = none → b ≠ L := fun e z => by
      rw [z, hL4] at e
      cases e
    have fin : ∀ (ys : List Str) (H6 : Hp), But r H H6 → Rg H6 r → (ys.map (·.length)).sum ≤ 3 * x.length + 20 → ys.length ≤ ws.length + 1 → (ys.map cStar).sum + (ys.length - 1) ≤ cStar x + 1 →
        (ys.map (·.length)).sum + ys.length * ("*" : Str).length ≤ 16777216 ∧ Q (.str (Txt.join "*" ys)) H6 := fun ys H6 B6 hR6 h1 h2 h3 => by
      have z := join_bd h1 h2 (Nat.le_refl (ys.map cStar).sum)
      have z2 := join_bd (Nat.le_refl (ys.map (·.length)).sum) (Nat.le_refl ys.length) (Nat.le_refl (ys.map cStar).sum)
      have e : ("*" : Str).length = 1 := by decide
      refine ⟨by rw [e]; omega, k H6 _ B6 hR6 ?_ ?_⟩
      · have := z.1
        omega
      · have := z2.2
        omega
    refine ⟨_, rfl, rfl, _, rfl, ?_⟩
    refine ite2 (fun _ => ?_) fun _ => ?_
    · refine ⟨_, rfl, _, rfl, L, _, j, .str ws[j], rfl, rfl, SqL.of hL4, hat hj, _, rfl, _, rfl, L, _, i, .str ws[i], rfl, rfl, SqL.of hL4, hat hi, by rw [sizeLine_eq]; show 2 ≤ 16777216; decide, fun T nT => ?_⟩
      have TL' : L ≠ T := (nLn nT).symm
      have S5 := fresh_upd (o := .tup [V.str ws[j], V.str ws[i]]) nT
      have e5 : upd H4 T (.tup [V.str ws[j], V.str ws[i]]) T = some (.tup [V.str ws[j], V.str ws[i]]) := upd_same
      have hL5 := S5 _ _ hL4
      have hR5 := hR4.same S5
      have B05 := B04.trans (But.of S5)
      generalize upd H4 T (.tup [V.str ws[j], V.str ws[i]]) = H5 at S5 e5 hL5 hR5 B05
      refine ⟨T, _, rfl, SqT.of e5, rfl, _, _, rfl, _, rfl, _, rfl, L, _, i, i, rfl, rfl, hL5, ixN_n (by rw [List.length_map]; exact hi), ?_⟩
      refine ⟨_, _, rfl, _, rfl, _, rfl, L, _, j, j, rfl, rfl, upd_same, ixN_n (by rw [List.length_set, List.length_map]; exact hj), rfl, ?_⟩
      have n0 : H L = none := nL
      have e6 : upd (upd H5 L (.lst ((ws.map V.str).set i (V.str ws[j])))) L (.lst (((ws.map V.str).set i (V.str ws[j])).set j (V.str ws[i]))) L = some (.lst (((ws.set i ws[j]).set j ws[i]).map V.str)) := by
        rw [upd_same, List.map_set, List.map_set]
      have hR6 := (hR5.upd (o := .lst ((ws.map V.str).set i (V.str ws[j]))) Lr).upd (o := .lst (((ws.map V.str).set i (V.str ws[j])).set j (V.str ws[i]))) Lr
      have B06 := (B05.upd (o := .lst ((ws.map V.str).set i (V.str ws[j]))) n0).upd (o := .lst (((ws.map V.str).set i (V.str ws[j])).set j (V.str ws[i]))) n0
      generalize upd (upd H5 L (.lst ((ws.map V.str).set i (V.str ws[j])))) L (.lst (((ws.map V.str).set i (V.str ws[j])).set j (V.str ws[i]))) = H6 at e6 hR6 B06
      obtain ⟨wi1, wi2⟩ := hwl _ (List.getElem_mem hi)
      obtain ⟨wj1, wj2⟩ := hwl _ (List.getElem_mem hj)
      obtain ⟨f1, f2⟩ := fin ((ws.set i ws[j]).set j ws[i]) H6 B06 hR6 (by
        have z1 := sum_set (·.length) ws[i] (ws.set i ws[j]) j
        have z2 := sum_set (·.length) ws[j] ws i
        omega) (by rw [List.length_set, List.length_set]; omega) (by
        have z1 := sum_set cStar ws[i] (ws.set i ws[j]) j
        have z2 := sum_set cStar ws[j] ws i
        rw [List.length_set, List.length_set]
        omega)
      exact ⟨⟨_, rfl⟩, _, rfl, _, L, _, rfl, rfl, .inl (SqL.of e6), f1, f2⟩
    refine ⟨_, rfl, rfl, _, rfl, ?_⟩
    refine ite2 (fun _ => ?_) fun _ => ?_
    · refine ⟨_, rfl, _, rfl, i, rfl, L, _, rfl, SqL.of hL4, fun L2 nL2 => ?_⟩
      rw [cutV_to ws (Nat.le_of_lt hi)]
      have S5 := fresh_upd (o := .lst ((ws.take i).map V.str)) nL2
      have e5 : upd H4 L2 (.lst ((ws.take i).map V.str)) L2 = some (.lst ((ws.take i).map V.str)) := upd_same
      generalize upd H4 L2 (.lst ((ws.take i).map V.str)) = H5 at S5 e5
      refine ⟨_, rfl, _, rfl, L, _, j, .str ws[j], rfl, rfl, SqL.of (S5 _ _ hL4), hat hj, by rw [sizeLine_eq]; show 1 ≤ 16777216; decide, fun L3 nL3 => ?_⟩
      have S6 := fresh_upd (o := .lst [V.str ws[j]]) nL3
      have e6 : upd H5 L3 (.lst [V.str ws[j]]) L3 = some (.lst [V.str ws[j]]) := upd_same
      generalize upd H5 L3 (.lst [V.str ws[j]]) = H6 at S6 e6
      refine ⟨L2, L3, _, _, rfl, rfl, S6 _ _ e5, e6, by rw [List.length_map, List.length_take, sizeLine_eq]; show _ + 1 ≤ _; omega, fun L4 nL4 => ?_⟩
      have S7 := fresh_upd (o := .lst ((ws.take i).map V.str ++ [V.str ws[j]])) nL4
      have e7 : upd H6 L4 (.lst ((ws.take i).map V.str ++ [V.str ws[j]])) L4 = some (.lst ((ws.take i).map V.str ++ [V.str ws[j]])) := upd_same
      generalize upd H6 L4 (.lst ((ws.take i).map V.str ++ [V.str ws[j]])) = H7 at S7 e7
      have S47 := S5.trans (S6.trans S7)
      refine ⟨_, rfl, _, rfl, i, rfl, L, _, rfl, SqL.of (S47 _ _ hL4), fun L5 nL5 => ?_⟩
      rw [cutV_from ws (Nat.le_of_lt hi)]
      have S8 := fresh_upd (o := .lst ((ws.drop i).map V.str)) nL5
      have e8 : upd H7 L5 (.lst ((ws.drop i).map V.str)) L5 = some (.lst ((ws.drop i).map V.str)) := upd_same
      generalize upd H7 L5 (.lst ((ws.drop i).map V.str)) = H8 at S8 e8
      refine ⟨L4, L5, _, _, rfl, rfl, S8 _ _ e7, e8, by rw [List.length_append, List.length_map, List.length_map, List.length_take, List.length_drop, sizeLine_eq]; show _ + 1 + _ ≤ _; omega, fun L6 nL6 => ?_⟩
      have e9 : upd H8 L6 (.lst (((ws.take i).map V.str ++ [V.str ws[j]]) ++ (ws.drop i).map V.str)) L6 = some (.lst ((ws.take i ++ [ws[j]] ++ ws.drop i).map V.str)) := by
        rw [upd_same, List.map_append, List.map_append]
        rfl
      have S9 := fresh_upd (o := .lst (((ws.take i).map V.str ++ [V.str ws[j]]) ++ (ws.drop i).map V.str)) nL6
      have S49 := S47.trans (S8.trans S9)
      have z1 := sum_take (·.length) ws i
      have z2 := sum_take cStar ws i
      obtain ⟨wj1, wj2⟩ := hwl _ (List.getElem_mem hj)
      obtain ⟨f1, f2⟩ := fin (ws.take i ++ [ws[j]] ++ ws.drop i) _ (B04.trans (But.of S49)) (hR4.same S49) (by
        rw [List.map_append, List.map_append, List.sum_append, List.sum_append]
        show _ + (ws[j].length + 0) + _ ≤ _
        omega) (by rw [List.length_append, List.length_append, List.length_take, List.length_drop]; show _ + 1 + _ ≤ _; omega) (by
        rw [List.map_append, List.map_append, List.sum_append, List.sum_append, List.length_append, List.length_append, List.length_take, List.length_drop]
        show _ + (cStar ws[j] + 0) + _ + (_ + 1 + _ - 1) ≤ _
        omega)
      exact ⟨⟨_, rfl⟩, _, rfl, _, L6, _, rfl, rfl, .inl (SqL.of e9), f1, f2⟩
    refine ⟨_, rfl, rfl, _, rfl, ?_⟩
    refine ite2 (fun _ => ?_) fun _ => ?_
    · refine ⟨_, rfl, _, rfl, i, rfl, L, _, rfl, SqL.of hL4, fun L2 nL2 => ?_⟩
      rw [cutV_to ws (Nat.le_of_lt hi)]
      have S5 := fresh_upd (o := .lst ((ws.take i).map V.str)) nL2
      have e5 : upd H4 L2 (.lst ((ws.take i).map V.str)) L2 = some (.lst ((ws.take i).map V.str)) := upd_same
      generalize upd H4 L2 (.lst ((ws.take i).map V.str)) = H5 at S5 e5
      refine ⟨_, rfl, _, rfl, _, _, rfl, rfl, _, rfl, L, _, rfl, SqL.of (S5 _ _ hL4), fun L5 nL5 => ?_⟩
      rw [show cutV (ws.map V.str) (some ((i : Int) + 1)) none = (ws.drop (i + 1)).map V.str from cutV_from ws (i := i + 1) hi] at *
      have S8 := fresh_upd (o := .lst ((ws.drop (i + 1)).map V.str)) nL5
      have e8 : upd H5 L5 (.lst ((ws.drop (i + 1)).map V.str)) L5 = some (.lst ((ws.drop (i + 1)).map V.str)) := upd_same
      generalize upd H5 L5 (.lst ((ws.drop (i + 1)).map V.str)) = H8 at S8 e8
      refine ⟨L2, L5, _, _, rfl, rfl, S8 _ _ e5, e8, by rw [List.length_map, List.length_map, List.length_take, List.length_drop, sizeLine_eq]; omega, fun L6 nL6 => ?_⟩
      have e9 : upd H8 L6 (.lst ((ws.take i).map V.str ++ (ws.drop (i + 1)).map V.str)) L6 = some (.lst ((ws.take i ++ ws.drop (i + 1)).map V.str)) := by
        rw [upd_same, List.map_append]
      have S9 := fresh_upd (o := .lst ((ws.take i).map V.str ++ (ws.drop (i + 1)).map V.str)) nL6
      have S49 := S5.trans (S8.trans S9)
      have z1 := sum_take (·.length) ws i
      have z2 := sum_take cStar ws i
      have yy : ∀ f : Str → Nat, ((ws.drop (i + 1)).map f).sum ≤ ((ws.drop i).map f).sum := fun f => by
        have e : ws.drop i = ws[i] :: ws.drop (i + 1) := List.drop_eq_getElem_cons hi
        rw [e, List.map_cons, List.sum_cons]
        exact Nat.le_add_left _ _
      have y1 := yy (·.length)
      have y2 := yy cStar
      obtain ⟨f1, f2⟩ := fin (ws.take i ++ ws.drop (i + 1)) _ (B04.trans (But.of S49)) (hR4.same S49) (by
        rw [List.map_append, List.sum_append]
        omega) (by rw [List.length_append, List.length_take, List.length_drop]; omega) (by
        rw [List.map_append, List.sum_append, List.length_append, List.length_take, List.length_drop]
        omega)
      exact ⟨⟨_, rfl⟩, _, rfl, _, L6, _, rfl, rfl, .inl (SqL.of e9), f1, f2⟩
    refine ⟨_, rfl, rfl, _, rfl, ?_⟩
    refine ite2 (fun _ => ?_) fun _ => ?_
    · have sz : ∀ m n : Nat, m ≤ 30100 → n ≤ 2 → m + n ≤ sizeLine := fun m n h1 h2 => by rw [sizeLine_eq]; omega
      have sz2 : ∀ m n : Nat, m ≤ 30100 → n ≤ 2 → n + m ≤ sizeLine := fun m n h1 h2 => by rw [sizeLine_eq]; omega
      refine ⟨_, rfl, _, rfl, _, _, rfl, rfl, sz _ _ hx (by decide), _, rfl, _, _, rfl, rfl, sz2 _ _ hx (by decide), _, rfl, _, _, rfl, rfl, sz _ _ hx (by decide), _, rfl, _, _, rfl, rfl, sz2 _ _ hx (by decide),
        _, rfl, _, _, rfl, rfl, sz _ _ hx (by decide), _, rfl, _, _, rfl, rfl, sz2 _ _ hx (by decide), _, rfl, _, _, rfl, rfl, sz _ _ hx (by decide), by rw [sizeLine_eq]; show 7 ≤ 16777216; decide, fun t nt => ?_⟩
      have S3 := fresh_upd (o := .lst ((seven x).map V.str)) nt
      refine ⟨r, t, (seven x).map V.str, rfl, hR4.same S3, (hR4.ne nt).symm, upd_same, (by show 0 < 7; decide), (by show 7 < 1000000; decide), fun H5 v hv hR5 B5 => ?_⟩
      obtain ⟨y, hy, rfl⟩ := of_strs hv
      obtain ⟨h1, h2⟩ := seven_ok hy
      exact k H5 _ ((B04.trans (But.of S3)).trans B5) hR5 (by omega) h2
    obtain ⟨wi1, wi2⟩ := hwl _ (List.getElem_mem hi)
    refine ⟨_, rfl, _, rfl, _, rfl, L, _, i, .str ws[i], rfl, rfl, SqL.of hL4, hat hi, ?_⟩
    refine ⟨r, ws[i], rfl, hR4, by omega, wi2, fun H5 y B5 hR5 h1 h2 => ?_⟩
    have hL5 := B5 _ _ Lr hL4
    refine ⟨_, rfl, _, rfl, L, _, i, i, rfl, rfl, hL5, ixN_n (by rw [List.length_map]; exact hi), ?_⟩
    have n0 : H L = none := nL
    have e6 : upd H5 L (.lst ((ws.map V.str).set i (V.str y))) L = some (.lst ((ws.set i y).map V.str)) := by
      rw [upd_same, List.map_set]
    have z1 := sum_set (·.length) y ws i
    have z2 := sum_set cStar y ws i
    obtain ⟨f1, f2⟩ := fin (ws.set i y) _ ((B04.trans B5).upd (o := .lst ((ws.map V.str).set i (V.str y))) n0) (hR5.upd (o := .lst ((ws.map V.str).set i (V.str y))) Lr) (by omega) (by rw [List.length_set]; omega) (by
      rw [List.length_set]
      omega)
    exact ⟨⟨_, rfl⟩, _, rfl, _, L, _, rfl, rfl, .inl (SqL.of e6), f1, f2⟩
end
end K13
set_option maxHeartbeats 8000000
namespace K13
open PySem PySem.Spec PyProof.Rows L2 TL

/-! ### _law_right, its last statements -/
abbrev sRi : Stmt := top 43
def NRi : List Str := ["_law_rng_here", "_law_model", "_law_other", "_law_text_here", "_law_more", "_law_made", "_law_one", "_law_due", "_law_turn", "_law_told", "_law_some"]
def somes : List Str := ["", "1", "0", "11", "a*a", "b*a", "a*b", "a^2*b^-3", "-1", "a^-1", "abcdefghi", "a\n", "\n"]
theorem somes_ok : ∀ y ∈ somes, y.length ≤ 10 ∧ cStar y ≤ 1 := by decide +kernel
section
variable {P : Program} {w : World} {K : PySem.W.Frag} {mg : Str → Option Value} {base : Heap}
theorem scRi : FnScope NRi ["_law_rng_here"] (defScope sRi) :=
  ⟨rfl, rfl, rfl, by decide +kernel, rfl, by decide +kernel, by decide +kernel⟩
theorem right_t5 {fS fR : Addr} {fdS fdR : FuncData} (T : Nb mg)
    (GS : FnOk P w K mg base CX0 4 fS fdS ["_law_rng_here", "_law_text_here"] spSpo) (kS : PySem.W.keepIn K (.ref fS) = true) (bS : Binds K fdS ["_law_rng_here", "_law_text_here"] []) (gS : mg "_law_spoilt" = some (.ref fS))
    (GR : FnG P w K mg base 8 fR fdR ["_law_text_here"] spIsR) (kR : PySem.W.keepIn K (.ref fR) = true) (bR : Binds K fdR ["_law_text_here"] []) (gR : mg "_law_is_read" = some (.ref fR))
    {f : Addr} {cdv : Value} {A : Around} {outer : List Env} {s : Shared} {H0 : Hp} (hgu : (A.deeper (envOfC "_law_right" (defScope sRi) s.heap.objs.size f cdv)).guards = some [])
    (hr : Room 8 (A.deeper (envOfC "_law_right" (defScope sRi) s.heap.objs.size f cdv))) :
    ∃ t, PSs (cxOf CX0 P w K mg base NRi "_law_right" (defScope sRi) f cdv A outer s H0 E0).nox ((defBody sRi).drop 5) t ∧
      ∀ (D : Ends) (H : Hp) (r : Addr) (x : Str) (v1 v2 v4 v5 v6 v7 : Option V), Rg H r → x.length ≤ 10000 → cStar x ≤ 5 →
        (∀ H', But r H H' → Rg H' r → D.rt (.bl true) H') → t D [some (.ref r), v1, v2, some (.str x), v4, v5, v6, v7, none, none, none] H := by
  have GS8 := GS.mono (k := 8) (by decide)
  refine ⟨_, pss_cons (ps_for PassesOwn.never rfl (pi_range1 (by rfl) T.range (pa_cons pe_int pa_nil)) (pg_name (i := 8) scRi.nd rfl (Or.inl rfl))
      (pss_cons (ps_set (i := 9) scRi.nd rfl (.inl rfl) (pe_call GS8 hr rfl gS kS bS .nil pass0 (pa_cons (pv 0) (pa_cons (pv 3) pa_nil))))
      (pss_one (ps_if (PW.pt (pw_or (pt_not (pt_val (pe_callG GR hgu hr rfl gR kR bR (pa_cons (pv 9) pa_nil))))
          (pw_or1 (pt_not (pt_val (pe_callG GR hgu hr rfl gR kR bR (pa_cons (pe_call GS8 hr rfl gS kS bS .nil pass0 (pa_cons (pv 0) (pa_cons (pv 9) pa_nil))) pa_nil)))))))
        (pss_one (ps_ret pe_bl)) pss_nil))))
    (pss_cons (ps_set (i := 10) scRi.nd rfl (.inl rfl) (pe_lst (pa_cons pe_str (pa_cons pe_str (pa_cons pe_str (pa_cons pe_str (pa_cons pe_str (pa_cons pe_str (pa_cons pe_str (pa_cons pe_str (pa_cons pe_str (pa_cons pe_str (pa_cons pe_str (pa_cons pe_str (pa_cons pe_str pa_nil)))))))))))))))
    (pss_one (ps_ret (pe_callB (cr_all rfl) (by rfl) T.all (by decide +kernel) (pa_cons
        (pe_lc (own := [("_law_one", 6)]) (g := gName 6) (tt := tYes) (te := tCall spIsR [] E0 (tCons (tVar 6) tNil)) rfl scRi.nd (pi_list (pv 10))
        (blkOk_by (own := [("_law_one", 6)]) (N := NRi) (sc := defScope sRi) (by decide +kernel)) (fun _ _ _ _ _ => pg_name (i := 6) scRi.nd rfl (Or.inl rfl))
        (fun _ _ _ _ _ => pts_nil) (fun _ _ _ _ _ => by exact pe_callG GR hgu hr rfl gR kR bR (pa_cons (pv 6) pa_nil))) pa_nil))))), ?_⟩
  intro D H r x v1 v2 v4 v5 v6 v7 hR hx hc k
  refine ⟨16, rfl, by decide, by decide, ?_⟩
  refine for_it (walk_range (lo := 0) (n := (16 : Int).toNat)) (fun i σ H2 => (∃ o8 o9, σ = [some (.ref r), v1, v2, some (.str x), v4, v5, v6, v7, o8, o9, none]) ∧ Rg H2 r ∧ But r H H2)
    ⟨⟨none, none, rfl⟩, hR, But.refl r H⟩ (fun _ _ _ _ _ => trivial) ?_ ?_
  · rintro i v σ H9 H2 hi ⟨⟨o8, o9, rfl⟩, hR2, B2⟩ ⟨rfl, rfl⟩
    refine ⟨_, rfl, _, rfl, r, x, rfl, hR2, by omega, by omega, fun H3 y B3 hR3 y1 y2 => ?_⟩
    refine ⟨_, rfl, y, rfl, by omega, (show cStar y ≤ 60 by omega), fun H4 S4 => ⟨_, rfl, iteF ?_⟩⟩
    refine ⟨_, rfl, _, rfl, r, y, rfl, hR3.same S4, by omega, by omega, fun H5 z B5 hR5 z1 z2 => ?_⟩
    refine ⟨z, rfl, by omega, (show cStar z ≤ 60 by omega), fun H6 S6 => ⟨_, rfl, iteF ?_⟩⟩
    exact ⟨⟨_, _, rfl⟩, hR5.same S6, (((B2.trans B3).trans (But.of S4)).trans B5).trans (But.of S6)⟩
  rintro σ H2 ⟨⟨o8, o9, rfl⟩, hR2, B2⟩
  refine ⟨by rw [sizeLine_eq]; show 13 ≤ 16777216; decide, fun L nL => ?_⟩
  have S3 := fresh_upd (o := .lst (somes.map V.str)) nL
  have e3 : upd H2 L (.lst (somes.map V.str)) L = some (.lst (somes.map V.str)) := upd_same
  have hR3 := hR2.same S3
  have B3 := B2.trans (But.of S3)
  refine ⟨_, rfl, L, rfl, ⟨_, SqL.of e3⟩, fun E1 hE1 => ?_⟩
  have hlen : (somes.map V.str).length = 13 := by decide
  refine lc_it (walk_list (K := K) (a := L) (xs := somes.map V.str)) (fun i H4 => H4 E1 = some (.lst ((List.replicate i true).map V.bl)) ∧ Same (upd H2 L (.lst (somes.map V.str))) H4)
    ⟨upd_same, fresh_upd hE1⟩ (fun i H4 _ h => SqL.of (h.2 _ _ e3)) ?_ ?_
  · rintro i v H9 H4 hi ⟨hE4, S4⟩ ⟨rfl, hv⟩
    rw [hlen] at hi
    obtain ⟨y, hy, rfl⟩ := of_strs (List.mem_of_getElem? hv)
    obtain ⟨h1, h2⟩ := somes_ok y hy
    refine ⟨rfl, ?_⟩
    unfold tYes
    dsimp only
    rw [if_pos rfl]
    refine ⟨_, rfl, y, rfl, by omega, (show cStar y ≤ 60 by omega), fun H5 S5 => ?_⟩
    refine ⟨_, S5 _ _ hE4, by rw [List.length_map, List.length_replicate, sizeLine_eq]; omega, ?_, fun b o e => ?_⟩
    · rw [upd_same, List.replicate_succ', List.map_append]
      rfl
    · rw [upd_ne (ne_of_none e hE1)]
      exact S5 _ _ (S4 b o e)
  · rintro H4 ⟨hE4, S4⟩
    refine ⟨E1, _, rfl, SqL.of hE4, ?_⟩
    have e : (List.replicate (somes.map V.str).length true).all id = true := by
      rw [hlen]
      decide
    rw [e]
    exact k H4 (B3.trans (But.of S4)) (hR3.same S4)
end
end K13
set_option maxHeartbeats 8000000
namespace K13
open PySem PySem.Spec PyProof.Rows L2 TL

/-! ### texts of models -/
theorem Mod.big {es : Es} (h : Mod es) : ∀ q ∈ es, Big q.2 := fun q hq => by
  have z := h.bg q hq
  have e : (10 : Nat) ^ 30 < 10 ^ 60 := by decide
  have z2 : q.2.natAbs < 10 ^ 60 := Nat.lt_trans z e
  have z3 : (q.2.natAbs : Int) < 10 ^ 60 := by exact_mod_cast z2
  unfold Big
  generalize (10 : Int) ^ 60 = T at *
  omega
theorem Mod.tel {es : Es} (h : Mod es) : Tel es := ⟨h.nm, h.big, by have := h.ln; omega⟩
theorem Mod.val {es : Es} (h : Mod es) : Val (texE es) es := ⟨rfl, h.sd, h.nm, h.nz⟩
theorem Mod.len {es : Es} (h : Mod es) : (texE es).length ≤ 10000 := tex_len (fun q hq => ⟨nm_len (h.nm q hq), h.big q hq⟩) (by have := h.ln; omega)
theorem Mod.cs {es : Es} (h : Mod es) : cStar (texE es) ≤ 5 := by
  by_cases h0 : es = []
  · subst h0
    decide
  · have e : texE es = Txt.join "*" (es.map fun q => pwT q.1 q.2) := if_neg h0
    rw [e]
    have go : ∀ l : Es, (∀ q ∈ l, isNm q.1 = true) → ((l.map fun q => pwT q.1 q.2).map cStar).sum = 0 := fun l => by
      induction l with
      | nil => intro _; rfl
      | cons p r ih =>
        intro hb
        have z := ih fun q hq => hb q (List.mem_cons_of_mem _ hq)
        have z2 : cStar (pwT p.1 p.2) = 0 := List.count_eq_zero.mpr (pw_free (hb p (List.mem_cons_self ..)))
        show cStar (pwT p.1 p.2) + ((r.map fun q => pwT q.1 q.2).map cStar).sum = 0
        omega
    have z := (join_bd (Nat.le_refl _) (Nat.le_refl (es.map fun q => pwT q.1 q.2).length) (Nat.le_of_eq (go es h.nm))).2
    rw [List.length_map] at z
    have := h.ln
    omega
theorem dec_len31 {v : Int} (h : v.natAbs < 10 ^ 30) : (decS v).length ≤ 31 := by
  have z := numL_len (n := v.natAbs) (k := 30) (by decide) h
  by_cases h0 : v < 0
  · rw [len_tl, tl_decN h0, List.length_cons]
    have e : (-v).toNat = v.natAbs := by omega
    rw [e]
    omega
  · rw [len_tl, tl_dec0 (by omega)]
    have e : v.toNat = v.natAbs := by omega
    rw [e]
    omega
theorem Mod.sht {es : Es} (h : Mod es) : Sht (texE es) := by
  have hl := h.len
  have hc := h.cs
  refine ⟨by omega, (show cStar (texE es) ≤ 60 by omega), fun p hp => ?_⟩
  have hnd : nDg p ≤ p.length := by
    rw [len_tl]
    exact List.length_filter_le _ _
  by_cases h0 : es = []
  · subst h0
    have z := sub_len2 (split_sub sepS hp)
    have e : (texE []).length = 1 := by decide
    omega
  · rw [h.val.words h0] at hp
    obtain ⟨q, hq, rfl⟩ := List.mem_map.mp hp
    have z1 := nm_len (h.nm q hq)
    have z2 := dec_len31 (h.bg q hq)
    have z3 : (pwT q.1 q.2).length ≤ 40 := by
      unfold pwT
      split
      · omega
      · rw [len_app, len_app]
        have e1 : ("^" : Str).length = 1 := by decide
        omega
    omega
/-- what a drawn pair is -/
def PrAt (H : Hp) (v : V) : Prop := ∃ (T d : Addr) (es : Es), v = .ref T ∧ H T = some (.tup [.str (texE es), .ref d]) ∧ H d = some (.dK (kv es)) ∧ Mod es
theorem PrAt.same {H H' : Hp} {v : V} (h : PrAt H v) (S : Same H H') : PrAt H' v := by
  obtain ⟨T, d, es, e, h1, h2, h3⟩ := h
  exact ⟨T, d, es, e, S _ _ h1, S _ _ h2, h3⟩
/-- what stands of Size -/
structure Kz (P : Program) (w : World) (K : PySem.W.Frag) (mg : Str → Option Value) (base : Heap) (C CT : Addr) : Prop where
  tc : Ck K mg C
  mkr : ∃ fI fdI, Mk K C fI ∧ FnOk P w K mg base CX0 3 fI fdI ["self", "exponents"] (spInit C) ∧ Binds K fdI ["self", "exponents"] []
  rd : ∃ mc pR gR, ClX.CRead K C mc ∧ ClX.CMet K C mc "read" pR gR ∧ L2.FnR P w K mg base (L2.CX P w) 6 gR (spRead K C CT)
  eq : ∃ fE fdE, FnOk P w K mg base CX0 1 fE fdE ["self", "other"] (spEqS K C) ∧ PySem.W.findIn K (.ref C) "__eq__" = some (some (.ref fE)) ∧ PySem.W.isFn K (.ref fE) = true ∧ Binds K fdE ["self", "other"] []
  ne : PySem.W.findIn K (.ref C) "__ne__" = some (some (.builtin "object.__ne__"))
  st : ∃ fS fdS, FnOk P w K mg base CX0 5 fS fdS ["self"] (spStr C) ∧ PySem.W.findIn K (.ref C) "__str__" = some (some (.ref fS)) ∧ PySem.W.isFn K (.ref fS) = true ∧ Binds K fdS ["self"] []
  rp : ∃ fR fdR, FnOk P w K mg base CX0 5 fR fdR ["self"] (spRepr C) ∧ PySem.W.findIn K (.ref C) "__repr__" = some (some (.ref fR)) ∧ PySem.W.isFn K (.ref fR) = true ∧ Binds K fdR ["self"] []
section
variable {P : Program} {w : World} {K : PySem.W.Frag} {mg : Str → Option Value} {base : Heap} {C CT : Addr}
theorem right_t4 {fS fR fM : Addr} {fdS fdR fdM : FuncData} (T : Nb mg) (hsys : (K.lookup sysModules).isSome = true) (Kk : Kz P w K mg base C CT)
    (GM : FnOk P w K mg base CX0 7 fM fdM ["_law_told"] (spMet K)) (kM : PySem.W.keepIn K (.ref fM) = true) (bM : Binds K fdM ["_law_told"] []) (gM : mg "_law_met" = some (.ref fM))
    (GS : FnOk P w K mg base CX0 4 fS fdS ["_law_rng_here", "_law_text_here"] spSpo) (kS : PySem.W.keepIn K (.ref fS) = true) (bS : Binds K fdS ["_law_rng_here", "_law_text_here"] []) (gS : mg "_law_spoilt" = some (.ref fS))
    (GR : FnG P w K mg base 8 fR fdR ["_law_text_here"] spIsR) (kR : PySem.W.keepIn K (.ref fR) = true) (bR : Binds K fdR ["_law_text_here"] []) (gR : mg "_law_is_read" = some (.ref fR))
    {f : Addr} {cdv : Value} {A : Around} {outer : List Env} {s : Shared} {H0 : Hp} (hgu : (A.deeper (envOfC "_law_right" (defScope sRi) s.heap.objs.size f cdv)).guards = some [])
    (hr : Room 8 (A.deeper (envOfC "_law_right" (defScope sRi) s.heap.objs.size f cdv))) :
    ∃ t, PSs (cxOf CX0 P w K mg base NRi "_law_right" (defScope sRi) f cdv A outer s H0 E0).nox ((defBody sRi).drop 4) t ∧
      ∀ (D : Ends) (H : Hp) (r d1 d2 : Addr) (es fs : Es) (v5 : Option V), Rg H r → H d1 = some (.dK (kv es)) → H d2 = some (.dK (kv fs)) → Mod es → Mod fs →
        (∀ H', But r H H' → Rg H' r → D.rt (.bl true) H') → t D [some (.ref r), some (.ref d1), some (.ref d2), some (.str (texE es)), some (.str (texE fs)), v5, none, none, none, none, none] H := by
  obtain ⟨t5, ht5, hq5⟩ := right_t5 (P := P) (w := w) (base := base) T GS kS bS gS GR kR bR gR (f := f) (cdv := cdv) (outer := outer) (H0 := H0) hgu hr
  obtain ⟨Tc, ⟨fI, fdI, MI, GI, bI⟩, ⟨mc, pR, gR', CR, CM, GRd⟩, ⟨fE, fdE, GE, mE, iE, bE⟩, hne, _, _⟩ := Kk
  have GM8 := GM.mono (k := 8) (by decide)
  have GI7 := GI.mono (k := 7) (by decide)
  have GRd8 := GRd.mono (k := 8) (by decide)
  have GE7 := GE.mono (k := 7) (by decide)
  refine ⟨_, pss_cons (ps_for PassesOwn.never rfl (pi_list (pe_lst (pa_cons (pe_tup (pa_cons (pv 3) (pa_cons (pv 1) pa_nil))) (pa_cons (pe_tup (pa_cons (pv 4) (pa_cons (pv 2) pa_nil))) (pa_cons (pe_tup (pa_cons (pv 3) (pa_cons (pv 1) pa_nil))) pa_nil)))))
      (pg_tup rfl (pgs_cons (pg_name (i := 6) scRi.nd rfl (Or.inl rfl)) (pgs_cons (pg_name (i := 7) scRi.nd rfl (Or.inl rfl)) pgs_nil)))
      (pss_one (ps_if (PW.pt (pw_or (pt_cmpR op_ne (pe_callB (call_reprD hgu hr.units hsys) (by rfl) T.repr (by decide +kernel) (pa_cons (pe_call GM8 hr rfl gM kM bM .nil pass0 (pa_cons (pv 6) pa_nil)) pa_nil))
            (pe_callB (call_reprD hgu hr.units hsys) (by rfl) T.repr (by decide +kernel) (pa_cons (pe_lst (pa_cons pe_str (pa_cons (pv 7) pa_nil))) pa_nil)) (nomark _))
          (pw_or1 (pt_cmpR (op_ownNe GE7 hr mE iE Tc.co hne bE pass0 spEq_mono) (pe_cmethE (pe_glob (v := .ref C) (by rfl) Tc.gC rfl) CR CM GRd8 hr (fun σ => passAt takes0 σ) (pa_cons (pv 6) pa_nil))
            (pe_make MI GI7 hr rfl Tc.gC bI .nil pass0 (pa_cons (pv 7) pa_nil)) (nomark _)))))
        (pss_one (ps_ret pe_bl)) pss_nil))) ht5, ?_⟩
  intro D H r d1 d2 es fs v5 hR h1 h2 m1 m2 k
  refine ⟨_, rfl, _, rfl, by rw [sizeLine_eq]; show 2 ≤ 16777216; decide, fun T1 nT1 => ?_⟩
  have S1 := fresh_upd (o := .tup [V.str (texE es), V.ref d1]) nT1
  have p1 : PrAt (upd H T1 (.tup [V.str (texE es), V.ref d1])) (.ref T1) := ⟨T1, d1, es, rfl, upd_same, S1 _ _ h1, m1⟩
  generalize upd H T1 (.tup [V.str (texE es), V.ref d1]) = H1 at S1 p1
  refine ⟨_, rfl, _, rfl, by rw [sizeLine_eq]; show 2 ≤ 16777216; decide, fun T2 nT2 => ?_⟩
  have S2 := fresh_upd (o := .tup [V.str (texE fs), V.ref d2]) nT2
  have p2 : PrAt (upd H1 T2 (.tup [V.str (texE fs), V.ref d2])) (.ref T2) := ⟨T2, d2, fs, rfl, upd_same, S2 _ _ (S1 _ _ h2), m2⟩
  generalize upd H1 T2 (.tup [V.str (texE fs), V.ref d2]) = H2 at S2 p2
  refine ⟨_, rfl, _, rfl, by rw [sizeLine_eq]; show 2 ≤ 16777216; decide, fun T3 nT3 => ?_⟩
  have S3 := fresh_upd (o := .tup [V.str (texE es), V.ref d1]) nT3
  have p3 : PrAt (upd H2 T3 (.tup [V.str (texE es), V.ref d1])) (.ref T3) := ⟨T3, d1, es, rfl, upd_same, S3 _ _ (S2 _ _ (S1 _ _ h1)), m1⟩
  generalize upd H2 T3 (.tup [V.str (texE es), V.ref d1]) = H3 at S3 p3
  refine ⟨by rw [sizeLine_eq]; show 3 ≤ 16777216; decide, fun L nL => ?_⟩
  have S4 := fresh_upd (o := .lst [V.ref T1, V.ref T2, V.ref T3]) nL
  have e4 : upd H3 L (.lst [V.ref T1, V.ref T2, V.ref T3]) L = some (.lst [V.ref T1, V.ref T2, V.ref T3]) := upd_same
  generalize upd H3 L (.lst [V.ref T1, V.ref T2, V.ref T3]) = H4 at S4 e4
  have pr : ∀ v ∈ [V.ref T1, V.ref T2, V.ref T3], PrAt H4 v := fun v hv => by
    rcases List.mem_cons.mp hv with rfl | hv
    · exact p1.same (S2.trans (S3.trans S4))
    rcases List.mem_cons.mp hv with rfl | hv
    · exact p2.same (S3.trans S4)
    rcases List.mem_cons.mp hv with rfl | hv
    · exact p3.same S4
    cases hv
  have S04 := S1.trans (S2.trans (S3.trans S4))
  generalize [V.ref T1, V.ref T2, V.ref T3] = xs at e4 pr
  refine ⟨L, rfl, ⟨_, SqL.of e4⟩, for_it (walk_list (K := K) (a := L) (xs := xs)) (fun i σ H5 => (∃ v6 v7, σ = [some (.ref r), some (.ref d1), some (.ref d2), some (.str (texE es)), some (.str (texE fs)), v5, v6, v7, none, none, none]) ∧ Same H4 H5)
    ⟨⟨none, none, rfl⟩, Same.refl H4⟩ (fun i σ H5 _ h => SqL.of (h.2 _ _ e4)) ?_ ?_⟩
  · rintro i v σ H9 H5 hi ⟨⟨v6, v7, rfl⟩, S5⟩ ⟨rfl, hv⟩
    obtain ⟨T', d, gs, rfl, q1, q2, mg'⟩ := (pr v (List.mem_of_getElem? hv)).same S5
    have sht := mg'.sht
    have hval := mg'.val
    have sm := dSz_sm mg'.tel
    refine ⟨T', _, rfl, SqT.of q1, rfl, _, _, rfl, _, _, rfl, rfl, ?_⟩
    refine ⟨_, rfl, .str (texE gs), rfl, .inl ⟨_, rfl, sht, fun hs hv' H6 L1 D1 S6 hL1 hD1 => ?_, fun hno _ _ _ _ => (hno gs hval).elim⟩⟩
    have ehs := hv'.uniq hval
    subst ehs
    refine ⟨L1, dSz hs, rfl, dw_sz hL1 hD1, sm.sh, Nat.le_trans sm.dp (by decide), Nat.le_trans sm.ln (by rw [sizeLine_eq]; decide), ?_⟩
    refine ⟨_, rfl, by rw [sizeLine_eq]; show 2 ≤ 16777216; decide, fun L2 nL2 => ?_⟩
    have S7 := fresh_upd (o := .lst [.str "size", .ref d]) nL2
    have e7 : upd H6 L2 (.lst [.str "size", .ref d]) L2 = some (.lst [.str "size", .ref d]) := upd_same
    have q7 := S7 _ _ (S6 _ _ q2)
    generalize upd H6 L2 (.lst [.str "size", .ref d]) = H7 at S7 e7 q7
    refine ⟨L2, dSz hs, rfl, dw_sz e7 q7, sm.sh, Nat.le_trans sm.dp (by decide), Nat.le_trans sm.ln (by rw [sizeLine_eq]; decide), ?_⟩
    refine ⟨rfl, _, rfl, ?_⟩
    rw [decide_eq_true rfl]
    refine iteF ?_
    refine ⟨rfl, _, rfl, .str (texE hs), rfl, .inl ⟨_, rfl, sht, fun us hv2 H8 a S8 hz => ?_, fun hno _ _ _ _ _ => (hno hs hval).elim⟩⟩
    have eus := hv2.uniq hval
    subst eus
    have hln := mg'.ln
    refine ⟨_, rfl, ?_⟩
    dsimp only [tNil]
    refine rd_make (Q := fun y H2 => rOwn C (spEqS K C) E0 not (.ref a) y H2 _) (S8 _ _ q7) mg'.sd.nodup (by omega) mg'.nm fun H10 b rs S10 hz2 nw lk => ?_
    have ers : rs = us := by
      obtain ⟨_, _, _, _, sd, _⟩ := id hz2
      exact sd.one mg'.sd fun n => by rw [lk, cz_g0 mg'.sd.nodup mg'.nz]
    subst ers
    have hz1 := hz.same S10
    obtain ⟨dx, D0, y1, _⟩ := id hz1
    obtain ⟨dy, D3, y2, _⟩ := id hz2
    refine ⟨a, dx, _, _, rfl, y1, .ins y2, a, rs, _, rfl, hz1, .inl ⟨b, rs, rfl, hz2, ⟨_, rfl, ?_⟩⟩⟩
    rw [decide_eq_true rfl]
    refine ⟨_, rfl, iteF ?_⟩
    exact ⟨⟨_, _, rfl⟩, S5.trans (S6.trans (S7.trans (S8.trans S10)))⟩
  · rintro σ H5 ⟨⟨v6, v7, rfl⟩, S5⟩
    have SH := S04.trans S5
    exact hq5 D H5 r (texE es) _ _ _ _ _ _ (hR.same SH) m1.len m1.cs fun H' B hR' => k H' ((But.of SH).trans B) hR'
end
end K13
set_option maxHeartbeats 8000000
namespace K13
open PySem PySem.Spec PyProof.Rows L2 TL

/-! ### _law_right -/
theorem paired_rev {α β : Type} {R : α → β → Prop} : ∀ {xs : List α} {ys : List β}, Paired R xs ys → Paired R xs.reverse ys.reverse
  | _, _, .nil => .nil
  | _, _, .cons h t => by
    rw [List.reverse_cons, List.reverse_cons]
    exact Paired.snoc (paired_rev t) h
theorem nod_rev {es : Es} (h : (es.map (·.1)).Nodup) : (es.reverse.map (·.1)).Nodup := by
  rw [List.map_reverse]
  exact (List.reverse_perm _).nodup_iff.mpr h
theorem look_rev {es : Es} (h : (es.map (·.1)).Nodup) (n : Str) : es.reverse.lookup n = es.lookup n := by
  by_cases hn : n ∈ es.map (·.1)
  · obtain ⟨q, hq, rfl⟩ := List.mem_map.mp hn
    rw [look_get h (n := q.1) (v := q.2) hq]
    exact look_get (nod_rev h) (n := q.1) (v := q.2) (List.mem_reverse.mpr hq)
  · rw [g0_none hn, g0_none]
    intro z
    rw [List.map_reverse] at z
    exact hn (List.mem_reverse.mp z)
theorem kv_rev (es : Es) : (kv es).reverse = kv es.reverse := by
  unfold kv
  rw [List.map_reverse]
theorem repr_ok (x : Str) (h : ∀ c ∈ tl x, c < 0x110000) : ∀ c ∈ tl (reprS x), c < 0x110000 := fun c hc => by
  unfold reprS at hc
  rw [tl_append, tl_append] at hc
  have e4 : tl ("Size('" : Str) = [83, 105, 122, 101, 40, 39] := by decide
  have e5 : tl ("')" : Str) = [39, 41] := by decide
  rw [e4, e5] at hc
  rcases List.mem_append.mp hc with hc | hc
  · rcases List.mem_append.mp hc with hc | hc
    · simp only [List.mem_cons, List.not_mem_nil, or_false] at hc
      omega
    · exact h c hc
  · simp only [List.mem_cons, List.not_mem_nil, or_false] at hc
    omega
def spRi : Sp := fun vs H Q _ => ∃ r : Addr, vs = [.ref r] ∧ Rg H r ∧ ∀ H', But r H H' → Rg H' r → Q (.bl true) H'
section
variable {P : Program} {w : World} {K : PySem.W.Frag} {mg : Str → Option Value} {base : Heap} {C CT : Addr}
theorem ok_ri {f fS fR fM fD fT : Addr} {fd fdS fdR fdM fdD fdT : FuncData} (F : Fun K "_law_right" "_law_right" sRi f fd) (T : Nb mg) (T2 : Nt mg) (strN : mg "str" = none) (hsys : (K.lookup sysModules).isSome = true) (Kk : Kz P w K mg base C CT)
    (GD : FnOk P w K mg base CX0 4 fD fdD ["_law_rng_here"] spDrawn) (kD : PySem.W.keepIn K (.ref fD) = true) (bD : Binds K fdD ["_law_rng_here"] []) (gD : mg "_law_drawn" = some (.ref fD))
    (GT : FnOk P w K mg base CX0 1 fT fdT ["_law_model"] spTxL) (kT : PySem.W.keepIn K (.ref fT) = true) (bT : Binds K fdT ["_law_model"] []) (gT : mg "_law_text" = some (.ref fT))
    (GM : FnOk P w K mg base CX0 7 fM fdM ["_law_told"] (spMet K)) (kM : PySem.W.keepIn K (.ref fM) = true) (bM : Binds K fdM ["_law_told"] []) (gM : mg "_law_met" = some (.ref fM))
    (GS : FnOk P w K mg base CX0 4 fS fdS ["_law_rng_here", "_law_text_here"] spSpo) (kS : PySem.W.keepIn K (.ref fS) = true) (bS : Binds K fdS ["_law_rng_here", "_law_text_here"] []) (gS : mg "_law_spoilt" = some (.ref fS))
    (GR : FnG P w K mg base 8 fR fdR ["_law_text_here"] spIsR) (kR : PySem.W.keepIn K (.ref fR) = true) (bR : Binds K fdR ["_law_text_here"] []) (gR : mg "_law_is_read" = some (.ref fR)) :
    FnG P w K mg base 9 f fd ["_law_rng_here"] spRi := by
  refine F.okG scRi (fun vs H Q h => ?_) (fun cdv A outer s H vs Q hgu hr h => ?_)
  · obtain ⟨r, rfl, _⟩ := h
    rfl
  · obtain ⟨r, rfl, hR, k⟩ := h
    have hgu' : (A.deeper (envOfC "_law_right" (defScope sRi) s.heap.objs.size f cdv)).guards = some [] := hgu
    obtain ⟨t4, ht4, hq4⟩ := right_t4 (P := P) (w := w) (base := base) T hsys Kk GM kM bM gM GS kS bS gS GR kR bR gR (f := f) (cdv := cdv) (outer := outer) (s := s) (H0 := H) hgu' hr
    obtain ⟨Tc, ⟨fI, fdI, MI, GI, bI⟩, _, _, _, ⟨fSt, fdSt, GSt, mSt, iSt, bSt⟩, ⟨fRp, fdRp, GRp, mRp, iRp, bRp⟩⟩ := Kk
    have GI7 := GI.mono (k := 7) (by decide)
    have GD8 := GD.mono (k := 8) (by decide)
    have GT8 := GT.mono (k := 8) (by decide)
    have GSt6 := GSt.mono (k := 6) (by decide)
    have GRp7 := GRp.mono (k := 7) (by decide)
    have hu : (A.deeper (envOfC "_law_right" (defScope sRi) s.heap.objs.size f cdv)).units + 64 < cLine := by have := hr.units; omega
    refine ⟨_, pss_cons (ps_par (i := 1) (j := 2) rfl scRi.nd rfl rfl (by decide) rfl rfl (pa_cons (pe_call GD8 hr rfl gD kD bD .nil pass0 (pa_cons (pv 0) pa_nil)) (pa_cons (pe_call GD8 hr rfl gD kD bD .nil pass0 (pa_cons (pv 0) pa_nil)) pa_nil)) rfl)
      (pss_cons (ps_par (i := 3) (j := 4) rfl scRi.nd rfl rfl (by decide) rfl rfl (pa_cons (pe_call GT8 hr rfl gT kT bT .nil pass0 (pa_cons (pv 1) pa_nil)) (pa_cons (pe_call GT8 hr rfl gT kT bT .nil pass0 (pa_cons (pv 2) pa_nil)) pa_nil)) rfl)
      (pss_cons (ps_set (i := 5) scRi.nd rfl (.inl rfl) (pe_make MI GI7 hr rfl Tc.gC bI .nil pass0 (pa_cons (pe_callTy (call_dictP rfl) (by rfl) T2.dict (by decide +kernel) (pa_cons (pe_revL (LiI.pe_listItems rfl (pv 1) (by rfl) T2.list (by decide +kernel))) pa_nil)) pa_nil)))
      (pss_cons (ps_if (pt_cmpR (op_neD hu) (pe_lst (pa_cons (pe_callTy (call_strO GSt6 hr mSt iSt bSt pass0) (by rfl) strN (by decide +kernel) (pa_cons (pv 5) pa_nil))
            (pa_cons (pe_callB (call_reprO GRp7 hr mRp iRp bRp pass0) (by rfl) T.repr (by decide +kernel) (pa_cons (pv 5) pa_nil))
            (pa_cons (pe_callTy (call_strO GSt6 hr mSt iSt bSt pass0) (by rfl) strN (by decide +kernel) (pa_cons (pe_make MI GI7 hr rfl Tc.gC bI .nil pass0 (pa_cons (pv 2) pa_nil)) pa_nil)) pa_nil))))
          (pe_lst (pa_cons (pv 3) (pa_cons (pe_op op_add_str (pe_op op_add_str pe_str (pv 3)) pe_str) (pa_cons (pv 4) pa_nil)))) (nomark _)) (pss_one (ps_ret pe_bl)) pss_nil) ht4))), ?_⟩
    refine ⟨_, rfl, r, rfl, hR, fun H1 d1 es B1 hR1 n1 h1 m1 => ?_⟩
    refine ⟨_, rfl, r, rfl, hR1, fun H2 d2 fs B2 hR2 n2 h2 m2 => ?_⟩
    refine ⟨_, _, rfl, ?_⟩
    have h1' := B2 _ _ (rg_ne hR1 h1) h1
    have B02 := B1.trans B2
    have z1 := m1.ln
    have z2 := m2.ln
    have hb1 : ∀ q ∈ es, isNm q.1 = true ∧ Big q.2 := fun q hq => ⟨m1.nm q hq, m1.big q hq⟩
    have hb2 : ∀ q ∈ fs, isNm q.1 = true ∧ Big q.2 := fun q hq => ⟨m2.nm q hq, m2.big q hq⟩
    refine ⟨_, rfl, d1, es, rfl, h1', by omega, hb1, fun H3 S3 => ?_⟩
    refine ⟨_, rfl, d2, fs, rfl, S3 _ _ h2, by omega, hb2, fun H4 S4 => ?_⟩
    refine ⟨_, _, rfl, ?_⟩
    have S24 := S3.trans S4
    have h14 := S24 _ _ h1'
    have h24 := S24 _ _ h2
    refine ⟨_, rfl, d1, kv es, rfl, h14, fun H5 p ts S5 np nts hpts hp5 hP => ?_⟩
    refine ⟨p, _, rfl, SqL.of hp5, fun p2 np2 => ?_⟩
    have S6 := fresh_upd (o := .lst (ts.map V.ref).reverse) np2
    have e6 : upd H5 p2 (.lst (ts.map V.ref).reverse) p2 = some (.lst (ts.reverse.map V.ref)) := by rw [upd_same, List.map_reverse]
    generalize upd H5 p2 (.lst (ts.map V.ref).reverse) = H6 at S6 e6
    have hP6 : Paired (fun (t : Addr) (q : Key × V) => SqT K H6 t [kV q.1, q.2]) ts (kv es) := Paired.mapP hP fun _ _ e => SqT.of (S6 _ _ e)
    refine ⟨p2, ts.reverse, _, rfl, SqL.of e6, paired_rev hP6, fun D nD => ?_⟩
    rw [kv_rev, merge_kv (nod_rev m1.sd.nodup)]
    have S7 := fresh_upd (o := .dK (kv es.reverse)) nD
    have e7 : upd H6 D (.dK (kv es.reverse)) D = some (.dK (kv es.reverse)) := upd_same
    have S47 : Same H4 (upd H6 D (.dK (kv es.reverse))) := (show Same H4 H5 from S5).trans (S6.trans S7)
    generalize upd H6 D (.dK (kv es.reverse)) = H7 at S7 e7 S47
    dsimp only [tNil, gName]
    refine rd_make (Q := fun y H2 => tSeq _ t4 _ (List.set _ 5 (some y)) H2) e7 (nod_rev m1.sd.nodup) (by rw [List.length_reverse]; omega) (fun q hq => m1.nm q (List.mem_reverse.mp hq)) fun H8 a rs S8 hz nw lk => ?_
    have ers : rs = es := by
      obtain ⟨_, _, _, _, sd, _⟩ := id hz
      refine sd.one m1.sd fun n => ?_
      rw [lk, cz_g0 (nod_rev m1.sd.nodup) fun q hq => m1.nz q (List.mem_reverse.mp hq)]
      exact look_rev m1.sd.nodup n
    subst ers
    obtain ⟨dx, D0, y1, _⟩ := id hz
    have S48 := S47.trans S8
    refine ⟨_, rfl, a, dx, _, rfl, y1, a, rs, rfl, hz, m1.big, fun H9 S9 => ⟨_, rfl, ?_⟩⟩
    refine ⟨_, rfl, a, dx, _, rfl, S9 _ _ y1, a, rs, rfl, hz.same S9, m1.big, fun H10 S10 => ⟨_, rfl, ?_⟩⟩
    have S410 := S48.trans (S9.trans S10)
    refine ⟨_, rfl, ?_⟩
    dsimp only [tNil]
    refine rd_make (Q := fun y H2 => rStrO C (spStr C) E0 [y] H2 _) (S410 _ _ h24) m2.sd.nodup (by omega) m2.nm fun H11 b us S11 hzb nwb lkb => ?_
    have eus : us = fs := by
      obtain ⟨_, _, _, _, sd, _⟩ := id hzb
      exact sd.one m2.sd fun n => by rw [lkb, cz_g0 m2.sd.nodup m2.nz]
    subst eus
    obtain ⟨dy, D1, y2, _⟩ := id hzb
    refine ⟨b, dy, _, rfl, y2, b, us, rfl, hzb, m2.big, fun H12 S12 => ⟨_, rfl, ?_⟩⟩
    refine ⟨by rw [sizeLine_eq]; show 3 ≤ 16777216; decide, fun La nLa => ?_⟩
    have hl1 := m1.len
    have eS1 : ("Size('" : Str).length = 6 := by decide
    have eS2 : ("')" : Str).length = 2 := by decide
    refine ⟨_, rfl, _, rfl, _, _, rfl, rfl, by rw [eS1, sizeLine_eq]; omega, _, _, rfl, rfl, by rw [len_app, eS1, eS2, sizeLine_eq]; omega, _, rfl, by rw [sizeLine_eq]; show 3 ≤ 16777216; decide, fun Lb nLb => ?_⟩
    have S13 := fresh_upd (o := .lst ([texE rs, reprS (texE rs), texE us].map V.str)) nLa
    have e13 : upd H12 La (.lst ([texE rs, reprS (texE rs), texE us].map V.str)) La = some (.lst ([texE rs, reprS (texE rs), texE us].map V.str)) := upd_same
    have S14 := fresh_upd (o := .lst ([texE rs, reprS (texE rs), texE us].map V.str)) nLb
    have hst : ∀ n ∈ [texE rs, reprS (texE rs), texE us], ∀ c ∈ tl n, c < 0x110000 := fun n hn => by
      have t1 : ∀ c ∈ tl (texE rs), c < 0x110000 := fun c hc => Nat.lt_trans (sgn_lt (sgn_tex m1.nm hc)) (by decide)
      have t2 : ∀ c ∈ tl (texE us), c < 0x110000 := fun c hc => Nat.lt_trans (sgn_lt (sgn_tex m2.nm hc)) (by decide)
      rcases List.mem_cons.mp hn with rfl | hn
      · exact t1
      rcases List.mem_cons.mp hn with rfl | hn
      · exact repr_ok _ t1
      rcases List.mem_cons.mp hn with rfl | hn
      · exact t2
      cases hn
    refine ⟨.list ([texE rs, reprS (texE rs), texE us].map PyData.str), .list ([texE rs, reprS (texE rs), texE us].map PyData.str), .lst (SqL.of (S14 _ _ e13)) (dp_strs _), .lst (SqL.of upd_same) (dp_strs [texE rs, reprS (texE rs), texE us]), sh_strs hst, sh_strs hst, _, rfl, ?_⟩
    have ee : PyData.eqv (.list ([texE rs, reprS (texE rs), texE us].map PyData.str)) (.list ([texE rs, reprS (texE rs), texE us].map PyData.str)) = true := by
      show PyData.eqvAll ([texE rs, reprS (texE rs), texE us].map PyData.str) ([texE rs, reprS (texE rs), texE us].map PyData.str) = true
      rw [eqv_strs, decide_eq_true rfl]
    rw [ee]
    refine iteF ?_
    have S2e := S24.trans (S410.trans (S11.trans (S12.trans (S13.trans S14))))
    exact hq4 _ _ r d1 d2 rs us _ (hR2.same S2e) (S2e _ _ h1') (S2e _ _ h2) m1 m2 fun H' B hR' => k H' ((B02.trans (But.of S2e)).trans B) hR'
end
end K13
set_option maxHeartbeats 8000000
namespace K13
open PySem PySem.Spec PyProof.Rows L2

theorem rd_mk {C G : Addr} {R : Es} {H : Hp} {Qx : Addr → VK} (hG : H G = some (.dK (kv R))) (hn : (R.map (·.1)).Nodup) (hl : R.length < 64) (nmR : ∀ q ∈ R, isNm q.1 = true)
    (k : ∀ H' r rs dx D, Same H H' → SizeAt C H' r rs → (∀ n, rs.lookup n = cz (g0 R n)) → H r = none → H D = none → H' r = some (.ins C dx [("_exponents", .ref D)]) → Qx r .non H') :
    ∀ x dx, H x = none → H dx = none → dx ≠ x → spInit C (.ref x :: ([.ref G] ++ [])) (upd (upd H dx (.own x)) x (.ins C dx [])) (Qx x) E0 := by
  intro x ex nx ndx nex
  have Gx : G ≠ x := ne_of_none hG nx
  have Sx : Same H (upd (upd H ex (.own x)) x (.ins C ex [])) := fun b o e => by
    rw [upd_ne (ne_of_none e nx), upd_ne (ne_of_none e ndx)]
    exact e
  refine ⟨x, ex, .ref G, R, rfl, upd_same, .inr ⟨G, rfl, Gx, Sx _ _ hG⟩, hn, hl, nmR, fun H4 D4 R4 S4 hx4 nD4 hD4 sR4 lR4 zR4 => ?_⟩
  have nD : H D4 = none := by
    cases e : H D4 with
    | none => rfl
    | some o =>
      have z := Sx _ _ e
      rw [nD4] at z
      cases z
  exact k H4 x R4 ex D4 (fun b o e => S4 b o (ne_of_none e nx) (Sx _ _ e)) (size_of hx4 hD4 sR4 lR4 zR4 hl nmR) (fun n => by rw [lR4, nz_cz]) nx nD hx4
theorem rd_mk0 {C : Addr} {H : Hp} {Qx : Addr → VK} (k : ∀ H' r, Same H H' → SizeAt C H' r [] → Nw C H H' r → Qx r .non H') :
    ∀ x dx, H x = none → H dx = none → dx ≠ x → spInit C (.ref x :: [.non]) (upd (upd H dx (.own x)) x (.ins C dx [])) (Qx x) E0 := by
  intro x ex nx ndx nex
  have Sx : Same H (upd (upd H ex (.own x)) x (.ins C ex [])) := fun b o e => by
    rw [upd_ne (ne_of_none e nx), upd_ne (ne_of_none e ndx)]
    exact e
  refine ⟨x, ex, .non, [], rfl, upd_same, .inl ⟨rfl, rfl⟩, List.Pairwise.nil, by decide, (fun q h => nomatch h), fun H4 D4 R4 S4 hx4 nD4 hD4 sR4 lR4 zR4 => ?_⟩
  have e : R4 = [] := List.length_eq_zero_iff.mp (by simpa using zR4)
  subst e
  exact k H4 x (fun b o e => S4 b o (ne_of_none e nx) (Sx _ _ e)) (size_of hx4 hD4 sR4 lR4 zR4 (by decide) (fun q h => nomatch h)) ⟨ex, D4, hx4, nx, none_pre Sx nD4⟩

/-! ### law -/
abbrev sLw : Stmt := top 44
def NLa : List Str := ["_law_script", "_law_thing", "_law_k"]
def spLaw (K : PySem.W.Frag) : Sp := fun vs H Q _ => ∃ (a : Addr) (ns : List Int), vs = [.ref a] ∧ SqL K H a (ns.map V.int) ∧ ns.length ≤ 1000 ∧
  ∀ H', Q (.bl true) H'
theorem many_nat (n : Nat) : (if (if (n : Int) < 5 then (n : Int) else 5) > 1 then (if (n : Int) < 5 then (n : Int) else 5) else 1) = ((max 1 (min 5 n) : Nat) : Int) := by
  split <;> split <;> omega
theorem many_nat' (n : Nat) : (if (if (5 : Int) < (n : Int) then (5 : Int) else (n : Int)) > 1 then (if (5 : Int) < (n : Int) then (5 : Int) else (n : Int)) else 1) = ((max 1 (min 5 n) : Nat) : Int) := by
  split <;> split <;> omega
def a1 : Es := [("a", 1)]
theorem all_true (n : Nat) : (List.replicate n true).all id = true := by
  rw [List.all_eq_true]
  intro x hx
  exact List.eq_of_mem_replicate hx
/-- a value that is no text -/
def NosAt (K : PySem.W.Frag) (H : Hp) (v : V) : Prop := ∃ t, PySem.W.kitOne K t (.type "str") = some false ∧ ∀ H', Same H H' → TyX K H' v t
theorem NosAt.same {K : PySem.W.Frag} {H H' : Hp} {v : V} (h : NosAt K H v) (S : Same H H') : NosAt K H' v := by
  obtain ⟨t, h1, h2⟩ := h
  exact ⟨t, h1, fun H2 S2 => h2 H2 (S.trans S2)⟩
section
variable {P : Program} {w : World} {K : PySem.W.Frag} {mg : Str → Option Value} {base : Heap} {C CT : Addr}
theorem scLw : FnScope NLa ["_law_script"] (defScope sLw) :=
  ⟨rfl, rfl, rfl, by decide +kernel, rfl, by decide +kernel, by decide +kernel⟩
theorem ok_law {f fM fG fR : Addr} {fd fdM fdG fdR : FuncData} (F : Fun K "law" "law" sLw f fd) (Nn : Nb mg) (Kk : Kz P w K mg base C CT) (hsys : (K.lookup sysModules).isSome = true)
    {fi : Addr} {fdi : FuncData} (M : Mk K C fi) (gi : FnOk P w K mg base CX0 3 fi fdi ["self", "exponents"] (spInit C)) (bi : Binds K fdi ["self", "exponents"] []) (bi0 : Binds K fdi ["self", "exponents"] [.none])
    (kC : PySem.W.kitOne K (.ref C) (.type "str") = some false)
    (GM : FnOk P w K mg base CX0 7 fM fdM ["_law_told"] (spMet K)) (kM : PySem.W.keepIn K (.ref fM) = true) (bM : Binds K fdM ["_law_told"] []) (gM : mg "_law_met" = some (.ref fM))
    (GG : FnOk P w K mg base CX0 1 fG fdG ["_law_script", "_law_k"] (spRng K)) (kG : PySem.W.keepIn K (.ref fG) = true)
    (bG : Binds K fdG ["_law_script", "_law_k"] []) (gG : mg "_law_rng" = some (.ref fG))
    (GR : FnG P w K mg base 9 fR fdR ["_law_rng_here"] spRi) (kR : PySem.W.keepIn K (.ref fR) = true)
    (bR : Binds K fdR ["_law_rng_here"] []) (gR : mg "_law_right" = some (.ref fR)) :
    FnG P w K mg base 10 f fd ["_law_script"] (spLaw K) := by
  obtain ⟨Tc, _⟩ := Kk
  have GG9 := GG.mono (k := 9) (by decide)
  have GM9 := GM.mono (k := 9) (by decide)
  have gi8 := gi.mono (k := 8) (by decide)
  refine F.okG scLw (fun vs H Q h => ?_) (fun cdv A outer s H vs Q hgu hr h => ?_)
  · obtain ⟨a, ns, rfl, _⟩ := h
    rfl
  · obtain ⟨a, ns, rfl, hS, hn, q⟩ := h
    have hgu' : (A.deeper (envOfC "law" (defScope sLw) s.heap.objs.size f cdv)).guards = some [] := hgu
    have hu : (A.deeper (envOfC "law" (defScope sLw) s.heap.objs.size f cdv)).units + 64 < cLine := by have := hr.units; omega
    refine ⟨_, pss_cons (ps_for PassesOwn.never rfl (pi_list (pe_lst (pa_cons pe_non (pa_cons pe_int (pa_cons pe_bl (pa_cons (pe_lst pa_nil) (pa_cons (pe_lst (pa_cons pe_str pa_nil)) (pa_cons (pe_tup (pa_cons pe_str pa_nil))
          (pa_cons pe_dnewK (pa_cons (pe_make0 M gi8 hr rfl Tc.gC bi0 (.cons (show RelV .non .none from rfl) .nil) pass0)
          (pa_cons (pe_make M gi8 hr rfl Tc.gC bi .nil pass0 (pa_cons (pe_disp (pps_cons pe_str pe_int pps_nil) (by rfl) (by rfl) (fun z => by cases z) (by decide)) pa_nil)) pa_nil)))))))))))
        (pg_name (i := 1) scLw.nd rfl (Or.inl rfl))
        (pss_one (ps_if (pt_cmpR (op_neD hu) (pe_call GM9 hr rfl gM kM bM .nil pass0 (pa_cons (pv 1) pa_nil)) (pe_lst (pa_cons pe_str (pa_cons pe_int (pa_cons pe_bl pa_nil)))) (nomark _)) (pss_one (ps_ret pe_bl)) pss_nil)))
      (pss_one (ps_ret (pe_callB (cr_all rfl) (by rfl) Nn.all (by decide +kernel) (pa_cons
      (pe_lc (own := [("_law_k", 2)]) (g := gName 2) (tt := tYes)
        (te := tCall spRi [] E0 (tCons (tCall (spRng K) [] E0 (tCons (tVar 0) (tCons (tVar 2) tNil))) tNil)) rfl scLw.nd
        (pi_range1 (by rfl) Nn.range (pa_cons (pe_callB (call_max2 rfl) (by rfl) Nn.max (by decide +kernel) (pa_cons pe_int (pa_cons
          (pe_callB (call_min2 rfl) (by rfl) Nn.min (by decide +kernel) (pa_cons
            (pe_callB call_len_seq (by rfl) Nn.len PySem.boot_len (pa_cons (pv 0) pa_nil)) (pa_cons pe_int pa_nil))) pa_nil))) pa_nil))
        (blkOk_by (own := [("_law_k", 2)]) (N := NLa) (sc := defScope sLw) (by decide +kernel)) (fun _ _ _ _ _ => pg_name (i := 2) scLw.nd rfl (Or.inl rfl))
        (fun _ _ _ _ _ => pts_nil) (fun _ _ _ _ _ => by
          exact pe_callG GR hgu' hr rfl gR kR bR (pa_cons (pe_call GG9 hr rfl gG kG bG .nil pass0 (pa_cons (pv 0) (pa_cons (pv 2) pa_nil))) pa_nil))) pa_nil)))), ?_⟩
    refine ⟨by rw [sizeLine_eq]; show 0 ≤ 16777216; decide, fun l1 n1 => ?_⟩
    have S1 := fresh_upd (o := .lst []) n1
    have e1 : upd H l1 (.lst []) l1 = some (.lst []) := upd_same
    generalize upd H l1 (.lst []) = H1 at S1 e1
    refine ⟨by rw [sizeLine_eq]; show 1 ≤ 16777216; decide, fun l2 n2 => ?_⟩
    have S2 := fresh_upd (o := .lst [V.str "a"]) n2
    have e2 : upd H1 l2 (.lst [V.str "a"]) l2 = some (.lst [V.str "a"]) := upd_same
    generalize upd H1 l2 (.lst [V.str "a"]) = H2 at S2 e2
    refine ⟨by rw [sizeLine_eq]; show 1 ≤ 16777216; decide, fun t3 n3 => ?_⟩
    have S3 := fresh_upd (o := .tup [V.str "a"]) n3
    have e3 : upd H2 t3 (.tup [V.str "a"]) t3 = some (.tup [V.str "a"]) := upd_same
    generalize upd H2 t3 (.tup [V.str "a"]) = H3 at S3 e3
    refine fun d4 n4 => ?_
    have S4 := fresh_upd (o := .dK []) n4
    have e4 : upd H3 d4 (.dK []) d4 = some (.dK []) := upd_same
    generalize upd H3 d4 (.dK []) = H4 at S4 e4
    refine rd_mk0 fun H5 p5 S5 z5 nw5 => ⟨rfl, ?_⟩
    obtain ⟨x5, D5, q5, q5'⟩ := id z5
    refine fun e7 n7 => ⟨upd_same, [(ky "a", .int 1)], rfl, by decide, ?_⟩
    have hm7 : mergeK [] [(ky "a", V.int 1)] = kv a1 := merge_kv (es := a1) (by decide +kernel)
    rw [hm7]
    have U7 : Same H5 (upd (upd H5 e7 (.dK [])) e7 (.dK (kv a1))) := fun b o e => (upd_ne (ne_of_none e n7)).trans ((upd_ne (ne_of_none e n7)).trans e)
    have h7 : upd (upd H5 e7 (.dK [])) e7 (.dK (kv a1)) e7 = some (.dK (kv a1)) := upd_same
    generalize upd (upd H5 e7 (.dK [])) e7 (.dK (kv a1)) = H7 at U7 h7
    refine rd_mk h7 (by decide +kernel) (by decide) (fun q hq => by rw [List.mem_singleton.mp hq]; decide +kernel) fun H8 p8 rs x8 D8 S8 z8 l8 np8 nD8 q8 => ⟨rfl, ?_⟩
    refine ⟨by rw [sizeLine_eq]; show 9 ≤ 16777216; decide, fun L nL => ?_⟩
    have S9 := fresh_upd (o := .lst [V.non, V.int 1, V.bl true, V.ref l1, V.ref l2, V.ref t3, V.ref d4, V.ref p5, V.ref p8]) nL
    have e9 : upd H8 L (.lst [V.non, V.int 1, V.bl true, V.ref l1, V.ref l2, V.ref t3, V.ref d4, V.ref p5, V.ref p8]) L = some (.lst [V.non, V.int 1, V.bl true, V.ref l1, V.ref l2, V.ref t3, V.ref d4, V.ref p5, V.ref p8]) := upd_same
    generalize upd H8 L (.lst [V.non, V.int 1, V.bl true, V.ref l1, V.ref l2, V.ref t3, V.ref d4, V.ref p5, V.ref p8]) = H9 at S9 e9
    have S59 := U7.trans (S8.trans S9)
    have S49 := S5.trans S59
    have S39 := S4.trans S49
    have S29 := S3.trans S39
    have S19 := S2.trans S29
    have hno : ∀ v ∈ [V.non, V.int 1, V.bl true, V.ref l1, V.ref l2, V.ref t3, V.ref d4, V.ref p5, V.ref p8], NosAt K H9 v := fun v hv => by
      rcases List.mem_cons.mp hv with rfl | hv
      · exact ⟨_, kit_ty (by decide +kernel), fun H' S => .base .non⟩
      rcases List.mem_cons.mp hv with rfl | hv
      · exact ⟨_, kit_ty (by decide +kernel), fun H' S => .base (.int 1)⟩
      rcases List.mem_cons.mp hv with rfl | hv
      · exact ⟨_, kit_ty (by decide +kernel), fun H' S => .base (.bl true)⟩
      rcases List.mem_cons.mp hv with rfl | hv
      · exact ⟨_, kit_ty (by decide +kernel), fun H' S => .base (.lst (S _ _ (S19 _ _ e1)))⟩
      rcases List.mem_cons.mp hv with rfl | hv
      · exact ⟨_, kit_ty (by decide +kernel), fun H' S => .base (.lst (S _ _ (S29 _ _ e2)))⟩
      rcases List.mem_cons.mp hv with rfl | hv
      · exact ⟨_, kit_ty (by decide +kernel), fun H' S => .base (.tup (S _ _ (S39 _ _ e3)))⟩
      rcases List.mem_cons.mp hv with rfl | hv
      · exact ⟨_, kit_ty (by decide +kernel), fun H' S => .base (.dK (S _ _ (S49 _ _ e4)))⟩
      rcases List.mem_cons.mp hv with rfl | hv
      · exact ⟨_, kC, fun H' S => .base (.ins (S _ _ (S59 _ _ q5)) Tc.cl Tc.cc Tc.cn Tc.ct Tc.co)⟩
      rcases List.mem_cons.mp hv with rfl | hv
      · exact ⟨_, kC, fun H' S => .base (.ins (S _ _ (S9 _ _ q8)) Tc.cl Tc.cc Tc.cn Tc.ct Tc.co)⟩
      cases hv
    have S09 : Same H H9 := S1.trans S19
    generalize [V.non, V.int 1, V.bl true, V.ref l1, V.ref l2, V.ref t3, V.ref d4, V.ref p5, V.ref p8] = xs at e9 hno
    refine ⟨L, rfl, ⟨_, SqL.of e9⟩, for_it (walk_list (K := K) (a := L) (xs := xs)) (fun i σ H10 => (∃ o1, σ = [some (.ref a), o1, none]) ∧ Same H9 H10)
      ⟨⟨none, rfl⟩, Same.refl H9⟩ (fun i σ H10 _ h => SqL.of (h.2 _ _ e9)) ?_ ?_⟩
    · rintro i v σ H' H10 hi ⟨⟨o1, rfl⟩, S10⟩ ⟨rfl, hv⟩
      obtain ⟨t, k1, k2⟩ := hno v (List.mem_of_getElem? hv)
      refine ⟨_, rfl, v, rfl, .inr ⟨t, k2 _ S10, k1, fun H11 M1 S11 hM1 => ?_⟩⟩
      refine ⟨by rw [sizeLine_eq]; show 3 ≤ 16777216; decide, fun M2 nM2 => ?_⟩
      have S12 := fresh_upd (o := lMet 0) nM2
      have e12 : upd H11 M2 (lMet 0) M2 = some (lMet 0) := upd_same
      have d3 : ∀ {K : PySem.W.Frag} {H : Hp}, DpAll K H [V.str "text", V.int 0, V.bl true] [PyData.str "text", PyData.int 0, PyData.bool true] := .cons (.str _) (.cons (.int 0) (.cons (.bl true) .nil))
      refine ⟨dTx 0, dTx 0, .lst (SqL.of (S12 _ _ hM1)) d3, .lst (SqL.of e12) d3, by decide +kernel, by decide +kernel, _, rfl, ?_⟩
      rw [show PyData.eqv (dTx 0) (dTx 0) = true by decide +kernel]
      refine iteF ?_
      exact ⟨⟨_, rfl⟩, S10.trans (S11.trans S12)⟩
    rintro σ H10 ⟨⟨o1, rfl⟩, S10⟩
    have S := S09.trans S10
    -- the cells
    refine ⟨_, rfl, a, _, rfl, .inl (S.seq hS), _, _, rfl, _, _, rfl, ?_⟩
    first
      | rw [many_nat]
      | rw [many_nat']
    have hm4 : max 1 (min 5 (ns.map V.int).length) ≤ 5 := by omega
    generalize max 1 (min 5 (ns.map V.int).length) = m at hm4
    refine ⟨m, rfl, by omega, by omega, fun D hD => ?_⟩
    refine lc_range (lo := 0) (n := m) (fun i H2 => H2 D = some (.lst (List.replicate i (V.bl true))) ∧ Same H10 H2)
      ⟨upd_same, fresh_upd hD⟩ ?_ ?_
    · rintro i H2 hi ⟨hD2, S2'⟩
      refine ⟨rfl, ?_⟩
      unfold tYes
      dsimp only
      rw [if_pos rfl]
      refine ⟨_, rfl, _, rfl, a, ns, _, rfl, (S.trans S2').seq hS, by omega, by omega, hn, fun p x y hp h0 h1 h2 => ?_⟩
      refine ⟨p, rfl, ⟨x, y, upd_same, h0, h1, h2⟩, fun H3' hB _ => ?_⟩
      have S3' : Same H2 H3' := fun b o e => hB b o (ne_of_none e hp) ((upd_ne (ne_of_none e hp)).trans e)
      refine ⟨_, S3' _ _ hD2, by rw [List.length_replicate, sizeLine_eq]; omega, ?_, fun b o e => ?_⟩
      · rw [upd_same, List.replicate_succ']
      · rw [upd_ne (ne_of_none e hD)]
        exact S3' b o (S2' b o e)
    · rintro H2 ⟨hD2, S2'⟩
      refine ⟨D, List.replicate m true, rfl, SqL.of (by rw [List.map_replicate]; exact hD2), ?_⟩
      rw [all_true]
      exact q _
end
end K13
set_option maxHeartbeats 8000000
namespace K13
open PySem PySem.Spec PyProof.Rows L2 He

/-! ### what is looked at behind the top -/
/-- an object that a namespace names -/
def gNs (g : Addr → Option Obj) (ns : Addr) (x : Str) : Addr := match g ns with
  | some ⟨_, _, .dict es _, _⟩ => (match es.toList.find? (·.key.isStr x) with
    | some e => (match e.val with
      | .ref a => a
      | _ => 0)
    | none => 0)
  | _ => 0
/-- a function, its code, its defaults -/
def gFn (g : Addr → Option Obj) (f : Addr) : List Addr := f :: (match g f with
  | some ⟨_, _, .func fd, _⟩ => (match fd.code with
    | .ref c => [c]
    | _ => []) ++ (match fd.defaults with
    | .ref t => [t]
    | _ => []) ++ fd.closure.map (·.2)
  | _ => [])
/-- .., or a record over it -/
def gMb (g : Addr → Option Obj) (p : Addr) : List Addr := match g p with
  | some ⟨_, _, .fields vs, _⟩ => (match vs[0]? with
    | some (Value.ref f) => p :: gFn g f
    | _ => [p])
  | _ => gFn g p
def meths : List (Str × Nat) := [("exponents", 8), ("__eq__", 17), ("__str__", 18), ("__repr__", 19), ("read", 2)]
def gCl (g : Addr → Option Obj) (C : Addr) : List Addr := C :: (match g C with
  | some ⟨_, _, .cls cd, _⟩ => cd.ns :: gMb g (gNs g cd.ns "__init__") ++ meths.flatMap fun p => gMb g (gNs g cd.ns p.1)
  | _ => [])
def xCl (g : Addr → Option Obj) (C : Addr) : List Addr := C :: (match g C with
  | some ⟨_, _, .cls cd, _⟩ => cd.ns :: gFn g (gNs g cd.ns "__init__")
  | _ => [])
def fns0 : List (Str × Nat) := [("is_integer", 9), ("is_name", 13), ("decimal_text", 18), ("read_decimal", 19), ("exponents_text", 21), ("read_exponents", 22), ("_power_text", 23), ("_is_exponents", 28), ("_law_rng", 30), ("_law_draw", 31), ("_law_choice", 32), ("_law_names", 33), ("_law_drawn", 34), ("_law_text", 35), ("_law_is_name", 36), ("_law_reads", 37)]
def fns1 : List (Str × Nat) := [("_law_met", 38), ("_law_is_far", 39), ("_law_is_read", 40), ("_law_spoilt_word", 41), ("_law_spoilt", 42), ("_law_right", 43), ("law", 44)]
def fns : List (Str × Nat) := fns0 ++ fns1
def xcs : List Str := ["AnyshapeError", "InvalidText"]
def addrs (g : Addr → Option Obj) : List Addr := [mainGlobals, sysModules, cStatics] ++ gCl g (gNs g mainGlobals "Size") ++ (xcs.flatMap fun x => xCl g (gNs g mainGlobals x)) ++ fns.flatMap fun p => gFn g (gNs g mainGlobals p.1)
def KX (g : Addr → Option Obj) : PySem.W.Frag := He.frG g (addrs g)

/-! ### the facts -/
abbrev FnX : Type := Option (Str × Str × Arguments × FuncBody × Scope × Addr × Addr)
def fnX (K : PySem.W.Frag) (f : Addr) : FnX := match K.lookup f with
  | some ⟨_, _, .func fd, _⟩ => some (fd.name, fd.qualname, fd.params, fd.body, fd.scope, fd.globals, fd.builtins)
  | _ => none
def fnT (x qual : Str) (st : Stmt) : FnX := some (x, qual, defArgs st, .stmts (defBody st), defScope st, mainGlobals, builtinsNs)
def fnB (K : PySem.W.Frag) (f : Addr) (qual : Str) : Bool := PySem.W.keepIn K (.ref f) && match K.lookup f with
  | some ⟨_, _, .func fd, _⟩ => (match fd.closure, fd.defaults with
    | [], .none => PySem.W.codeIn K fd.code qual
    | _, _ => false)
  | _ => false
theorem fun_of {K : PySem.W.Frag} {f : Addr} {x qual : Str} {st : Stmt} (e : fnX K f = fnT x qual st) (c : fnB K f qual = true) : ∃ fd, Fun K x qual st f fd := by
  unfold fnB at c
  obtain ⟨kp, c2⟩ := Bool.and_eq_true_iff.mp c
  unfold fnX at e
  cases q : K.lookup f with
  | none =>
    rw [q] at c2
    cases c2
  | some o =>
    obtain ⟨oc, od, dt, osl⟩ := o
    rw [q] at c2 e
    cases dt with
    | func fd =>
      obtain ⟨n1, n2, n3, n4, n5, n6, n7, n8, n9, n10, n11, n12, n13, n14, n15⟩ := fd
      have e2 : (some (n1, n2, n3, n4, n5, n6, n15) : FnX) = some (x, qual, defArgs st, .stmts (defBody st), defScope st, mainGlobals, builtinsNs) := e
      simp only [Option.some.injEq, Prod.mk.injEq] at e2
      obtain ⟨h1, h2, h3, h4, h5, h6, h7⟩ := e2
      subst h1 h2 h3 h4 h5 h6 h7
      dsimp only at c2
      split at c2
      · exact ⟨_, ⟨oc, od, n9, n10, n11, n12, n13, n14, osl, rfl, q, c2⟩, kp⟩
      · cases c2
    | _ => cases c2
/-- a def whose one default is None -/
def fnD (K : PySem.W.Frag) (f : Addr) (qual : Str) : Bool := PySem.W.keepIn K (.ref f) && match K.lookup f with
  | some ⟨_, _, .func fd, _⟩ => (match fd.closure, fd.defaults with
    | [], .ref T => PySem.W.codeIn K fd.code qual && (match K.lookup T with
      | some ⟨_, _, .seq its _, _⟩ => decide (its = #[Value.none])
      | _ => false)
    | _, _ => false)
  | _ => false
theorem fund_of {K : PySem.W.Frag} {f : Addr} {x qual : Str} {st : Stmt} (e : fnX K f = fnT x qual st) (c : fnD K f qual = true) : ∃ fd, FnD K x qual st [.non] f fd := by
  unfold fnD at c
  obtain ⟨kp, c2⟩ := Bool.and_eq_true_iff.mp c
  unfold fnX at e
  cases q : K.lookup f with
  | none =>
    rw [q] at c2
    cases c2
  | some o =>
    obtain ⟨oc, od, dt, osl⟩ := o
    rw [q] at c2 e
    cases dt with
    | func fd =>
      obtain ⟨n1, n2, n3, n4, n5, n6, n7, n8, n9, n10, n11, n12, n13, n14, n15⟩ := fd
      have e2 : (some (n1, n2, n3, n4, n5, n6, n15) : FnX) = some (x, qual, defArgs st, .stmts (defBody st), defScope st, mainGlobals, builtinsNs) := e
      simp only [Option.some.injEq, Prod.mk.injEq] at e2
      obtain ⟨h1, h2, h3, h4, h5, h6, h7⟩ := e2
      subst h1 h2 h3 h4 h5 h6 h7
      dsimp only at c2
      split at c2
      · rename_i T
        obtain ⟨c3, c4⟩ := Bool.and_eq_true_iff.mp c2
        split at c4
        · rename_i a1 a2 its n a4 q2
          have ei := of_decide_eq_true c4
          subst ei
          exact ⟨_, ⟨⟨oc, od, .ref T, _, _, _, _, _, _, osl, rfl, q, c3, .inr ⟨(fun z => nomatch z), T, _, [.none], n, rfl, q2, rfl, .cons rfl .nil⟩, .inl rfl⟩, kp⟩⟩
        · cases c4
      · cases c2
    | _ => cases c2
abbrev caK (K : PySem.W.Frag) : Addr := ga K "Size"
def eO (a b : Option (Option Value)) : Bool := decide (a = b)
def eB (a b : Option Bool) : Bool := decide (a = b)
/-- the function of a record -/
def rcF (K : PySem.W.Frag) (p : Addr) (T : String) : Addr := match PySem.W.recIn K p T with
  | some (.ref g :: _) => g
  | _ => 0
def rcB (K : PySem.W.Frag) (p : Addr) (T : String) : Bool := match PySem.W.recIn K p T with
  | some (.ref _ :: _) => true
  | _ => false
theorem rec_ok {K : PySem.W.Frag} {p : Addr} {T : String} (h : rcB K p T = true) : ∃ rest, PySem.W.recIn K p T = some (.ref (rcF K p T) :: rest) := by
  unfold rcB at h
  unfold rcF
  split at h
  · rename_i g r e
    rw [e]
    exact ⟨r, rfl⟩
  · cases h
def cmB (K : PySem.W.Frag) (m : Str) : Bool := match PySem.W.findCls K (.ref (caK K)) (.type "type") m with
  | some (.get g a o t) => decide (g = .builtin "classmethod.__get__") && (decide (a = .ref (ma K (caK K) m)) && (decide (o = .none) && decide (t = .ref (caK K))))
  | _ => false
theorem cm_ok {K : PySem.W.Frag} {m : Str} (h : cmB K m = true) : PySem.W.findCls K (.ref (caK K)) (.type "type") m = some (.get (.builtin "classmethod.__get__") (.ref (ma K (caK K) m)) .none (.ref (caK K))) := by
  unfold cmB at h
  split at h
  · rename_i g a o t e
    rw [Bool.and_eq_true, Bool.and_eq_true, Bool.and_eq_true] at h
    obtain ⟨h1, h2, h3, h4⟩ := h
    rw [e, of_decide_eq_true h1, of_decide_eq_true h2, of_decide_eq_true h3, of_decide_eq_true h4]
  · cases h
/-- a method's function -/
def meA (K : PySem.W.Frag) (m : Str) : Addr := ma K (caK K) m
def props : List Str := []
def cms : List Str := ["read"]
def plain : List Str := ["exponents", "__eq__", "__str__", "__repr__", "__init__"]
def faM (K : PySem.W.Frag) (m : Str) : Addr := if decide (m ∈ props) then rcF K (meA K m) "property" else if decide (m ∈ cms) then rcF K (meA K m) "classmethod" else meA K m
def quM (m : Str) : Str := ("Size." : Str) ++ m
def clB (K : PySem.W.Frag) : Bool :=
  eO (PySem.W.nsIn K mainGlobals "Size") (some (some (.ref (caK K)))) &&
  (PySem.W.plainGet K (caK K) Str.empty &&
  (PySem.W.hasDictIn K (caK K) &&
  (PySem.W.plainOver K (caK K) &&
  (eO (PySem.W.findIn K (.ref (caK K)) "__setattr__") (some (some (.builtin "object.__setattr__"))) &&
  (eO (PySem.W.findIn K (.ref (caK K)) "_exponents") (some none) &&
  (eO (PySem.W.findIn K (.ref (caK K)) "__class__") (some (some (.builtin "object.__class__"))) &&
  (eB (PySem.W.mroIn K (caK K) (.type "object")) (some true) &&
  (PySem.W.makesIn K (caK K) &&
  (PySem.W.keepIn K (.ref (caK K)) &&
  (PySem.W.selfFirst K (caK K) &&
  (eO (PySem.W.findIn K (.ref (caK K)) "__ne__") (some (some (.builtin "object.__ne__"))) &&
  (PySem.W.readsIn K (caK K) (.type "type") &&
  (eO (PySem.W.specialIn K (.ref (caK K)) "__getattribute__") (some (some (.builtin "type.__getattribute__"))) &&
  (eB (PySem.W.kitOne K (.ref (caK K)) (.type "str")) (some false) &&
  (eB (PySem.W.kitOne K (.type "int") (.ref (caK K))) (some false) &&
  (eB (PySem.W.kitOne K (.type "str") (.ref (caK K))) (some false) &&
  (eB (PySem.W.kitOne K (.type "dict") (.ref (caK K))) (some false))))))))))))))))))
def plB (K : PySem.W.Frag) (m : Str) : Bool := eO (PySem.W.findIn K (.ref (caK K)) m) (some (some (.ref (meA K m)))) && PySem.W.isFn K (.ref (meA K m))
def prB (K : PySem.W.Frag) (m : Str) : Bool := eO (PySem.W.findIn K (.ref (caK K)) m) (some (some (.ref (meA K m)))) && (eO (PySem.W.specialIn K (.ref (meA K m)) "__get__") (some (some (.builtin "property.__get__"))) &&
  (eB (PySem.W.takesIn K (.ref (meA K m))) (some true) && rcB K (meA K m) "property"))
def cmmB (K : PySem.W.Frag) (m : Str) : Bool := cmB K m && (rcB K (meA K m) "classmethod" && PySem.W.fnIn K (rcF K (meA K m) "classmethod"))
def bltN : List Str := ["len", "max", "min", "abs", "int", "divmod", "repr", "isinstance", "range", "enumerate", "all", "any", "bool", "str", "dict", "sorted", "list", "super"]
def conB (K : PySem.W.Frag) : Bool := (match PySem.W.nsIn K mainGlobals "LETTERS" with
  | some (some (.str x _)) => decide (x = abc)
  | _ => false) && ((match PySem.W.nsIn K mainGlobals "LONGEST_NAME" with
  | some (some (.int i _)) => decide (i = 8)
  | _ => false) && ((match PySem.W.nsIn K mainGlobals "DIGITS" with
  | some (some (.str x _)) => decide (x = dgT)
  | _ => false) && ((match PySem.W.nsIn K mainGlobals "CHUNK" with
  | some (some (.int i _)) => decide (i = 10 ^ 60)
  | _ => false))))

/-! ### own exceptions -/
def inB (K : PySem.W.Frag) (file : Str) (C f : Addr) (qual : Str) : Bool := match K.lookup f with
  | some ⟨_, _, .func fd, _⟩ => (match fd.closure, fd.defaults, fd.code with
    | [(x, cc)], .none, .ref cda => decide (x = "__class__") && (match K.lookup cc with
      | some ⟨_, _, .cell (some (.ref D)), _⟩ => decide (D = C)
      | _ => false) && PySem.W.codeIn K (.ref cda) qual && (match K.lookup cda with
      | some ⟨_, _, .fields vs, _⟩ => (match vs[2]? with
        | some (Value.str fl _) => file == fl
        | _ => false)
      | _ => false)
    | _, _, _ => false)
  | _ => false
/-- what stands of an own class' __init__ -/
structure InX (file : Str) (K : PySem.W.Frag) (C fI : Addr) (cc cda : Addr) (qual : Str) (params : Arguments) (body : List Stmt) (scope : Scope) : Prop where
  fn : ∃ (oc : Value) (od : Option Addr) (kV doc pm ct : Value) (an : Option Addr) (osl : Array (Option Value)), K.lookup fI = some ⟨oc, od,
      .func (PySem.W.ksFn "__init__" qual params body scope .none kV doc pm an (.ref cda) ct cc), osl⟩
  cod : PySem.W.codeIn K (.ref cda) qual = true
  code : ∃ ccl cdd vs ccs fl tf, K.lookup cda = some ⟨ccl, cdd, .fields vs, ccs⟩ ∧ vs[2]? = some (.str fl tf) ∧ (file == fl) = true
  cell : ∃ cl cld csl, K.lookup cc = some ⟨cl, cld, .cell (some (.ref C)), csl⟩
theorem in_of {file : Str} {K : PySem.W.Frag} {C f : Addr} {qual : Str} {st : Stmt} (e : fnX K f = fnT "__init__" qual st) (c : inB K file C f qual = true) :
    ∃ cc cda, InX file K C f cc cda qual (defArgs st) (defBody st) (defScope st) := by
  unfold inB at c
  unfold fnX at e
  cases q : K.lookup f with
  | none =>
    rw [q] at c
    cases c
  | some o =>
    obtain ⟨oc, od, dt, osl⟩ := o
    rw [q] at c e
    cases dt with
    | func fd =>
      obtain ⟨n1, n2, n3, n4, n5, n6, n7, n8, n9, n10, n11, n12, n13, n14, n15⟩ := fd
      have e2 : (some (n1, n2, n3, n4, n5, n6, n15) : FnX) = some (("__init__" : Str), qual, defArgs st, .stmts (defBody st), defScope st, mainGlobals, builtinsNs) := e
      simp only [Option.some.injEq, Prod.mk.injEq] at e2
      obtain ⟨h1, h2, h3, h4, h5, h6, h7⟩ := e2
      subst h1 h2 h3 h4 h5 h6 h7
      dsimp only at c
      split at c
      · rename_i x cc cda
        rw [Bool.and_eq_true, Bool.and_eq_true, Bool.and_eq_true] at c
        obtain ⟨⟨⟨c1, c2⟩, c3⟩, c4⟩ := c
        have ex := of_decide_eq_true c1
        subst ex
        refine ⟨cc, cda, ⟨oc, od, n9, n10, n11, n14, n12, osl, q⟩, c3, ?_, ?_⟩
        · split at c4
          · rename_i a1 a2 vs a4 q2
            split at c4
            · rename_i fl tf q3
              exact ⟨_, _, vs, _, fl, tf, q2, q3, c4⟩
            · cases c4
          · cases c4
        · split at c2
          · rename_i a1 a2 D a4 q2
            have eD := of_decide_eq_true c2
            subst eD
            exact ⟨_, _, _, q2⟩
          · cases c2
      · cases c
    | _ => cases c
def bmL (B : String) : List Value := [.type B, .type "Exception", .type "BaseException", .type "object"]
def fileK : Str := PySem.Challenge.pw_anyshape_k13_texts_of_sizes.main.file
def xB (K : PySem.W.Frag) (nm qu : Str) (B nw it : String) (fs : List Str) : Bool :=
  eO (PySem.W.nsIn K mainGlobals nm) (some (some (.ref (ga K nm)))) &&
  (eO (PySem.W.findIn K (.ref (ga K nm)) "__init__") (some (some (.ref (ma K (ga K nm) "__init__")))) &&
  (decide (PySem.W.typeIn K (.ref (ma K (ga K nm) "__init__")) = some (.type "function")) &&
  (inB K fileK (ga K nm) (ma K (ga K nm) "__init__") qu &&
  (PySem.W.excInitIn K (ga K nm) (bmL B) nw &&
  (PySem.W.excOver K (ga K nm) (bmL B) &&
  (PySem.W.hasDictIn K (ga K nm) &&
  (eO (PySem.W.findIn K (.ref (ga K nm)) "__setattr__") (some (some (.builtin "object.__setattr__"))) &&
  (PySem.W.keepIn K (.ref (ga K nm)) &&
  ((PySem.W.clsIn K (ga K nm)).isSome &&
  (eB (PySem.W.mroIn K (ga K nm) (.ref (ga K nm))) (some true) &&
  (eB (PySem.W.subIn K (.ref (ga K nm)) (.type B)) (some true) &&
  (eO (PySem.W.ks_superIn K (ga K nm) (ga K nm) "__init__") (some (some (.builtin it))) &&
  (eO (PySem.W.findIn K (.ref (ga K nm)) "__getattribute__") (some (some (.builtin "BaseException.__getattribute__"))) &&
  (eO (PySem.W.findIn K (.ref (ga K nm)) "__getattr__") (some none) &&
  (eB (PySem.W.subIn K (.ref (ga K nm)) (.type "BaseException")) (some true) &&
  (eO (PySem.W.findIn K (.ref (ga K nm)) "__class__") (some (some (.builtin "object.__class__"))) &&
  (eB (PySem.W.mroIn K (ga K nm) (.type "object")) (some true) &&
  (decide (PySem.W.typeIn K (.ref (ga K nm)) = some (.type "type")) &&
  (fs.all fun f => decide (PySem.W.findIn K (.ref (ga K nm)) f = some none))))))))))))))))))))
def exB (K : PySem.W.Frag) : Bool := xB K "InvalidText" "InvalidText.__init__" "ValueError" "ValueError.__new__" "ValueError.__init__" ["line"] && (eO (PySem.W.nsIn K mainGlobals "AnyshapeError") (some (some (.ref (ga K "AnyshapeError")))) && (eB (PySem.W.exmOne K (.ref (ga K "InvalidText")) (.ref (ga K "InvalidText"))) (some true) && (eB (PySem.W.kitOne K (.ref (ga K "InvalidText")) (.ref (ga K "AnyshapeError"))) (some true) && (eO (PySem.W.nsIn K cStatics "thirdparty.any") (some none)))))
def gloB (K : PySem.W.Frag) : Bool :=
  bltN.all (fun x => eO (PySem.W.nsIn K mainGlobals x) (some none)) &&
  (fns.all (fun p => eO (PySem.W.nsIn K mainGlobals p.1) (some (some (.ref (ga K p.1)))) && fnB K (ga K p.1) p.1) &&
  ((K.lookup sysModules).isSome &&
  (eO (PySem.W.specialIn K (.builtin "object.__class__") "__get__") (some (some (.builtin "getset_descriptor.__get__"))) &&
  (eB (PySem.W.takesIn K (.builtin "object.__class__")) (some true) &&
  (conB K &&
  (fnD K (meA K "__init__") "Size.__init__" &&
  (meths.all (fun p => fnB K (faM K p.1) (quM p.1)) &&
  (plain.all (plB K) &&
  (props.all (prB K) &&
  (cms.all (cmmB K)))))))))))
def allB (K : PySem.W.Frag) : Bool := gloB K && (clB K && exB K)
def obF (K : PySem.W.Frag) : List FnX := fnX K (meA K "__init__") :: fnX K (ma K (ga K "InvalidText") "__init__") :: meths.foldr (fun p r => fnX K (faM K p.1) :: r) (fns.foldr (fun p r => fnX K (ga K p.1) :: r) [])
abbrev sXInvalidText : Stmt := inClass (top 7) 0
def vaF : List FnX := fnT "__init__" "Size.__init__" sInit :: fnT "__init__" "InvalidText.__init__" sXInvalidText :: ((meths.map fun p => fnT p.1 (quM p.1) (inClass sSize p.2)) ++ fns.map fun p => fnT p.1 p.1 (top p.2))
abbrev AlX : Type := Bool × List FnX
def obK (K : PySem.W.Frag) : AlX := (allB K, obF K)
def vaX : AlX := (true, vaF)
def hk : PySem.W.Hook where
  α := AlX
  obs := fun s => obK (KX s.heap.get?)
  val := fun _ => vaX
  says := fun _ h => ∃ K : PySem.W.Frag, K.In h ∧ obK K = vaX
  of := fun _ _ e => ⟨_, frG_in, e⟩
  keeps := fun _ _ _ ⟨K, hK, c⟩ k => ⟨K, PySem.W.Frag.In.keeps hK k, c⟩
def ob (s : PySem.W.SharedT) : AlX := obK (KX (HandSHeadRun.getT s))
theorem ob_eq (s : PySem.W.SharedT) : ob s = hk.obs s.abs := by
  have e : HandSHeadRun.getT s = s.abs.heap.get? := funext (HandSHeadRun.getT_eq s)
  show obK (KX (HandSHeadRun.getT s)) = obK (KX s.abs.heap.get?)
  rw [e]
end K13
set_option maxHeartbeats 0
namespace K13
open PySem PySem.W PySem.Calls PyProof.Rows
abbrev R : OpenRow := OpenLaw.row PySem.Challenge.rw_anyshape_k13_texts_of_sizes
abbrev qv : Program := view R.prog [44]
def names1 : List PySem.Str := ["_wall", "added", "AnyshapeError", "InvalidName", "InvalidSize", "InvalidText", "is_integer", "LETTERS", "LONGEST_NAME", "is_name", "DIGITS", "CHUNK_DIGITS", "CHUNK", "decimal_text", "read_decimal", "exponents_text", "read_exponents", "_power_text", "Size", "check_size", "check_sizes", "_is_exponents", "_law_rng", "_law_draw"]
def names2 : List PySem.Str := ["_law_choice", "_law_names", "_law_drawn", "_law_text", "_law_is_name", "_law_reads", "_law_met", "_law_is_far", "_law_is_read", "_law_spoilt_word", "_law_spoilt", "_law_right"]
def names : List PySem.Str := names1 ++ names2
theorem run (w : World) : HandSHeadRun.RunEq R qv hk ob 12500 names w := by
  intro os
  kernel_rfl
end K13
set_option maxHeartbeats 8000000
namespace K13
open PySem PySem.Spec PyProof.Rows L2 He

/-! ### what the facts say -/
theorem foldr_map {α β : Type} (f : α → β) (t : List β) : ∀ l : List α, l.foldr (fun a r => f a :: r) t = l.map f ++ t
  | [] => rfl
  | a :: l => congrArg (f a :: ·) (foldr_map f t l)
theorem facts_of {K : PySem.W.Frag} (c : obK K = vaX) : allB K = true ∧ fnX K (meA K "__init__") = fnT "__init__" "Size.__init__" sInit ∧ fnX K (ma K (ga K "InvalidText") "__init__") = fnT "__init__" "InvalidText.__init__" sXInvalidText ∧ (∀ p ∈ meths, fnX K (faM K p.1) = fnT p.1 (quM p.1) (inClass sSize p.2)) ∧
    ∀ p ∈ fns, fnX K (ga K p.1) = fnT p.1 p.1 (top p.2) := by
  have c1 : allB K = true := congrArg (fun z : AlX => z.1) c
  have c2 : obF K = vaF := congrArg (fun z : AlX => z.2) c
  unfold obF vaF at c2
  rw [foldr_map, foldr_map, List.append_nil] at c2
  obtain ⟨h0, h⟩ := List.cons.inj c2
  obtain ⟨x0, h⟩ := List.cons.inj h
  obtain ⟨h1, h2⟩ := List.append_inj h (by rw [List.length_map, List.length_map])
  exact ⟨c1, h0, x0, List.map_inj_left.mp h1, List.map_inj_left.mp h2⟩
theorem eO_ok {a b : Option (Option Value)} (h : eO a b = true) : a = b := of_decide_eq_true h
theorem eB_ok {a b : Option Bool} (h : eB a b = true) : a = b := of_decide_eq_true h
theorem ba2 {a b : Bool} (h : (a && b) = true) : a = true ∧ b = true := Bool.and_eq_true_iff.mp h
structure CF (K : PySem.W.Frag) : Prop where
  glo : PySem.W.nsIn K mainGlobals "Size" = some (some (.ref (caK K)))
  pg : PySem.W.plainGet K (caK K) Str.empty = true
  hd : PySem.W.hasDictIn K (caK K) = true
  po : PySem.W.plainOver K (caK K) = true
  sa : PySem.W.findIn K (.ref (caK K)) "__setattr__" = some (some (.builtin "object.__setattr__"))
  nE : PySem.W.findIn K (.ref (caK K)) "_exponents" = some none
  cc : PySem.W.findIn K (.ref (caK K)) "__class__" = some (some (.builtin "object.__class__"))
  co : PySem.W.mroIn K (caK K) (.type "object") = some true
  mkI : PySem.W.makesIn K (caK K) = true
  kp : PySem.W.keepIn K (.ref (caK K)) = true
  s1 : PySem.W.selfFirst K (caK K) = true
  ne : PySem.W.findIn K (.ref (caK K)) "__ne__" = some (some (.builtin "object.__ne__"))
  rd : PySem.W.readsIn K (caK K) (.type "type") = true
  ga : PySem.W.specialIn K (.ref (caK K)) "__getattribute__" = some (some (.builtin "type.__getattribute__"))
  k1 : PySem.W.kitOne K (.ref (caK K)) (.type "str") = some false
  k2 : PySem.W.kitOne K (.type "int") (.ref (caK K)) = some false
  k3 : PySem.W.kitOne K (.type "str") (.ref (caK K)) = some false
  k4 : PySem.W.kitOne K (.type "dict") (.ref (caK K)) = some false
theorem cf_of {K : PySem.W.Frag} (h : clB K = true) : CF K := by
  unfold clB at h
  obtain ⟨h1, h⟩ := ba2 h
  obtain ⟨h2, h⟩ := ba2 h
  obtain ⟨h3, h⟩ := ba2 h
  obtain ⟨h4, h⟩ := ba2 h
  obtain ⟨h5, h⟩ := ba2 h
  obtain ⟨h6, h⟩ := ba2 h
  obtain ⟨h7, h⟩ := ba2 h
  obtain ⟨h8, h⟩ := ba2 h
  obtain ⟨h9, h⟩ := ba2 h
  obtain ⟨h10, h⟩ := ba2 h
  obtain ⟨h11, h⟩ := ba2 h
  obtain ⟨h12, h⟩ := ba2 h
  obtain ⟨h13, h⟩ := ba2 h
  obtain ⟨h14, h⟩ := ba2 h
  obtain ⟨h15, h⟩ := ba2 h
  obtain ⟨h16, h⟩ := ba2 h
  obtain ⟨h17, h⟩ := ba2 h
  exact ⟨eO_ok h1, h2, h3, h4, eO_ok h5, eO_ok h6, eO_ok h7, eB_ok h8, h9, h10, h11, eO_ok h12, h13, eO_ok h14, eB_ok h15, eB_ok h16, eB_ok h17, eB_ok h⟩
structure XF (K : PySem.W.Frag) (nm qu : Str) (B nw it : String) (fs : List Str) : Prop where
  glo : PySem.W.nsIn K mainGlobals nm = some (some (.ref (ga K nm)))
  ini : PySem.W.findIn K (.ref (ga K nm)) "__init__" = some (some (.ref (ma K (ga K nm) "__init__")))
  tyI : PySem.W.typeIn K (.ref (ma K (ga K nm) "__init__")) = some (.type "function")
  inb : inB K fileK (ga K nm) (ma K (ga K nm) "__init__") qu = true
  exI : PySem.W.excInitIn K (ga K nm) (bmL B) nw = true
  exO : PySem.W.excOver K (ga K nm) (bmL B) = true
  hd : PySem.W.hasDictIn K (ga K nm) = true
  sa : PySem.W.findIn K (.ref (ga K nm)) "__setattr__" = some (some (.builtin "object.__setattr__"))
  kp : PySem.W.keepIn K (.ref (ga K nm)) = true
  cls : (PySem.W.clsIn K (ga K nm)).isSome = true
  slf : PySem.W.mroIn K (ga K nm) (.ref (ga K nm)) = some true
  isB : PySem.W.subIn K (.ref (ga K nm)) (.type B) = some true
  sup : PySem.W.ks_superIn K (ga K nm) (ga K nm) "__init__" = some (some (.builtin it))
  gat : PySem.W.findIn K (.ref (ga K nm)) "__getattribute__" = some (some (.builtin "BaseException.__getattribute__"))
  gga : PySem.W.findIn K (.ref (ga K nm)) "__getattr__" = some none
  exb : PySem.W.subIn K (.ref (ga K nm)) (.type "BaseException") = some true
  cc : PySem.W.findIn K (.ref (ga K nm)) "__class__" = some (some (.builtin "object.__class__"))
  co : PySem.W.mroIn K (ga K nm) (.type "object") = some true
  tyC : PySem.W.typeIn K (.ref (ga K nm)) = some (.type "type")
  nf : ∀ f ∈ fs, PySem.W.findIn K (.ref (ga K nm)) f = some none
theorem xf_of {K : PySem.W.Frag} {nm qu : Str} {B nw it : String} {fs : List Str} (h : xB K nm qu B nw it fs = true) : XF K nm qu B nw it fs := by
  unfold xB at h
  obtain ⟨h1, h⟩ := ba2 h
  obtain ⟨h2, h⟩ := ba2 h
  obtain ⟨h3, h⟩ := ba2 h
  obtain ⟨h4, h⟩ := ba2 h
  obtain ⟨h5, h⟩ := ba2 h
  obtain ⟨h6, h⟩ := ba2 h
  obtain ⟨h7, h⟩ := ba2 h
  obtain ⟨h8, h⟩ := ba2 h
  obtain ⟨h9, h⟩ := ba2 h
  obtain ⟨h10, h⟩ := ba2 h
  obtain ⟨h11, h⟩ := ba2 h
  obtain ⟨h12, h⟩ := ba2 h
  obtain ⟨h13, h⟩ := ba2 h
  obtain ⟨h14, h⟩ := ba2 h
  obtain ⟨h15, h⟩ := ba2 h
  obtain ⟨h16, h⟩ := ba2 h
  obtain ⟨h17, h⟩ := ba2 h
  obtain ⟨h18, h⟩ := ba2 h
  obtain ⟨h19, h⟩ := ba2 h
  exact ⟨eO_ok h1, eO_ok h2, of_decide_eq_true h3, h4, h5, h6, h7, eO_ok h8, h9, h10, eB_ok h11, eB_ok h12, eO_ok h13, eO_ok h14, eO_ok h15, eB_ok h16, eO_ok h17, eB_ok h18, of_decide_eq_true h19, fun f hf => of_decide_eq_true (List.all_eq_true.mp h f hf)⟩
structure GF (K : PySem.W.Frag) : Prop where
  blt : ∀ x ∈ bltN, PySem.W.nsIn K mainGlobals x = some none
  fng : ∀ p ∈ fns, PySem.W.nsIn K mainGlobals p.1 = some (some (.ref (ga K p.1)))
  fnb : ∀ p ∈ fns, fnB K (ga K p.1) p.1 = true
  sys : (K.lookup sysModules).isSome = true
  cn : PySem.W.specialIn K (.builtin "object.__class__") "__get__" = some (some (.builtin "getset_descriptor.__get__"))
  ct : PySem.W.takesIn K (.builtin "object.__class__") = some true
  con : conB K = true
  ini : fnD K (meA K "__init__") "Size.__init__" = true
  mes : ∀ p ∈ meths, fnB K (faM K p.1) (quM p.1) = true
  pl : ∀ m ∈ plain, plB K m = true
  pr : ∀ m ∈ props, prB K m = true
  cm : ∀ m ∈ cms, cmmB K m = true
theorem gf_of {K : PySem.W.Frag} (h : gloB K = true) : GF K := by
  unfold gloB at h
  obtain ⟨h1, h⟩ := ba2 h
  obtain ⟨h2, h⟩ := ba2 h
  obtain ⟨h3, h⟩ := ba2 h
  obtain ⟨h4, h⟩ := ba2 h
  obtain ⟨h5, h⟩ := ba2 h
  obtain ⟨h6, h⟩ := ba2 h
  obtain ⟨h7, h⟩ := ba2 h
  obtain ⟨h8, h⟩ := ba2 h
  obtain ⟨h9, h⟩ := ba2 h
  obtain ⟨h10, h⟩ := ba2 h
  exact ⟨fun x hx => eO_ok (List.all_eq_true.mp h1 x hx), fun p hp => eO_ok (ba2 (List.all_eq_true.mp h2 p hp)).1, fun p hp => (ba2 (List.all_eq_true.mp h2 p hp)).2, h3, eO_ok h4, eB_ok h5, h6, h7,
    List.all_eq_true.mp h8, List.all_eq_true.mp h9, List.all_eq_true.mp h10, List.all_eq_true.mp h⟩
theorem con_ok {K : PySem.W.Frag} (h : conB K = true) : (∃ t, PySem.W.nsIn K mainGlobals "LETTERS" = some (some (.str abc t))) ∧ (∃ t, PySem.W.nsIn K mainGlobals "LONGEST_NAME" = some (some (.int (8) t))) ∧ (∃ t, PySem.W.nsIn K mainGlobals "DIGITS" = some (some (.str dgT t))) ∧ (∃ t, PySem.W.nsIn K mainGlobals "CHUNK" = some (some (.int (10 ^ 60) t))) := by
  unfold conB at h
  obtain ⟨h1, h⟩ := ba2 h
  obtain ⟨h2, h⟩ := ba2 h
  obtain ⟨h3, h⟩ := ba2 h
  refine ⟨?_, ?_, ?_, ?_⟩
  · split at h1
    · rename_i x t e
      exact ⟨t, by rw [e, of_decide_eq_true h1]⟩
    · cases h1
  · split at h2
    · rename_i x t e
      exact ⟨t, by rw [e, of_decide_eq_true h2]⟩
    · cases h2
  · split at h3
    · rename_i x t e
      exact ⟨t, by rw [e, of_decide_eq_true h3]⟩
    · cases h3
  · split at h
    · rename_i x t e
      exact ⟨t, by rw [e, of_decide_eq_true h]⟩
    · cases h
abbrev PG : Program := PySem.Challenge.pw_anyshape_k13_texts_of_sizes
section
variable {w : World} {K : PySem.W.Frag} {mg : Str → Option Value} {h : Heap}
theorem pl_ok {m : Str} (h : plB K m = true) : PySem.W.findIn K (.ref (caK K)) m = some (some (.ref (meA K m))) ∧ PySem.W.isFn K (.ref (meA K m)) = true := ⟨eO_ok (ba2 h).1, (ba2 h).2⟩
theorem pr_ok {m : Str} (h : prB K m = true) : PropOf K (caK K) m (meA K m) (rcF K (meA K m) "property") := by
  unfold prB at h
  obtain ⟨h1, h⟩ := ba2 h
  obtain ⟨h2, h⟩ := ba2 h
  obtain ⟨h3, h4⟩ := ba2 h
  exact ⟨eO_ok h1, eO_ok h2, eB_ok h3, rec_ok h4⟩
theorem cmm_ok {m : Str} (h : cmmB K m = true) : ClX.CMet K (caK K) (.type "type") m (meA K m) (rcF K (meA K m) "classmethod") := by
  unfold cmmB at h
  obtain ⟨h1, h⟩ := ba2 h
  obtain ⟨h2, h3⟩ := ba2 h
  exact ⟨cm_ok h1, rec_ok h2, h3⟩
theorem init_b {f : Addr} {fd : FuncData} (F : FnD K "__init__" "Size.__init__" sInit [.non] f fd) : Binds K fd ["self", "exponents"] [] ∧ Binds K fd ["self", "exponents"] [.none] := by
  obtain ⟨ds, r, b⟩ := FunD.binds1 (ps := ["self", "exponents"]) F 2 1 (fun z => nomatch z) rfl (fun T kV doc pm an cdv ct us its h1 h2 => match us, its, h1, h2 with
    | [_, _], [_], _, _ => ⟨_, rfl, rfl⟩)
  obtain ⟨ds2, r2, b2⟩ := FunD.binds1 (ps := ["self", "exponents"]) F 1 0 (fun z => nomatch z) rfl (fun T kV doc pm an cdv ct us its h1 h2 => match us, its, h1, h2 with
    | [_], [_], _, _ => ⟨_, rfl, rfl⟩)
  have e1 : ds = [] := by
    have := r.length
    exact List.length_eq_zero_iff.mp this.symm
  have r2' : Vals [V.non] ds2 := r2
  obtain ⟨u, e2, ru⟩ := vals1 r2'
  have e3 : u = Value.none := ru
  subst e1
  rw [e2, e3] at b2
  exact ⟨b, b2⟩
end
theorem tk_of {K : PySem.W.Frag} {C : Addr} {f : Str} (h : PySem.W.findIn K (.ref C) f = some none) : PySem.W.takerIn K C f = some none := by
  unfold PySem.W.takerIn
  rw [h]
  rfl
section
open Xc
variable {w : World} {K : PySem.W.Frag} {mg : Str → Option Value} {C fI cc cda : Addr} {B newId initId : String} {bmB : List Value}
variable {qual msg f1 f2 f3 : Str} {j : Nat} {p0 p1 p2 p3 p4 p5 a0 a1 a2 a3 q1 q2 q3 q4 r1 r2 r3 r4 u1 u2 u3 u4 : Pos} {ar : Arguments} {bo : List Stmt} {sc : Scope}
theorem fs1 {fs : List (Str × Value)} (h : fs.map (·.1) = [f1]) : ∃ v, fs = [(f1, v)] := by
  match fs, h with
  | [(a, v)], h =>
    injection h with h1 _
    exact ⟨v, by rw [show a = f1 from h1]⟩
theorem fs2 {fs : List (Str × Value)} (h : fs.map (·.1) = [f2, f1]) : ∃ v1 v2, fs = [(f2, v2), (f1, v1)] := by
  match fs, h with
  | [(a, v), (b, u)], h =>
    injection h with h1 h
    injection h with h2 _
    exact ⟨u, v, by rw [show a = f2 from h1, show b = f1 from h2]⟩
theorem fs3 {fs : List (Str × Value)} (h : fs.map (·.1) = [f3, f2, f1]) : ∃ v1 v2 v3, fs = [(f3, v3), (f2, v2), (f1, v1)] := by
  match fs, h with
  | [(a, v), (b, u), (c, t)], h =>
    injection h with h1 h
    injection h with h2 h
    injection h with h3 _
    exact ⟨t, u, v, by rw [show a = f3 from h1, show b = f2 from h2, show c = f1 from h3]⟩
theorem mkAll0 (hA : ar = iArgs [("self", a0)]) (hB : bo = [supS msg j p0 p1 p2 p3 p4 p5]) (hS : sc = iScope ["self"]) (hln : (p2.endLine == p4.line) = true)
    (T : XC K C B newId initId bmB) (iC : PySem.W.findIn K (.ref C) "__init__" = some (some (.ref fI))) (tI : PySem.W.typeIn K (.ref fI) = some (.type "function"))
    (S : XI PG K mg C fI cc cda qual ar bo sc B initId) (kp : PySem.W.keepIn K (.ref C) = true) : MkAll PG w K mg C [] := by
  subst hA hB hS
  refine ⟨fun fs h => ?_, fun fs h => ?_, kp⟩
  · rw [List.map_eq_nil_iff.mp h]
    exact mk0 T iC tI S hln
  · rw [List.map_eq_nil_iff.mp h]
    exact mk0 T iC tI S hln
theorem mkAll1 (hA : ar = iArgs [("self", a0), (f1, a1)]) (hB : bo = [supS msg j p0 p1 p2 p3 p4 p5, stS f1 q1 q2 q3 q4]) (hS : sc = iScope ["self", f1])
    (hln : (p2.endLine == p4.line) = true) (n1 : Nm f1)
    (T : XC K C B newId initId bmB) (iC : PySem.W.findIn K (.ref C) "__init__" = some (some (.ref fI))) (tI : PySem.W.typeIn K (.ref fI) = some (.type "function"))
    (S : XI PG K mg C fI cc cda qual ar bo sc B initId) (kp : PySem.W.keepIn K (.ref C) = true) (t1 : PySem.W.takerIn K C f1 = some none)
    (hp : ∀ v s x kV doc pm ct an, BindsTo s (PySem.W.ksFn "__init__" qual ar bo sc .none kV doc pm an (.ref cda) ct cc) ⟨[.ref x, v], []⟩ [("self", .ref x), (f1, v)])
    (hk : ∀ v s x kV doc pm ct an, BindsTo s (PySem.W.ksFn "__init__" qual ar bo sc .none kV doc pm an (.ref cda) ct cc) ⟨[.ref x], [(f1, v)]⟩ [("self", .ref x), (f1, v)]) :
    MkAll PG w K mg C [f1] := by
  subst hA hB hS
  refine ⟨fun fs h => ?_, fun fs h => ?_, kp⟩
  · obtain ⟨v, rfl⟩ := fs1 h
    exact mk1 n1 T iC tI S hln t1 (by show 1 ≤ sizeLine; decide) (hp v)
  · obtain ⟨v, rfl⟩ := fs1 h
    exact mk1 n1 T iC tI S hln t1 (Nat.zero_le _) (hk v)
theorem mkAll2 (hA : ar = iArgs [("self", a0), (f1, a1), (f2, a2)]) (hB : bo = [supS msg j p0 p1 p2 p3 p4 p5, stS f1 q1 q2 q3 q4, stS f2 r1 r2 r3 r4])
    (hS : sc = iScope ["self", f1, f2]) (hln : (p2.endLine == p4.line) = true) (n1 : Nm f1) (n2 : Nm f2) (n12 : f1 ≠ f2)
    (T : XC K C B newId initId bmB) (iC : PySem.W.findIn K (.ref C) "__init__" = some (some (.ref fI))) (tI : PySem.W.typeIn K (.ref fI) = some (.type "function"))
    (S : XI PG K mg C fI cc cda qual ar bo sc B initId) (kp : PySem.W.keepIn K (.ref C) = true) (t1 : PySem.W.takerIn K C f1 = some none) (t2 : PySem.W.takerIn K C f2 = some none)
    (hp : ∀ v1 v2 s x kV doc pm ct an, BindsTo s (PySem.W.ksFn "__init__" qual ar bo sc .none kV doc pm an (.ref cda) ct cc) ⟨[.ref x, v1, v2], []⟩ [("self", .ref x), (f1, v1), (f2, v2)])
    (hk : ∀ v1 v2 s x kV doc pm ct an, BindsTo s (PySem.W.ksFn "__init__" qual ar bo sc .none kV doc pm an (.ref cda) ct cc) ⟨[.ref x], [(f2, v2), (f1, v1)]⟩ [("self", .ref x), (f1, v1), (f2, v2)]) :
    MkAll PG w K mg C [f2, f1] := by
  subst hA hB hS
  refine ⟨fun fs h => ?_, fun fs h => ?_, kp⟩
  · obtain ⟨v1, v2, rfl⟩ := fs2 h
    exact mk2 n1 n2 n12 T iC tI S hln t1 t2 (by show 2 ≤ sizeLine; decide) (hp v1 v2)
  · obtain ⟨v1, v2, rfl⟩ := fs2 h
    exact mk2 n1 n2 n12 T iC tI S hln t1 t2 (Nat.zero_le _) (hk v1 v2)
theorem mkAll3 (hA : ar = iArgs [("self", a0), (f1, a1), (f2, a2), (f3, a3)]) (hB : bo = [supS msg j p0 p1 p2 p3 p4 p5, stS f1 q1 q2 q3 q4, stS f2 r1 r2 r3 r4, stS f3 u1 u2 u3 u4])
    (hS : sc = iScope ["self", f1, f2, f3]) (hln : (p2.endLine == p4.line) = true) (n1 : Nm f1) (n2 : Nm f2) (n3 : Nm f3) (n12 : f1 ≠ f2) (n13 : f1 ≠ f3) (n23 : f2 ≠ f3)
    (T : XC K C B newId initId bmB) (iC : PySem.W.findIn K (.ref C) "__init__" = some (some (.ref fI))) (tI : PySem.W.typeIn K (.ref fI) = some (.type "function"))
    (S : XI PG K mg C fI cc cda qual ar bo sc B initId) (kp : PySem.W.keepIn K (.ref C) = true) (t1 : PySem.W.takerIn K C f1 = some none) (t2 : PySem.W.takerIn K C f2 = some none) (t3 : PySem.W.takerIn K C f3 = some none)
    (hp : ∀ v1 v2 v3 s x kV doc pm ct an, BindsTo s (PySem.W.ksFn "__init__" qual ar bo sc .none kV doc pm an (.ref cda) ct cc) ⟨[.ref x, v1, v2, v3], []⟩ [("self", .ref x), (f1, v1), (f2, v2), (f3, v3)])
    (hk : ∀ v1 v2 v3 s x kV doc pm ct an, BindsTo s (PySem.W.ksFn "__init__" qual ar bo sc .none kV doc pm an (.ref cda) ct cc) ⟨[.ref x], [(f3, v3), (f2, v2), (f1, v1)]⟩ [("self", .ref x), (f1, v1), (f2, v2), (f3, v3)]) :
    MkAll PG w K mg C [f3, f2, f1] := by
  subst hA hB hS
  refine ⟨fun fs h => ?_, fun fs h => ?_, kp⟩
  · obtain ⟨v1, v2, v3, rfl⟩ := fs3 h
    exact mk3 n1 n2 n3 n12 n13 n23 T iC tI S hln t1 t2 t3 (by show 3 ≤ sizeLine; decide) (hp v1 v2 v3)
  · obtain ⟨v1, v2, v3, rfl⟩ := fs3 h
    exact mk3 n1 n2 n3 n12 n13 n23 T iC tI S hln t1 t2 t3 (Nat.zero_le _) (hk v1 v2 v3)
end
theorem nmy {p : Str} (h1 : (p == ("self" : Str)) = false) (h2 : (p == ("super" : Str)) = false) (h3 : (p == ("__class__" : Str)) = false) (h4 : (p == ("__debug__" : Str)) = false) : Xc.Nm p :=
  ⟨Xc.ns_of _ _ h1, Xc.ns_of _ _ h2, Xc.ns_of _ _ h3, Xc.ns_of _ _ h4⟩
section
variable {w : World} {K : PySem.W.Frag} {mg : Str → Option Value}
theorem mk_InvalidText (c : XF K "InvalidText" "InvalidText.__init__" "ValueError" "ValueError.__new__" "ValueError.__init__" ["line"]) (ox : PySem.W.nsIn K cStatics "thirdparty.any" = some none) (ns : mg "super" = none) (e : fnX K (ma K (ga K "InvalidText") "__init__") = fnT "__init__" "InvalidText.__init__" sXInvalidText) : MkAll PG w K mg (ga K "InvalidText") ["line"] := by
  obtain ⟨cc, cda, Z⟩ := in_of e c.inb
  exact mkAll1 rfl rfl rfl rfl (nmy (by decide) (by decide) (by decide) (by decide)) ⟨F.excBase_ValueError, F.store_ValueError, PySem.W.kxs_ValueError, c.exI, c.exO, c.hd, c.sa⟩ c.ini c.tyI ⟨Z.fn, Z.cod, Z.code, Z.cell, c.cls, c.slf, c.isB, c.sup, ox, ns, by decide +kernel⟩ c.kp (tk_of (c.nf "line" (by decide))) (fun _ _ _ _ _ _ _ _ => .of_eq rfl) (fun _ _ _ _ _ _ _ _ => .of_eq rfl)
end
section
variable {w : World} {K : PySem.W.Frag} {mg : Str → Option Value} {h : Heap}
theorem law_mk {fa : Addr} (X : K.In h) (G : h.Ns mainGlobals mg) (c : obK K = vaX) (hfa : mg "law" = some (.ref fa)) :
    ∃ fd : FuncData, (∀ (s : Shared) (u : Value), BindsTo s fd ⟨[u], []⟩ [("_law_script", u)]) ∧
      ∀ base : Heap, K.In base → base.Ns mainGlobals mg → FnG PG w K mg base 10 fa fd ["_law_script"] (spLaw K) := by
  obtain ⟨hB, hI, hX0, hM, hT⟩ := facts_of c
  unfold allB at hB
  obtain ⟨h1, hB⟩ := ba2 hB
  obtain ⟨h2, h3⟩ := ba2 hB
  have g := gf_of h1
  have cf := cf_of h2
  unfold exB at h3
  obtain ⟨z0, h3⟩ := ba2 h3
  obtain ⟨z1, h3⟩ := ba2 h3
  obtain ⟨z2, h3⟩ := ba2 h3
  obtain ⟨z3, h3⟩ := ba2 h3
  have ox := eO_ok h3
  have xf0 := xf_of z0
  have zx0 := eO_ok z1
  have zx1 := eB_ok z2
  have zx2 := eB_ok z3
  have bn : ∀ x ∈ bltN, mg x = none := fun x hx => PySem.W.mg_none_of X G (g.blt x hx)
  obtain ⟨⟨t0, con0⟩, ⟨t1, con1⟩, ⟨t2, con2⟩, ⟨t3, con3⟩⟩ := con_ok g.con
  have ns : mg "super" = none := bn "super" (by simp [bltN])
  have MX0 := mk_InvalidText (w := w) xf0 ox ns hX0
  have gX0 : mg "InvalidText" = some (.ref (ga K "InvalidText")) := PySem.W.mg_of X G xf0.glo
  have xg0 : XG K (ga K "InvalidText") := ⟨xf0.gat, xf0.gga, xf0.exb, xf0.hd, xf0.cls, xf0.cc, g.cn, g.ct, xf0.co⟩
  have NB : Nb mg := ⟨bn "len" (by simp [bltN]), bn "max" (by simp [bltN]), bn "min" (by simp [bltN]), bn "abs" (by simp [bltN]), bn "int" (by simp [bltN]), bn "divmod" (by simp [bltN]), bn "repr" (by simp [bltN]), bn "isinstance" (by simp [bltN]), bn "range" (by simp [bltN]), bn "enumerate" (by simp [bltN]), bn "all" (by simp [bltN])⟩
  have NK : Nk mg := ⟨bn "isinstance" (by simp [bltN]), bn "int" (by simp [bltN]), bn "bool" (by simp [bltN]), bn "str" (by simp [bltN]), bn "dict" (by simp [bltN]), bn "len" (by simp [bltN]), bn "all" (by simp [bltN])⟩
  have NA : Na mg := ⟨bn "sorted" (by simp [bltN])⟩
  have NT : Nt mg := ⟨bn "list" (by simp [bltN]), bn "dict" (by simp [bltN]), bn "len" (by simp [bltN])⟩
  have NN : Nn2 mg := ⟨⟨t1, PySem.W.mg_of X G con1⟩, ⟨t0, PySem.W.mg_of X G con0⟩⟩
  have gA : mg "AnyshapeError" = some (.ref (ga K "AnyshapeError")) := PySem.W.mg_of X G zx0
  have ND : Nd mg := ⟨bn "any" (by simp [bltN]), bn "int" (by simp [bltN]), ⟨t2, PySem.W.mg_of X G con2⟩⟩
  have NS : Ns mg := ⟨bn "str" (by simp [bltN]), ⟨t3, PySem.W.mg_of X G con3⟩⟩
  obtain ⟨d0, F0⟩ := fun_of (K := K) (f := ga K "is_integer") (x := "is_integer") (qual := "is_integer") (st := top 9) (hT ("is_integer", 9) (by simp [fns, fns0, fns1])) (g.fnb ("is_integer", 9) (by simp [fns, fns0, fns1]))
  have m0 : mg "is_integer" = some (.ref (ga K "is_integer")) := PySem.W.mg_of X G (g.fng ("is_integer", 9) (by simp [fns, fns0, fns1]))
  have b0 := F0.binds (ps := ["value"]) fun _ _ _ _ _ _ us hl => match us, hl with | [_], _ => rfl
  obtain ⟨d1, F1⟩ := fun_of (K := K) (f := ga K "is_name") (x := "is_name") (qual := "is_name") (st := top 13) (hT ("is_name", 13) (by simp [fns, fns0, fns1])) (g.fnb ("is_name", 13) (by simp [fns, fns0, fns1]))
  have m1 : mg "is_name" = some (.ref (ga K "is_name")) := PySem.W.mg_of X G (g.fng ("is_name", 13) (by simp [fns, fns0, fns1]))
  have b1 := F1.binds (ps := ["value"]) fun _ _ _ _ _ _ us hl => match us, hl with | [_], _ => rfl
  obtain ⟨d2, F2⟩ := fun_of (K := K) (f := ga K "decimal_text") (x := "decimal_text") (qual := "decimal_text") (st := top 18) (hT ("decimal_text", 18) (by simp [fns, fns0, fns1])) (g.fnb ("decimal_text", 18) (by simp [fns, fns0, fns1]))
  have m2 : mg "decimal_text" = some (.ref (ga K "decimal_text")) := PySem.W.mg_of X G (g.fng ("decimal_text", 18) (by simp [fns, fns0, fns1]))
  have b2 := F2.binds (ps := ["number"]) fun _ _ _ _ _ _ us hl => match us, hl with | [_], _ => rfl
  obtain ⟨d3, F3⟩ := fun_of (K := K) (f := ga K "read_decimal") (x := "read_decimal") (qual := "read_decimal") (st := top 19) (hT ("read_decimal", 19) (by simp [fns, fns0, fns1])) (g.fnb ("read_decimal", 19) (by simp [fns, fns0, fns1]))
  have m3 : mg "read_decimal" = some (.ref (ga K "read_decimal")) := PySem.W.mg_of X G (g.fng ("read_decimal", 19) (by simp [fns, fns0, fns1]))
  have b3 := F3.binds (ps := ["text"]) fun _ _ _ _ _ _ us hl => match us, hl with | [_], _ => rfl
  obtain ⟨d4, F4⟩ := fun_of (K := K) (f := ga K "exponents_text") (x := "exponents_text") (qual := "exponents_text") (st := top 21) (hT ("exponents_text", 21) (by simp [fns, fns0, fns1])) (g.fnb ("exponents_text", 21) (by simp [fns, fns0, fns1]))
  have m4 : mg "exponents_text" = some (.ref (ga K "exponents_text")) := PySem.W.mg_of X G (g.fng ("exponents_text", 21) (by simp [fns, fns0, fns1]))
  have b4 := F4.binds (ps := ["exponents"]) fun _ _ _ _ _ _ us hl => match us, hl with | [_], _ => rfl
  obtain ⟨d5, F5⟩ := fun_of (K := K) (f := ga K "read_exponents") (x := "read_exponents") (qual := "read_exponents") (st := top 22) (hT ("read_exponents", 22) (by simp [fns, fns0, fns1])) (g.fnb ("read_exponents", 22) (by simp [fns, fns0, fns1]))
  have m5 : mg "read_exponents" = some (.ref (ga K "read_exponents")) := PySem.W.mg_of X G (g.fng ("read_exponents", 22) (by simp [fns, fns0, fns1]))
  have b5 := F5.binds (ps := ["text"]) fun _ _ _ _ _ _ us hl => match us, hl with | [_], _ => rfl
  obtain ⟨d6, F6⟩ := fun_of (K := K) (f := ga K "_power_text") (x := "_power_text") (qual := "_power_text") (st := top 23) (hT ("_power_text", 23) (by simp [fns, fns0, fns1])) (g.fnb ("_power_text", 23) (by simp [fns, fns0, fns1]))
  have m6 : mg "_power_text" = some (.ref (ga K "_power_text")) := PySem.W.mg_of X G (g.fng ("_power_text", 23) (by simp [fns, fns0, fns1]))
  have b6 := F6.binds (ps := ["name", "exponent"]) fun _ _ _ _ _ _ us hl => match us, hl with | [_, _], _ => rfl
  obtain ⟨d7, F7⟩ := fun_of (K := K) (f := ga K "_is_exponents") (x := "_is_exponents") (qual := "_is_exponents") (st := top 28) (hT ("_is_exponents", 28) (by simp [fns, fns0, fns1])) (g.fnb ("_is_exponents", 28) (by simp [fns, fns0, fns1]))
  have m7 : mg "_is_exponents" = some (.ref (ga K "_is_exponents")) := PySem.W.mg_of X G (g.fng ("_is_exponents", 28) (by simp [fns, fns0, fns1]))
  have b7 := F7.binds (ps := ["value"]) fun _ _ _ _ _ _ us hl => match us, hl with | [_], _ => rfl
  obtain ⟨d8, F8⟩ := fun_of (K := K) (f := ga K "_law_rng") (x := "_law_rng") (qual := "_law_rng") (st := top 30) (hT ("_law_rng", 30) (by simp [fns, fns0, fns1])) (g.fnb ("_law_rng", 30) (by simp [fns, fns0, fns1]))
  have m8 : mg "_law_rng" = some (.ref (ga K "_law_rng")) := PySem.W.mg_of X G (g.fng ("_law_rng", 30) (by simp [fns, fns0, fns1]))
  have b8 := F8.binds (ps := ["_law_script", "_law_k"]) fun _ _ _ _ _ _ us hl => match us, hl with | [_, _], _ => rfl
  obtain ⟨d9, F9⟩ := fun_of (K := K) (f := ga K "_law_draw") (x := "_law_draw") (qual := "_law_draw") (st := top 31) (hT ("_law_draw", 31) (by simp [fns, fns0, fns1])) (g.fnb ("_law_draw", 31) (by simp [fns, fns0, fns1]))
  have m9 : mg "_law_draw" = some (.ref (ga K "_law_draw")) := PySem.W.mg_of X G (g.fng ("_law_draw", 31) (by simp [fns, fns0, fns1]))
  have b9 := F9.binds (ps := ["_law_rng_here", "_law_many"]) fun _ _ _ _ _ _ us hl => match us, hl with | [_, _], _ => rfl
  obtain ⟨d10, F10⟩ := fun_of (K := K) (f := ga K "_law_choice") (x := "_law_choice") (qual := "_law_choice") (st := top 32) (hT ("_law_choice", 32) (by simp [fns, fns0, fns1])) (g.fnb ("_law_choice", 32) (by simp [fns, fns0, fns1]))
  have m10 : mg "_law_choice" = some (.ref (ga K "_law_choice")) := PySem.W.mg_of X G (g.fng ("_law_choice", 32) (by simp [fns, fns0, fns1]))
  have b10 := F10.binds (ps := ["_law_rng_here", "_law_some"]) fun _ _ _ _ _ _ us hl => match us, hl with | [_, _], _ => rfl
  obtain ⟨d11, F11⟩ := fun_of (K := K) (f := ga K "_law_names") (x := "_law_names") (qual := "_law_names") (st := top 33) (hT ("_law_names", 33) (by simp [fns, fns0, fns1])) (g.fnb ("_law_names", 33) (by simp [fns, fns0, fns1]))
  have m11 : mg "_law_names" = some (.ref (ga K "_law_names")) := PySem.W.mg_of X G (g.fng ("_law_names", 33) (by simp [fns, fns0, fns1]))
  have b11 := F11.binds (ps := ["_law_rng_here", "_law_many"]) fun _ _ _ _ _ _ us hl => match us, hl with | [_, _], _ => rfl
  obtain ⟨d12, F12⟩ := fun_of (K := K) (f := ga K "_law_drawn") (x := "_law_drawn") (qual := "_law_drawn") (st := top 34) (hT ("_law_drawn", 34) (by simp [fns, fns0, fns1])) (g.fnb ("_law_drawn", 34) (by simp [fns, fns0, fns1]))
  have m12 : mg "_law_drawn" = some (.ref (ga K "_law_drawn")) := PySem.W.mg_of X G (g.fng ("_law_drawn", 34) (by simp [fns, fns0, fns1]))
  have b12 := F12.binds (ps := ["_law_rng_here"]) fun _ _ _ _ _ _ us hl => match us, hl with | [_], _ => rfl
  obtain ⟨d13, F13⟩ := fun_of (K := K) (f := ga K "_law_text") (x := "_law_text") (qual := "_law_text") (st := top 35) (hT ("_law_text", 35) (by simp [fns, fns0, fns1])) (g.fnb ("_law_text", 35) (by simp [fns, fns0, fns1]))
  have m13 : mg "_law_text" = some (.ref (ga K "_law_text")) := PySem.W.mg_of X G (g.fng ("_law_text", 35) (by simp [fns, fns0, fns1]))
  have b13 := F13.binds (ps := ["_law_model"]) fun _ _ _ _ _ _ us hl => match us, hl with | [_], _ => rfl
  obtain ⟨d14, F14⟩ := fun_of (K := K) (f := ga K "_law_is_name") (x := "_law_is_name") (qual := "_law_is_name") (st := top 36) (hT ("_law_is_name", 36) (by simp [fns, fns0, fns1])) (g.fnb ("_law_is_name", 36) (by simp [fns, fns0, fns1]))
  have m14 : mg "_law_is_name" = some (.ref (ga K "_law_is_name")) := PySem.W.mg_of X G (g.fng ("_law_is_name", 36) (by simp [fns, fns0, fns1]))
  have b14 := F14.binds (ps := ["_law_word"]) fun _ _ _ _ _ _ us hl => match us, hl with | [_], _ => rfl
  obtain ⟨d15, F15⟩ := fun_of (K := K) (f := ga K "_law_reads") (x := "_law_reads") (qual := "_law_reads") (st := top 37) (hT ("_law_reads", 37) (by simp [fns, fns0, fns1])) (g.fnb ("_law_reads", 37) (by simp [fns, fns0, fns1]))
  have m15 : mg "_law_reads" = some (.ref (ga K "_law_reads")) := PySem.W.mg_of X G (g.fng ("_law_reads", 37) (by simp [fns, fns0, fns1]))
  have b15 := F15.binds (ps := ["_law_text_here"]) fun _ _ _ _ _ _ us hl => match us, hl with | [_], _ => rfl
  obtain ⟨d16, F16⟩ := fun_of (K := K) (f := ga K "_law_met") (x := "_law_met") (qual := "_law_met") (st := top 38) (hT ("_law_met", 38) (by simp [fns, fns0, fns1])) (g.fnb ("_law_met", 38) (by simp [fns, fns0, fns1]))
  have m16 : mg "_law_met" = some (.ref (ga K "_law_met")) := PySem.W.mg_of X G (g.fng ("_law_met", 38) (by simp [fns, fns0, fns1]))
  have b16 := F16.binds (ps := ["_law_told"]) fun _ _ _ _ _ _ us hl => match us, hl with | [_], _ => rfl
  obtain ⟨d17, F17⟩ := fun_of (K := K) (f := ga K "_law_is_far") (x := "_law_is_far") (qual := "_law_is_far") (st := top 39) (hT ("_law_is_far", 39) (by simp [fns, fns0, fns1])) (g.fnb ("_law_is_far", 39) (by simp [fns, fns0, fns1]))
  have m17 : mg "_law_is_far" = some (.ref (ga K "_law_is_far")) := PySem.W.mg_of X G (g.fng ("_law_is_far", 39) (by simp [fns, fns0, fns1]))
  have b17 := F17.binds (ps := ["_law_text_here"]) fun _ _ _ _ _ _ us hl => match us, hl with | [_], _ => rfl
  obtain ⟨d18, F18⟩ := fun_of (K := K) (f := ga K "_law_is_read") (x := "_law_is_read") (qual := "_law_is_read") (st := top 40) (hT ("_law_is_read", 40) (by simp [fns, fns0, fns1])) (g.fnb ("_law_is_read", 40) (by simp [fns, fns0, fns1]))
  have m18 : mg "_law_is_read" = some (.ref (ga K "_law_is_read")) := PySem.W.mg_of X G (g.fng ("_law_is_read", 40) (by simp [fns, fns0, fns1]))
  have b18 := F18.binds (ps := ["_law_text_here"]) fun _ _ _ _ _ _ us hl => match us, hl with | [_], _ => rfl
  obtain ⟨d19, F19⟩ := fun_of (K := K) (f := ga K "_law_spoilt_word") (x := "_law_spoilt_word") (qual := "_law_spoilt_word") (st := top 41) (hT ("_law_spoilt_word", 41) (by simp [fns, fns0, fns1])) (g.fnb ("_law_spoilt_word", 41) (by simp [fns, fns0, fns1]))
  have m19 : mg "_law_spoilt_word" = some (.ref (ga K "_law_spoilt_word")) := PySem.W.mg_of X G (g.fng ("_law_spoilt_word", 41) (by simp [fns, fns0, fns1]))
  have b19 := F19.binds (ps := ["_law_rng_here", "_law_word"]) fun _ _ _ _ _ _ us hl => match us, hl with | [_, _], _ => rfl
  obtain ⟨d20, F20⟩ := fun_of (K := K) (f := ga K "_law_spoilt") (x := "_law_spoilt") (qual := "_law_spoilt") (st := top 42) (hT ("_law_spoilt", 42) (by simp [fns, fns0, fns1])) (g.fnb ("_law_spoilt", 42) (by simp [fns, fns0, fns1]))
  have m20 : mg "_law_spoilt" = some (.ref (ga K "_law_spoilt")) := PySem.W.mg_of X G (g.fng ("_law_spoilt", 42) (by simp [fns, fns0, fns1]))
  have b20 := F20.binds (ps := ["_law_rng_here", "_law_text_here"]) fun _ _ _ _ _ _ us hl => match us, hl with | [_, _], _ => rfl
  obtain ⟨d21, F21⟩ := fun_of (K := K) (f := ga K "_law_right") (x := "_law_right") (qual := "_law_right") (st := top 43) (hT ("_law_right", 43) (by simp [fns, fns0, fns1])) (g.fnb ("_law_right", 43) (by simp [fns, fns0, fns1]))
  have m21 : mg "_law_right" = some (.ref (ga K "_law_right")) := PySem.W.mg_of X G (g.fng ("_law_right", 43) (by simp [fns, fns0, fns1]))
  have b21 := F21.binds (ps := ["_law_rng_here"]) fun _ _ _ _ _ _ us hl => match us, hl with | [_], _ => rfl
  obtain ⟨d22, F22⟩ := fun_of (K := K) (f := ga K "law") (x := "law") (qual := "law") (st := top 44) (hT ("law", 44) (by simp [fns, fns0, fns1])) (g.fnb ("law", 44) (by simp [fns, fns0, fns1]))
  have m22 : mg "law" = some (.ref (ga K "law")) := PySem.W.mg_of X G (g.fng ("law", 44) (by simp [fns, fns0, fns1]))
  have b22 := F22.binds (ps := ["_law_script"]) fun _ _ _ _ _ _ us hl => match us, hl with | [_], _ => rfl
  obtain ⟨e0, E0⟩ := fun_of (K := K) (f := faM K "exponents") (x := "exponents") (qual := "Size.exponents") (st := inClass sSize 8) (hM ("exponents", 8) (by simp [meths])) (g.mes ("exponents", 8) (by simp [meths]))
  have c0 := E0.binds (ps := ["self"]) fun _ _ _ _ _ _ us hl => match us, hl with | [_], _ => rfl
  obtain ⟨e1, E1⟩ := fun_of (K := K) (f := faM K "__eq__") (x := "__eq__") (qual := "Size.__eq__") (st := inClass sSize 17) (hM ("__eq__", 17) (by simp [meths])) (g.mes ("__eq__", 17) (by simp [meths]))
  have c1 := E1.binds (ps := ["self", "other"]) fun _ _ _ _ _ _ us hl => match us, hl with | [_, _], _ => rfl
  obtain ⟨e2, E2⟩ := fun_of (K := K) (f := faM K "__str__") (x := "__str__") (qual := "Size.__str__") (st := inClass sSize 18) (hM ("__str__", 18) (by simp [meths])) (g.mes ("__str__", 18) (by simp [meths]))
  have c2 := E2.binds (ps := ["self"]) fun _ _ _ _ _ _ us hl => match us, hl with | [_], _ => rfl
  obtain ⟨e3, E3⟩ := fun_of (K := K) (f := faM K "__repr__") (x := "__repr__") (qual := "Size.__repr__") (st := inClass sSize 19) (hM ("__repr__", 19) (by simp [meths])) (g.mes ("__repr__", 19) (by simp [meths]))
  have c3 := E3.binds (ps := ["self"]) fun _ _ _ _ _ _ us hl => match us, hl with | [_], _ => rfl
  obtain ⟨e4, E4⟩ := fun_of (K := K) (f := faM K "read") (x := "read") (qual := "Size.read") (st := inClass sSize 2) (hM ("read", 2) (by simp [meths])) (g.mes ("read", 2) (by simp [meths]))
  obtain ⟨di, FI⟩ := fund_of (K := K) (f := meA K "__init__") (x := "__init__") (qual := "Size.__init__") (st := sInit) hI g.ini
  obtain ⟨bi1, bi0⟩ := init_b FI
  have mS : mg "Size" = some (.ref (caK K)) := PySem.W.mg_of X G cf.glo
  have CS : Cs K (caK K) := ⟨⟨cf.pg, cf.hd, cf.po, cf.sa⟩, cf.nE⟩
  have CK : Ck K mg (caK K) := ⟨CS, mS, cf.cc, g.cn, g.ct, cf.co⟩
  have pI := pl_ok (g.pl "__init__" (by simp [plain]))
  have MK : Mk K (caK K) (meA K "__init__") := ⟨cf.mkI, pI.1, pI.2, cf.kp⟩
  have e := hfa.symm.trans m22
  cases e
  obtain ⟨oc, od, kV, doc, pm, an, cdv, ct, osl, ef, lk, hcd⟩ := id F22.ex
  have pexponents := pl_ok (g.pl "exponents" (by simp [plain]))
  have pXXeqXX := pl_ok (g.pl "__eq__" (by simp [plain]))
  have pXXstrXX := pl_ok (g.pl "__str__" (by simp [plain]))
  have pXXreprXX := pl_ok (g.pl "__repr__" (by simp [plain]))
  refine ⟨d22, fun s u => ?_, fun base _ _ => ?_⟩
  · rw [ef]
    exact .of_eq rfl
  · have GInt := ok_isint (P := PG) (w := w) (base := base) F0 NK
    have GNm := ok_isname (P := PG) (w := w) (base := base) F1 NK NN
    have GDec := ok_dec (P := PG) (w := w) (base := base) F2 NS b2 m2 F2.kp
    have GRdD := ok_rdD (P := PG) (w := w) (base := base) F3 ND
    have GPw := ok_pw (P := PG) (w := w) (mg := mg) (base := base) F6 GDec F2.kp b2 m2
    have GTex := ok_tex (P := PG) (w := w) (base := base) F4 NA NT GPw F6.kp b6 m6
    have GRdE := ok_rdE (P := PG) (w := w) (mg := mg) (base := base) F5 GRdD F3.kp b3 m3 GNm F1.kp b1 m1 GTex F4.kp b4 m4
    have GEx := ok_isexp (P := PG) (w := w) (base := base) F7 NK GNm F1.kp b1 m1 GInt F0.kp b0 m0
    have GI := ok_init (P := PG) (w := w) (base := base) FI NA CS GEx F7.kp b7 m7
    have gExpo := ok_expo (P := PG) (w := w) (base := base) E0 NT CK
    have gEq := ok_eq (P := PG) (w := w) (base := base) E1 NK CK
    have gStr := ok_str (P := PG) (w := w) (base := base) E2 NS CK GTex F4.kp b4 m4
    have gRep := ok_repr (P := PG) (w := w) (base := base) E3 CK GTex F4.kp b4 m4
    have gRd := ok_read (P := PG) (w := w) (base := base) E4 NK CK GRdE F5.kp b5 m5 MK GI bi1 MX0 gX0 xf0.exb xf0.tyC
    have bRd := E4.binds (ps := ["cls", "text"]) (fun _ _ _ _ _ _ us hl => match us, hl with | [_, _], _ => rfl)
    have gRdR : L2.FnR PG w K mg base (L2.CX PG w) 6 (faM K "read") (spRead K (caK K) (ga K "InvalidText")) := (gRd.raw bRd .nil).imp fun vs H Q E h => by rw [List.append_nil]; exact h
    have KZ : Kz PG w K mg base (caK K) (ga K "InvalidText") := ⟨CK, ⟨_, _, MK, GI, bi1⟩, ⟨_, _, _, ⟨cf.rd, cf.ga⟩, cmm_ok (g.cm "read" (by simp [cms])), gRdR⟩, ⟨_, _, gEq, pXXeqXX.1, pXXeqXX.2, c1⟩, cf.ne, ⟨_, _, gStr, pXXstrXX.1, pXXstrXX.2, c2⟩, ⟨_, _, gRep, pXXreprXX.1, pXXreprXX.2, c3⟩⟩
    have TX : Xt K mg (ga K "InvalidText") (ga K "AnyshapeError") := ⟨gX0, gA, zx1, zx2, xf0.nf "line" (by decide), xg0⟩
    have GDr := ok_draw (P := PG) (w := w) (base := base) F9 NB
    have GCh := ok_choice (P := PG) (w := w) (base := base) F10 NB F9 b9 m9
    have GNa := ok_nm (P := PG) (w := w) (base := base) F11 NB F9 b9 m9 F10 b10 m10
    have GDw := ok_drawn (P := PG) (w := w) (base := base) F12 NA GCh F10.kp b10 m10 GDr F9.kp b9 m9 GNa F11.kp b11 m11
    have GTx := ok_txL (P := PG) (w := w) (base := base) F13 NS
    have GIn := ok_isN (P := PG) (w := w) (base := base) F14 NB
    have GRs := ok_reads (P := PG) (w := w) (base := base) F15 NB NA NT GIn F14.kp b14 m14 GTx F13.kp b13 m13
    have GMe := ok_met (P := PG) (w := w) (base := base) F16 NK CK TX ⟨cf.rd, cf.ga⟩ (cmm_ok (g.cm "read" (by simp [cms]))) gRdR (⟨pexponents.1, pexponents.2, E0.kp⟩ : Meth K (caK K) "exponents" (meA K "exponents")) gExpo c0
    have GFa := ok_far (P := PG) (w := w) (base := base) F17 NB (bn "any" (by simp [bltN]))
    have GIr := ok_isR (P := PG) (w := w) (base := base) F18 NB g.sys GFa F17.kp b17 m17 GRs F15.kp b15 m15 GMe F16.kp b16 m16
    have GSw := ok_spw (P := PG) (w := w) (base := base) F19 NB GCh F10.kp b10 m10 GDr F9.kp b9 m9
    have GSp := ok_spo (P := PG) (w := w) (base := base) F20 NB GCh F10.kp b10 m10 GDr F9.kp b9 m9 GSw F19.kp b19 m19
    have GRi := ok_ri (P := PG) (w := w) (base := base) F21 NB NT (bn "str" (by simp [bltN])) g.sys KZ GDw F12.kp b12 m12 GTx F13.kp b13 m13 GMe F16.kp b16 m16 GSp F20.kp b20 m20 GIr F18.kp b18 m18
    exact ok_law (P := PG) (w := w) (base := base) F22 NB KZ g.sys MK GI bi1 bi0 cf.k1 GMe F16.kp b16 m16 (ok_rng F8 NB) F8.kp b8 m8 GRi F21.kp b21 m21
end
end K13
set_option maxHeartbeats 8000000
namespace K13
open PySem PySem.Spec PyProof.Rows L2 He

theorem walk_ofX {l : PySem.W.OpenLaw} {n k : Nat} {q : Program} {loose : List Str}
    {XP : (Str → Option Value) → Heap → Prop} {YP : World → Heap → Prop} {d : DefRec} {x : Str}
    (hn : l.most = some n) (hn2 : n ≤ sizeLine) (hdf : d.params.defaults = []) (hr : Room k callerA)
    (F : ∀ (w : World) (mg : Str → Option Value) (fa : Addr) (h : Heap), YP w h → h.Ns mainGlobals mg →
      mg d.name = some (.ref fa) → ∃ (K : PySem.W.Frag) (fd : FuncData) (sp : Sp), K.In h ∧
        (∀ (s : Shared) (u : Value), BindsTo s fd ⟨[u], []⟩ [(x, u)]) ∧
        (∀ (H : Hp) (a : Addr) (ns : List Int), ns.length ≤ n → Only H → SqL K H a (ns.map V.int) →
          sp [.ref a] H (fun v _ => v = .bl true) E0) ∧
        ∀ base : Heap, K.In base → base.Ns mainGlobals mg → FnG l.prog w K mg base k fa fd [x] sp) :
    PySem.W.WalkO q loose XP YP l.row.toRowW d [] (fun f vs => PySem.call f vs) := by
  refine Att.attach_call hn hdf fun w s0 s1 mg mb fa o pm cd doc a vs ns G Y ho hd hcd hmg hobj hints hlen hg => ?_
  obtain ⟨K, fd, sp, KX, hb, hsp, hF⟩ := F w mg fa _ Y G.T.g hmg
  exact law_callG KX G.T.g G.T.b G.T.builtins G.T.nolimit hg hobj hints (Nat.le_trans hlen hn2) hr hF hb
    fun H hO hS => hsp H a ns hlen hO hS
end K13
open PySem PySem.W PySem.Calls PyProof.Rows
theorem PySem.Challenge.cw_anyshape_k13_texts_of_sizes_holds : PySem.Challenge.rw_anyshape_k13_texts_of_sizes.Holds := by
  w_on; o_law
  refine HandSHeadRun.head_any (r := OpenLaw.row PySem.Challenge.rw_anyshape_k13_texts_of_sizes) (q := K13.qv) (H := K13.hk) (ob := K13.ob)
    (M := 12500) (loose := K13.names) (d := HandSHeadRun.topDef (OpenLaw.row PySem.Challenge.rw_anyshape_k13_texts_of_sizes).prog 44) (kwd := [])
    K13.ob_eq (by kernel_rfl) (fun s => by kernel_rfl) K13.run (by kernel_rfl) (by kernel_rfl) (by kernel_rfl) (by rfl)
    (by first | assumption | decide +kernel) (by decide +kernel) ⟨rfl, rfl, rfl, rfl, rfl, by decide +kernel⟩ ?hw ?hc
  case hw => w_witness2
  case hc =>
    refine K13.walk_ofX (l := PySem.Challenge.rw_anyshape_k13_texts_of_sizes) (n := 63) (k := 10) (x := "_law_script") rfl (by decide) (by kernel_rfl) ⟨rfl, by decide, by decide⟩ ?F
    intro w mg fa h Y G hmg0
    obtain ⟨K, KX, c⟩ := Y
    have hmg : mg ("law" : PySem.Str) = some (.ref fa) := by
      have e : (HandSHeadRun.topDef (OpenLaw.row PySem.Challenge.rw_anyshape_k13_texts_of_sizes).prog 44).name = ("law" : PySem.Str) := by kernel_rfl
      rw [← e]
      exact hmg0
    obtain ⟨fd, hb, hF⟩ := K13.law_mk (w := w) KX G c hmg
    exact ⟨K, fd, K13.spLaw K, KX, hb, fun H a ns hl _ hS => ⟨a, ns, rfl, hS, Nat.le_trans hl (by decide), fun _ => rfl⟩, hF⟩
#print axioms PySem.Challenge.cw_anyshape_k13_texts_of_sizes_holds
