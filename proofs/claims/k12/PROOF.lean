import PyProof.Rows.All
import Wide.All
import OpenK.AllK
import Wide.FinOn
import HandS.ForMost
import HandS.Exc
import HandS.ExcInit
import KE.KExcSuper
import KE.KExcIs
import KE.KExcInit
import HandS.IsInst
import HandS.WideBits
import HandS.Walk
import HandS.Steps
import HandS.DictComp
import HandS.WordsDict
import HandS.Defaults
import HandS.Gcd
import HandS.Wide
import HandS.WordsExc
import HandS.TryOnly
import HandS.OwnEq
import KE.KEqDict
import HandS.Star
import HandS.ClsMeth
import KE.KParD
import HandS.Text
import HandS.Style
import KE.KCallOwn
import HandS.RaiseMore
import PyProof.Rows.StrDigitsNeg
import PyProof.Rows.StrJoinMade
import HandS.ListItems
import HandS.Property
import KE.KDictList
import PyProof.StrLawsRepr
import HandS.CallRecv
import KE.KStateDown
import HandS.Head0
import HandS.Head1
import HandS.Head2
import HandS.Head3
import HandS.HeadHook1
import HandS.HeadEnd
import PySem.Challenge.RW_anyshape_k12_sizes_at_numbers_and_points
set_option Elab.async false
set_option linter.all false
set_option maxRecDepth 100000
set_option maxHeartbeats 8000000
/-! own exceptions whose body says super().__init__('..') and then stores its fields -/
namespace Xc
open PySem PySem.W PySem.Calls PyProof.Rows

/-- what the written part says of an own exception class at C, over the built-in B -/
structure XC (K : Frag) (C : Addr) (B newId initId : String) (bmB : List Value) : Prop where
  FB : ExcBaseFacts B newId initId bmB
  SF : StoreFacts B bmB "object.__setattr__" "object"
  KF : KxsFacts B initId
  ini : excInitIn K C bmB newId = true
  ovr : excOver K C bmB = true
  hdc : hasDictIn K C = true
  sa : findIn K (.ref C) "__setattr__" = some (some (.builtin "object.__setattr__"))

section
open Builtin Builtin.ObjectAttr
variable {prog : Program} {w : World} {A : Around} {E : Value → Shared → Prop}
variable {hp : Heap} {g : Array GenState} {d : Drawn} {t : Nat} {os : OsState}
variable {K : Frag} {C x t0 : Addr} {B newId initId : String} {bmB : List Value}
variable {name : Str} {v : Value}

/-- the first field -/
theorem sto0 (T : XC K C B newId initId bmB) (X : K.In hp)
    (hx : hp.get? x = some (excObj C t0 none .none)) (ha : takerIn K C name = some none)
    {Q : Unit → Shared → Prop}
    (hq : ∀ h' tk dx, (∀ b o, b ≠ x → hp.get? b = some o → h'.get? b = some o) →
      hp.objs.size ≤ dx → dx ≠ x → h'.get? x = some (excObj C t0 (some dx) .none) →
      h'.Ns1 dx (fun y => if y = name then some v else none) → Q () ⟨h', g, d, tk, os⟩) :
    wpAny (model prog w) A (setAttr (.ref x) name v) Q E ⟨hp, g, d, t, os⟩ := by
  have hxs : x ≠ hp.objs.size := Nat.ne_of_lt (Heap.lt_size hx)
  have I : W.InstAt hp x (excObj C t0 none .none) C none := ⟨hx, rfl, rfl, trivial⟩
  refine set_plain X I T.sa ?_
  refine osa_openX (r := none) T.SF X I T.ovr ha fun b => ?_
  obtain ⟨cd, hc, hd⟩ := any_some T.hdc
  refine wpAny_bind (wpAny_pure (wpAny_bind
    (instanceDict_exc (s := ⟨hp, g, d, t + 1, os⟩) hx (looks_clsIn X hc) hd ?_)))
  refine HandSPX.store_in_new ?_ fun h' tk hn hs => ?_
  · refine ⟨_, #[], _, (Heap.get?_update_ne _ _ _ _ hxs.symm).trans (Heap.get?_push_at rfl rfl), rfl, ?_, fun _ => rfl⟩
    intro e he
    exact absurd he (by simp)
  · have hx1 : (hp.push (dictOf [] 0)).get? x = some (excObj C t0 none .none) :=
      Heap.get?_push_of_some _ hx
    refine hq h' tk hp.objs.size (fun b o hb ho => ?_) (Nat.le_refl _) hxs.symm ?_ hn
    · have e1 := Heap.get?_push_of_some (dictOf [] 0) ho
      have e2 := (Heap.get?_update_ne _ _ _ (fun o => { o with dict := some hp.objs.size }) hb).trans e1
      exact (hs.2 b (Nat.ne_of_lt (Heap.lt_size ho))).trans e2
    · exact (hs.2 x hxs).trans (Heap.get?_update_self _ hx1 rfl)

/-- a further field -/
theorem stoD (T : XC K C B newId initId bmB) (X : K.In hp) {dx : Addr} {m0 : Str → Option Value}
    {nl : List Str} (hx : hp.get? x = some (excObj C t0 (some dx) .none)) (hns : hp.Ns1 dx m0)
    (hw : Within m0 nl) (hz : nl.length ≤ 1000) (ha : takerIn K C name = some none)
    {Q : Unit → Shared → Prop}
    (hq : ∀ h' tk, (∀ b o, b ≠ dx → hp.get? b = some o → h'.get? b = some o) →
      h'.Ns1 dx (fun y => if y = name then some v else m0 y) → Q () ⟨h', g, d, tk, os⟩) :
    wpAny (model prog w) A (setAttr (.ref x) name v) Q E ⟨hp, g, d, t, os⟩ := by
  obtain ⟨oD, esD, epD, hoD, hdD, _⟩ := hns.count hw
  have I : W.InstAt hp x (excObj C t0 (some dx) .none) C (some oD) := ⟨hx, rfl, rfl, hoD⟩
  refine set_plain X I T.sa ?_
  refine osa_openX (r := none) T.SF X I T.ovr ha fun b => ?_
  have step : ∀ {Q1 : Option Addr → Shared → Prop} {A1 : Around} {E1 : Value → Shared → Prop},
      Q1 (some dx) ⟨hp, g, d, t + 1, os⟩ →
      wpAny (model prog w) A1 (instanceDict x true) Q1 E1 ⟨hp, g, d, t + 1, os⟩ := by
    intro Q1 A1 E1 h
    obtain ⟨cd, hc, hd⟩ := any_some T.hdc
    unfold instanceDict
    refine wpAny_bind (wpAny_loadPart hx ?_)
    dsimp only
    refine wpAny_bind ((looks_clsIn X hc).at ?_)
    rw [hd]
    exact wpAny_pure h
  refine wpAny_bind (wpAny_pure (wpAny_bind (step ?_)))
  refine PySem.OEX.store_in_old hns hw hz fun h' tk hn hs => ?_
  exact hq h' tk (fun b o hb ho => (hs.2 b hb).trans ho) hn
end
end Xc
set_option maxHeartbeats 8000000
namespace Xc
open PySem PySem.W PySem.Calls PyProof.Rows

section
variable {prog : Program} {w : World} {A : Around} {E : Value → Shared → Prop}
variable {hp : Heap} {g : Array GenState} {d : Drawn} {t : Nat} {os : OsState}
variable {K : Frag} {C x t0 : Addr} {B newId initId : String} {bmB : List Value}

/-- the bound built-in __init__ is called: the args are laid anew -/
theorem call_mw (T : XC K C B newId initId bmB) (X : K.In hp) {u : Addr} {rest : List Value}
    (hu : hp.get? u = some (kxs_mw initId x)) (hx : hp.get? x = some (excObj C t0 none .none))
    (hz : rest.length ≤ sizeLine) {Q : Value → Shared → Prop}
    (hq : ∀ h' t1, (∀ b o, b ≠ x → hp.get? b = some o → h'.get? b = some o) →
      h'.get? x = some (excObj C t1 none .none) → Q .none ⟨h', g, d, t, os⟩) :
    wpAny (model prog w) A (call (.ref u) rest) Q E ⟨hp, g, d, t, os⟩ := by
  obtain ⟨nm, N', qn, bs, bm, hdct, sn, sub, ab, col, dd, k0, k1, k2, k3, k5, hC, hT⟩ := excInit_of X T.ini
  refine wpAny_call (codeAny_of_tree ?_)
  show wpAny _ A.in1 (callAny (.ref u) ⟨rest, []⟩) _ _ _
  simp only [callAny]
  refine wpAny_bind (wpAny_load hu ?_)
  simp only [kxs_mw, show (Value.type "method-wrapper" == Value.type "method"
    || Value.type "method-wrapper" == Value.type "builtin_function_or_method"
    || Value.type "method-wrapper" == Value.type "method-wrapper") = true by decide, if_true]
  refine KFB.if_so (by decide) ?_
  refine wpAny_bind (check_bound_init T.FB.toExcCallFacts hC hx rfl ?_)
  refine wpAny_bind (wpAny_pure (wpAny_pure ?_))
  refine ⟨plainId_quiet T.FB.init.plain _, codeAny_builtin T.FB.initEntry ?_⟩
  refine exc_init_tree (cls := .ref C) (t0 := t0) (dv := none) (c2 := .none) (c3 := .none)
    (b4 := .bool false) hx hz fun h' k e1 _ => ?_
  exact hq h' hp.objs.size k e1

/-- what the written part says of an __init__ with super() in it -/
structure XI (prog : Program) (K : Frag) (mg : Str → Option Value) (C fI cc cda : Addr)
    (qual : Str) (params : Arguments) (body : List Stmt) (scope : Scope) (B initId : String) : Prop where
  fn : ∃ (oc : Value) (od : Option Addr) (kV doc pm ct : Value) (an : Option Addr)
    (osl : Array (Option Value)), K.lookup fI = some ⟨oc, od,
      .func (ksFn "__init__" qual params body scope .none kV doc pm an (.ref cda) ct cc), osl⟩
  cod : codeIn K (.ref cda) qual = true
  code : ∃ ccl cdd vs ccs file tf, K.lookup cda = some ⟨ccl, cdd, .fields vs, ccs⟩ ∧
    vs[2]? = some (.str file tf) ∧ ((prog.main.file : Str) == file) = true
  cell : ∃ cl cld csl, K.lookup cc = some ⟨cl, cld, .cell (some (.ref C)), csl⟩
  cls : (clsIn K C).isSome = true
  self : mroIn K C (.ref C) = some true
  isB : subIn K (.ref C) (.type B) = some true
  sup : ks_superIn K C C "__init__" = some (some (.builtin initId))
  opq : nsIn K cStatics "thirdparty.any" = some none
  nosup : mg "super" = none
  top : (prog.main.scope.names.lookup ("super" : Str)).isSome = false

/-- the module's facts at a heap -/
structure MH (K : Frag) (mg : Str → Option Value) (h : Heap) : Prop where
  kin : K.In h
  glob : h.Ns mainGlobals mg
  blt : ∃ mb, h.Ns builtinsNs mb ∧ ∀ y : Str, y ≠ "__name__" → mb y = bootBuiltins y
theorem MH.keeps {K : Frag} {mg : Str → Option Value} {h h' : Heap} (m : MH K mg h)
    (k : ∀ b o, h.get? b = some o → h'.get? b = some o) : MH K mg h' := by
  obtain ⟨mb, h1, h2⟩ := m.blt
  exact ⟨m.kin.keeps k, m.glob.keeps k, mb, h1.keeps k, h2⟩

abbrev supS (msg : Str) (j : Nat) (p0 p1 p2 p3 p4 p5 : Pos) : Stmt :=
  .Expr (.Call (.Attribute (.Call (.Name "super" p0) [] [] p1) "__init__" p2)
    [.Constant (.str msg) j p3] [] p4) p5

/-- super().__init__('..') -/
theorem sup_run {mg m : Str → Option Value} {fI cc cda L : Addr} {qual q : Str} {params : Arguments}
    {body body' : List Stmt} {scope : Scope} {ar : Arg} {msg : Str} {j : Nat} {p0 p1 p2 p3 p4 p5 : Pos}
    (T : XC K C B newId initId bmB) (S : XI prog K mg C fI cc cda qual params body scope B initId)
    (Mh : MH K mg hp) (hn : hp.Ns L m) (hx : hp.get? x = some (excObj C t0 none .none))
    (hp1 : (params.posonlyargs ++ params.args).head? = some ar) (hv : m ar.arg = some (.ref x))
    (hks : scope.names.lookup ("super" : Str) = some .globalImplicit)
    (hkc : scope.names.lookup ("__class__" : Str) = some .free)
    (hka : scope.names.lookup ar.arg = some .local) (hk : scope.kind = .function)
    {Q : Flow → Shared → Prop}
    (hq : ∀ h' tk t1, (∀ b o, b ≠ x → hp.get? b = some o → h'.get? b = some o) →
      h'.get? x = some (excObj C t1 none .none) → Q .next ⟨h', g, d, tk, os⟩)
    {pl : Sem Bool}
    (he : eval (.Call (.Attribute (.Call (.Name "super" p0) [] [] p1) "__init__" p2)
        [.Constant (.str msg) j p3] [] p4) (ksEnv q scope L fI (.ref cda) cc) = (do
      let ov ← attributeBase (.Call (.Name "super" p0) [] [] p1) "__init__" (ksEnv q scope L fI (.ref cda) cc)
        (eval (.Call (.Name "super" p0) [] [] p1) (ksEnv q scope L fI (.ref cda) cc))
      standAt p2.atName
      let (f, first) ← holding [ov] (getMethod ov "__init__" pl)
      callWith p4 f first (backTo p4 (starEach [.Constant (.str msg) j p3] (ksEnv q scope L fI (.ref cda) cc))) []))
    (hi : interactive (ksEnv q scope L fI (.ref cda) cc) = false := by rfl)
    (hs : swapsWith (.Call (.Attribute (.Call (.Name "super" p0) [] [] p1) "__init__" p2)
      [.Constant (.str msg) j p3] [] p4) none p5.line (ksEnv q scope L fI (.ref cda) cc) = pure false := by rfl) :
    PySem.wpAt (model prog w) A (.func body' (ksEnv q scope L fI (.ref cda) cc))
      (exec (supS msg j p0 p1 p2 p3 p4 p5) (ksEnv q scope L fI (.ref cda) cc)) Q E ⟨hp, g, d, t, os⟩ := by
  obtain ⟨oc, od, kV, doc, pm, ct, an, osl, hf⟩ := S.fn
  obtain ⟨ccl, cdd, vs, ccs, file, tf, hcode, hvs, hfile⟩ := S.code
  obtain ⟨cl, cld, csl, hcell⟩ := S.cell
  obtain ⟨cdD, hD⟩ := Option.isSome_iff_exists.mp S.cls
  obtain ⟨mb, hmb, hbt⟩ := Mh.blt
  have X := Mh.kin
  obtain ⟨oD, hD1, hD2⟩ : ∃ oD, hp.get? C = some oD ∧ oD.data = .cls cdD := by
    unfold clsIn at hD
    split at hD
    · rename_i c d cd' sl ho
      cases hD
      exact ⟨_, X _ _ ho, rfl⟩
    · cases hD
  have I : W.InstAt hp x (excObj C t0 none .none) C none := ⟨hx, rfl, rfl, trivial⟩
  refine ks_wpAt_Expr_any ?_ hi hs
  refine ks_wpAt_MethodCall (pl := pl) ?_ he
  refine ks_wpAt_super_base (env := ksEnv q scope L fI (.ref cda) cc) hks hkc rfl rfl (X _ _ hf) rfl hp1 rfl
    (X _ _ hcode) rfl hvs hfile S.top ?_
  refine ks_loadName_global hk hks (loadGlobal_builtin (env := ksEnv q scope L fI (.ref cda) cc)
    Mh.glob S.nosup hmb ((hbt _ (by decide +kernel)).trans (by first | rfl | kernel_rfl)) ⟨rfl, ?_⟩)
  refine wpAny_loadName_free hk hkc rfl ⟨_, X _ _ hcell, rfl⟩ ?_
  refine wpAny_loadName_local hk hka hn hv ?_
  refine ks_wpAny_isType_cls hD1 hD2 ⟨rfl, ?_⟩
  refine ks_wpAny_call_super hD1 hD2 hx rfl (fun c e => by cases e) (looks_mroIn X S.self) (fun h1 e1 k1 => ?_)
  have X1 : K.In h1 := X.keeps k1
  have I1 : W.InstAt h1 x (excObj C t0 none .none) C none := ⟨k1 _ _ hx, rfl, rfl, trivial⟩
  have hm := S.sup
  unfold ks_superIn at hm
  rw [hD] at hm
  have hxC : x ≠ C := ks_ne X I hD
  refine kxs_getMethod T.KF e1 (looks_opaque X1 S.opq) (l₀ := cdD.mro) ?_ rfl X1 hm
    (I1.type.andThen (looks_subIn X1 S.isB)) hxC rfl ?_
  · exact fun A Q E s k q => wpAny_bind ((looks_clsIn X1 hD) A _ E s k (wpAny_pure q))
  have hu : (h1.push (kxs_mw initId x)).get? h1.objs.size = some (kxs_mw initId x) := Heap.get?_push_at rfl rfl
  have hx2 : (h1.push (kxs_mw initId x)).get? x = some (excObj C t0 none .none) :=
    Heap.get?_push_of_some _ (k1 _ _ hx)
  have X2 : K.In (h1.push (kxs_mw initId x)) := X1.keeps fun b o e => Heap.get?_push_of_some _ e
  refine kxs_callWith (i := initId) (x := x) (by rfl) ?_
  refine evalArgs_plain ?_
  refine spliced_cons (Constant_str (k := j) (pos := p3) (spliced_nil ⟨hu, ?_⟩))
  refine call_mw T X2 hu hx2 (by rw [sizeLine_eq]; exact (by decide : 1 ≤ 16777216)) fun h' t1 k2 e2 => ?_
  exact hq h' _ t1 (fun b o hb ho => k2 b o hb (Heap.get?_push_of_some _ (k1 b o ho))) e2
end
end Xc
set_option maxHeartbeats 8000000
namespace Xc
open PySem PySem.W PySem.Calls PyProof.Rows

/-! the text of such an __init__ -/
def iArgs (ps : List (Str × Pos)) : Arguments :=
  { posonlyargs := [], args := ps.map fun p => { arg := p.1, annotation := none, pos := p.2 },
    vararg := none, kwonlyargs := [], kw_defaults := [], kwarg := none, defaults := [] }
def iScope (ps : List Str) : Scope :=
  { kind := .function, names := ps.map (fun p => (p, NameKind.local)) ++
      [(PySem.Str.ofString "__class__", .free), (PySem.Str.ofString "super", .globalImplicit)],
    isGenerator := false, isCoroutine := false, more := [] }
abbrev stS (p : Str) (q1 q2 q3 q4 : Pos) : Stmt :=
  .Assign [.Attribute (.Name "self" q1) p q2] (.Name p q3) q4

theorem ns_ne {h : Heap} {L x C t0 : Addr} {dd : Option Addr} {m : Str → Option Value} (hn : h.Ns L m)
    (hx : h.get? x = some (excObj C t0 dd .none)) : L ≠ x := by
  rintro rfl
  obtain ⟨o, es, ep, ho, hd, _⟩ := hn
  rw [hx] at ho
  cases ho
  cases hd
theorem ns_keep {h h' : Heap} {L x : Addr} {m : Str → Option Value} (hn : h.Ns L m) (ne : L ≠ x)
    (k : ∀ b o, b ≠ x → h.get? b = some o → h'.get? b = some o) : h'.Ns L m := by
  obtain ⟨o, es, ep, ho, r⟩ := hn
  exact ⟨o, es, ep, k _ _ ne ho, r⟩
theorem mh_keep {K : Frag} {mg : Str → Option Value} {h h' : Heap} {x : Addr} (Mh : MH K mg h)
    (hx : K.lookup x = none) (hg : x ≠ mainGlobals) (hb : x ≠ builtinsNs)
    (k : ∀ b o, b ≠ x → h.get? b = some o → h'.get? b = some o) : MH K mg h' := by
  obtain ⟨mb, h1, h2⟩ := Mh.blt
  exact ⟨fun a o e => k a o (fun z => by rw [z, hx] at e; cases e) (Mh.kin a o e),
    ns_keep Mh.glob (Ne.symm hg) k, mb, ns_keep h1 (Ne.symm hb) k, h2⟩

section
variable {prog : Program} {w : World} {A : Around} {E : Value → Shared → Prop}
variable {hp : Heap} {g : Array GenState} {d : Drawn} {t : Nat} {os : OsState}
variable {K : Frag} {C x t0 : Addr} {B newId initId : String} {bmB : List Value}

theorem ldN {s : Shared} {q : Str} {scope : Scope} {L fI cc : Addr} {cda : Value} {m : Str → Option Value}
    {y : Str} {p : Pos} {v : Value} {Q : Value → Shared → Prop} {M : Model} (hn : s.heap.Ns L m)
    (hv : m y = some v) (hk : scope.kind = .function) (hl : scope.names.lookup y = some .local)
    (hd : (y == ("__debug__" : Str)) = false) (h : Q v s) :
    wpAny M A (eval (.Name y p) (ksEnv q scope L fI cda cc)) Q E s :=
  wpAny_Name (wpAny_loadName_local hk hl hn hv h) hd

/-- self.f = f, the first one -/
theorem st0 {q : Str} {scope : Scope} {L fI cc : Addr} {cda : Value} {m : Str → Option Value}
    {f : Str} {q1 q2 q3 q4 : Pos} {v : Value} (T : XC K C B newId initId bmB) (X : K.In hp) (hn : hp.Ns L m)
    (hx : hp.get? x = some (excObj C t0 none .none)) (hs : m "self" = some (.ref x)) (hv : m f = some v)
    (hk : scope.kind = .function) (ls : scope.names.lookup ("self" : Str) = some .local)
    (lf : scope.names.lookup f = some .local) (hd : (f == ("__debug__" : Str)) = false)
    (ha : takerIn K C f = some none) {Q : Flow → Shared → Prop}
    (hq : ∀ h' tk dx, (∀ b o, b ≠ x → hp.get? b = some o → h'.get? b = some o) →
      hp.objs.size ≤ dx → dx ≠ x → h'.get? x = some (excObj C t0 (some dx) .none) →
      h'.Ns1 dx (fun y => if y = f then some v else none) → Q .next ⟨h', g, d, tk, os⟩)
    (hw : swapsWith (.Name f q3) (some (.Attribute (.Name "self" q1) f q2)) q4.line
      (ksEnv q scope L fI cda cc) = pure false) :
    wpAny (model prog w) A (exec (stS f q1 q2 q3 q4) (ksEnv q scope L fI cda cc)) Q E ⟨hp, g, d, t, os⟩ :=
  plainObj_wpAny_Assign_Attribute (ldN hn hv hk lf hd (ldN hn hs hk ls (by decide) (sto0 T X hx ha hq))) hw

/-- self.f = f, a further one -/
theorem stD {q : Str} {scope : Scope} {L fI cc dx : Addr} {cda : Value} {m m0 : Str → Option Value}
    {f : Str} {q1 q2 q3 q4 : Pos} {v : Value} {nl : List Str} (T : XC K C B newId initId bmB) (X : K.In hp)
    (hn : hp.Ns L m) (hx : hp.get? x = some (excObj C t0 (some dx) .none)) (hns : hp.Ns1 dx m0)
    (hwi : Within m0 nl) (hz : nl.length ≤ 1000)
    (hs : m "self" = some (.ref x)) (hv : m f = some v) (hk : scope.kind = .function)
    (ls : scope.names.lookup ("self" : Str) = some .local) (lf : scope.names.lookup f = some .local)
    (hd : (f == ("__debug__" : Str)) = false) (ha : takerIn K C f = some none) {Q : Flow → Shared → Prop}
    (hq : ∀ h' tk, (∀ b o, b ≠ dx → hp.get? b = some o → h'.get? b = some o) →
      h'.Ns1 dx (fun y => if y = f then some v else m0 y) → Q .next ⟨h', g, d, tk, os⟩)
    (hw : swapsWith (.Name f q3) (some (.Attribute (.Name "self" q1) f q2)) q4.line
      (ksEnv q scope L fI cda cc) = pure false) :
    wpAny (model prog w) A (exec (stS f q1 q2 q3 q4) (ksEnv q scope L fI cda cc)) Q E ⟨hp, g, d, t, os⟩ :=
  plainObj_wpAny_Assign_Attribute
    (ldN hn hv hk lf hd (ldN hn hs hk ls (by decide) (stoD T X hx hns hwi hz ha hq))) hw
end

/-- what an __init__ leaves of the fresh exception at x: the fields by fs -/
structure IEnd (h h' : Heap) (x C : Addr) (fs : List (Str × Value)) : Prop where
  keep : ∀ b o, b ≠ x → h.get? b = some o → h'.get? b = some o
  obj : match fs with
    | [] => ∃ t1, h'.get? x = some (excObj C t1 none .none)
    | _ :: _ => ∃ t1 dx, h'.get? x = some (excObj C t1 (some dx) .none) ∧ h.objs.size ≤ dx ∧ dx ≠ x ∧
        h'.Ns1 dx fun y => fs.lookup y

section
variable {prog : Program} {w : World} {A : Around} {R : Result → Shared → Prop} {s : Shared}
variable {K : Frag} {mg : Str → Option Value} {C x t0 fI cc cda : Addr} {B newId initId : String} {bmB : List Value}
variable {qual msg : Str} {j : Nat} {p0 p1 p2 p3 p4 p5 : Pos} {args : Args}

theorem he_of {env : Env} (h : (p2.endLine == p4.line) = true) :
    eval (.Call (.Attribute (.Call (.Name "super" p0) [] [] p1) "__init__" p2)
        [.Constant (.str msg) j p3] [] p4) env = (do
      let ov ← attributeBase (.Call (.Name "super" p0) [] [] p1) "__init__" env
        (eval (.Call (.Name "super" p0) [] [] p1) env)
      standAt p2.atName
      let (f, first) ← holding [ov] (getMethod ov "__init__" (do return (← importBound (.Call (.Name "super" p0) [] [] p1) env).getD true))
      callWith p4 f first (backTo p4 (starEach [.Constant (.str msg) j p3] env)) []) := by
  have e : ∀ b, methodCallPos b (.Call (.Name "super" p0) [] [] p1) env p2 p4 = pure p4 := fun b => by
    unfold methodCallPos
    rw [h, Bool.or_true]
    rfl
  show (do
    let ov ← attributeBase (.Call (.Name "super" p0) [] [] p1) "__init__" env
      (eval (.Call (.Name "super" p0) [] [] p1) env)
    standAt p2.atName
    methodCall (.Call (.Name "super" p0) [] [] p1) "__init__" p2 p4 env ov 1
      (backTo p4 (starEach [.Constant (.str msg) j p3] env)) []) = _
  unfold methodCall
  simp only [e, pure_bind]
  rfl

/-- into the body of such a def -/
theorem enter {params : Arguments} {body : List Stmt} {scope : Scope} {binds : List (Str × Value)}
    (S : XI prog K mg C fI cc cda qual params body scope B initId) (Mh : MH K mg s.heap)
    (hlim : s.heap.NoLimit) (hroom : A.depth < recursionLimit)
    (hbind : ∀ kV doc pm ct an, BindsTo s
      (ksFn "__init__" qual params body scope .none kV doc pm an (.ref cda) ct cc) args binds)
    (hcell : ∀ y ∈ scope.names, y.2 ≠ .cell) (hloc : ∀ y ∈ binds, scope.names.lookup y.1 = some .local)
    (hco : scope.isCoroutine = false) (hge : scope.isGenerator = false) (hk : scope.kind = .function)
    (h : ∀ h1 tk L, h1.Ns L (fun y => binds.reverse.lookup y) → s.heap.objs.size ≤ L →
      (∀ b o, s.heap.get? b = some o → h1.get? b = some o) →
      PySem.wpAt (model prog w) (A.deeper (ksEnv qual scope L fI (.ref cda) cc))
        (.func body (ksEnv qual scope L fI (.ref cda) cc)) (execs body (ksEnv qual scope L fI (.ref cda) cc))
        (fun f s' => R (.ok (.ret (match f with | .ret v => v | _ => .none))) s')
        (fun e s' => wpAny (model prog w) (A.deeper (ksEnv qual scope L fI (.ref cda) cc))
          (leaving (ksEnv qual scope L fI (.ref cda) cc) e) (fun _ s'' => R (.error e) s'')
          (fun e' s'' => R (.error e') s'') s') { s with heap := h1, toks := tk }) :
    codeAny (model prog w) A (.call (.ref fI) args) R s := by
  obtain ⟨oc, od, kV, doc, pm, ct, an, osl, hf⟩ := S.fn
  refine ks_codeAny_call_defAt (fd := ksFn "__init__" qual params body scope .none kV doc pm an (.ref cda) ct cc)
    (body := body) (binds := binds) hroom (Mh.kin _ _ hf) rfl hlim (codeRec_of Mh.kin S.cod) rfl
    (hbind kV doc pm ct an) hcell hloc (fun h1 hns k1 => ?_) hco hge hk
  exact h h1 _ _ hns (Nat.le_refl _) k1

/-- no field -/
theorem init0 {a0 : Pos} (T : XC K C B newId initId bmB)
    (S : XI prog K mg C fI cc cda qual (iArgs [("self", a0)]) [supS msg j p0 p1 p2 p3 p4 p5] (iScope ["self"]) B initId)
    (Mh : MH K mg s.heap) (hlim : s.heap.NoLimit) (hroom : A.depth < recursionLimit)
    (hln : (p2.endLine == p4.line) = true) (hx : s.heap.get? x = some (excObj C t0 none .none))
    (hq : ∀ h' tk, IEnd s.heap h' x C [] → R (.ok (.ret .none)) { s with heap := h', toks := tk }) :
    codeAny (model prog w) A (.call (.ref fI) ⟨[.ref x], []⟩) R s := by
  refine enter (binds := [("self", .ref x)]) S Mh hlim hroom (fun _ _ _ _ _ => BindsTo.of_eq rfl)
    (by decide) (by simp [iScope, List.lookup]) rfl rfl rfl fun h1 tk L hn hL k1 => ?_
  obtain ⟨hp, g, d, t, os⟩ := s
  refine ks_wpAt_execs_cons ?_
  refine sup_run T S (Mh.keeps k1) hn (k1 _ _ hx) (ar := ⟨"self", none, a0⟩) rfl (by rfl) (by rfl) (by rfl) (by rfl) rfl
    (fun h2 tk2 t1 k2 e2 => ?_) (he_of hln) (by rfl) (by rfl)
  refine wpAt_of_wpAny (wpAny_execs_nil ?_)
  exact hq h2 tk2 ⟨fun b o hb ho => k2 b o hb (k1 b o ho), t1, e2⟩
end
end Xc
set_option maxHeartbeats 8000000
namespace Xc
open PySem PySem.W PySem.Calls PyProof.Rows

/-- a name that may be a field -/
structure Nm (p : Str) : Prop where
  s : p ≠ "self"
  u : p ≠ "super"
  c : p ≠ "__class__"
  d : p ≠ "__debug__"
theorem bq {a b : Str} (h : a ≠ b) : (a == b) = false := by simpa using h
theorem lk1 {α : Type} {y p : Str} {v : α} {r : List (Str × α)} (h : y ≠ p) :
    List.lookup y ((p, v) :: r) = List.lookup y r := by
  show (match y == p with | true => some v | false => List.lookup y r) = _
  rw [bq h]
theorem lk0 {α : Type} {p : Str} {v : α} {r : List (Str × α)} : List.lookup p ((p, v) :: r) = some v := by
  unfold List.lookup
  simp
theorem ns_of (a b : Str) (h : (a == b) = false) : a ≠ b := by simpa using h

section
variable {prog : Program} {w : World} {A : Around} {R : Result → Shared → Prop} {s : Shared}
variable {K : Frag} {mg : Str → Option Value} {C x t0 fI cc cda : Addr} {B newId initId : String} {bmB : List Value}
variable {qual msg f1 f2 f3 : Str} {j : Nat} {p0 p1 p2 p3 p4 p5 : Pos} {args : Args} {v1 v2 v3 : Value}

theorem hself : ("self" : Str) ≠ "super" := ns_of _ _ (by decide)
theorem hself2 : ("self" : Str) ≠ "__class__" := ns_of _ _ (by decide)
theorem hcs : ("super" : Str) ≠ "__class__" := ns_of _ _ (by decide)

/-- one field -/
theorem init1 {a0 a1 q1 q2 q3 q4 : Pos} (n1 : Nm f1) (T : XC K C B newId initId bmB)
    (S : XI prog K mg C fI cc cda qual (iArgs [("self", a0), (f1, a1)])
      [supS msg j p0 p1 p2 p3 p4 p5, stS f1 q1 q2 q3 q4] (iScope ["self", f1]) B initId)
    (Mh : MH K mg s.heap) (hlim : s.heap.NoLimit) (hroom : A.depth < recursionLimit)
    (hln : (p2.endLine == p4.line) = true) (hx : s.heap.get? x = some (excObj C t0 none .none))
    (nx : K.lookup x = none) (ng : x ≠ mainGlobals) (nb : x ≠ builtinsNs) (ha : takerIn K C f1 = some none)
    (hb : ∀ kV doc pm ct an, BindsTo s (ksFn "__init__" qual (iArgs [("self", a0), (f1, a1)])
      [supS msg j p0 p1 p2 p3 p4 p5, stS f1 q1 q2 q3 q4] (iScope ["self", f1]) .none kV doc pm an (.ref cda) ct cc)
      args [("self", .ref x), (f1, v1)])
    (hq : ∀ h' tk, IEnd s.heap h' x C [(f1, v1)] → R (.ok (.ret .none)) { s with heap := h', toks := tk }) :
    codeAny (model prog w) A (.call (.ref fI) args) R s := by
  have l0 : (iScope ["self", f1]).names.lookup ("self" : Str) = some .local := lk0
  have l1 : (iScope ["self", f1]).names.lookup f1 = some .local := (lk1 n1.s).trans lk0
  have lc : (iScope ["self", f1]).names.lookup ("__class__" : Str) = some .free :=
    (lk1 hself2.symm).trans ((lk1 n1.c.symm).trans lk0)
  have lsu : (iScope ["self", f1]).names.lookup ("super" : Str) = some .globalImplicit :=
    (lk1 hself.symm).trans ((lk1 n1.u.symm).trans ((lk1 hcs).trans lk0))
  have m0 : List.lookup ("self" : Str) [(f1, v1), ("self", Value.ref x)] = some (.ref x) := (lk1 n1.s.symm).trans lk0
  have m1 : List.lookup f1 [(f1, v1), ("self", Value.ref x)] = some v1 := lk0
  refine enter (binds := [("self", .ref x), (f1, v1)]) S Mh hlim hroom hb
    (by simp [iScope]) (fun y hy => ?_) rfl rfl rfl fun h1 tk L hn hL k1 => ?_
  · rcases List.mem_cons.mp hy with rfl | hy
    · exact l0
    · rcases List.mem_cons.mp hy with rfl | hy
      · exact l1
      · cases hy
  obtain ⟨hp, g, d, t, os⟩ := s
  refine ks_wpAt_execs_cons ?_
  refine sup_run T S (Mh.keeps k1) hn (k1 _ _ hx) (ar := ⟨"self", none, a0⟩) rfl m0 lsu lc l0 rfl
    (fun h2 tk2 t1 k2 e2 => ?_) (he_of hln) (by rfl) (by rfl)
  have nL : L ≠ x := ns_ne hn (k1 _ _ hx)
  have M2 : MH K mg h2 := mh_keep (Mh.keeps k1) nx ng nb k2
  have hn2 := ns_keep hn nL k2
  refine wpAt_of_wpAny (wpAny_execs_cons ?_)
  refine st0 T M2.kin hn2 e2 m0 m1 rfl l0 l1 (bq n1.d) ha (fun h3 tk3 dx k3 hd ne e3 n3 => ?_) (by rfl)
  refine wpAny_execs_nil ?_
  have z : hp.objs.size ≤ dx := Nat.le_trans hL (Nat.le_trans (Nat.le_of_lt hn2.lt) hd)
  refine hq h3 tk3 ⟨fun b o hb ho => k3 b o hb (k2 b o hb (k1 b o ho)), t1, dx, e3, z, ne, ?_⟩
  have e : (fun y => List.lookup y [(f1, v1)]) = fun y => if y = f1 then some v1 else none := by
    funext y
    by_cases h : y = f1
    · rw [h, if_pos rfl, lk0]
    · rw [if_neg h, lk1 h]; rfl
  rw [e]
  exact n3
end
end Xc
set_option maxHeartbeats 8000000
namespace Xc
open PySem PySem.W PySem.Calls PyProof.Rows

theorem lkf {α : Type} (p : Str) (v : α) (r : List (Str × α)) :
    (fun y => List.lookup y ((p, v) :: r)) = fun y => if y = p then some v else List.lookup y r := by
  funext y
  by_cases h : y = p
  · rw [h, if_pos rfl, lk0]
  · rw [if_neg h, lk1 h]
theorem lkf1 (f1 : Str) (v1 : Value) : (fun y => List.lookup y [(f1, v1)]) = fun y => if y = f1 then some v1 else none := by
  rw [lkf]
  rfl
theorem lkf2 (f1 f2 : Str) (v1 v2 : Value) : (fun y => List.lookup y [(f2, v2), (f1, v1)]) =
    fun y => if y = f2 then some v2 else if y = f1 then some v1 else none := by
  funext y
  have e := congrFun (lkf1 f1 v1) y
  have e2 := congrFun (lkf f2 v2 [(f1, v1)]) y
  rw [e2, e]
theorem lkf3 (f1 f2 f3 : Str) (v1 v2 v3 : Value) : (fun y => List.lookup y [(f3, v3), (f2, v2), (f1, v1)]) =
    fun y => if y = f3 then some v3 else if y = f2 then some v2 else if y = f1 then some v1 else none := by
  funext y
  have e := congrFun (lkf2 f1 f2 v1 v2) y
  have e2 := congrFun (lkf f3 v3 [(f2, v2), (f1, v1)]) y
  rw [e2, e]
theorem wi1 {f : Str} {v : Value} : Within (fun y => if y = f then some v else none) [f] :=
  Within.cons f v Within.nil
theorem wi2 {f1 f2 : Str} {v1 v2 : Value} :
    Within (fun y => if y = f2 then some v2 else if y = f1 then some v1 else none) [f2, f1] :=
  Within.cons f2 v2 wi1

section
variable {prog : Program} {w : World} {A : Around} {R : Result → Shared → Prop} {s : Shared}
variable {K : Frag} {mg : Str → Option Value} {C x t0 fI cc cda : Addr} {B newId initId : String} {bmB : List Value}
variable {qual msg f1 f2 f3 : Str} {j : Nat} {p0 p1 p2 p3 p4 p5 : Pos} {args : Args} {v1 v2 v3 : Value}

/-- two fields -/
theorem init2 {a0 a1 a2 q1 q2 q3 q4 r1 r2 r3 r4 : Pos} (n1 : Nm f1) (n2 : Nm f2) (n12 : f1 ≠ f2)
    (T : XC K C B newId initId bmB)
    (S : XI prog K mg C fI cc cda qual (iArgs [("self", a0), (f1, a1), (f2, a2)])
      [supS msg j p0 p1 p2 p3 p4 p5, stS f1 q1 q2 q3 q4, stS f2 r1 r2 r3 r4] (iScope ["self", f1, f2]) B initId)
    (Mh : MH K mg s.heap) (hlim : s.heap.NoLimit) (hroom : A.depth < recursionLimit)
    (hln : (p2.endLine == p4.line) = true) (hx : s.heap.get? x = some (excObj C t0 none .none))
    (nx : K.lookup x = none) (ng : x ≠ mainGlobals) (nb : x ≠ builtinsNs) (ha : takerIn K C f1 = some none)
    (ha2 : takerIn K C f2 = some none)
    (hb : ∀ kV doc pm ct an, BindsTo s (ksFn "__init__" qual (iArgs [("self", a0), (f1, a1), (f2, a2)])
      [supS msg j p0 p1 p2 p3 p4 p5, stS f1 q1 q2 q3 q4, stS f2 r1 r2 r3 r4] (iScope ["self", f1, f2]) .none kV doc pm an (.ref cda) ct cc)
      args [("self", .ref x), (f1, v1), (f2, v2)])
    (hq : ∀ h' tk, IEnd s.heap h' x C [(f2, v2), (f1, v1)] → R (.ok (.ret .none)) { s with heap := h', toks := tk }) :
    codeAny (model prog w) A (.call (.ref fI) args) R s := by
  have l0 : (iScope ["self", f1, f2]).names.lookup ("self" : Str) = some .local := lk0
  have l1 : (iScope ["self", f1, f2]).names.lookup f1 = some .local := (lk1 n1.s).trans lk0
  have l2 : (iScope ["self", f1, f2]).names.lookup f2 = some .local := (lk1 n2.s).trans ((lk1 n12.symm).trans lk0)
  have lc : (iScope ["self", f1, f2]).names.lookup ("__class__" : Str) = some .free :=
    (lk1 hself2.symm).trans ((lk1 n1.c.symm).trans ((lk1 n2.c.symm).trans lk0))
  have lsu : (iScope ["self", f1, f2]).names.lookup ("super" : Str) = some .globalImplicit :=
    (lk1 hself.symm).trans ((lk1 n1.u.symm).trans ((lk1 n2.u.symm).trans ((lk1 hcs).trans lk0)))
  have m0 : List.lookup ("self" : Str) [(f2, v2), (f1, v1), ("self", Value.ref x)] = some (.ref x) :=
    (lk1 n2.s.symm).trans ((lk1 n1.s.symm).trans lk0)
  have m1 : List.lookup f1 [(f2, v2), (f1, v1), ("self", Value.ref x)] = some v1 := (lk1 n12).trans lk0
  have m2 : List.lookup f2 [(f2, v2), (f1, v1), ("self", Value.ref x)] = some v2 := lk0
  refine enter (binds := [("self", .ref x), (f1, v1), (f2, v2)]) S Mh hlim hroom hb
    (by simp [iScope]) (fun y hy => ?_) rfl rfl rfl fun h1 tk L hn hL k1 => ?_
  · rcases List.mem_cons.mp hy with rfl | hy
    · exact l0
    · rcases List.mem_cons.mp hy with rfl | hy
      · exact l1
      · rcases List.mem_cons.mp hy with rfl | hy
        · exact l2
        · cases hy
  obtain ⟨hp, g, d, t, os⟩ := s
  refine ks_wpAt_execs_cons ?_
  refine sup_run T S (Mh.keeps k1) hn (k1 _ _ hx) (ar := ⟨"self", none, a0⟩) rfl m0 lsu lc l0 rfl
    (fun h2 tk2 t1 k2 e2 => ?_) (he_of hln) (by rfl) (by rfl)
  have nL : L ≠ x := ns_ne hn (k1 _ _ hx)
  have M2 : MH K mg h2 := mh_keep (Mh.keeps k1) nx ng nb k2
  have hn2 := ns_keep hn nL k2
  refine wpAt_of_wpAny (wpAny_execs_cons ?_)
  refine st0 T M2.kin hn2 e2 m0 m1 rfl l0 l1 (bq n1.d) ha (fun h3 tk3 dx k3 hd ne e3 n3 => ?_) (by rfl)
  have M3 : MH K mg h3 := mh_keep M2 nx ng nb k3
  have hn3 := ns_keep hn2 nL k3
  have z : hp.objs.size ≤ dx := Nat.le_trans hL (Nat.le_trans (Nat.le_of_lt hn2.lt) hd)
  refine wpAny_execs_cons ?_
  refine stD T M3.kin hn3 e3 n3 wi1 (show 1 ≤ 1000 by decide) m0 m2 rfl l0 l2 (bq n2.d) ha2 (fun h4 tk4 k4 n4 => ?_) (by rfl)
  refine wpAny_execs_nil ?_
  have old : ∀ b o, hp.get? b = some o → b ≠ dx := fun b o ho => Nat.ne_of_lt (Nat.lt_of_lt_of_le (Heap.lt_size ho) z)
  refine hq h4 tk4 ⟨fun b o hb ho => k4 b o (old b o ho) (k3 b o hb (k2 b o hb (k1 b o ho))), t1, dx,
    k4 x _ (Ne.symm ne) e3, z, ne, ?_⟩
  rw [lkf2]
  exact n4

/-- three fields -/
theorem init3 {a0 a1 a2 a3 q1 q2 q3 q4 r1 r2 r3 r4 u1 u2 u3 u4 : Pos} (n1 : Nm f1) (n2 : Nm f2) (n3 : Nm f3)
    (n12 : f1 ≠ f2) (n13 : f1 ≠ f3) (n23 : f2 ≠ f3) (T : XC K C B newId initId bmB)
    (S : XI prog K mg C fI cc cda qual (iArgs [("self", a0), (f1, a1), (f2, a2), (f3, a3)])
      [supS msg j p0 p1 p2 p3 p4 p5, stS f1 q1 q2 q3 q4, stS f2 r1 r2 r3 r4, stS f3 u1 u2 u3 u4]
      (iScope ["self", f1, f2, f3]) B initId)
    (Mh : MH K mg s.heap) (hlim : s.heap.NoLimit) (hroom : A.depth < recursionLimit)
    (hln : (p2.endLine == p4.line) = true) (hx : s.heap.get? x = some (excObj C t0 none .none))
    (nx : K.lookup x = none) (ng : x ≠ mainGlobals) (nb : x ≠ builtinsNs) (ha : takerIn K C f1 = some none)
    (ha2 : takerIn K C f2 = some none) (ha3 : takerIn K C f3 = some none)
    (hb : ∀ kV doc pm ct an, BindsTo s (ksFn "__init__" qual (iArgs [("self", a0), (f1, a1), (f2, a2), (f3, a3)])
      [supS msg j p0 p1 p2 p3 p4 p5, stS f1 q1 q2 q3 q4, stS f2 r1 r2 r3 r4, stS f3 u1 u2 u3 u4]
      (iScope ["self", f1, f2, f3]) .none kV doc pm an (.ref cda) ct cc)
      args [("self", .ref x), (f1, v1), (f2, v2), (f3, v3)])
    (hq : ∀ h' tk, IEnd s.heap h' x C [(f3, v3), (f2, v2), (f1, v1)] → R (.ok (.ret .none)) { s with heap := h', toks := tk }) :
    codeAny (model prog w) A (.call (.ref fI) args) R s := by
  have l0 : (iScope ["self", f1, f2, f3]).names.lookup ("self" : Str) = some .local := lk0
  have l1 : (iScope ["self", f1, f2, f3]).names.lookup f1 = some .local := (lk1 n1.s).trans lk0
  have l2 : (iScope ["self", f1, f2, f3]).names.lookup f2 = some .local := (lk1 n2.s).trans ((lk1 n12.symm).trans lk0)
  have l3 : (iScope ["self", f1, f2, f3]).names.lookup f3 = some .local :=
    (lk1 n3.s).trans ((lk1 n13.symm).trans ((lk1 n23.symm).trans lk0))
  have lc : (iScope ["self", f1, f2, f3]).names.lookup ("__class__" : Str) = some .free :=
    (lk1 hself2.symm).trans ((lk1 n1.c.symm).trans ((lk1 n2.c.symm).trans ((lk1 n3.c.symm).trans lk0)))
  have lsu : (iScope ["self", f1, f2, f3]).names.lookup ("super" : Str) = some .globalImplicit :=
    (lk1 hself.symm).trans ((lk1 n1.u.symm).trans ((lk1 n2.u.symm).trans ((lk1 n3.u.symm).trans ((lk1 hcs).trans lk0))))
  have m0 : List.lookup ("self" : Str) [(f3, v3), (f2, v2), (f1, v1), ("self", Value.ref x)] = some (.ref x) :=
    (lk1 n3.s.symm).trans ((lk1 n2.s.symm).trans ((lk1 n1.s.symm).trans lk0))
  have m1 : List.lookup f1 [(f3, v3), (f2, v2), (f1, v1), ("self", Value.ref x)] = some v1 :=
    (lk1 n13).trans ((lk1 n12).trans lk0)
  have m2 : List.lookup f2 [(f3, v3), (f2, v2), (f1, v1), ("self", Value.ref x)] = some v2 := (lk1 n23).trans lk0
  have m3 : List.lookup f3 [(f3, v3), (f2, v2), (f1, v1), ("self", Value.ref x)] = some v3 := lk0
  refine enter (binds := [("self", .ref x), (f1, v1), (f2, v2), (f3, v3)]) S Mh hlim hroom hb
    (by simp [iScope]) (fun y hy => ?_) rfl rfl rfl fun h1 tk L hn hL k1 => ?_
  · rcases List.mem_cons.mp hy with rfl | hy
    · exact l0
    · rcases List.mem_cons.mp hy with rfl | hy
      · exact l1
      · rcases List.mem_cons.mp hy with rfl | hy
        · exact l2
        · rcases List.mem_cons.mp hy with rfl | hy
          · exact l3
          · cases hy
  obtain ⟨hp, g, d, t, os⟩ := s
  refine ks_wpAt_execs_cons ?_
  refine sup_run T S (Mh.keeps k1) hn (k1 _ _ hx) (ar := ⟨"self", none, a0⟩) rfl m0 lsu lc l0 rfl
    (fun h2 tk2 t1 k2 e2 => ?_) (he_of hln) (by rfl) (by rfl)
  have nL : L ≠ x := ns_ne hn (k1 _ _ hx)
  have M2 : MH K mg h2 := mh_keep (Mh.keeps k1) nx ng nb k2
  have hn2 := ns_keep hn nL k2
  refine wpAt_of_wpAny (wpAny_execs_cons ?_)
  refine st0 T M2.kin hn2 e2 m0 m1 rfl l0 l1 (bq n1.d) ha (fun h3 tk3 dx k3 hd ne e3 n3' => ?_) (by rfl)
  have M3 : MH K mg h3 := mh_keep M2 nx ng nb k3
  have hn3 := ns_keep hn2 nL k3
  have z : hp.objs.size ≤ dx := Nat.le_trans hL (Nat.le_trans (Nat.le_of_lt hn2.lt) hd)
  have old : ∀ b o, hp.get? b = some o → b ≠ dx := fun b o ho => Nat.ne_of_lt (Nat.lt_of_lt_of_le (Heap.lt_size ho) z)
  have Ldx : L ≠ dx := Nat.ne_of_lt (Nat.lt_of_lt_of_le hn2.lt hd)
  refine wpAny_execs_cons ?_
  refine stD T M3.kin hn3 e3 n3' wi1 (show 1 ≤ 1000 by decide) m0 m2 rfl l0 l2 (bq n2.d) ha2 (fun h4 tk4 k4 n4 => ?_) (by rfl)
  have X4 : K.In h4 := fun a o e => k4 a o (old a o (Mh.kin a o e)) (M3.kin a o e)
  refine wpAny_execs_cons ?_
  refine stD T X4 (ns_keep hn3 Ldx k4) (k4 x _ (Ne.symm ne) e3) n4 wi2 (show 2 ≤ 1000 by decide) m0 m3 rfl l0 l3 (bq n3.d) ha3
    (fun h5 tk5 k5 n5 => ?_) (by rfl)
  refine wpAny_execs_nil ?_
  refine hq h5 tk5 ⟨fun b o hb ho => k5 b o (old b o ho) (k4 b o (old b o ho) (k3 b o hb (k2 b o hb (k1 b o ho)))), t1, dx,
    k5 x _ (Ne.symm ne) (k4 x _ (Ne.symm ne) e3), z, ne, ?_⟩
  rw [lkf3]
  exact n5
end
end Xc
set_option maxHeartbeats 8000000
/-! an own exception class is called, with keywords too -/
namespace Xc
open PySem PySem.W PySem.Calls PyProof.Rows PySem.PX

section
variable {prog : Program} {w : World} {M : Model} {A : Around} {E : Value → Shared → Prop}
variable {R : Result → Shared → Prop} {hp : Heap} {g : Array GenState} {d : Drawn} {t : Nat} {os : OsState}
variable {K : Frag} {C x t0 fI : Addr} {B newId initId : String} {bmB : List Value}
variable {nm q : Str} {N : Addr} {bs bm : List Value} {hdct : Bool} {sn : List Str} {sub : List Value}
variable {ab : Bool} {col : Option Bool} {dd : Option Addr} {k0 k1 k2 k3 k5 : Option Value}
variable {rest : List Value} {kw : List (Str × Value)}

abbrev clsO (nm q : Str) (C N : Addr) (bs bm : List Value) (hdct : Bool) (sn : List Str) (sub : List Value)
    (ab : Bool) (col : Option Bool) (dd : Option Addr) (k0 k1 k2 k3 k5 : Option Value) (newId : String) : Obj :=
  excClassObj nm q C N bs bm hdct sn sub ab col dd k0 k1 k2 k3 k5 newId

theorem ckNewK (F : ExcBaseFacts B newId initId bmB)
    (hT : ∀ X : String, bm.contains (.type X) = bmB.contains (.type X)) {Q : Unit → Shared → Prop}
    (hC : hp.get? C = some (clsO nm q C N bs bm hdct sn sub ab col dd k0 k1 k2 k3 k5 newId))
    (hq : Q () ⟨hp, g, d, t, os⟩) :
    wpAny M A (checkBuiltinCall newId ⟨.ref C :: rest, kw⟩) Q E ⟨hp, g, d, t, os⟩ := by
  have hin : (Value.ref C :: bm).contains (.type B) = true := by
    rw [List.contains_cons, hT, F.hasB]
    exact Bool.or_true _
  have hstar := F.noStar
  simp only [checkBuiltinCall, F.newKind, F.newSplit, F.newRow]
  repeat (first
    | refine wpAny_loadPart_at hC ?_
    | (refine wpAny_isSubtype_exc hC ?_; rw [hin])
    | refine wpAny_staticBase_exc hC ?_
    | refine wpAny_madeBy_exc hC ?_
    | simp only [bne_self_eq_false, Bool.false_eq_true, if_false]
    | wp_step)
  exact hq

theorem newK (F : ExcBaseFacts B newId initId bmB)
    (hT : ∀ X : String, bm.contains (.type X) = bmB.contains (.type X))
    (hC : hp.get? C = some (clsO nm q C N bs bm hdct sn sub ab col dd k0 k1 k2 k3 k5 newId))
    (hz : rest.length ≤ sizeLine)
    (hq : R (.ok (.ret (.ref (hp.objs.size + 1))))
      ⟨(hp.push (excTup rest)).push (excObj C hp.objs.size none .none), g, d, t, os⟩) :
    codeAny (model prog w) A (.builtin newId ⟨.ref C :: rest, kw⟩) R ⟨hp, g, d, t, os⟩ := by
  have hends := F.ends
  have i1 : (Value.ref C :: bm).contains (.type B) = true := by
    rw [List.contains_cons, hT, F.hasB]
    exact Bool.or_true _
  have i2 : (Value.ref C :: bm).contains (.type "AttributeError") = false := by
    rw [List.contains_cons, hT, F.noAttr]
    rfl
  have i3 : (Value.ref C :: bm).contains (.type "NameError") = false := by
    rw [List.contains_cons, hT, F.noName]
    rfl
  refine codeAny_builtinAt F.entry ?_
  unfold Builtin.«BaseException.__new__»
  refine PySem.wpAt_bind ?_
  show PySem.wpAt _ _ _ (stack >>= _) _ _ _
  refine PySem.wpAt_bind (PySem.wpAt_stack fun p below => PySem.wpAt_of_wpAny ?_)
  wp_walk
  refine PySem.wpAt_of_wpAny ?_
  rw [F.owner]
  repeat (first
    | with_reducible refine wpAny_madeHere_exc F.canon hC ?_
    | with_reducible refine wpAny_loadPart_at hC ?_
    | (with_reducible refine wpAny_isSubtype_exc hC ?_; first | rw [i1] | rw [i2] | rw [i3])
    | wp_step)
  show R _ _
  rw [Heap.size_push]
  exact hq

theorem typeK (F : ExcBaseFacts B newId initId bmB)
    (hT : ∀ X : String, bm.contains (.type X) = bmB.contains (.type X)) {Q : Fin → Shared → Prop}
    (hC : hp.get? C = some (clsO nm q C N bs bm hdct sn sub ab col dd k0 k1 k2 k3 k5 newId))
    (hi : W.Looks (model prog w) hp (typeLookup (.ref C) "__init__") (some (.ref fI)))
    (hb : ∀ self, W.Looks (model prog w) hp (bindSpecial (.ref fI) self) (.ref fI, [self]))
    (hz : rest.length ≤ sizeLine)
    (hq : codeAny (model prog w) A (.call (.ref fI) ⟨.ref (hp.objs.size + 1) :: rest, kw⟩)
      (fun r s' => match r with
        | .ok (.ret v) => v = .none ∧ Q (.done (.ret (.ref (hp.objs.size + 1)))) s'
        | .ok _ => False
        | .error e => E e s')
      ⟨(hp.push (excTup rest)).push (excObj C hp.objs.size none .none), g, d, t, os⟩) :
    wpAny (model prog w) A (Builtin.«type.__call__» ⟨.ref C :: rest, kw⟩) Q E ⟨hp, g, d, t, os⟩ := by
  repeat (first
    | with_reducible refine wpAny_loadPart_at hC ?_
    | with_reducible refine wpAny_madeBy_exc hC ?_
    | wp_step)
  refine codeAny_call_builtin_code (Code.quiet_builtin _ F.quiet) (ckNewK F hT hC ?_)
  refine newK F hT hC hz ?_
  show wpAny _ _ _ _ _ _
  have k : ∀ b o, hp.get? b = some o →
      ((hp.push (excTup rest)).push (excObj C hp.objs.size none .none)).get? b = some o :=
    fun b o e => Heap.get?_push_of_some _ (Heap.get?_push_of_some _ e)
  have hC1 := k _ _ hC
  have hg : ((hp.push (excTup rest)).push (excObj C hp.objs.size none .none)).get? (hp.objs.size + 1)
      = some (excObj C hp.objs.size none .none) := by heap_get
  have hcC : (Value.ref C :: bm).contains (.ref C) = true := by simp
  have i1 := hi.keeps k
  have b1 := (hb (.ref (hp.objs.size + 1))).keeps k
  unfold isInstance
  repeat (first
    | with_reducible refine wpAny_loadPart_at hg ?_
    | (with_reducible refine wpAny_isSubtype_exc hC1 ?_; rw [hcC])
    | wp_step)
  show wpAny _ _ (typeLookup (.ref C) _) _ _ _
  refine i1.at ?_
  refine wpAny_holding (wpAny_bind (b1.at ?_))
  refine wpAny_bind (wpAny_call (codeAny_mono hq fun r s' z => ?_))
  rcases r with e | (v | _ | _ | _) <;> first
    | exact z
    | exact z.elim
    | (obtain ⟨rfl, z⟩ := z
       first
         | exact wpAny_pure (wpAny_pure z)
         | (wp_walk; exact z))

theorem callK (F : ExcBaseFacts B newId initId bmB)
    (hT : ∀ X : String, bm.contains (.type X) = bmB.contains (.type X))
    (hC : hp.get? C = some (clsO nm q C N bs bm hdct sn sub ab col dd k0 k1 k2 k3 k5 newId))
    (hi : W.Looks (model prog w) hp (typeLookup (.ref C) "__init__") (some (.ref fI)))
    (hb : ∀ self, W.Looks (model prog w) hp (bindSpecial (.ref fI) self) (.ref fI, [self]))
    (hz : rest.length ≤ sizeLine)
    (hq : codeAny (model prog w) (A.under (.builtin "type.__call__" ⟨.ref C :: rest, kw⟩))
      (.call (.ref fI) ⟨.ref (hp.objs.size + 1) :: rest, kw⟩) (W.InitBack (hp.objs.size + 1) R)
      ⟨(hp.push (excTup rest)).push (excObj C hp.objs.size none .none), g, d, t, os⟩) :
    codeAny (model prog w) A (.call (.ref C) ⟨rest, kw⟩) R ⟨hp, g, d, t, os⟩ := by
  have f1 := tc_lookup
  have f2 := tc_bind (.ref C)
  have hTy : (⟨hp, g, d, t, os⟩ : Shared).TypeIs (.ref C) "type" := ⟨_, hC, rfl⟩
  refine codeAny_of_tree ?_
  show wpAny _ _ (callAny (.ref C) _) _ _ _
  repeat (any_goals (first | assumption | with_reducible refine wpAny_loadPart_at hC ?_ | wp_step))
  refine ⟨rfl, ?_⟩
  refine codeAny_call_builtin_at (Code.quiet_builtin _ (by decide +kernel)) entry_typeCall
    (wpAny_check_type_call_sub hC (typeK F hT hC hi hb hz ?_))
  refine codeAny_mono hq fun r s' z => ?_
  rcases r with e | (v | _ | _ | _) <;> exact z
end
end Xc
set_option maxHeartbeats 8000000
namespace Xc
open PySem PySem.W PySem.Calls PyProof.Rows PySem.PX

/-- behind the call of the class: a new exception e, its fields fs -/
structure MkEnd (h h' : Heap) (e C : Addr) (fs : List (Str × Value)) : Prop where
  keep : ∀ b o, h.get? b = some o → h'.get? b = some o
  new : h.objs.size ≤ e
  obj : match fs with
    | [] => ∃ t1, h'.get? e = some (excObj C t1 none .none)
    | _ :: _ => ∃ t1 dx, h'.get? e = some (excObj C t1 (some dx) .none) ∧ h.objs.size ≤ dx ∧ dx ≠ e ∧
        h'.Ns1 dx fun y => fs.lookup y

/-- what calls of the class C do, for the fields fs bound from us and kw -/
def Mk (prog : Program) (w : World) (K : Frag) (mg : Str → Option Value) (C : Addr) (us : List Value)
    (kw : List (Str × Value)) (fs : List (Str × Value)) : Prop :=
  ∀ (A : Around) (R : Result → Shared → Prop) (s : Shared), MH K mg s.heap → s.heap.NoLimit →
    A.depth + 1 < recursionLimit →
    (∀ h' tk e, MkEnd s.heap h' e C fs → R (.ok (.ret (.ref e))) { s with heap := h', toks := tk }) →
    codeAny (model prog w) A (.call (.ref C) ⟨us, kw⟩) R s

section
variable {prog : Program} {w : World} {A : Around} {R : Result → Shared → Prop} {s : Shared}
variable {K : Frag} {mg : Str → Option Value} {C x t0 fI cc cda : Addr} {B newId initId : String} {bmB : List Value}
variable {qual msg f1 f2 f3 : Str} {j : Nat} {p0 p1 p2 p3 p4 p5 : Pos} {us : List Value} {kw : List (Str × Value)} {v1 v2 v3 : Value}

/-- the common way in -/
theorem mk_of (T : XC K C B newId initId bmB) (iC : findIn K (.ref C) "__init__" = some (some (.ref fI)))
    (tI : typeIn K (.ref fI) = some (.type "function")) (hz : us.length ≤ sizeLine) {fs : List (Str × Value)}
    (h : ∀ (A : Around) (R : Result → Shared → Prop) (s : Shared) (x t0 : Addr), MH K mg s.heap → s.heap.NoLimit →
      A.depth < recursionLimit → s.heap.get? x = some (excObj C t0 none .none) → K.lookup x = none →
      x ≠ mainGlobals → x ≠ builtinsNs →
      (∀ h' tk, IEnd s.heap h' x C fs → R (.ok (.ret .none)) { s with heap := h', toks := tk }) →
      codeAny (model prog w) A (.call (.ref fI) ⟨.ref x :: us, kw⟩) R s) : Mk prog w K mg C us kw fs := by
  intro A R s Mh hlim hroom hq
  have X := Mh.kin
  obtain ⟨nm, N', qn, bs, bm, hdct, sn, sub, ab, col, dd, k0, k1, k2, k3, k5, hC, hT⟩ := excInit_of X T.ini
  obtain ⟨hp, g, d, t, os⟩ := s
  have kk : ∀ b o, hp.get? b = some o →
      ((hp.push (excTup us)).push (excObj C hp.objs.size none .none)).get? b = some o :=
    fun b o e => Heap.get?_push_of_some _ (Heap.get?_push_of_some _ e)
  have hg : ((hp.push (excTup us)).push (excObj C hp.objs.size none .none)).get? (hp.objs.size + 1)
      = some (excObj C hp.objs.size none .none) := by heap_get
  have big : ∀ {b : Addr} {o : Obj}, hp.get? b = some o → hp.objs.size + 1 ≠ b := fun {b o} e z => by
    have q := Heap.lt_size e
    rw [← z] at q
    exact absurd (Nat.lt_of_succ_lt q) (Nat.lt_irrefl _)
  have hnx : K.lookup (hp.objs.size + 1) = none := by
    cases e : K.lookup (hp.objs.size + 1) with
    | none => rfl
    | some o => exact absurd rfl (big (X _ _ e))
  have hmg : hp.objs.size + 1 ≠ mainGlobals := by
    obtain ⟨o, _, _, e, _⟩ := Mh.glob
    exact big e
  have hbn : hp.objs.size + 1 ≠ builtinsNs := by
    obtain ⟨mb, ⟨o, _, _, e, _⟩, _⟩ := Mh.blt
    exact big e
  refine callK T.FB hT hC (looks_findIn X iC) (fun self => bind_fn X self tI) hz ?_
  refine h _ _ ⟨(hp.push (excTup us)).push (excObj C hp.objs.size none .none), g, d, t, os⟩ (hp.objs.size + 1) hp.objs.size
    (Mh.keeps kk) (hlim.keeps kk) hroom hg hnx hmg hbn fun h' tk Z => ?_
  refine ⟨rfl, hq h' tk (hp.objs.size + 1) ⟨fun b o e => Z.keep b o (Ne.symm (big e)) (kk b o e), Nat.le_succ _, ?_⟩⟩
  have zo := Z.obj
  cases fs with
  | nil => exact zo
  | cons f r =>
    obtain ⟨t1, dx, e1, e2, e3, e4⟩ := zo
    refine ⟨t1, dx, e1, ?_, e3, e4⟩
    rw [Heap.size_push, Heap.size_push] at e2
    exact Nat.le_trans (Nat.le_trans (Nat.le_succ _) (Nat.le_succ _)) e2

theorem mk0 {a0 : Pos} (T : XC K C B newId initId bmB)
    (iC : findIn K (.ref C) "__init__" = some (some (.ref fI))) (tI : typeIn K (.ref fI) = some (.type "function"))
    (S : XI prog K mg C fI cc cda qual (iArgs [("self", a0)]) [supS msg j p0 p1 p2 p3 p4 p5] (iScope ["self"]) B initId)
    (hln : (p2.endLine == p4.line) = true) : Mk prog w K mg C [] [] [] :=
  mk_of T iC tI (Nat.zero_le _) fun A R s x t0 Mh hlim hroom hx _ _ _ hq => init0 T S Mh hlim hroom hln hx hq

theorem mk1 {a0 a1 q1 q2 q3 q4 : Pos} (n1 : Nm f1) (T : XC K C B newId initId bmB)
    (iC : findIn K (.ref C) "__init__" = some (some (.ref fI))) (tI : typeIn K (.ref fI) = some (.type "function"))
    (S : XI prog K mg C fI cc cda qual (iArgs [("self", a0), (f1, a1)])
      [supS msg j p0 p1 p2 p3 p4 p5, stS f1 q1 q2 q3 q4] (iScope ["self", f1]) B initId)
    (hln : (p2.endLine == p4.line) = true) (ha : takerIn K C f1 = some none) (hz : us.length ≤ sizeLine)
    (hb : ∀ s x kV doc pm ct an, BindsTo s (ksFn "__init__" qual (iArgs [("self", a0), (f1, a1)])
      [supS msg j p0 p1 p2 p3 p4 p5, stS f1 q1 q2 q3 q4] (iScope ["self", f1]) .none kV doc pm an (.ref cda) ct cc)
      ⟨.ref x :: us, kw⟩ [("self", .ref x), (f1, v1)]) : Mk prog w K mg C us kw [(f1, v1)] :=
  mk_of T iC tI hz fun A R s x t0 Mh hlim hroom hx nx ng nb hq =>
    init1 n1 T S Mh hlim hroom hln hx nx ng nb ha (hb s x) hq

theorem mk2 {a0 a1 a2 q1 q2 q3 q4 r1 r2 r3 r4 : Pos} (n1 : Nm f1) (n2 : Nm f2) (n12 : f1 ≠ f2)
    (T : XC K C B newId initId bmB)
    (iC : findIn K (.ref C) "__init__" = some (some (.ref fI))) (tI : typeIn K (.ref fI) = some (.type "function"))
    (S : XI prog K mg C fI cc cda qual (iArgs [("self", a0), (f1, a1), (f2, a2)])
      [supS msg j p0 p1 p2 p3 p4 p5, stS f1 q1 q2 q3 q4, stS f2 r1 r2 r3 r4] (iScope ["self", f1, f2]) B initId)
    (hln : (p2.endLine == p4.line) = true) (ha : takerIn K C f1 = some none) (ha2 : takerIn K C f2 = some none)
    (hz : us.length ≤ sizeLine)
    (hb : ∀ s x kV doc pm ct an, BindsTo s (ksFn "__init__" qual (iArgs [("self", a0), (f1, a1), (f2, a2)])
      [supS msg j p0 p1 p2 p3 p4 p5, stS f1 q1 q2 q3 q4, stS f2 r1 r2 r3 r4] (iScope ["self", f1, f2]) .none kV doc pm an (.ref cda) ct cc)
      ⟨.ref x :: us, kw⟩ [("self", .ref x), (f1, v1), (f2, v2)]) : Mk prog w K mg C us kw [(f2, v2), (f1, v1)] :=
  mk_of T iC tI hz fun A R s x t0 Mh hlim hroom hx nx ng nb hq =>
    init2 n1 n2 n12 T S Mh hlim hroom hln hx nx ng nb ha ha2 (hb s x) hq

theorem mk3 {a0 a1 a2 a3 q1 q2 q3 q4 r1 r2 r3 r4 u1 u2 u3 u4 : Pos} (n1 : Nm f1) (n2 : Nm f2) (n3 : Nm f3)
    (n12 : f1 ≠ f2) (n13 : f1 ≠ f3) (n23 : f2 ≠ f3) (T : XC K C B newId initId bmB)
    (iC : findIn K (.ref C) "__init__" = some (some (.ref fI))) (tI : typeIn K (.ref fI) = some (.type "function"))
    (S : XI prog K mg C fI cc cda qual (iArgs [("self", a0), (f1, a1), (f2, a2), (f3, a3)])
      [supS msg j p0 p1 p2 p3 p4 p5, stS f1 q1 q2 q3 q4, stS f2 r1 r2 r3 r4, stS f3 u1 u2 u3 u4]
      (iScope ["self", f1, f2, f3]) B initId)
    (hln : (p2.endLine == p4.line) = true) (ha : takerIn K C f1 = some none) (ha2 : takerIn K C f2 = some none)
    (ha3 : takerIn K C f3 = some none) (hz : us.length ≤ sizeLine)
    (hb : ∀ s x kV doc pm ct an, BindsTo s (ksFn "__init__" qual (iArgs [("self", a0), (f1, a1), (f2, a2), (f3, a3)])
      [supS msg j p0 p1 p2 p3 p4 p5, stS f1 q1 q2 q3 q4, stS f2 r1 r2 r3 r4, stS f3 u1 u2 u3 u4]
      (iScope ["self", f1, f2, f3]) .none kV doc pm an (.ref cda) ct cc)
      ⟨.ref x :: us, kw⟩ [("self", .ref x), (f1, v1), (f2, v2), (f3, v3)]) :
    Mk prog w K mg C us kw [(f3, v3), (f2, v2), (f1, v1)] :=
  mk_of T iC tI hz fun A R s x t0 Mh hlim hroom hx nx ng nb hq =>
    init3 n1 n2 n3 n12 n13 n23 T S Mh hlim hroom hln hx nx ng nb ha ha2 ha3 (hb s x) hq
end
end Xc
set_option maxHeartbeats 8000000
/-! exceptions as values, over the abstract heap -/
namespace L2
open PySem PySem.Spec PyProof.Rows

/-- the abstract heap with a new exception of the class at C: the object at a, its dict at dx -/
def xH (H : Hp) (a dx C : Addr) : List (Str × V) → Hp
  | [] => upd H a (exo a C none)
  | f :: fs => upd (upd H dx (exd dx (f :: fs))) a (exo a C (some dx))

theorem kv_lookup : ∀ {fv : List (Str × V)} {fs : List (Str × Value)}, KV fv fs → ∀ y, RelO (fv.lookup y) (fs.lookup y)
  | _, _, .nil, _ => True.intro
  | (f, v) :: fv, (g, u) :: fs, .cons r t, y => by
    obtain ⟨e, rv⟩ := r
    have e' : f = g := e
    subst e'
    rw [lookup_put]
    by_cases h : y = f
    · subst h
      rw [if_pos rfl, Xc.lk0]
      exact rv
    · rw [if_neg h, Xc.lk1 h]
      exact kv_lookup t y

theorem paired_snoc {α β : Type} {R : α → β → Prop} : ∀ {xs : List α} {ys : List β} {x : α} {y : β},
    Paired R xs ys → R x y → Paired R (xs ++ [x]) (ys ++ [y])
  | _, _, _, _, .nil, r => .cons r .nil
  | _, _, _, _, .cons q t, r => .cons q (paired_snoc t r)
theorem vals_rev : ∀ {xs : List V} {us : List Value}, Vals xs us → Vals xs.reverse us.reverse
  | _, _, .nil => .nil
  | _ :: _, _ :: _, .cons r t => by
    rw [List.reverse_cons, List.reverse_cons]
    exact paired_snoc (vals_rev t) r
theorem zip_kv : ∀ (ps : List Str) {xs : List V} {us : List Value}, Vals xs us → KV (ps.zip xs) (ps.zip us)
  | [], _, _, _ => by simp only [List.zip_nil_left]; exact Paired.nil
  | _ :: _, _, _, .nil => .nil
  | p :: ps, _ :: _, _ :: _, .cons r t => .cons ⟨rfl, r⟩ (zip_kv ps t)

section
variable {X : Cx} {pins : List (Addr × Obj)} {σ : St} {H : Hp} {s : Shared} {e C : Addr}

theorem Inv.mh (I : Inv X pins σ H s) : Xc.MH X.K X.mg s.heap := by
  obtain ⟨mb, h1, h2⟩ := I.mod.blt
  exact ⟨I.kIn, I.mod.glob.keeps I.bk, mb, h1.keeps I.bk, h2⟩

theorem Inv.xmade {h' : Heap} {tk : Nat} {fs : List (Str × Value)} {fv : List (Str × V)} (I : Inv X pins σ H s)
    (M : Xc.MkEnd s.heap h' e C fs) (r : KV fv fs) : ∃ dx, H e = none ∧ H dx = none ∧ dx ≠ e ∧
      Inv X pins σ (xH H e dx C fv) { s with heap := h', toks := tk } := by
  have he : H e = none := I.hok.fresh M.new
  have zo := M.obj
  cases r with
  | nil =>
    obtain ⟨t1, e1⟩ := zo
    refine ⟨e + 1, he, I.hok.fresh (Nat.le_succ_of_le M.new), Nat.ne_of_gt (Nat.lt_succ_self e), ?_⟩
    exact I.laid (t' := tk) M.keep M.new (exo_ok e1)
  | @cons p q fv fs rp rt =>
    obtain ⟨t1, dx, e1, e2, e3, e4⟩ := zo
    have hd : H dx = none := I.hok.fresh e2
    refine ⟨dx, he, hd, e3, ?_⟩
    have nO : ∀ {b : Addr} {o : HO}, H b = some o → b ≠ e ∧ b ≠ dx := fun q => ⟨ne_of_none q he, ne_of_none q hd⟩
    have nH : ∀ {b : Addr} {o : Obj}, s.heap.get? b = some o → b ≠ e ∧ b ≠ dx := fun {b o} q =>
      ⟨Nat.ne_of_lt (Nat.lt_of_lt_of_le (Heap.lt_size q) M.new), Nat.ne_of_lt (Nat.lt_of_lt_of_le (Heap.lt_size q) e2)⟩
    have up : ∀ {b : Addr}, b ≠ e ∧ b ≠ dx → xH H e dx C (p :: fv) b = H b := fun {b} n => by
      show upd (upd H dx _) e _ b = _
      rw [upd_ne n.1, upd_ne n.2]
    refine I.un (t' := tk) (h' := h') {
      keep := fun b o q _ _ _ => M.keep b o q
      slot := fun b o q _ _ _ => ⟨o.slots, M.keep b o q⟩
      free := fun b o q n _ => (up (nH q)).trans n
      there := fun b o q _ => ⟨o, M.keep b o q⟩
      tups := fun b xs q => (up (nO q)).trans q
      frzs := fun b o v q => (up (nO q)).trans q
      tbls := fun b ps q => ⟨#[], by rw [up (nO q), q]; simp⟩ } fun b o q => ?_
    by_cases hb : b = e
    · subst hb
      rw [show xH H b dx C (p :: fv) b = some (exo b C (some dx)) from upd_same] at q
      cases q
      exact exo_ok e1
    · by_cases hbd : b = dx
      · subst hbd
        rw [show xH H e b C (p :: fv) b = some (exd b (p :: fv)) from (upd_ne hb).trans upd_same] at q
        cases q
        exact exd_ok e4 (kv_lookup (.cons rp rt))
      · rw [up ⟨hb, hbd⟩] at q
        refine (I.hok b o q).stay (fun c v _ z => M.keep c v z) (fun c z => ?_) fun c xs z => ?_
        · exact (up (nO z)).trans z
        · exact (up (nO z)).trans z
end

/-- what is known of calls of the class at C; ps: its fields, the last parameter first -/
structure MkAll (P : Program) (w : World) (K : PySem.W.Frag) (mg : Str → Option Value) (C : Addr) (ps : List Str) : Prop where
  pos : ∀ fs : List (Str × Value), fs.map (·.1) = ps → Xc.Mk P w K mg C (fs.reverse.map (·.2)) [] fs
  kws : ∀ fs : List (Str × Value), fs.map (·.1) = ps → Xc.Mk P w K mg C [] fs fs
  kp : PySem.W.keepIn K (.ref C) = true

theorem zip_rev {ps : List Str} {us : List Value} (h : us.length = ps.length) :
    ((ps.zip us.reverse).reverse.map (·.2)) = us := by
  have e : (ps.zip us.reverse).map (·.2) = us.reverse := by
    rw [List.map_snd_zip]
    rw [List.length_reverse]
    exact Nat.le_of_eq h
  rw [List.map_reverse, e, List.reverse_reverse]
theorem zip_fst {ps : List Str} {us : List Value} (h : us.length = ps.length) : (ps.zip us).map (·.1) = ps := by
  rw [List.map_fst_zip]
  exact Nat.le_of_eq h.symm

/-- C(e, ..) -/
def tX (C : Addr) (ps : List Str) (ta : TA) : TE := fun σ H Q => ta σ H fun vs H1 => vs.length = ps.length ∧
  ∀ a dx, H1 a = none → H1 dx = none → dx ≠ a → Q (.ref a) (xH H1 a dx C (ps.zip vs.reverse))
/-- C(k = e, ..) -/
def tXk (C : Addr) (ps : List Str) (ta : TA) : TE := fun σ H Q => ta σ H fun vs H1 => vs.length = ps.length ∧
  ∀ a dx, H1 a = none → H1 dx = none → dx ≠ a → Q (.ref a) (xH H1 a dx C (ps.zip vs))

section
variable {X : Cx} {C : Addr} {ps : List Str} {k : Nat} {x : Str} {p pos : Pos} {e : Expr} {es : List Expr}
variable {kws : List Keyword} {ta : TA}

theorem run_x {pins : List (Addr × Obj)} {σ : St} {H : Hp} {s : Shared} {Q : VK} {us : List Value}
    {kw fs : List (Str × Value)} {fv : List (Str × V)} (M : Xc.Mk X.prog X.w X.K X.mg C us kw fs) (hr : Room k X.A)
    (I : Inv X pins σ H s) (r : KV fv fs)
    (h : ∀ a dx, H a = none → H dx = none → dx ≠ a → Q (.ref a) (xH H a dx C fv)) :
    wpAny (model X.prog X.w) X.A (call (.ref C) us kw) (EP X pins σ Q) X.xe s := by
  have hd := hr.dp
  refine wpAny_call (M X.A _ s I.mh I.nolimit (by omega) fun h' tk a Z => ?_)
  obtain ⟨dx, n1, n2, ne, J⟩ := I.xmade (tk := tk) Z r
  exact ⟨.ref a, _, J, rfl, h a dx n1 n2 ne⟩

theorem pe_x (M : MkAll X.prog X.w X.K X.mg C ps) (hr : Room k X.A) (hg : Gl X x) (hm : X.mg x = some (.ref C))
    (ha : PA X (e :: es) ta) (hdb : (x == ("__debug__" : Str)) = false := by decide)
    (he : starEach (e :: es) X.env = (false, eval e X.env) :: starEach es X.env := by rfl)
    (hpl : (backTo pos (starEach es X.env)).any (·.1) = false := by rfl) :
    PE X (.Call (.Name x p) (e :: es) [] pos) (tX C ps ta) := by
  refine ⟨fun pins s σ H Q I h => ?_⟩
  refine wpAny_Call_Name_kw (ld_glob I hg hm ?_ hdb)
  refine PySem.W.callWith_K (h₀ := X.base) I.ok.mod.kin M.kp
    (thn (ha.run pos pins s σ H _ I h) fun us s1 ⟨vs, H1, I1, r, hl, q⟩ => ⟨I1.kIn, ?_⟩) he hpl
  have lu : us.length = ps.length := r.length.symm.trans hl
  have Z := M.pos (ps.zip us.reverse) (zip_fst (by rw [List.length_reverse]; exact lu))
  rw [zip_rev lu] at Z
  exact run_x Z hr I1 (zip_kv ps (vals_rev r)) q

theorem pe_x0 (M : MkAll X.prog X.w X.K X.mg C []) (hr : Room k X.A) (hg : Gl X x) (hm : X.mg x = some (.ref C))
    (hdb : (x == ("__debug__" : Str)) = false := by decide) :
    PE X (.Call (.Name x p) [] [] pos) (tX C [] tNil) := by
  refine ⟨fun pins s σ H Q I h => ?_⟩
  refine wpAny_Call_Name_kw (ld_glob I hg hm ?_ hdb)
  refine PySem.W.callWith_K0 I.kIn M.kp ?_
  have Z := M.pos [] rfl
  exact run_x (fv := []) Z hr I .nil h.2

theorem pe_xk (M : MkAll X.prog X.w X.K X.mg C ps) (hr : Room k X.A) (hg : Gl X x) (hm : X.mg x = some (.ref C))
    (hkw : PK X kws ta) (hall : (backToKw pos (keywordEach kws X.env)).all (·.1.isSome) = true := by rfl)
    (hks : (backToKw pos (keywordEach kws X.env)).filterMap (·.1) = ps := by rfl)
    (hdb : (x == ("__debug__" : Str)) = false := by decide)
    (hpl : ((backTo pos (starEach [] X.env)).any (·.1) ||
      (backToKw pos (keywordEach kws X.env)).any (·.1.isNone)) = false := by rfl) :
    PE X (.Call (.Name x p) [] kws pos) (tXk C ps ta) := by
  refine ⟨fun pins s σ H Q I h => ?_⟩
  refine wpAny_Call_Name_kw (ld_glob I hg hm ?_ hdb)
  refine PySem.W.callWith_KW0 (h₀ := X.base) I.ok.mod.kin M.kp hall ?_ hpl
  refine thn (hkw.run pos pins s σ H _ I h) fun ws s2 ⟨zs, H2, I2, rz, hl, q⟩ => ⟨I2.kIn, ?_⟩
  rw [hks]
  have lw : ws.length = ps.length := rz.length.symm.trans hl
  exact run_x (M.kws (ps.zip ws) (zip_fst lw)) hr I2 (zip_kv ps rz) q
end

/-- what the written part says of a field's reading, and of isinstance -/
structure XG (K : PySem.W.Frag) (C : Addr) : Prop where
  ga : PySem.W.findIn K (.ref C) "__getattribute__" = some (some (.builtin "BaseException.__getattribute__"))
  gg : PySem.W.findIn K (.ref C) "__getattr__" = some none
  ex : PySem.W.subIn K (.ref C) (.type "BaseException") = some true
  hd : PySem.W.hasDictIn K C = true
  cl : (PySem.W.clsIn K C).isSome = true
  cc : PySem.W.findIn K (.ref C) "__class__" = some (some (.builtin "object.__class__"))
  cn : PySem.W.specialIn K (.builtin "object.__class__") "__get__" = some (some (.builtin "getset_descriptor.__get__"))
  ct : PySem.W.takesIn K (.builtin "object.__class__") = some true
  co : PySem.W.mroIn K C (.type "object") = some true

/-- o.f, o an exception as a value -/
def tXf (K : PySem.W.Frag) (f : Str) (te : TE) : TE := fun σ H Q => te σ H fun x H1 => ∃ (a C dx : Addr) (fs : List (Str × V)) (v : V),
  x = .ref a ∧ H1 a = some (exo a C (some dx)) ∧ H1 dx = some (exd dx fs) ∧ fs.lookup f = some v ∧ XG K C ∧
  PySem.W.findIn K (.ref C) f = some none ∧ Q v H1
theorem pe_xf {X : Cx} {e : Expr} {te : TE} {f : Str} {pos : Pos} (he : PE X e te)
    (hb : attributeBase e f X.env (eval e X.env) = eval e X.env) : PE X (.Attribute e f pos) (tXf X.K f te) := by
  refine ⟨fun pins s σ H Q I h => ?_⟩
  refine attr_of hb (thn (he.run pins s σ H _ I h) fun u s1 ⟨x, H1, I1, rx, a, C, dx, fs, v, ex, ea, ed, el, G, hn, q⟩ => ?_)
  subst ex
  obtain rfl : u = Value.ref a := rx
  obtain ⟨t1, ho⟩ := exo_at I1.hok ea
  obtain ⟨mA, hns, rel⟩ := exd_at I1.hok ed
  obtain ⟨od, hod, hl⟩ := lookIn_ns hns
  obtain ⟨w, hw, rw⟩ := RelO.some_of (v := v) (o := mA f) (by rw [← el]; exact rel f)
  have J : PySem.W.InstAt s1.heap a _ C (some od) := ⟨ho, rfl, rfl, hod⟩
  exact PySem.PX.exc_get I1.kIn J G.ga G.gg G.ex (PySem.W.findObj_own G.hd hn rfl (by rw [hl, hw])) (handed_of rw)
    ⟨v, H1, I1.tok _, rw, q⟩

/-- isinstance(o, c), o an exception as a value -/
def rXi (K : PySem.W.Frag) : List V → Hp → VK → Prop := fun xs H Q => ∃ (a C : Addr) (d : Option Addr) (c : V) (u : Value) (b : Bool),
  xs = [.ref a, c] ∧ H a = some (exo a C d) ∧ (∀ dx, d = some dx → ∃ fs, H dx = some (exd dx fs)) ∧ XG K C ∧ ClsV c u ∧
  PySem.W.kitOne K (.ref C) u = some b ∧ Q (.bl b) H
theorem call_xi {X : Cx} : CallR X (.builtin "isinstance") (rXi X.K) := by
  intro pins s σ H xs us Q I r h
  obtain ⟨a, C, d, c, u, b, rfl, ea, hd, G, k, ek, q⟩ := h
  obtain ⟨u1, u2, rfl, r1, r2⟩ := vals2 r
  have e2 := k.eq r2
  subst e2
  obtain rfl : u1 = Value.ref a := r1
  obtain ⟨t1, ho⟩ := exo_at I.hok ea
  have fin : ∀ tk, EP X pins σ Q (.bool b) { s with toks := tk } := fun tk => ⟨.bl b, H, I.tok tk, rfl, q⟩
  cases d with
  | none =>
    have J : PySem.W.InstAt s.heap a _ C none := ⟨ho, rfl, rfl, trivial⟩
    exact PySem.W.kia_one (PySem.W.kitx_exc G.cl G.ga G.gg G.ex G.cc G.cn G.ct G.co) I.kIn J ek (fun z => nomatch z) fin
  | some dx =>
    obtain ⟨fs, ed⟩ := hd dx rfl
    obtain ⟨mA, hns, rel⟩ := exd_at I.hok ed
    obtain ⟨od, hod, hl⟩ := lookIn_ns hns
    have J : PySem.W.InstAt s.heap a _ C (some od) := ⟨ho, rfl, rfl, hod⟩
    exact PySem.W.kia_one (PySem.W.kitx_exc G.cl G.ga G.gg G.ex G.cc G.cn G.ct G.co) I.kIn J ek (fun z => nomatch z) fin
end L2
set_option maxHeartbeats 8000000
/-! defs that are known to run outside of any repr; repr of data -/
namespace L2
open PySem PySem.Spec PyProof.Rows

/-- as FnOk, for calls outside of any repr; nothing is raised -/
structure FnG (P : Program) (w : World) (K : PySem.W.Frag) (mg : Str → Option Value) (base : Heap) (k : Nat)
    (f : Addr) (fd : FuncData) (ps : List Str) (sp : Sp) : Prop where
  len : ∀ vs H Q, sp vs H Q E0 → vs.length = ps.length
  run : ∀ (A : Around) (outer : List Env) (s : Shared) (H : Hp) (args : Args) (us : List Value) (vs : List V) (Q : VK),
    A.guards = some [] → Room k A → Env0 P w K mg base A outer s H → BindsTo s fd args (ps.zip us) → Vals vs us →
    sp vs H Q E0 → codeAny (model P w) A (.call (.ref f) args) (CR CX0 outer P w H s Q E0) s

section
variable {P : Program} {w : World} {K : PySem.W.Frag} {mg : Str → Option Value} {base : Heap}

theorem fnG_of {k : Nat} {f : Addr} {name qual : Str} {params : Arguments} {body : List Stmt} {scope : Scope}
    {dV kV doc pm cdv ct oc : Value} {an od : Option Addr} {osl : Array (Option Value)} {N ps : List Str} {sp : Sp}
    (lk : K.lookup f = some ⟨oc, od, .func (PySem.W.fnOf name qual params body scope dV kV doc pm an cdv ct), osl⟩)
    (hcd : PySem.W.codeIn K cdv qual = true) (S : FnScope N ps scope)
    (len : ∀ vs H Q, sp vs H Q E0 → vs.length = ps.length)
    (hbody : ∀ (A : Around) (outer : List Env) (s : Shared) (H : Hp) (vs : List V) (Q : VK), A.guards = some [] →
      Room k (A.deeper (envOfC qual scope s.heap.objs.size f cdv)) → sp vs H Q E0 →
      ∃ t, PSs (cxOf CX0 P w K mg base N qual scope f cdv A outer s H E0) body t ∧
        t { nx := fun _ H' => Q .non H', rt := Q } (start N vs) H) :
    FnG P w K mg base (k + 1) f (PySem.W.fnOf name qual params body scope dV kV doc pm an cdv ct) ps sp := by
  refine ⟨len, fun A outer s H args us vs Q hgu hr e0 hb r hsp => ?_⟩
  have hl := len _ _ _ hsp
  have kb : ∀ b o, base.get? b = some o → s.heap.get? b = some o := fun b o e => (e0.bs b o e).1
  have KX := e0.mod.kin.keeps kb
  have lim := e0.mod.nolimit.keeps kb
  have hkind : ∀ y ∈ ps.zip us, scope.names.lookup y.1 = some .local ∨
      (scope.names.lookup y.1 = some .cell ∧
        ((cellsFrom (s.heap.objs.size + 1) scope.names []).lookup y.1).isSome = true) := by
    rintro ⟨n, v⟩ hy
    rcases S.par n (List.of_mem_zip hy).1 with q | q
    · exact Or.inl q
    · exact Or.inr ⟨q, PySem.W.cellsFrom_some _ _ _ (Or.inl q)⟩
  refine codeAny_call_function hr.depth (KX _ _ lk) rfl S.co S.gen rfl
    (PySem.W.codeRec_of KX hcd) (hb _ _ _ _ ?_)
  refine wpAny_newFunctionEnv_cells S.kind hkind fun env he s1 x => ?_
  cases he
  refine ⟨lim.keeps x.toInCall.keep, codeAny_func ?_⟩
  obtain ⟨t, ht, hq⟩ := hbody A outer s H vs Q hgu (hr.deeper _) hsp
  have I : Inv (cxOf CX0 P w K mg base N qual scope f cdv A outer s H E0) [] (start N vs) H s1 :=
    inv_start S hr.hd e0 hl r x
  refine wpAny_mono (ht.run [] s1 (start N vs) H _ I hq) (fun fl s' hs => ?_) fun e s' hs => hs
  cases fl with
  | ret u =>
    obtain ⟨v, σ', H', J, rv, q⟩ := hs
    exact ⟨v, H', J.os, J.bare, J.base, J.hok, rv, q⟩
  | next =>
    obtain ⟨σ', H', J, q⟩ := hs
    exact ⟨V.non, H', J.os, J.bare, J.base, J.hok, rfl, q⟩
  | brk => exact hs.choose_spec.choose_spec.2.elim
  | cont => exact hs.choose_spec.choose_spec.2.elim

theorem Fun.okG {x qual : Str} {st : Stmt} {f : Addr} {fd : FuncData} {N ps : List Str} {k : Nat} {sp : Sp}
    (F : Fun K x qual st f fd) (S : FnScope N ps (defScope st)) (len : ∀ vs H Q, sp vs H Q E0 → vs.length = ps.length)
    (hbody : ∀ (cdv : Value) (A : Around) (outer : List Env) (s : Shared) (H : Hp) (vs : List V) (Q : VK),
      A.guards = some [] → Room k (A.deeper (envOfC qual (defScope st) s.heap.objs.size f cdv)) → sp vs H Q E0 →
      ∃ t, PSs (cxOf CX0 P w K mg base N qual (defScope st) f cdv A outer s H E0).nox (defBody st) t ∧
        t { nx := fun _ H' => Q .non H', rt := Q } (start N vs) H) : FnG P w K mg base (k + 1) f fd ps sp := by
  obtain ⟨oc, od, kV, doc, pm, an, cdv, ct, osl, rfl, lk, hcd⟩ := F.ex
  refine fnG_of lk hcd S len fun A outer s H vs Q hgu hr hsp => ?_
  obtain ⟨t, h, q⟩ := hbody cdv A outer s H vs Q hgu hr hsp
  exact ⟨t, h.nox, q⟩
end

section
variable {X : Cx} {k : Nat} {f : Addr} {fd : FuncData} {ps : List Str} {sp : Sp} {x : Str} {p pos : Pos}
variable {e : Expr} {es : List Expr} {t : TA}

theorem run_fnG {pins : List (Addr × Obj)} {σ : St} {H : Hp} {s : Shared} {Q : VK} {us : List Value} {vs : List V}
    (F : FnG X.prog X.w X.K X.mg X.base k f fd ps sp) (hgu : X.A.guards = some []) (hr : Room k X.A)
    (hb : Binds X.K fd ps []) (I : Inv X pins σ H s) (r : Vals vs us) (h : sp vs H Q E0) :
    wpAny (model X.prog X.w) X.A (call (.ref f) us) (EP X pins σ Q) X.xe s := by
  have hl : (us ++ []).length = ps.length := by
    rw [List.append_nil, ← r.length]
    exact F.len _ _ _ h
  have hb' := hb s us I.kIn hl
  rw [List.append_nil] at hb'
  refine wpAny_call (codeAny_mono (F.run X.A X.stack s H ⟨us, []⟩ us vs Q hgu hr I.env0 hb' r h) fun r s' hq => ?_)
  cases r with
  | error e => exact False.elim hq
  | ok fl =>
    cases fl with
    | ret u => exact I.after hq
    | next => exact False.elim hq
    | brk => exact False.elim hq
    | cont => exact False.elim hq

theorem pe_callG (F : FnG X.prog X.w X.K X.mg X.base k f fd ps sp) (hgu : X.A.guards = some []) (hr : Room k X.A)
    (hg : Gl X x) (hm : X.mg x = some (.ref f)) (hk : PySem.W.keepIn X.K (.ref f) = true) (hb : Binds X.K fd ps [])
    (ha : PA X (e :: es) t) (hdb : (x == ("__debug__" : Str)) = false := by decide)
    (he : starEach (e :: es) X.env = (false, eval e X.env) :: starEach es X.env := by rfl)
    (hpl : (backTo pos (starEach es X.env)).any (·.1) = false := by rfl) :
    PE X (.Call (.Name x p) (e :: es) [] pos) (tCall sp [] E0 t) := by
  refine ⟨fun pins s σ H Q I h => ?_⟩
  refine wpAny_Call_Name_kw (ld_glob I hg hm ?_ hdb)
  refine PySem.W.callWith_K (h₀ := X.base) I.ok.mod.kin hk
    (thn (ha.run pos pins s σ H _ I h) fun us s1 ⟨vs, H1, I1, r, q⟩ => ⟨I1.kIn, ?_⟩) he hpl
  have q' : sp (vs ++ []) H1 Q E0 := q
  rw [List.append_nil] at q'
  exact run_fnG F hgu hr hb I1 r q'
end

/-! ### data, a dict among it -/
def kD : Key → PyData
  | .inl i => .int i
  | .inr x => .str x
mutual
inductive Dw (H : Hp) : V → PyData → Prop
  | non : Dw H .non .none
  | bl (b : Bool) : Dw H (.bl b) (.bool b)
  | int (i : Int) : Dw H (.int i) (.int i)
  | str (x : Str) : Dw H (.str x) (.str x)
  | lst {a : Addr} {xs : List V} {ds : List PyData} : H a = some (.lst xs) → DwAll H xs ds → Dw H (.ref a) (.list ds)
  | tup {a : Addr} {xs : List V} {ds : List PyData} : H a = some (.tup xs) → DwAll H xs ds → Dw H (.ref a) (.tuple ds)
  | dct {a : Addr} {kvs : List (Key × V)} {ds : List PyData} : H a = some (.dK kvs) → DwAll H (kvs.map (·.2)) ds →
      Dw H (.ref a) (.dict ((kvs.map fun p => kD p.1).zip ds))
inductive DwAll (H : Hp) : List V → List PyData → Prop
  | nil : DwAll H [] []
  | cons {v : V} {vs : List V} {d : PyData} {ds : List PyData} : Dw H v d → DwAll H vs ds → DwAll H (v :: vs) (d :: ds)
end
end L2
set_option maxHeartbeats 8000000
namespace L2
open PySem PySem.Spec PyProof.Rows

theorem keys_read {P : Program} {w : World} {h : Heap} : ∀ {es : List DictEntry} {kvs : List (Key × V)} {vs : List (Key × Value)},
    KV kvs vs → Pairs (mixKind P w) es vs → ReadsAll h (es.map (·.key)) (kvs.map fun p => kD p.1) []
  | _, _, _, .nil, .nil => .nil
  | _, p :: _, _ :: _, .cons r t, .cons hk _ hp => by
    have ih := keys_read (h := h) t hp
    have hk' := keyIs_shape (show keyIs _ _ = true from hk)
    have e1 := r.1
    refine ReadsAll.cons (as := []) (bs := []) ?_ ih
    rcases hk' with ⟨i, tk, e, e2⟩ | ⟨x, tk, e, e2⟩
    · show Reads h _ (kD p.1) []
      rw [e1, e]
      dsimp only
      rw [e2]
      exact Reads.int i tk
    · show Reads h _ (kD p.1) []
      rw [e1, e]
      dsimp only
      rw [e2]
      exact Reads.str x tk
theorem vals_of_kv {P : Program} {w : World} : ∀ {es : List DictEntry} {kvs : List (Key × V)} {vs : List (Key × Value)},
    KV kvs vs → Pairs (mixKind P w) es vs → Vals (kvs.map (·.2)) (es.map (·.val))
  | _, _, _, .nil, .nil => .nil
  | _, p :: _, q :: _, .cons r t, .cons _ hv hp => by
    have z := r.2
    rw [← hv] at z
    exact Paired.cons z (vals_of_kv t hp)
theorem zip_fs {α β : Type} : ∀ {as : List α} {bs : List β}, as.length = bs.length → (as.zip bs).map (·.1) = as := fun h => by
  rw [List.map_fst_zip]
  exact Nat.le_of_eq h
theorem zip_sd {α β : Type} : ∀ {as : List α} {bs : List β}, as.length = bs.length → (as.zip bs).map (·.2) = bs := fun h => by
  rw [List.map_snd_zip]
  exact Nat.le_of_eq h.symm
theorem DwAll.length {H : Hp} : ∀ {vs : List V} {ds : List PyData}, DwAll H vs ds → vs.length = ds.length
  | _, _, .nil => rfl
  | _ :: _, _ :: _, .cons _ t => congrArg (· + 1) (DwAll.length t)

section
variable {P : Program} {w : World} {H : Hp} {h : Heap}
mutual
theorem Dw.reads (ok : HOk P w H h) : ∀ {v : V} {d : PyData}, Dw H v d → ∀ {u : Value}, RelV v u →
    ∃ as, Reads h u d as ∧ ∀ a ∈ as, (H a).isSome = true
  | _, _, .non, _, r => by
    cases (show _ = Value.none from r)
    exact ⟨_, Reads.none, fun a z => absurd z (by simp)⟩
  | _, _, .bl b, _, r => by
    cases (show _ = Value.bool b from r)
    exact ⟨_, Reads.bool b, fun a z => absurd z (by simp)⟩
  | _, _, .int i, _, r => by
    obtain ⟨t, rfl⟩ := (show ∃ t, _ = Value.int i t from r)
    exact ⟨_, Reads.int i t, fun a z => absurd z (by simp)⟩
  | _, _, .str x, _, r => by
    obtain ⟨t, rfl⟩ := (show ∃ t, _ = Value.str x t from r)
    exact ⟨_, Reads.str x t, fun a z => absurd z (by simp)⟩
  | _, _, .lst (a := a) e hd, _, r => by
    cases (show _ = Value.ref a from r)
    obtain ⟨_, its, n, rv, ho⟩ := (show ObjOk P w H h a (.lst _) from ok a _ e)
    obtain ⟨as, q1, q2⟩ := DwAll.reads ok hd rv
    refine ⟨_, Reads.list ho rfl rfl q1, fun b z => ?_⟩
    rcases List.mem_cons.mp z with rfl | z
    · rw [e]
      rfl
    · exact q2 b z
  | _, _, .tup (a := a) e hd, _, r => by
    cases (show _ = Value.ref a from r)
    obtain ⟨_, its, rv, o, ho, hc, n, hdt⟩ := (show ObjOk P w H h a (.tup _) from ok a _ e)
    obtain ⟨as, q1, q2⟩ := DwAll.reads ok hd rv
    exact ⟨_, Reads.tuple ho hc hdt q1, q2⟩
  | _, _, .dct (a := a) e hd, _, r => by
    cases (show _ = Value.ref a from r)
    obtain ⟨_, _, vs, kv, o, es, ep, ho, hex, hdt, _, hp, _⟩ := (show ObjOk P w H h a (.dK _) from ok a _ e)
    obtain ⟨as, q1, q2⟩ := DwAll.reads ok hd (vals_of_kv kv hp)
    have hl := hd.length
    rw [List.length_map] at hl
    have k1 := keys_read (h := h) kv hp
    refine ⟨_, Reads.dict (as := []) (bs := as) ho hex.1 hdt ?_ ?_, fun b z => ?_⟩
    · rw [zip_fs (by rw [List.length_map]; exact hl)]
      exact k1
    · rw [zip_sd (by rw [List.length_map]; exact hl)]
      exact q1
    · rcases List.mem_cons.mp z with rfl | z
      · rw [e]
        rfl
      · exact q2 b z
theorem DwAll.reads (ok : HOk P w H h) : ∀ {vs : List V} {ds : List PyData}, DwAll H vs ds → ∀ {us : List Value}, Vals vs us →
    ∃ as, ReadsAll h us ds as ∧ ∀ a ∈ as, (H a).isSome = true
  | _, _, .nil, _, .nil => ⟨_, ReadsAll.nil, fun a z => absurd z (by simp)⟩
  | _, _, .cons hd ht, _, .cons r t => by
    obtain ⟨as, q1, q2⟩ := Dw.reads ok hd r
    obtain ⟨bs, q3, q4⟩ := DwAll.reads ok ht t
    refine ⟨_, ReadsAll.cons q1 q3, fun a z => ?_⟩
    rcases List.mem_append.mp z with z | z
    · exact q2 a z
    · exact q4 a z
end
end

mutual
theorem Dw.same {H H' : Hp} (S : Same H H') : ∀ {v : V} {d : PyData}, Dw H v d → Dw H' v d
  | _, _, .non => .non
  | _, _, .bl b => .bl b
  | _, _, .int i => .int i
  | _, _, .str x => .str x
  | _, _, .lst e hd => .lst (S _ _ e) (DwAll.same S hd)
  | _, _, .tup e hd => .tup (S _ _ e) (DwAll.same S hd)
  | _, _, .dct e hd => .dct (S _ _ e) (DwAll.same S hd)
theorem DwAll.same {H H' : Hp} (S : Same H H') : ∀ {vs : List V} {ds : List PyData}, DwAll H vs ds → DwAll H' vs ds
  | _, _, .nil => .nil
  | _, _, .cons hd ht => .cons (Dw.same S hd) (DwAll.same S ht)
end

/-- repr(x), x a list, tuple or dict of data -/
def rRepr : List V → Hp → VK → Prop := fun xs H Q => ∃ (a : Addr) (d : PyData), xs = [.ref a] ∧ Dw H (.ref a) d ∧
  d.showable = true ∧ d.depth ≤ 60 ∧ d.shown.length ≤ sizeLine ∧ Q (.str d.shown) H
theorem call_reprD {X : Cx} (hgu : X.A.guards = some []) (hu : X.A.units + 64 < cLine)
    (hsys : (X.K.lookup sysModules).isSome = true) : CallR X (.builtin "repr") rRepr := by
  intro pins s σ H xs us Q I r h
  obtain ⟨a, d, rfl, hd, h1, h2, h3, q⟩ := h
  obtain ⟨u, rfl, ru⟩ := vals1 r
  have ru' : u = Value.ref a := ru
  subst ru'
  obtain ⟨as, hr, hm⟩ := Dw.reads I.hok hd ru
  have hno : sysModules ∉ as := fun z => by
    have e := hm _ z
    obtain ⟨o, ho⟩ := Option.isSome_iff_exists.mp hsys
    rw [(I.bs _ _ (I.mod.kin _ _ ho)).2] at e
    cases e
  refine repr_of_reads' hr h1 (fun _ => hno) hgu (by omega) (fun b o e => e) (fun h' tk1 tk k => ?_) h3
  exact ⟨.str d.shown, H, I.kept k, ⟨_, rfl⟩, q⟩
end L2
set_option maxHeartbeats 8000000
/-! the law's own call, which is outside of any repr -/
namespace L2
open PySem PySem.Spec PyProof.Rows

theorem law_callG {P : Program} {w : World} {K : PySem.W.Frag} {mg mb : Str → Option Value} {k : Nat} {fa a : Addr}
    {fd : FuncData} {x : Str} {sp : Sp} {s1 : Shared} {vs : List Value} {ns : List Int}
    (KX : K.In s1.heap) (hns : s1.heap.Ns mainGlobals mg) (hb : s1.heap.Ns builtinsNs mb)
    (hbb : ∀ x : Str, x ≠ "__name__" → mb x = bootBuiltins x) (hlim : s1.heap.NoLimit) (hg : s1.gens = #[])
    (ha : s1.heap.get? a = some { cls := .type "list", data := .seq vs.toArray }) (hi : IntsAre vs ns)
    (hl : ns.length ≤ sizeLine) (hr : Room k callerA)
    (F : ∀ base : Heap, K.In base → base.Ns mainGlobals mg → FnG P w K mg base k fa fd [x] sp)
    (hbind : ∀ (s : Shared) (u : Value), BindsTo s fd ⟨[u], []⟩ [(x, u)])
    (hsp : ∀ H : Hp, Only H → SqL K H a (ns.map V.int) → sp [.ref a] H (fun v _ => v = .bl true) E0) :
    codeAny (model P w) callerA (.call (.ref fa) ⟨[.ref a], []⟩)
      (fun r s' => r = .ok (.ret (.bool true)) ∧ OldK s1.heap s'.heap ∧ s'.os = s1.os ∧ AllBare s'.gens) s1 := by
  have rv := vals_ints hi
  have lenV := hi.length
  have core : ∀ H : Hp, Only H → SqL K H a (ns.map V.int) → HOk P w H s1.heap →
      (∀ b, H b ≠ none → b = a) → (H a ≠ none → K.lookup a = none) →
      codeAny (model P w) callerA (.call (.ref fa) ⟨[.ref a], []⟩)
        (fun r s' => r = .ok (.ret (.bool true)) ∧ OldK s1.heap s'.heap ∧ s'.os = s1.os ∧ AllBare s'.gens) s1 := by
    intro H hO hS hok hA hK
    have nowhere : ∀ b, b ≠ a → H b = none := fun b ne => by
      cases q : H b with
      | none => rfl
      | some u => exact absurd (hA b (by rw [q]; simp)) ne
    have baseOf : ∀ {b : Addr} {o : Obj}, s1.heap.get? b = some o → H b = none →
        (hidT s1.heap H).get? b = some o := fun e n => hidT_get e n
    have noA : ∀ {b : Addr} {o : Obj} {es : Array DictEntry} {ep : Nat}, s1.heap.get? b = some o →
        o.data = .dict es ep → H b = none := fun {b o es ep} e d => by
      refine nowhere b fun z => ?_
      rw [z, ha] at e
      cases e
      exact nomatch (show Data.seq vs.toArray _ = Data.dict es ep from d)
    have nsK : ∀ {b : Addr} {m : Str → Option Value}, s1.heap.Ns b m → (hidT s1.heap H).Ns b m :=
      fun {b m} ⟨o, es, ep, e, d, r⟩ => ⟨o, es, ep, baseOf e (noA e d), d, r⟩
    have hKb : K.In (hidT s1.heap H) := fun b o e => baseOf (KX b o e) (by
      cases q : H b with
      | none => rfl
      | some u =>
        have e' : b = a := hA b (by rw [q]; simp)
        have n1 := hK (by rw [← e', q]; simp)
        rw [← e', e] at n1
        cases n1)
    have hM : Mod K mg (hidT s1.heap H) := by
      obtain ⟨mc, h1, h2⟩ := hlim
      exact ⟨hKb, nsK hns, ⟨mb, nsK hb, hbb⟩, ⟨mc, nsK h1, h2⟩⟩
    have e0 : Env0 P w K mg (hidT s1.heap H) callerA [] s1 H :=
      ⟨rfl, hM, fun b o e => of_hidT e, Nat.le_of_eq (hidT_size _ _), trivial,
        fun b hb => absurd (show b ∈ ([] : List Addr) from hb) (by simp), hok, .of_eq hg⟩
    have run := (F _ hKb (nsK hns)).run callerA [] s1 H ⟨[.ref a], []⟩ [.ref a] [.ref a] _ rfl hr e0
      (hbind s1 (.ref a)) (.cons rfl .nil) (hsp H hO hS)
    refine codeAny_mono run fun r s' h => ?_
    cases r with
    | error e => exact False.elim h
    | ok fl =>
      cases fl with
      | next => exact False.elim h
      | brk => exact False.elim h
      | cont => exact False.elim h
      | ret u =>
        obtain ⟨v, H', os, bare, un, hok', r', q⟩ := h
        have q' : v = .bl true := q
        subst q'
        have eu : u = Value.bool true := r'
        subst eu
        refine ⟨rfl, OldK.of_keep fun b o e => ?_, os, bare⟩
        cases q : H b with
        | none => exact un.keep b o e q (fun z => absurd (show b ∈ ([] : List Addr) from z) (by simp)) (by simp)
        | some u =>
          rcases hO b with z | ⟨ob, xs, z⟩
          · rw [q] at z
            cases z
          · obtain ⟨e1, _⟩ := hok b _ z
            obtain ⟨e2, _⟩ := hok' b _ (un.frzs b ob _ z)
            rw [e] at e1
            rw [Option.some.inj e1]
            exact e2
  cases hk : K.lookup a with
  | some o =>
    have e := KX a o hk
    rw [ha] at e
    cases e
    refine core (fun _ => none) (fun _ => .inl rfl) (.inr ⟨_, vs.toArray, _, hk, rfl, rfl, rfl, ?_, ?_⟩)
      (fun b u z => nomatch (show (none : Option HO) = some u from z)) (fun b z => absurd rfl z) fun z => absurd rfl z
    · rw [List.size_toArray, lenV]
      exact hl
    · simpa using rv
  | none =>
    let Hs : Hp := fun b => if b = a then
      some (.frz { cls := .type "list", data := .seq vs.toArray } (.lst (ns.map V.int))) else none
    have Hs1 : Hs a = some (.frz { cls := .type "list", data := .seq vs.toArray } (.lst (ns.map V.int))) := if_pos rfl
    have Hs2 : ∀ {b}, b ≠ a → Hs b = none := fun ne => if_neg ne
    refine core Hs (fun b => ?_) (.inl (.inr ⟨_, Hs1⟩)) (fun b u z => ?_) (fun b z => ?_) fun _ => hk
    · by_cases hb : b = a
      · subst hb
        exact .inr ⟨_, _, Hs1⟩
      · exact .inl (Hs2 hb)
    · by_cases hb : b = a
      · subst hb
        rw [Hs1] at z
        cases z
        refine ⟨ha, ?_, vs, _, rv, ha⟩
        rw [List.length_map]
        exact hl
      · rw [Hs2 hb] at z
        cases z
    · by_cases hb : b = a
      · exact hb
      · exact absurd (Hs2 hb) z

theorem walk_ofG {l : PySem.W.OpenLaw} {n k : Nat} {q : Program} {loose : List Str}
    {XP : (Str → Option Value) → Heap → Prop} {YP : World → Heap → Prop} {d : DefRec} {K : Params → PySem.W.Frag}
    {sp : World → Sp} {x : Str} (hn : l.most = some n) (hn2 : n ≤ sizeLine) (hdf : d.params.defaults = [])
    (hr : Room k callerA) (hY : ∀ (w : World) (h : Heap), YP w h → (K w.params).In h)
    (F : ∀ (w : World) (mg : Str → Option Value) (fa : Addr) (h : Heap), (K w.params).In h → h.Ns mainGlobals mg →
      mg d.name = some (.ref fa) → ∃ fd : FuncData, (∀ (s : Shared) (u : Value), BindsTo s fd ⟨[u], []⟩ [(x, u)]) ∧
        ∀ base : Heap, (K w.params).In base → base.Ns mainGlobals mg → FnG l.prog w (K w.params) mg base k fa fd [x] (sp w))
    (hsp : ∀ (w : World) (H : Hp) (a : Addr) (ns : List Int), ns.length ≤ n → Only H →
      SqL (K w.params) H a (ns.map V.int) → sp w [.ref a] H (fun v _ => v = .bl true) E0) :
    PySem.W.WalkO q loose XP YP l.row.toRowW d [] (fun f vs => PySem.call f vs) := by
  refine Att.attach_call hn hdf fun w s0 s1 mg mb fa o pm cd doc a vs ns G Y ho hd hcd hmg hobj hints hlen hg => ?_
  have KX := hY w _ Y
  obtain ⟨fd, hb, hF⟩ := F w mg fa _ KX G.T.g hmg
  exact law_callG KX G.T.g G.T.b G.T.builtins G.T.nolimit hg hobj hints (Nat.le_trans hlen hn2) hr hF hb
    fun H hO hS => hsp w H a ns hlen hO hS
end L2
set_option maxHeartbeats 8000000
namespace K12
open PySem PySem.Spec PyProof.Rows L2

def top (i : Nat) : Stmt := PySem.Challenge.pw_anyshape_k12_sizes_at_numbers_and_points.main.body.getD i (.Pass ⟨0, 0, 0, 0⟩)
abbrev sRng : Stmt := top 50
abbrev sDraw : Stmt := top 51
abbrev sChoice : Stmt := top 52
abbrev sThing : Stmt := top 53
abbrev sPlaced : Stmt := top 54
abbrev sNamed : Stmt := top 52
abbrev sFields : Stmt := top 53
abbrev sTruths : Stmt := top 54
abbrev sMade : Stmt := top 55
abbrev sRight : Stmt := top 56
abbrev sLaw : Stmt := top 57

/-- the built-in names that are still built-in -/
structure Nb (mg : Str → Option Value) : Prop where
  len : mg "len" = none
  max : mg "max" = none
  min : mg "min" = none
  abs : mg "abs" = none
  int : mg "int" = none
  divmod : mg "divmod" = none
  repr : mg "repr" = none
  isi : mg "isinstance" = none
  range : mg "range" = none
  enum : mg "enumerate" = none
  all : mg "all" = none

/-! ### the promises -/
/-- _law_rng(script, k): a new list of two numbers -/
def spRng (K : PySem.W.Frag) : Sp := fun vs H Q _ => ∃ (a : Addr) (ns : List Int) (k : Int), vs = [.ref a, .int k] ∧
  SqL K H a (ns.map V.int) ∧ 0 ≤ k ∧ k ≤ 100 ∧ ns.length ≤ 1000 ∧
  ∀ (p : Addr) (x y : Int), H p = none → 0 ≤ x → 0 ≤ y → y < 4294967296 → Q (.ref p) (upd H p (.lst [.int x, .int y]))
/-- the numbers at r -/
def Rg (H : Hp) (r : Addr) : Prop := ∃ x y : Int, H r = some (.lst [.int x, .int y]) ∧ 0 ≤ x ∧ 0 ≤ y ∧ y < 4294967296
/-- all but what stands at r is kept -/
def But (r : Addr) (H H' : Hp) : Prop := ∀ b o, b ≠ r → H b = some o → H' b = some o
theorem But.trans {r : Addr} {H H1 H2 : Hp} (a : But r H H1) (b : But r H1 H2) : But r H H2 :=
  fun c o ne e => b c o ne (a c o ne e)
/-- _law_draw(rng, many) -/
def spDraw : Sp := fun vs H Q _ => ∃ (r : Addr) (m : Int), vs = [.ref r, .int m] ∧ Rg H r ∧ 0 < m ∧ m ≤ 1000000 ∧
  ∀ (H' : Hp) (d : Int), 0 ≤ d → d < m → Rg H' r → But r H H' → Q (.int d) H'
/-- _law_choice(rng, some), some a list -/
def spChoice : Sp := fun vs H Q _ => ∃ (r l : Addr) (xs : List V), vs = [.ref r, .ref l] ∧ Rg H r ∧ l ≠ r ∧
  H l = some (.lst xs) ∧ 0 < xs.length ∧ xs.length < 1000000 ∧
  ∀ (H' : Hp) (v : V), v ∈ xs → Rg H' r → But r H H' → Q v H'

section
variable {P : Program} {w : World} {K : PySem.W.Frag} {mg : Str → Option Value} {base : Heap}

theorem scRng : FnScope ["_law_script", "_law_k", "_law_cell"] ["_law_script", "_law_k"] (defScope sRng) :=
  ⟨rfl, rfl, rfl, by decide +kernel, rfl, by decide +kernel, by decide +kernel⟩

theorem rng_end {c k : Int} (hk : 0 ≤ k) (hk2 : k ≤ 100) :
    (0 ≤ (if (if c < 0 then -c else c) - 10 ^ 18 > 0 then (if c < 0 then -c else c) - 10 ^ 18 else (0 : Int))) ∧
    (∀ z : Int, 0 ≤ z → 0 ≤ z * (2 * k + 7) ^ 3 % 2147483489 + 1) ∧
    (∀ z : Int, z * (2 * k + 7) ^ 3 % 2147483489 + 1 < 4294967296) := by
  refine ⟨?_, fun z hz => ?_, fun z => ?_⟩
  · split <;> omega
  · have := Int.emod_nonneg (z * (2 * k + 7) ^ 3) (show (2147483489 : Int) ≠ 0 by decide)
    omega
  · have := Int.emod_lt_of_pos (z * (2 * k + 7) ^ 3) (show (0 : Int) < 2147483489 by decide)
    omega

theorem ok_rng {f : Addr} {fd : FuncData} (F : Fun K "_law_rng" "_law_rng" sRng f fd) (T : Nb mg) :
    FnOk P w K mg base CX0 1 f fd ["_law_script", "_law_k"] (spRng K) := by
  refine F.ok scRng (fun vs H Q E h => ?_) (fun cdv A outer s H vs Q E hr h => ?_)
  · obtain ⟨a, ns, k, rfl, _⟩ := h
    rfl
  · obtain ⟨a, ns, k, rfl, hS, hk, hk2, hn, q⟩ := h
    refine ⟨_, pss_cons (ps_set (i := 2) scRng.nd rfl (.inl rfl) (pe_op op_add (pe_op op_mul pe_int (pv 1)) pe_int))
      (pss_cons (ps_if (pt_cmpR op_lt (pv 1) (pe_callB call_len_seq (by rfl) T.len PySem.boot_len (pa_cons (pv 0) pa_nil)) (nomark _))
        (pss_one (ps_set (i := 2) scRng.nd rfl (.inl rfl) (pe_ix ix_list (pv 0) (pv 1) (fun _ _ => rfl)))) pss_nil)
      (pss_one (ps_ret (pe_lst (pa_cons
        (pe_callB (call_max2 rfl) (by rfl) T.max (by decide +kernel) (pa_cons pe_int (pa_cons
          (pe_op op_sub (pe_callB call_abs (by rfl) T.abs (by decide +kernel) (pa_cons (pv 2) pa_nil)) (pe_op op_pow pe_int pe_int)) pa_nil)))
        (pa_cons (pe_op op_add (pe_op op_mod (pe_op op_mul
          (pe_callTy call_int1 (by rfl) T.int (by decide +kernel) (pa_cons
            (pe_op op_add (pe_op op_mod (pe_callTy call_int1 (by rfl) T.int (by decide +kernel) (pa_cons
              (pe_callB call_abs (by rfl) T.abs (by decide +kernel) (pa_cons (pv 2) pa_nil)) pa_nil)) pe_int) pe_int) pa_nil))
          (pe_op op_pow (pe_op op_add (pe_op op_mul pe_int (pv 1)) pe_int) pe_int)) pe_int) pe_int) pa_nil)))))), ?_⟩
    have fin : ∀ c : Int, ∀ p : Addr, H p = none → Q (.ref p) (upd H p (.lst [
        .int (if (if c < 0 then -c else c) - 10 ^ 18 > 0 then (if c < 0 then -c else c) - 10 ^ 18 else 0),
        .int (((if c < 0 then -c else c) % 2147483549 + 1) * (2 * k + 7) ^ 3 % 2147483489 + 1)])) := fun c p hp => by
      obtain ⟨h1, h2, h3⟩ := rng_end (c := c) hk hk2
      refine q p _ _ hp h1 (h2 _ ?_) (h3 _)
      have := Int.emod_nonneg (if c < 0 then -c else c) (show (2147483549 : Int) ≠ 0 by decide)
      omega
    have ret : ∀ c : Int, ∀ σ : L2.St, σ = [some (.ref a), some (.int k), some (.int c)] →
        tRet (tLst (tCons
            (tCB (fun xs H Q => ∃ i j, xs = [V.int i, V.int j] ∧ Q (V.int (if j > i then j else i)) H)
              (tCons (tC (V.int 0)) (tCons (tOp (rI0 fun i j => V.int (i - j))
                (tCB (fun xs H Q => ∃ i, xs = [V.int i] ∧ Q (V.int (if i < 0 then -i else i)) H) (tCons (tVar 2) tNil))
                (tOp (rI CPow fun i j => V.int (i ^ j.toNat)) (tC (V.int 10)) (tC (V.int 18)))) tNil)))
            (tCons (tOp (rI0 fun i j => V.int (i + j)) (tOp (rI (fun x j => 0 < j) fun i j => V.int (i % j))
              (tOp (rI CMul fun i j => V.int (i * j))
                (tCB (fun xs H Q => (∃ i, xs = [V.int i] ∧ Q (V.int i) H) ∨ ∃ k, xs = [V.bl k] ∧ Q (V.int (if k = true then 1 else 0)) H)
                  (tCons (tOp (rI0 fun i j => V.int (i + j)) (tOp (rI (fun x j => 0 < j) fun i j => V.int (i % j))
                    (tCB (fun xs H Q => (∃ i, xs = [V.int i] ∧ Q (V.int i) H) ∨ ∃ k, xs = [V.bl k] ∧ Q (V.int (if k = true then 1 else 0)) H)
                      (tCons (tCB (fun xs H Q => ∃ i, xs = [V.int i] ∧ Q (V.int (if i < 0 then -i else i)) H) (tCons (tVar 2) tNil)) tNil))
                    (tC (V.int 2147483549))) (tC (V.int 1))) tNil))
                (tOp (rI CPow fun i j => V.int (i ^ j.toNat)) (tOp (rI0 fun i j => V.int (i + j))
                  (tOp (rI CMul fun i j => V.int (i * j)) (tC (V.int 2)) (tVar 1)) (tC (V.int 7))) (tC (V.int 3))))
              (tC (V.int 2147483489))) (tC (V.int 1))) tNil)))
          { nx := fun x H' => Q V.non H', rt := Q } σ H := by
      intro c σ hσ
      subst hσ
      have b1 := Int.emod_nonneg (if c < 0 then -c else c) (show (2147483549 : Int) ≠ 0 by decide)
      have b2 := Int.emod_lt_of_pos (if c < 0 then -c else c) (show (0 : Int) < 2147483549 by decide)
      refine ⟨_, rfl, _, rfl, _, _, rfl, rfl, ⟨by decide, by decide, by decide⟩, _, _, rfl, rfl, _, _, rfl, ?_⟩
      refine ⟨_, rfl, _, rfl, .inl ⟨_, rfl, ?_⟩⟩
      refine ⟨_, _, rfl, rfl, (by show (0 : Int) < 2147483549; decide), _, _, rfl, rfl, .inl ⟨_, rfl, ?_⟩⟩
      refine ⟨_, rfl, _, _, rfl, rfl, .inl ⟨by decide, by decide⟩, _, _, rfl, rfl, _, _, rfl, rfl, ⟨by decide, by decide, by omega⟩, ?_⟩
      refine ⟨_, _, rfl, rfl, .inl ⟨by omega, by omega⟩, _, _, rfl, rfl, (by show (0 : Int) < 2147483489; decide), _, _, rfl, rfl, ?_⟩
      refine ⟨by show 2 ≤ sizeLine; rw [sizeLine_eq]; decide, fun p hp => ?_⟩
      exact fin c p hp
    refine ⟨_, rfl, _, _, rfl, rfl, .inl ⟨by decide, by decide⟩, _, _, rfl, rfl, ?_⟩
    refine ⟨_, rfl, _, rfl, a, _, rfl, .inl hS, _, _, rfl, rfl, _, rfl, ?_⟩
    refine ite2 (fun hlt => ?_) fun _ => ?_
    · have hlt' := of_decide_eq_true hlt
      rw [List.length_map] at hlt'
      obtain ⟨j, rfl⟩ : ∃ j : Nat, k = (j : Int) := ⟨k.toNat, by omega⟩
      have hj : j < ns.length := by omega
      refine ⟨_, rfl, _, rfl, a, _, _, .int ns[j], rfl, rfl, hS, atI_nat ?_, ?_⟩
      · rw [List.getElem?_map, List.getElem?_eq_getElem hj]
        rfl
      · exact ret ns[j] _ rfl
    · exact ret (17 * k + 5) _ rfl
end
end K12
set_option maxHeartbeats 8000000
namespace K12
open PySem PySem.Spec PyProof.Rows L2
section
variable {P : Program} {w : World} {K : PySem.W.Frag} {mg : Str → Option Value} {base : Heap}

theorem scDraw : FnScope ["_law_rng_here", "_law_many", "_law_digit"] ["_law_rng_here", "_law_many"] (defScope sDraw) :=
  ⟨rfl, rfl, rfl, by decide +kernel, rfl, by decide +kernel, by decide +kernel⟩
theorem two_size : ([V.int 0, V.int 0] : List V).length ≤ sizeLine := by
  show 2 ≤ sizeLine
  rw [sizeLine_eq]
  decide
theorem at0 (x y : Int) : atI [V.int x, V.int y] 0 = some (.int x) := rfl
theorem at1 (x y : Int) : atI [V.int x, V.int y] 1 = some (.int y) := rfl

theorem ok_draw {f : Addr} {fd : FuncData} (F : Fun K "_law_draw" "_law_draw" sDraw f fd) (T : Nb mg) :
    FnOk P w K mg base CX0 1 f fd ["_law_rng_here", "_law_many"] spDraw := by
  refine F.ok scDraw (fun vs H Q E h => ?_) (fun cdv A outer s H vs Q E hr h => ?_)
  · obtain ⟨r, m, rfl, _⟩ := h
    rfl
  · obtain ⟨r, m, rfl, ⟨x, y, hR, hx, hy, hy2⟩, hm, hm2, q⟩ := h
    refine ⟨_, pss_cons (ps_if (pt_cmpR op_gt (pe_ix ix_list (pv 0) pe_int (fun _ _ => rfl)) pe_int (nomark _))
        (pss_cons (ps_asg (pe_callB call_divmod (by rfl) T.divmod (by decide +kernel)
            (pa_cons (pe_ix ix_list (pv 0) pe_int (fun _ _ => rfl)) (pa_cons (pv 1) pa_nil)))
          (pg_tup rfl (pgs_cons (pg_sub (pv 0) pe_int set_list) (pgs_cons (pg_name (i := 2) scDraw.nd rfl (Or.inl rfl)) pgs_nil))))
        (pss_one (ps_ret (pv 2)))) pss_nil)
      (pss_cons (ps_asg (pe_op op_mod (pe_callTy call_int1 (by rfl) T.int (by decide +kernel) (pa_cons
          (pe_op op_add (pe_op op_mul (pe_ix ix_list (pv 0) pe_int (fun _ _ => rfl)) pe_int) pe_int) pa_nil)) pe_int)
          (pg_sub (pv 0) pe_int set_list))
      (pss_one (ps_ret (pe_op op_mod (pe_op op_fdiv (pe_op op_mod (pe_callTy call_int1 (by rfl) T.int (by decide +kernel)
        (pa_cons (pe_op op_mul (pe_ix ix_list (pv 0) pe_int (fun _ _ => rfl)) (pe_ix ix_list (pv 0) pe_int (fun _ _ => rfl))) pa_nil))
        pe_int) pe_int) (pv 1))))), ?_⟩
    refine ⟨_, rfl, r, _, _, _, rfl, rfl, SqL.of hR, at0 x y, _, _, rfl, rfl, _, rfl, ?_⟩
    refine ite2 (fun hgt => ?_) fun _ => ?_
    · refine ⟨_, rfl, r, _, _, _, rfl, rfl, SqL.of hR, at0 x y, _, rfl, _, _, rfl, ⟨hm, by omega⟩, fun p hp => ?_⟩
      have npr : p ≠ r := Ne.symm (ne_of_none hR hp)
      have hR1 : upd H p (.tup [.int (x / m), .int (x % m)]) r = some (.lst [.int x, .int y]) := by
        rw [upd_ne npr.symm]
        exact hR
      refine ⟨p, _, rfl, SqT.of upd_same, rfl, ?_⟩
      refine ⟨_, _, rfl, ⟨_, rfl, r, _, _, _, rfl, rfl, hR1, rfl, ?_⟩⟩
      refine ⟨_, _, rfl, rfl, ?_⟩
      refine ⟨_, rfl, ?_⟩
      refine q _ _ (Int.emod_nonneg _ (by omega)) (Int.emod_lt_of_pos _ hm) ⟨x / m, y, upd_same, Int.ediv_nonneg hx (by omega), hy, hy2⟩ ?_
      intro b o ne e
      rw [upd_ne ne, upd_ne (ne_of_none e hp)]
      exact e
    · have c1 := Int.emod_nonneg (y * 40693 + 27017) (show (2147483563 : Int) ≠ 0 by decide)
      have c2 := Int.emod_lt_of_pos (y * 40693 + 27017) (show (0 : Int) < 2147483563 by decide)
      refine ⟨_, rfl, r, _, _, _, rfl, rfl, SqL.of hR, at1 x y, _, _, rfl, rfl, .inl ⟨by omega, by omega⟩, _, _, rfl, rfl, .inl ⟨_, rfl, ?_⟩⟩
      refine ⟨_, _, rfl, rfl, (by show (0 : Int) < 2147483563; decide), ?_⟩
      refine ⟨_, rfl, r, _, _, _, rfl, rfl, hR, rfl, ?_⟩
      refine ⟨_, rfl, r, _, _, _, rfl, rfl, SqL.of upd_same, at1 x _, _, rfl, r, _, _, _, rfl, rfl, SqL.of upd_same, at1 x _, ?_⟩
      refine ⟨_, _, rfl, rfl, .inl ⟨by omega, by omega⟩, .inl ⟨_, rfl, ?_⟩⟩
      refine ⟨_, _, rfl, rfl, (by show (0 : Int) < 2147483477; decide), _, _, rfl, rfl, ⟨by decide, by decide⟩, _, rfl, _, _, rfl, rfl, hm, ?_⟩
      refine q _ _ (Int.emod_nonneg _ (by omega)) (Int.emod_lt_of_pos _ hm) ⟨x, _, upd_same, hx, c1, by omega⟩ ?_
      intro b o ne e
      rw [upd_ne ne]
      exact e

/-! ### _law_choice -/
theorem scChoice : FnScope ["_law_rng_here", "_law_some"] ["_law_rng_here", "_law_some"] (defScope sChoice) :=
  ⟨rfl, rfl, rfl, by decide +kernel, rfl, by decide +kernel, by decide +kernel⟩
theorem ok_choice {f fD : Addr} {fd fdD : FuncData} (F : Fun K "_law_choice" "_law_choice" sChoice f fd) (T : Nb mg)
    (FD : Fun K "_law_draw" "_law_draw" sDraw fD fdD) (bD : Binds K fdD ["_law_rng_here", "_law_many"] [])
    (gD : mg "_law_draw" = some (.ref fD)) :
    FnOk P w K mg base CX0 2 f fd ["_law_rng_here", "_law_some"] spChoice := by
  have GD : FnOk P w K mg base CX0 1 fD fdD ["_law_rng_here", "_law_many"] spDraw := ok_draw FD T
  refine F.ok scChoice (fun vs H Q E h => ?_) (fun cdv A outer s H vs Q E hr h => ?_)
  · obtain ⟨r, l, xs, rfl, _⟩ := h
    rfl
  · obtain ⟨r, l, xs, rfl, hR, hne, hl, h0, h1, q⟩ := h
    refine ⟨_, pss_one (ps_ret (pe_ix ix_list (pv 1) (pe_call GD hr rfl gD FD.kp bD .nil pass0
      (pa_cons (pv 0) (pa_cons (pe_callB call_len_seq (by rfl) T.len PySem.boot_len (pa_cons (pv 1) pa_nil)) pa_nil)))
      (fun _ _ => rfl))), ?_⟩
    refine ⟨_, rfl, _, rfl, _, rfl, l, _, rfl, .inl (SqL.of hl), ?_⟩
    refine ⟨r, _, rfl, hR, by omega, by omega, fun H' d d0 d1 hR' hB => ?_⟩
    obtain ⟨j, rfl⟩ : ∃ j : Nat, d = (j : Int) := ⟨d.toNat, by omega⟩
    have hj : j < xs.length := by omega
    refine ⟨l, xs, _, xs[j], rfl, rfl, SqL.of (hB _ _ hne hl), atI_nat (List.getElem?_eq_getElem hj), ?_⟩
    exact q H' _ (List.getElem_mem hj) hR' hB
end
end K12
set_option maxHeartbeats 8000000
namespace K12
open PySem PySem.Spec PyProof.Rows L2

abbrev sIsInt : Stmt := top 16
abbrev sIsCount : Stmt := top 17
abbrev sIsName : Stmt := top 28

/-- a statement that is never come to -/
theorem ps_no {X : Cx} {st : Stmt} : PS X st (fun _ _ _ => False) := ⟨fun _ _ _ _ _ _ h => h.elim⟩

/-- the built-in names of the kinds -/
structure Nk (mg : Str → Option Value) : Prop where
  isi : mg "isinstance" = none
  int : mg "int" = none
  bool : mg "bool" = none
  str : mg "str" = none
  dict : mg "dict" = none
  len : mg "len" = none
  all : mg "all" = none

/-- is_integer(i) -/
def spIsInt : Sp := fun vs H Q _ => ∃ i : Int, vs = [.int i] ∧ Q (.bl true) H
def spIsCount : Sp := fun vs H Q _ => ∃ i : Int, vs = [.int i] ∧ Q (.bl (decide (0 ≤ i))) H
def abc : Str := "abcdefghijklmnopqrstuvwxyz"
/-- one to eight letters -/
def isNm (x : Str) : Bool := decide (1 ≤ x.length) && (decide (x.length ≤ 8) && x.cps.toList.all fun c => decide (c ∈ abc.cps.toList))
def spIsName (K : PySem.W.Frag) : Sp := fun vs H Q _ => (∃ x : Str, vs = [.str x] ∧ x.length ≤ 1000000 ∧ ∀ H', Same H H' → Q (.bl (isNm x)) H') ∨
  (∃ (v : V) (t : Value), vs = [v] ∧ TyX K H v t ∧ PySem.W.kitOne K t (.type "str") = some false ∧ Q (.bl false) H)

section
variable {P : Program} {w : World} {K : PySem.W.Frag} {mg : Str → Option Value} {base : Heap}
theorem scInt : FnScope ["value"] ["value"] (defScope sIsInt) :=
  ⟨rfl, rfl, rfl, by decide +kernel, rfl, by decide +kernel, by decide +kernel⟩
theorem ok_isint {f : Addr} {fd : FuncData} (F : Fun K "is_integer" "is_integer" sIsInt f fd) (T : Nk mg) :
    FnOk P w K mg base CX0 1 f fd ["value"] spIsInt := by
  refine F.ok scInt (fun vs H Q E h => ?_) (fun cdv A outer s H vs Q E hr h => ?_)
  · obtain ⟨i, rfl, _⟩ := h
    rfl
  · obtain ⟨i, rfl, q⟩ := h
    refine ⟨_, pss_one (ps_ret (pe_and (pe_callB call_isi (by rfl) T.isi (by decide +kernel) (pa_cons (pv 0) (pa_cons (pe_bltn (v := .ty "int") (u := .type "int") (by rfl) T.int (by decide +kernel) rfl) pa_nil)))
      (pe_one (pe_not (pe_callB call_isi (by rfl) T.isi (by decide +kernel) (pa_cons (pv 0) (pa_cons (pe_bltn (v := .ty "bool") (u := .type "bool") (by rfl) T.bool (by decide +kernel) rfl) pa_nil))))))), ?_⟩
    refine ⟨_, rfl, _, _, _, _, true, rfl, .ty _, .base (.int i), kit_ty (by decide +kernel), _, rfl, ?_⟩
    rw [if_pos rfl]
    refine ⟨_, rfl, _, _, _, _, false, rfl, .ty _, .base (.int i), kit_ty (by decide +kernel), _, rfl, ?_⟩
    exact q
theorem scCount : FnScope ["value"] ["value"] (defScope sIsCount) :=
  ⟨rfl, rfl, rfl, by decide +kernel, rfl, by decide +kernel, by decide +kernel⟩
theorem ok_iscount {f fI : Addr} {fd fdI : FuncData} (F : Fun K "is_count" "is_count" sIsCount f fd) (T : Nk mg)
    (GI : FnOk P w K mg base CX0 1 fI fdI ["value"] spIsInt) (kI : PySem.W.keepIn K (.ref fI) = true) (bI : Binds K fdI ["value"] []) (gI : mg "is_integer" = some (.ref fI)) :
    FnOk P w K mg base CX0 2 f fd ["value"] spIsCount := by
  refine F.ok scCount (fun vs H Q E h => ?_) (fun cdv A outer s H vs Q E hr h => ?_)
  · obtain ⟨i, rfl, _⟩ := h
    rfl
  · obtain ⟨i, rfl, q⟩ := h
    refine ⟨_, pss_one (ps_ret (pe_and (pe_call GI hr rfl gI kI bI .nil pass0 (pa_cons (pv 0) pa_nil)) (pe_one (pe_cmpR op_ge (pv 0) pe_int (nomark _))))), ?_⟩
    refine ⟨_, rfl, i, rfl, _, rfl, ?_⟩
    rw [if_pos rfl]
    exact ⟨_, rfl, _, _, rfl, rfl, q⟩
theorem iteT' {c : Bool} {A B : Prop} (hc : c = true) (h : A) : if c = true then A else B := by
  rw [if_pos hc]
  exact h
theorem iteN' {c : Prop} [Decidable c] {A B : Prop} (hc : ¬ c) (h : B) : if decide c = true then A else B := by
  rw [decide_eq_false hc]
  exact iteF h
theorem fresh_upd {H : Hp} {p : Addr} {o : HO} (n : H p = none) : Same H (upd H p o) := fun b u e => by
  rw [upd_ne (ne_of_none e n)]
  exact e
structure Nn2 (mg : Str → Option Value) : Prop where
  lng : ∃ t, mg "LONGEST_NAME" = some (.int 8 t)
  let_ : ∃ t, mg "LETTERS" = some (.str abc t)
def NIn : List Str := ["value", "letter"]
theorem scName : FnScope NIn ["value"] (defScope sIsName) :=
  ⟨rfl, rfl, rfl, by decide +kernel, rfl, by decide +kernel, by decide +kernel⟩
theorem ok_isname {f : Addr} {fd : FuncData} (F : Fun K "is_name" "is_name" sIsName f fd) (T : Nk mg) (T2 : Nn2 mg) :
    FnOk P w K mg base CX0 1 f fd ["value"] (spIsName K) := by
  obtain ⟨tl, gl⟩ := T2.lng
  obtain ⟨ta, ga⟩ := T2.let_
  refine F.ok scName (fun vs H Q E h => ?_) (fun cdv A outer s H vs Q E hr h => ?_)
  · rcases h with ⟨x, rfl, _⟩ | ⟨v, t, rfl, _⟩
    · rfl
    · rfl
  · refine ⟨_, pss_cons (ps_if (PW.pt (pw_or (pt_not (pt_val (pe_callB call_isi (by rfl) T.isi (by decide +kernel) (pa_cons (pv 0) (pa_cons (pe_bltn (v := .ty "str") (u := .type "str") (by rfl) T.str (by decide +kernel) rfl) pa_nil)))))
        (pw_or (pt_cmpR op_lt (pe_callB call_len_str (by rfl) T.len PySem.boot_len (pa_cons (pv 0) pa_nil)) pe_int (nomark _))
          (pw_or1 (pt_cmpR op_gt (pe_callB call_len_str (by rfl) T.len PySem.boot_len (pa_cons (pv 0) pa_nil)) (pe_glob (v := .int 8) (by rfl) gl ⟨tl, rfl⟩) (nomark _))))))
        (pss_one (ps_ret pe_bl)) pss_nil)
      (pss_one (ps_ret (pe_callB (cr_all rfl) (by rfl) T.all (by decide +kernel) (pa_cons
        (pe_lc (own := [("letter", 1)]) (g := gName 1) (tt := tYes) (te := tOp rInS (tVar 1) (tC (.str abc))) rfl scName.nd (pi_str (pv 0))
          (blkOk_by (own := [("letter", 1)]) (N := NIn) (sc := defScope sIsName) (by decide +kernel)) (fun _ _ _ _ _ => pg_name (i := 1) scName.nd rfl (Or.inl rfl))
          (fun _ _ _ _ _ => pts_nil) (fun _ _ _ _ _ => by exact pe_cmpR op_inS (pv 1) (pe_glob (v := .str abc) (by rfl) ga ⟨ta, rfl⟩) rfl)) pa_nil)))), ?_⟩
    rcases h with ⟨x, rfl, hx, q⟩ | ⟨v, t, rfl, ht, hk, q⟩
    · refine ⟨_, rfl, _, _, _, _, true, rfl, .ty _, .base (.str x), kit_ty (by decide +kernel), _, rfl, ?_⟩
      refine iteF ?_
      refine ⟨_, rfl, _, rfl, by rw [sizeLine_eq]; omega, _, _, rfl, rfl, _, rfl, ?_⟩
      refine ite2 (fun h1 => ?_) fun h1 => ?_
      · have h1' := of_decide_eq_true h1
        refine iteT' rfl ?_
        have e : isNm x = false := by
          unfold isNm
          rw [decide_eq_false (by omega)]
          rfl
        rw [← e]
        exact q H (Same.refl H)
      · refine ⟨_, rfl, _, rfl, by rw [sizeLine_eq]; omega, _, _, rfl, rfl, _, rfl, ?_⟩
        have h1' : ¬ ((x.length : Nat) : Int) < 1 := fun z => h1 (decide_eq_true z)
        by_cases h2 : (8 : Int) < ((x.length : Nat) : Int)
        · have e : isNm x = false := by
            unfold isNm
            rw [decide_eq_false (show ¬ x.length ≤ 8 by omega), Bool.false_and, Bool.and_false]
          refine iteT' (decide_eq_true h2) ?_
          rw [← e]
          exact q H (Same.refl H)
        · refine iteN' h2 ?_
          refine ⟨_, rfl, x, rfl, fun D hD => ?_⟩
          refine lc_it walk_str (fun i H2 => H2 D = some (.lst (((x.cps.toList.take i).map fun c => decide (c ∈ abc.cps.toList)).map V.bl)) ∧ Same H H2)
            ⟨upd_same, fresh_upd hD⟩ (fun _ _ _ _ => trivial) ?_ ?_
          · rintro i v H2 H3 hi ⟨hD2, S2⟩ ⟨rfl, c, hc, rfl⟩
            refine ⟨rfl, ?_⟩
            unfold tYes
            dsimp only
            rw [if_pos rfl]
            refine ⟨_, rfl, c, abc, rfl, rfl, _, hD2, ?_, ?_, fun b o e => ?_⟩
            · rw [List.length_map, List.length_map, List.length_take, sizeLine_eq]
              have hl : x.length = x.cps.size := rfl
              have hm := Nat.min_le_left i x.cps.toList.length
              omega
            · have hc2 : x.cps.toList[i]? = some c := by rw [Array.getElem?_toList]; exact hc
              rw [upd_same, List.take_add_one, hc2]
              simp
            · rw [upd_ne (ne_of_none e hD)]
              exact S2 b o e
          · rintro H2 ⟨hD2, S2⟩
            refine ⟨D, _, rfl, SqL.of hD2, ?_⟩
            have e : ((x.cps.toList.take x.cps.size).map fun c => decide (c ∈ abc.cps.toList)).all id = isNm x := by
              unfold isNm
              rw [decide_eq_true (show 1 ≤ x.length by omega), decide_eq_true (show x.length ≤ 8 by omega), Bool.true_and, Bool.true_and,
                show x.cps.size = x.cps.toList.length from (Array.length_toList ..).symm, List.take_length, List.all_map]
              rfl
            rw [e]
            exact q H2 S2
    · refine ⟨_, rfl, _, _, _, _, false, rfl, .ty _, ht, hk, _, rfl, ?_⟩
      refine iteT' rfl ?_
      exact q
end
end K12
set_option maxHeartbeats 8000000
namespace K12
open PySem PySem.Spec PyProof.Rows L2

/-! ### dicts from names to integers -/
abbrev Es : Type := List (Str × Int)
def ky (n : Str) : Key := Sum.inr n
def kv (es : Es) : List (Key × V) := es.map fun p => (ky p.1, V.int p.2)
theorem kv_len (es : Es) : (kv es).length = es.length := List.length_map ..
theorem ky_inj {a b : Str} (h : ky a = ky b) : a = b := Sum.inr.inj h
theorem val_kv (n : Str) : ∀ es : Es, valV (kv es) (ky n) = (es.lookup n).map V.int
  | [] => rfl
  | (m, i) :: r => by
    show valV ((ky m, V.int i) :: kv r) (ky n) = _
    by_cases h : m = n
    · subst h
      rw [valV_pos rfl, List.lookup_cons_self]
      rfl
    · rw [valV_neg (show ¬ ky m = ky n from fun z => h (ky_inj z)), val_kv n r]
      have e : (n == m) = false := by simpa using fun z => h z.symm
      rw [List.lookup_cons, e]
theorem val_none {n : Str} {es : Es} (h : n ∉ es.map (·.1)) : valV (kv es) (ky n) = none := by
  rw [val_kv]
  have e : es.lookup n = none := by
    induction es with
    | nil => rfl
    | cons p r ih =>
      rw [List.map_cons, List.mem_cons, not_or] at h
      have e : (n == p.1) = false := by simpa using h.1
      rw [List.lookup_cons, e]
      exact ih h.2
  rw [e]
  rfl

/-- a dict comprehension over any walk -/
theorem dc_it {J : It} {n : Nat} {G : Hp → Prop} {Y : Nat → Hp → V → Hp → Prop} (w : Walk J n G Y) {g : TG} {tt : TT} {tk tv : TE} {vs : List Nat} {σ : L2.St} {H1 : Hp} {D : Addr} {Qd : Hp → Prop}
    (Pv : Nat → Hp → Prop) (h0 : Pv 0 (upd H1 D (.dK []))) (hG : ∀ i H, i ≤ n → Pv i H → G H)
    (hs : ∀ i x H H', i < n → Pv i H → Y i H x H' → g x (wipe σ vs) H' fun σ2 H2 => wipe σ2 vs = wipe σ vs ∧ tt σ2 H2 fun b H3 =>
      if b = true then tk σ2 H3 fun y H4 => tv σ2 H4 fun z H5 => ∃ kvs k, y = kV k ∧ H5 D = some (.dK kvs) ∧ kvs.length < sizeLine ∧ Pv (i + 1) (upd H5 D (.dK (putK kvs k z))) else Pv (i + 1) H3)
    (hd : ∀ H, Pv n H → Qd H) :
    ∃ W : Nat → Nat → Hp → Prop, (∃ m, W 0 m (upd H1 D (.dK []))) ∧ ∀ i m H, W i m H →
      (J.stop i H ∧ Qd H) ∨ (J.go i H ∧ ∃ Nx : Hp → Prop, (∀ H', Nx H' → ∃ m', m' < m ∧ W (i + 1) m' H') ∧ ∀ x H', J.yld i H x H' → g x (wipe σ vs) H' fun σ2 H2 => wipe σ2 vs = wipe σ vs ∧ tt σ2 H2 fun b H3 =>
        if b = true then tk σ2 H3 fun y H4 => tv σ2 H4 fun z H5 => ∃ kvs k, y = kV k ∧ H5 D = some (.dK kvs) ∧ kvs.length < sizeLine ∧ Nx (upd H5 D (.dK (putK kvs k z))) else Nx H3) := by
  refine ⟨fun i m H => m = n - i ∧ i ≤ n ∧ Pv i H, ⟨n, by simp, Nat.zero_le _, h0⟩, ?_⟩
  rintro i m H ⟨rfl, hi, p⟩
  have q := hG i H hi p
  by_cases hlt : i < n
  · refine .inr ⟨w.goes i H hlt q, Pv (i + 1), fun H' p' => ⟨n - (i + 1), by omega, rfl, hlt, p'⟩, fun x H' y => hs i x H H' hlt p (w.yields i H x H' hlt q y)⟩
  · have e : i = n := by omega
    subst e
    exact .inl ⟨w.stops H q, hd H p⟩

theorem new_key {es : Es} {g : Str × Int → Str × Int} (hn : (es.map (·.1)).Nodup) {i : Nat} (hi : i < es.length) (hg : ∀ p, (g p).1 = p.1) :
    es[i].1 ∉ ((es.take i).map g).map (·.1) := fun z => by
  rw [List.map_map] at z
  obtain ⟨p, hp, e⟩ := List.mem_map.mp z
  obtain ⟨j, hj, e2⟩ := List.mem_take_iff_getElem.mp hp
  have hj1 : j < es.length := by omega
  have h1 := List.pairwise_iff_getElem.mp hn j i (by rw [List.length_map]; exact hj1) (by rw [List.length_map]; exact hi) (by omega)
  rw [List.getElem_map, List.getElem_map, e2] at h1
  exact h1 ((hg p).symm.trans e)
theorem kv_step {es : Es} {g : Str × Int → Str × Int} {i : Nat} (hi : i < es.length) :
    kv ((es.take (i + 1)).map g) = kv ((es.take i).map g) ++ [(ky (g es[i]).1, V.int (g es[i]).2)] := by
  have e : es.take (i + 1) = es.take i ++ [es[i]] := by
    rw [List.take_add_one, List.getElem?_eq_getElem hi]
    rfl
  rw [e, List.map_append]
  unfold kv
  rw [List.map_append]
  rfl
abbrev sTimes : Stmt := top 48
def mulE (es : Es) (k : Int) : Es := es.map fun p => (p.1, p.2 * k)
def spTimes : Sp := fun vs H Q _ => ∃ (d : Addr) (es : Es) (k : Int), vs = [.ref d, .int k] ∧ H d = some (.dK (kv es)) ∧ (es.map (·.1)).Nodup ∧ es.length ≤ 1000 ∧
  -(2 ^ 64) < k ∧ k < 2 ^ 64 ∧ ∀ H' D, Same H H' → H D = none → H' D = some (.dK (kv (mulE es k))) → Q (.ref D) H'
def NTi : List Str := ["table", "factor", "name", "count"]
section
variable {P : Program} {w : World} {K : PySem.W.Frag} {mg : Str → Option Value} {base : Heap}
theorem scTimes : FnScope NTi ["table", "factor"] (defScope sTimes) :=
  ⟨rfl, rfl, rfl, by decide +kernel, rfl, by decide +kernel, by decide +kernel⟩
theorem ok_times {f : Addr} {fd : FuncData} (F : Fun K "_times" "_times" sTimes f fd) :
    FnOk P w K mg base CX0 1 f fd ["table", "factor"] spTimes := by
  refine F.ok scTimes (fun vs H Q E h => ?_) (fun cdv A outer s H vs Q E hr h => ?_)
  · obtain ⟨d, es, k, rfl, _⟩ := h
    rfl
  · obtain ⟨d, es, k, rfl, hd, hn, hl, hk1, hk2, q⟩ := h
    refine ⟨_, pss_one (ps_ret (pe_lock (pe_dc (own := [("name", 2), ("count", 3)]) (g := gTup K 2 (gCons (gName 2) (gCons (gName 3) gNil))) (tt := tYes) (tk := tVar 2)
        (tv := tOp (rI CMul fun i j => .int (i * j)) (tVar 3) (tVar 1)) rfl scTimes.nd
      (pi_items (pv 0)) (blkOk_by (own := [("name", 2), ("count", 3)]) (N := NTi) (sc := defScope sTimes) (by decide +kernel))
      (fun _ _ _ _ _ => pg_tup rfl (pgs_cons (pg_name (i := 2) scTimes.nd rfl (Or.inl rfl)) (pgs_cons (pg_name (i := 3) scTimes.nd rfl (Or.inl rfl)) pgs_nil)))
      (fun _ _ _ _ _ => pts_nil) (fun _ _ _ _ _ => by exact pv 2) (fun _ _ _ _ _ => by exact pe_op op_mul (pv 3) (pv 1))))), ?_⟩
    refine ⟨d, _, hd, trivial, fun od => ?_⟩
    refine ⟨_, rfl, d, od, kv es, rfl, upd_same, fun D hD => ?_⟩
    have Dd : D ≠ d := fun z => by
      rw [z, upd_same] at hD
      cases hD
    have hD0 : H D = none := by
      rw [upd_ne Dd] at hD
      exact hD
    refine dc_it walk_items (fun i H2 => H2 D = some (.dK (kv (mulE (es.take i) k))) ∧ H2 d = some (.frz od (.dK (kv es))) ∧ ∀ b o, b ≠ d → H b = some o → H2 b = some o)
      ⟨upd_same, (upd_ne Dd.symm).trans upd_same, fun b o e1 e2 => ?_⟩ (fun i H2 _ p => p.2.1) ?_ ?_
    · rw [upd_ne (ne_of_none e2 hD0), upd_ne e1]
      exact e2
    · rintro i v H2 H3 hi ⟨hD2, hd2, S2⟩ ⟨T, x, y, rfl, nT, rfl, e1, e2⟩
      rw [kv_len] at hi
      have ei : (kv es)[i]? = some (ky es[i].1, V.int es[i].2) := by
        unfold kv
        rw [List.getElem?_map, List.getElem?_eq_getElem hi]
        rfl
      dsimp only at e1 e2
      rw [ei] at e1 e2
      cases e1
      cases e2
      have TD : D ≠ T := ne_of_none hD2 nT
      have Td : d ≠ T := ne_of_none hd2 nT
      refine ⟨T, _, rfl, SqT.of upd_same, rfl, _, _, rfl, _, _, rfl, rfl, rfl, ?_⟩
      unfold tYes
      dsimp only
      rw [if_pos rfl]
      refine ⟨_, rfl, _, rfl, _, rfl, _, _, rfl, rfl, .inr ⟨hk1, hk2⟩, _, ky es[i].1, rfl, (upd_ne TD).trans hD2, ?_, ?_, ?_, fun b o hb e => ?_⟩
      · rw [kv_len]
        unfold mulE
        rw [List.length_map, List.length_take, sizeLine_eq]
        have := Nat.min_le_right i es.length
        omega
      · rw [upd_same]
        have en : es[i].1 ∉ (mulE (es.take i) k).map (·.1) := new_key hn hi fun p => rfl
        rw [putK_new _ (val_none en)]
        exact congrArg (fun z => some (HO.dK z)) (kv_step (g := fun p => (p.1, p.2 * k)) hi).symm
      · rw [upd_ne Dd.symm, upd_ne Td]
        exact hd2
      · rw [upd_ne (ne_of_none e hD0), upd_ne (ne_of_none (S2 b o hb e) nT)]
        exact S2 b o hb e
    · rintro H2 ⟨hD2, hd2, S2⟩
      rw [kv_len] at hD2
      refine ⟨hd2, q _ D (fun b o e => ?_) hD0 ((upd_ne Dd).trans (by rw [List.take_length] at hD2; exact hD2))⟩
      by_cases hb : b = d
      · subst hb
        rw [upd_same]
        exact hd.symm.trans e
      · rw [upd_ne hb]
        exact S2 b o hb e
end
end K12
set_option maxHeartbeats 8000000
namespace K12
open PySem PySem.Spec PyProof.Rows L2

/-! ### texts in sequence: one list alone has these names in sequence -/
theorem lt_irr : ∀ a : List Nat, ltCps a a = false
  | [] => rfl
  | a :: r => by
    show (decide (a < a) || (a == a && ltCps r r)) = false
    rw [lt_irr r]
    simp
theorem lt_tr : ∀ a b c : List Nat, ltCps a b = true → ltCps b c = true → ltCps a c = true
  | [], [], _, h, _ => by cases h
  | [], _ :: _, [], _, h => by cases h
  | [], _ :: _, _ :: _, _, _ => rfl
  | _ :: _, [], _, h, _ => by cases h
  | _ :: _, _ :: _, [], _, h => by cases h
  | a :: r, b :: s, c :: t, h1, h2 => by
    have h1' : (decide (a < b) || (a == b && ltCps r s)) = true := h1
    have h2' : (decide (b < c) || (b == c && ltCps s t)) = true := h2
    show (decide (a < c) || (a == c && ltCps r t)) = true
    simp only [Bool.or_eq_true, Bool.and_eq_true, decide_eq_true_eq, beq_iff_eq] at *
    rcases h1' with h | ⟨rfl, h⟩
    · rcases h2' with g | ⟨rfl, g⟩
      · exact .inl (by omega)
      · exact .inl h
    · rcases h2' with g | ⟨rfl, g⟩
      · exact .inl g
      · exact .inr ⟨rfl, lt_tr r s t h g⟩
theorem lt_tot : ∀ a b : List Nat, ltCps a b = false → ltCps b a = false → a = b
  | [], [], _, _ => rfl
  | [], _ :: _, h, _ => by cases h
  | _ :: _, [], _, h => by cases h
  | a :: r, b :: s, h1, h2 => by
    have h1' : (decide (a < b) || (a == b && ltCps r s)) = false := h1
    have h2' : (decide (b < a) || (b == a && ltCps s r)) = false := h2
    simp only [Bool.or_eq_false_iff, decide_eq_false_iff_not] at h1' h2'
    have e : a = b := by omega
    subst e
    have g1 := h1'.2
    have g2 := h2'.2
    simp only [beq_self_eq_true, Bool.true_and] at g1 g2
    rw [lt_tot r s g1 g2]
def lt (a b : Str) : Prop := ltCps a.cps.toList b.cps.toList = true
theorem str_eq {a b : Str} (h : a.cps.toList = b.cps.toList) : a = b := by
  cases a
  cases b
  congr
  exact Array.toList_inj.mp h
def Sd (l : List Str) : Prop := l.Pairwise lt
theorem rise_pw : ∀ (p : Str) (l : List Str), risingS p l = true → (p :: l).Pairwise fun a b => ltCps b.cps.toList a.cps.toList = false
  | p, [], _ => List.pairwise_singleton ..
  | p, x :: r, h => by
    have h' : (!ltCps x.cps.toList p.cps.toList && risingS x r) = true := h
    obtain ⟨h1, h2⟩ := Bool.and_eq_true_iff.mp h'
    have h1' : ltCps x.cps.toList p.cps.toList = false := by simpa using h1
    have ih := rise_pw x r h2
    refine List.pairwise_cons.mpr ⟨fun y hy => ?_, ih⟩
    rcases List.mem_cons.mp hy with rfl | hy
    · exact h1'
    · have h3 := (List.pairwise_cons.mp ih).1 y hy
      -- p ≤ x ≤ y
      cases e : ltCps y.cps.toList p.cps.toList with
      | false => rfl
      | true =>
        cases e2 : ltCps p.cps.toList x.cps.toList with
        | true =>
          have z := lt_tr _ _ _ e e2
          rw [z] at h3
          cases h3
        | false =>
          have q := lt_tot _ _ e2 h1'
          rw [q] at e
          rw [e] at h3
          cases h3
theorem sd_of {l : List Str} (h : sortedS l = true) (hn : l.Nodup) : Sd l := by
  cases l with
  | nil => exact List.Pairwise.nil
  | cons p r =>
    have z := rise_pw p r h
    refine List.Pairwise.imp₂ (fun a b h1 h2 => ?_) z hn
    cases e : ltCps a.cps.toList b.cps.toList with
    | true => exact e
    | false => exact absurd (str_eq (lt_tot _ _ e h1)) h2
theorem Sd.nodup {l : List Str} (h : Sd l) : l.Nodup := List.Pairwise.imp (fun {a b} q e => by
  subst e
  have q' : ltCps a.cps.toList a.cps.toList = true := q
  rw [lt_irr] at q'
  cases q') h
theorem sd_one : ∀ {l m : List Str}, Sd l → Sd m → (∀ x, x ∈ l ↔ x ∈ m) → l = m
  | [], [], _, _, _ => rfl
  | [], b :: s, _, _, h => by
    have := (h b).mpr (List.mem_cons_self ..)
    cases this
  | a :: r, [], _, _, h => by
    have := (h a).mp (List.mem_cons_self ..)
    cases this
  | a :: r, b :: s, h1, h2, h => by
    obtain ⟨p1, q1⟩ := List.pairwise_cons.mp h1
    obtain ⟨p2, q2⟩ := List.pairwise_cons.mp h2
    have nab : ∀ {x y : Str}, lt x y → lt y x → False := fun {x y} u v => by
      have z : ltCps x.cps.toList x.cps.toList = true := lt_tr _ _ _ u v
      rw [lt_irr] at z
      cases z
    have e : a = b := by
      rcases List.mem_cons.mp ((h a).mp (List.mem_cons_self ..)) with e | u
      · exact e
      · rcases List.mem_cons.mp ((h b).mpr (List.mem_cons_self ..)) with e | v
        · exact e.symm
        · exact (nab (p2 a u) (p1 b v)).elim
    subst e
    have e2 : r = s := sd_one q1 q2 fun x => by
      constructor
      · intro hx
        rcases List.mem_cons.mp ((h x).mp (List.mem_cons_of_mem _ hx)) with e | u
        · subst e
          exact (nab (p1 _ hx) (p1 _ hx)).elim
        · exact u
      · intro hx
        rcases List.mem_cons.mp ((h x).mpr (List.mem_cons_of_mem _ hx)) with e | u
        · subst e
          exact (nab (p2 _ hx) (p2 _ hx)).elim
        · exact u
    rw [e2]
/-- exponents in sequence -/
def SdE (es : Es) : Prop := Sd (es.map (·.1))
theorem look_mem {n : Str} : ∀ {es : Es}, (es.lookup n).isSome = true ↔ n ∈ es.map (·.1)
  | [] => by simp [List.lookup]
  | p :: r => by
    rw [List.map_cons, List.mem_cons]
    by_cases h : n = p.1
    · subst h
      constructor
      · intro _
        exact .inl rfl
      · intro _
        rw [show (p :: r : Es) = (p.1, p.2) :: r from rfl, List.lookup_cons_self]
        rfl
    · have e : (n == p.1) = false := by simpa using h
      rw [show (p :: r : Es) = (p.1, p.2) :: r from rfl, List.lookup_cons, e]
      constructor
      · intro z
        exact .inr (look_mem.mp z)
      · rintro (z | z)
        · exact absurd z h
        · exact look_mem.mpr z
theorem eq_of_keys : ∀ {es fs : Es}, (es.map (·.1)).Nodup → es.map (·.1) = fs.map (·.1) → (∀ n, es.lookup n = fs.lookup n) → es = fs
  | [], [], _, _, _ => rfl
  | [], _ :: _, _, h, _ => by cases h
  | _ :: _, [], _, h, _ => by cases h
  | (a, i) :: r, (b, j) :: s, hn, h, hl => by
    rw [List.map_cons, List.map_cons] at h
    injection h with h1 h2
    have h1' : a = b := h1
    subst h1'
    have e := hl a
    rw [List.lookup_cons_self, List.lookup_cons_self] at e
    injection e with e
    subst e
    rw [List.map_cons] at hn
    obtain ⟨n1, n2⟩ := List.pairwise_cons.mp hn
    have q : r = s := eq_of_keys n2 h2 fun n => by
      by_cases z : n = a
      · subst z
        have none_ : ∀ {es : Es}, n ∉ es.map (·.1) → es.lookup n = none := fun {es} q => by
          cases e : es.lookup n with
          | none => rfl
          | some v => exact absurd (look_mem.mp (by rw [e]; rfl)) q
        have nr : n ∉ r.map (·.1) := fun q => n1 n q rfl
        rw [none_ nr, none_ (by rw [← h2]; exact nr)]
      · have e := hl n
        have ne : (n == a) = false := by simpa using z
        rw [List.lookup_cons, List.lookup_cons, ne] at e
        exact e
    rw [q]
theorem SdE.one {es fs : Es} (h : SdE es) (g : SdE fs) (hl : ∀ n, es.lookup n = fs.lookup n) : es = fs :=
  eq_of_keys h.nodup (sd_one h g fun n => by rw [← look_mem, ← look_mem, hl]) hl
end K12
set_option maxHeartbeats 8000000
namespace K12
open PySem PySem.Spec PyProof.Rows L2

/-! ### sums, name by name -/
def g0 (es : Es) (n : Str) : Int := (es.lookup n).getD 0
def putE (t : Es) (n : Str) (v : Int) : Es :=
  if (t.any fun p => decide (p.1 = n)) = true then t.map (fun p => if p.1 = n then (p.1, v) else p) else t ++ [(n, v)]
theorem kv_put (t : Es) (n : Str) (v : Int) : kv (putE t n v) = putK (kv t) (ky n) (.int v) := by
  have e1 : ((kv t).any fun p => decide (p.1 = ky n)) = t.any fun p => decide (p.1 = n) := by
    unfold kv
    rw [List.any_map]
    congr
    funext p
    show decide (ky p.1 = ky n) = decide (p.1 = n)
    exact decide_eq_decide.mpr ⟨ky_inj, fun h => by rw [h]⟩
  unfold putE putK
  rw [e1]
  split
  · unfold kv
    rw [List.map_map, List.map_map]
    refine List.map_congr_left fun p _ => ?_
    show (ky (if p.1 = n then (p.1, v) else p).1, V.int (if p.1 = n then (p.1, v) else p).2) = if ky p.1 = ky n then (ky p.1, V.int v) else (ky p.1, V.int p.2)
    by_cases h : p.1 = n
    · rw [if_pos h, if_pos (by rw [h])]
    · rw [if_neg h, if_neg fun z => h (ky_inj z)]
  · unfold kv
    rw [List.map_append]
    rfl
theorem look_put (t : Es) (n m : Str) (v : Int) : (putE t n v).lookup m = if m = n then some v else t.lookup m := by
  have z := valV_put (kv t) (ky n) (ky m) (V.int v)
  rw [← kv_put, val_kv, val_kv] at z
  by_cases h : m = n
  · subst h
    rw [if_pos rfl] at z ⊢
    cases e : (putE t m v).lookup m with
    | none =>
      rw [e] at z
      cases z
    | some u =>
      rw [e] at z
      injection z with z
      injection z with z
      rw [z]
  · rw [if_neg fun q => h (ky_inj q)] at z
    rw [if_neg h]
    cases e : (putE t n v).lookup m with
    | none =>
      rw [e] at z
      cases e2 : t.lookup m with
      | none => rfl
      | some u =>
        rw [e2] at z
        cases z
    | some u =>
      rw [e] at z
      cases e2 : t.lookup m with
      | none =>
        rw [e2] at z
        cases z
      | some u2 =>
        rw [e2] at z
        injection z with z
        injection z with z
        rw [z]
theorem nod_put {t : Es} (h : (t.map (·.1)).Nodup) (n : Str) (v : Int) : ((putE t n v).map (·.1)).Nodup := by
  unfold putE
  split
  · rw [List.map_map]
    have e : ((fun p : Str × Int => p.1) ∘ fun p => if p.1 = n then (p.1, v) else p) = fun p => p.1 := by
      funext p
      show (if p.1 = n then (p.1, v) else p).1 = p.1
      split <;> rfl
    rw [e]
    exact h
  · rename_i hn
    rw [List.map_append, List.nodup_append]
    refine ⟨h, List.pairwise_singleton .., fun a ha b hb e => ?_⟩
    rw [List.map_cons, List.map_nil, List.mem_singleton] at hb
    subst hb
    subst e
    obtain ⟨p, hp, e⟩ := List.mem_map.mp ha
    exact hn (List.any_eq_true.mpr ⟨p, hp, decide_eq_true e⟩)
theorem len_put (t : Es) (n : Str) (v : Int) : (putE t n v).length ≤ t.length + 1 := by
  unfold putE
  split
  · rw [List.length_map]
    omega
  · rw [List.length_append]
    exact Nat.le_refl _
def addE (t es : Es) : Es := es.foldl (fun t p => putE t p.1 (g0 t p.1 + p.2)) t
theorem addE_snoc (t es : Es) (p : Str × Int) : addE t (es ++ [p]) = putE (addE t es) p.1 (g0 (addE t es) p.1 + p.2) := by
  unfold addE
  rw [List.foldl_append]
  rfl
theorem nod_add : ∀ {es t : Es}, (t.map (·.1)).Nodup → ((addE t es).map (·.1)).Nodup
  | [], _, h => h
  | p :: r, _, h => nod_add (es := r) (nod_put h p.1 _)
theorem len_add : ∀ (es t : Es), (addE t es).length ≤ t.length + es.length
  | [], t => Nat.le_refl _
  | p :: r, t => by
    have h1 := len_add r (putE t p.1 (g0 t p.1 + p.2))
    have h2 := len_put t p.1 (g0 t p.1 + p.2)
    show (addE (putE t p.1 (g0 t p.1 + p.2)) r).length ≤ t.length + (r.length + 1)
    omega
theorem g0_none {es : Es} {n : Str} (h : n ∉ es.map (·.1)) : es.lookup n = none := by
  cases e : es.lookup n with
  | none => rfl
  | some v => exact absurd (look_mem.mp (by rw [e]; rfl)) h
theorem look_add : ∀ {es : Es} (t : Es) (n : Str), (es.map (·.1)).Nodup →
    (addE t es).lookup n = if n ∈ es.map (·.1) then some (g0 t n + g0 es n) else t.lookup n
  | [], t, n, _ => by
    rw [if_neg (by simp)]
    rfl
  | (m, c) :: r, t, n, h => by
    rw [List.map_cons] at h
    obtain ⟨h1, h2⟩ := List.pairwise_cons.mp h
    have ih := look_add (es := r) (putE t m (g0 t m + c)) n h2
    show (addE (putE t m (g0 t m + c)) r).lookup n = _
    rw [ih]
    by_cases e : n = m
    · subst e
      have nr : n ∉ r.map (·.1) := fun q => h1 n q rfl
      rw [if_neg nr, if_pos (by simp), look_put, if_pos rfl]
      unfold g0
      rw [List.lookup_cons_self]
      rfl
    · have eb : (n == m) = false := by simpa using e
      have g1 : g0 (putE t m (g0 t m + c)) n = g0 t n := by
        unfold g0
        rw [look_put, if_neg e]
      have g2 : g0 ((m, c) :: r) n = g0 r n := by
        unfold g0
        rw [List.lookup_cons, eb]
      rw [g1, g2, look_put, if_neg e]
      by_cases q : n ∈ r.map (·.1)
      · rw [if_pos q, if_pos (by rw [List.map_cons]; exact List.mem_cons_of_mem _ q)]
      · rw [if_neg q, if_neg]
        rw [List.map_cons, List.mem_cons]
        rintro (z | z)
        · exact e z
        · exact q z
end K12
set_option maxHeartbeats 8000000
namespace K12
open PySem PySem.Spec PyProof.Rows L2

abbrev sAdded : Stmt := top 3
/-- the tables at these places -/
inductive Tabs (H : Hp) : List V → List Es → Prop
  | nil : Tabs H [] []
  | cons {d : Addr} {es : Es} {vs : List V} {ts : List Es} : H d = some (.dK (kv es)) → (es.map (·.1)).Nodup → Tabs H vs ts → Tabs H (.ref d :: vs) (es :: ts)
def sumE (ts : List Es) : Es := ts.foldl addE []
def lenT (ts : List Es) : Nat := (ts.map List.length).sum
def spAdded (K : PySem.W.Frag) : Sp := fun vs H Q _ => ∃ (a : Addr) (xs : List V) (ts : List Es), vs = [.ref a] ∧ SqL K H a xs ∧ Tabs H xs ts ∧ xs.length ≤ 1000 ∧ lenT ts < 64 ∧
  ∀ H' D es, Same H H' → H D = none → H' D = some (.dK (kv es)) → SdE es → (∀ n, es.lookup n = (sumE ts).lookup n) → es.length ≤ lenT ts → Q (.ref D) H'
def NAd : List Str := ["tables", "total", "table", "name", "count"]
structure Na (mg : Str → Option Value) : Prop where
  sorted : mg "sorted" = none
theorem Tabs.len {H : Hp} : ∀ {vs : List V} {ts : List Es}, Tabs H vs ts → vs.length = ts.length
  | _, _, .nil => rfl
  | _, _, .cons _ _ t => congrArg (· + 1) t.len
theorem Tabs.get {H : Hp} : ∀ {vs : List V} {ts : List Es} {i : Nat} {x : V}, Tabs H vs ts → vs[i]? = some x →
    ∃ d es, x = .ref d ∧ ts[i]? = some es ∧ H d = some (.dK (kv es)) ∧ (es.map (·.1)).Nodup
  | _, _, _, _, .nil, e => by simp at e
  | _, _, 0, _, .cons h n t, e => by
    simp at e
    exact ⟨_, _, e.symm, rfl, h, n⟩
  | _, _, i + 1, _, .cons h n t, e => by
    obtain ⟨d, es, h1, h2, h3⟩ := t.get (i := i) (by simpa using e)
    exact ⟨d, es, h1, by simpa using h2, h3⟩
theorem sumE_snoc (ts : List Es) (es : Es) : sumE (ts ++ [es]) = addE (sumE ts) es := by
  unfold sumE
  rw [List.foldl_append]
  rfl
theorem len_sum : ∀ (ts : List Es) (t : Es), (ts.foldl addE t).length ≤ t.length + lenT ts
  | [], t => Nat.le_refl _
  | e :: r, t => by
    have h1 := len_sum r (addE t e)
    have h2 := len_add e t
    show (r.foldl addE (addE t e)).length ≤ t.length + (e.length + lenT r)
    omega
theorem nod_sum : ∀ (ts : List Es) {t : Es}, (t.map (·.1)).Nodup → ((ts.foldl addE t).map (·.1)).Nodup
  | [], _, h => h
  | _ :: r, _, h => nod_sum r (nod_add h)
theorem lenT_take : ∀ (ts : List Es) (i : Nat), lenT (ts.take i) ≤ lenT ts
  | [], i => by rw [List.take_nil]; exact Nat.le_refl _
  | e :: r, 0 => Nat.zero_le _
  | e :: r, i + 1 => by
    have := lenT_take r i
    show e.length + lenT (r.take i) ≤ e.length + lenT r
    omega
theorem lenT_get {ts : List Es} {i : Nat} {es : Es} (h : ts[i]? = some es) : lenT (ts.take i) + es.length ≤ lenT ts := by
  have e : ts.take (i + 1) = ts.take i ++ [es] := by
    rw [List.take_add_one, h]
    rfl
  have z := lenT_take ts (i + 1)
  rw [e] at z
  unfold lenT at z ⊢
  rw [List.map_append, List.sum_append] at z
  simpa using z
theorem get_int (t : Es) (n : Str) : (valV (kv t) (ky n)).getD (V.int 0) = V.int (g0 t n) := by
  rw [val_kv]
  unfold g0
  cases t.lookup n <;> rfl
section
variable {P : Program} {w : World} {K : PySem.W.Frag} {mg : Str → Option Value} {base : Heap}
theorem scAdded : FnScope NAd ["tables"] (defScope sAdded) :=
  ⟨rfl, rfl, rfl, by decide +kernel, rfl, by decide +kernel, by decide +kernel⟩
theorem ok_added {f : Addr} {fd : FuncData} (F : Fun K "added" "added" sAdded f fd) (T : Na mg) :
    FnOk P w K mg base CX0 1 f fd ["tables"] (spAdded K) := by
  refine F.ok scAdded (fun vs H Q E h => ?_) (fun cdv A outer s H vs Q E hr h => ?_)
  · obtain ⟨a, xs, ts, rfl, _⟩ := h
    rfl
  · obtain ⟨a, xs, ts, rfl, hS, hT, hl, hl2, q⟩ := h
    have hu : (A.deeper (envOfC "added" (defScope sAdded) s.heap.objs.size f cdv)).units + 1 < cLine := by have := hr.units; omega
    refine ⟨_, pss_cons (ps_set (i := 1) scAdded.nd rfl (.inr rfl) pe_dnewK)
      (pss_cons (ps_for PassesOwn.never rfl (pi_list (pv 0)) (pg_name (i := 2) scAdded.nd rfl (Or.inl rfl))
        (pss_one (ps_lock (ps_for PassesOwn.never rfl (pi_items (pv 2)) (pg_tup rfl (pgs_cons (pg_name (i := 3) scAdded.nd rfl (Or.inl rfl)) (pgs_cons (pg_name (i := 4) scAdded.nd rfl (Or.inl rfl)) pgs_nil)))
          (pss_one (ps_dput hu (pv 1) (pv 3) (pe_op op_add (pe_dget2 hu (pv 1) (pv 3) pe_int ⟨rfl, rfl, rfl, rfl⟩) (pv 4)) rfl))))))
      (pss_one (ps_ret (pe_dc (own := [("name", 3)]) (g := gName 3) (tt := tYes) (tk := tVar 3) (tv := tDGet (tVar 1) (tVar 3)) rfl scAdded.nd
        (pi_list (pe_callB (call_sortedD rfl) (by rfl) T.sorted (by decide +kernel) (pa_cons (pv 1) pa_nil)))
        (blkOk_by (own := [("name", 3)]) (N := NAd) (sc := defScope sAdded) (by decide +kernel)) (fun _ _ _ _ _ => pg_name (i := 3) scAdded.nd rfl (Or.inl rfl))
        (fun _ _ _ _ _ => pts_nil) (fun _ _ _ _ _ => by exact pv 3) (fun _ _ _ _ _ => by exact pe_dget hu (pv 1) (pv 3) (fun _ _ => rfl)))))), ?_⟩
    intro p np
    have S0 : Same H (upd H p (.dK [])) := fresh_upd np
    refine ⟨_, rfl, a, rfl, ⟨_, S0.seq hS⟩, for_list (K := K) (a := a) (xs := xs) (fun i σ H2 => (∃ o2 o3 o4, σ = [some (.ref a), some (.ref p), o2, o3, o4]) ∧
      H2 p = some (.dK (kv (sumE (ts.take i)))) ∧ Same H H2) ⟨⟨none, none, none, rfl⟩, upd_same, S0⟩ (fun i σ H2 _ h => h.2.2.seq hS) ?_ ?_⟩
    · rintro i x σ H2 hi ⟨⟨o2, o3, o4, rfl⟩, hp, S2⟩
      obtain ⟨d, es, rfl, ht, hd, hn⟩ := hT.get hi
      have pd : p ≠ d := fun z => by
        rw [z, hd] at np
        cases np
      have hd2 := S2 _ _ hd
      refine ⟨d, _, hd2, trivial, fun od => ?_⟩
      refine ⟨_, rfl, d, od, kv es, rfl, upd_same, for_it walk_items (fun j σ H3 => (∃ o3 o4, σ = [some (.ref a), some (.ref p), some (.ref d), o3, o4]) ∧
        H3 p = some (.dK (kv (addE (sumE (ts.take i)) (es.take j)))) ∧ H3 d = some (.frz od (.dK (kv es))) ∧ ∀ b o, b ≠ d → H b = some o → H3 b = some o)
        ⟨⟨o3, o4, rfl⟩, (upd_ne pd).trans hp, upd_same, fun b o hb e => (upd_ne hb).trans (S2 b o e)⟩ (fun j σ H3 _ h => h.2.2.1) ?_ ?_⟩
      · rintro j v σ H3 H4 hj ⟨⟨o3, o4, rfl⟩, hp3, hd3, S3⟩ ⟨T', y, z, rfl, nT, rfl, e1, e2⟩
        rw [kv_len] at hj
        have ej : (kv es)[j]? = some (ky es[j].1, V.int es[j].2) := by
          unfold kv
          rw [List.getElem?_map, List.getElem?_eq_getElem hj]
          rfl
        dsimp only at e1 e2
        rw [ej] at e1 e2
        cases e1
        cases e2
        have pT : p ≠ T' := ne_of_none hp3 nT
        have dT : d ≠ T' := ne_of_none hd3 nT
        have hp4 : (upd H3 T' (.tup [kV (ky es[j].1), V.int es[j].2])) p = some (.dK (kv (addE (sumE (ts.take i)) (es.take j)))) := (upd_ne pT).trans hp3
        refine ⟨T', _, rfl, SqT.of upd_same, rfl, _, _, rfl, _, _, rfl, rfl, ?_⟩
        refine ⟨_, rfl, p, rfl, .inl ⟨_, .inl hp4⟩, _, rfl, _, DGet.k (k := ky es[j].1) hp4, _, rfl, _, _, get_int _ _, rfl, ?_⟩
        have hlen : (addE (sumE (ts.take i)) (es.take j)).length < 64 := by
          have h1 := len_add (es.take j) (sumE (ts.take i))
          have h2 : (sumE (ts.take i)).length ≤ 0 + lenT (ts.take i) := len_sum (ts.take i) []
          have h3 := lenT_get ht
          have h4 : (es.take j).length ≤ es.length := by rw [List.length_take]; exact Nat.min_le_right ..
          omega
        refine ⟨_, rfl, _, rfl, p, _, rfl, .inl ⟨_, ky es[j].1, hp4, rfl, by rw [kv_len, sizeLine_eq]; omega, rfl⟩, ⟨_, _, rfl⟩, ?_, ?_, fun b o hb e => ?_⟩
        · have et : es.take (j + 1) = es.take j ++ [es[j]] := by
            rw [List.take_add_one, List.getElem?_eq_getElem hj]
            rfl
          rw [upd_same, et, addE_snoc, kv_put]
        · rw [upd_ne pd.symm, upd_ne dT]
          exact hd3
        · rw [upd_ne (ne_of_none e np), upd_ne (ne_of_none (S3 b o hb e) nT)]
          exact S3 b o hb e
      · rintro σ H3 ⟨⟨o3, o4, rfl⟩, hp3, hd3, S3⟩
        refine ⟨hd3, ⟨_, o3, o4, rfl⟩, ?_, fun b o e => ?_⟩
        · rw [upd_ne pd, hp3, kv_len, List.take_length]
          have et : ts.take (i + 1) = ts.take i ++ [es] := by
            rw [List.take_add_one, ht]
            rfl
          rw [et, sumE_snoc]
        · by_cases hb : b = d
          · subst hb
            rw [upd_same]
            exact hd.symm.trans e
          · exact (upd_ne hb).trans (S3 b o hb e)
    · rintro σ H2 ⟨⟨o2, o3, o4, rfl⟩, hp, S2⟩
      rw [hT.len, List.take_length] at hp
      have hnd : ((sumE ts).map (·.1)).Nodup := nod_sum ts List.Pairwise.nil
      have hl3 : (sumE ts).length ≤ 0 + lenT ts := len_sum ts []
      refine ⟨_, rfl, p, _, (sumE ts).map (·.1), rfl, .inl hp, ?_, by rw [List.length_map]; omega, fun ys r perm srt nr => ?_⟩
      · unfold kv
        rw [List.map_map, List.map_map]
        rfl
      have S3 := fresh_upd (o := .lst (ys.map V.str)) nr
      refine ⟨r, rfl, ⟨_, SqL.of upd_same⟩, fun D hD => ?_⟩
      have hD0 : H D = none := by
        cases e : H D with
        | none => rfl
        | some o =>
          have z := S3 _ _ (S2 _ _ e)
          rw [hD] at z
          cases z
      have hyl : ys.length = (sumE ts).length := by rw [perm.length_eq, List.length_map]
      have hLf : ∀ n, n ∈ ys ↔ n ∈ (sumE ts).map (·.1) := fun n => perm.mem_iff
      have hp3 := S3 _ _ hp
      refine dc_it (walk_list (K := K) (a := r) (xs := ys.map V.str)) (fun i H3 => H3 D = some (.dK (kv ((ys.map fun n => (n, g0 (sumE ts) n)).take i))) ∧
        Same (upd H2 r (.lst (ys.map V.str))) H3) ⟨upd_same, fresh_upd hD⟩ (fun i H3 _ h => SqL.of (h.2 _ _ upd_same)) ?_ ?_
      · rintro i x H3 H4 hi ⟨hD3, S4⟩ ⟨rfl, hx⟩
        rw [List.length_map] at hi
        have ex : x = .str ys[i] := by
          rw [List.getElem?_map, List.getElem?_eq_getElem hi] at hx
          exact (Option.some.inj hx).symm
        subst ex
        have hin : ys[i] ∈ (sumE ts).map (·.1) := (hLf _).mp (List.getElem_mem hi)
        obtain ⟨v, hv⟩ := Option.isSome_iff_exists.mp (look_mem.mpr hin)
        have hg : g0 (sumE ts) ys[i] = v := by
          unfold g0
          rw [hv]
          rfl
        refine ⟨rfl, ?_⟩
        unfold tYes
        dsimp only
        rw [if_pos rfl]
        refine ⟨_, rfl, _, rfl, _, rfl, p, .int v, rfl, .inl ⟨_, ky ys[i], .inl (S4 _ _ hp3), rfl, ?_⟩, ?_⟩
        · rw [val_kv, hv]
          rfl
        · refine ⟨_, ky ys[i], rfl, hD3, ?_, ?_, fun b o e => ?_⟩
          · rw [kv_len, List.length_take, sizeLine_eq]
            have := Nat.min_le_left i (ys.map fun n => (n, g0 (sumE ts) n)).length
            omega
          · have hi' : i < (ys.map fun n => (n, g0 (sumE ts) n)).length := by rw [List.length_map]; exact hi
            have ek : (ys.map fun n => (n, g0 (sumE ts) n)).map (·.1) = ys := by
              rw [List.map_map]
              exact List.map_id'' (fun _ => rfl) ys
            have en := new_key (es := ys.map fun n => (n, g0 (sumE ts) n)) (g := id) (by rw [ek]; exact perm.nodup_iff.mpr hnd) hi' fun _ => rfl
            rw [List.getElem_map, List.map_id] at en
            have st := kv_step (es := ys.map fun n => (n, g0 (sumE ts) n)) (g := id) hi'
            rw [List.map_id, List.map_id] at st
            rw [upd_same, putK_new _ (val_none en), st, List.getElem_map, ← hg]
            rfl
          · rw [upd_ne (ne_of_none e hD)]
            exact S4 b o e
      · rintro H3 ⟨hD3, S4⟩
        have ek : (ys.map fun n => (n, g0 (sumE ts) n)).map (·.1) = ys := by
          rw [List.map_map]
          exact List.map_id'' (fun _ => rfl) ys
        rw [show (ys.map V.str).length = (ys.map fun n => (n, g0 (sumE ts) n)).length by rw [List.length_map, List.length_map], List.take_length] at hD3
        refine q H3 D _ (S2.trans (S3.trans S4)) hD0 hD3 ?_ (fun n => ?_) (by rw [List.length_map, hyl]; omega)
        · unfold SdE
          rw [ek]
          exact sd_of srt (perm.nodup_iff.mpr hnd)
        · have lk : ∀ zs : List Str, (zs.map fun n => (n, g0 (sumE ts) n)).lookup n = if n ∈ zs then some (g0 (sumE ts) n) else none := by
            intro zs
            induction zs with
            | nil => rfl
            | cons z r ih =>
              rw [List.map_cons]
              by_cases e : n = z
              · subst e
                rw [List.lookup_cons_self, if_pos (List.mem_cons_self ..)]
              · have eb : (n == z) = false := by simpa using e
                rw [List.lookup_cons, eb]
                show (r.map fun n => (n, g0 (sumE ts) n)).lookup n = _
                rw [ih]
                by_cases q : n ∈ r
                · rw [if_pos q, if_pos (List.mem_cons_of_mem _ q)]
                · rw [if_neg q, if_neg]
                  rw [List.mem_cons]
                  rintro (u | u)
                  · exact e u
                  · exact q u
          rw [lk]
          by_cases hin : n ∈ ys
          · rw [if_pos hin]
            obtain ⟨v, hv⟩ := Option.isSome_iff_exists.mp (look_mem.mpr ((hLf n).mp hin))
            unfold g0
            rw [hv]
            rfl
          · rw [if_neg hin]
            exact (g0_none fun z => hin ((hLf n).mpr z)).symm
end
end K12
set_option maxHeartbeats 8000000
namespace K12
open PySem PySem.Spec PyProof.Rows L2

abbrev sIsExp : Stmt := top 47
def spIsExp : Sp := fun vs H Q _ => ∃ (d : Addr) (es : Es), vs = [.ref d] ∧ H d = some (.dK (kv es)) ∧ es.length ≤ 1000 ∧ (es.map (·.1)).Nodup ∧ (∀ p ∈ es, isNm p.1 = true) ∧
  ∀ H', Same H H' → Q (.bl true) H'
def NIe : List Str := ["value", "name"]
theorem nm_len {x : Str} (h : isNm x = true) : x.length ≤ 8 := by
  unfold isNm at h
  rw [Bool.and_eq_true, Bool.and_eq_true, decide_eq_true_eq, decide_eq_true_eq] at h
  exact h.2.1
theorem val_at {es : Es} (hn : (es.map (·.1)).Nodup) {i : Nat} (hi : i < es.length) : valV (kv es) (ky es[i].1) = some (.int es[i].2) := by
  rw [val_kv]
  have z : ∀ {es : Es} (hn : (es.map (·.1)).Nodup) {i : Nat} (hi : i < es.length), es.lookup es[i].1 = some es[i].2 := by
    intro es
    induction es with
    | nil => intro _ i hi; exact absurd hi (Nat.not_lt_zero _)
    | cons p r ih =>
      intro hn i hi
      rw [List.map_cons] at hn
      obtain ⟨n1, n2⟩ := List.pairwise_cons.mp hn
      cases i with
      | zero =>
        show List.lookup p.1 ((p.1, p.2) :: r) = some p.2
        rw [List.lookup_cons_self]
      | succ i =>
        have hi' : i < r.length := by
          rw [List.length_cons] at hi
          omega
        have ne : (r[i].1 == p.1) = false := by
          have q := n1 r[i].1 (List.mem_map.mpr ⟨r[i], List.getElem_mem hi', rfl⟩)
          simpa using fun e => q e.symm
        show List.lookup r[i].1 ((p.1, p.2) :: r) = some r[i].2
        rw [List.lookup_cons, ne]
        exact ih n2 hi'
  rw [z hn hi]
  rfl
section
variable {P : Program} {w : World} {K : PySem.W.Frag} {mg : Str → Option Value} {base : Heap}
theorem scIsExp : FnScope NIe ["value"] (defScope sIsExp) :=
  ⟨rfl, rfl, rfl, by decide +kernel, rfl, by decide +kernel, by decide +kernel⟩
theorem ok_isexp {f fN fI : Addr} {fd fdN fdI : FuncData} (F : Fun K "_is_exponents" "_is_exponents" sIsExp f fd) (T : Nk mg)
    (GN : FnOk P w K mg base CX0 1 fN fdN ["value"] (spIsName K)) (kN : PySem.W.keepIn K (.ref fN) = true) (bN : Binds K fdN ["value"] []) (gN : mg "is_name" = some (.ref fN))
    (GI : FnOk P w K mg base CX0 1 fI fdI ["value"] spIsInt) (kI : PySem.W.keepIn K (.ref fI) = true) (bI : Binds K fdI ["value"] []) (gI : mg "is_integer" = some (.ref fI)) :
    FnOk P w K mg base CX0 2 f fd ["value"] spIsExp := by
  refine F.ok scIsExp (fun vs H Q E h => ?_) (fun cdv A outer s H vs Q E hr h => ?_)
  · obtain ⟨d, es, rfl, _⟩ := h
    rfl
  · obtain ⟨d, es, rfl, hd, hl, hn, hnm, q⟩ := h
    have hu : (A.deeper (envOfC "_is_exponents" (defScope sIsExp) s.heap.objs.size f cdv)).units + 1 < cLine := by have := hr.units; omega
    refine ⟨_, pss_cons (ps_if (pt_not (pt_val (pe_callB call_isi (by rfl) T.isi (by decide +kernel) (pa_cons (pv 0) (pa_cons (pe_bltn (v := .ty "dict") (u := .type "dict") (by rfl) T.dict (by decide +kernel) rfl) pa_nil)))))
        (pss_one (ps_ret pe_bl)) pss_nil)
      (pss_one (ps_ret (pe_lock (pe_callB (cr_all rfl) (by rfl) T.all (by decide +kernel) (pa_cons
        (pe_lc (own := [("name", 1)]) (g := gName 1) (tt := tYes)
          (te := tAndV (tCall (spIsName K) [] E0 (tCons (tVar 1) tNil)) (tCall spIsInt [] E0 (tCons (tDGet (tVar 0) (tVar 1)) tNil))) rfl scIsExp.nd (pi_keys (pv 0))
          (blkOk_by (own := [("name", 1)]) (N := NIe) (sc := defScope sIsExp) (by decide +kernel)) (fun _ _ _ _ _ => pg_name (i := 1) scIsExp.nd rfl (Or.inl rfl))
          (fun _ _ _ _ _ => pts_nil) (fun _ _ _ _ _ => by
            exact pe_and (pe_call GN hr rfl gN kN bN .nil pass0 (pa_cons (pv 1) pa_nil))
              (pe_one (pe_call GI hr rfl gI kI bI .nil pass0 (pa_cons (pe_dget hu (pv 0) (pv 1) (fun _ _ => rfl)) pa_nil))))) pa_nil))))), ?_⟩
    refine ⟨_, rfl, _, _, _, _, true, rfl, .ty _, .base (.dK hd), kit_ty (by decide +kernel), _, rfl, iteF ?_⟩
    refine ⟨d, _, hd, trivial, fun od => ?_⟩
    refine ⟨_, rfl, d, od, rfl, .inl ⟨kv es, upd_same, fun D hD => ?_⟩⟩
    have Dd : D ≠ d := fun z => by
      rw [z, upd_same] at hD
      cases hD
    have hD0 : H D = none := by
      rw [upd_ne Dd] at hD
      exact hD
    refine lc_it walk_keys (fun i H2 => H2 D = some (.lst ((List.replicate i true).map V.bl)) ∧ H2 d = some (.frz od (.dK (kv es))) ∧ ∀ b o, b ≠ d → H b = some o → H2 b = some o)
      ⟨upd_same, (upd_ne Dd.symm).trans upd_same, fun b o e1 e2 => ?_⟩ (fun i H2 _ p => p.2.1) ?_ ?_
    · rw [upd_ne (ne_of_none e2 hD0), upd_ne e1]
      exact e2
    · rintro i v H2 H3 hi ⟨hD2, hd2, S2⟩ ⟨rfl, k', v', e1, rfl⟩
      rw [kv_len] at hi
      have ei : (kv es)[i]? = some (ky es[i].1, V.int es[i].2) := by
        unfold kv
        rw [List.getElem?_map, List.getElem?_eq_getElem hi]
        rfl
      rw [ei] at e1
      cases e1
      have hnmi := hnm es[i] (List.getElem_mem hi)
      refine ⟨rfl, ?_⟩
      unfold tYes
      dsimp only
      rw [if_pos rfl]
      refine ⟨_, rfl, .inl ⟨es[i].1, rfl, by have := nm_len hnmi; omega, fun H4 S4 => ?_⟩⟩
      rw [hnmi]
      refine ⟨_, rfl, iteT' rfl ?_⟩
      refine ⟨_, rfl, _, rfl, d, .int es[i].2, rfl, .inl ⟨_, ky es[i].1, .inr ⟨od, S4 _ _ hd2⟩, rfl, (val_at hn hi).symm⟩, es[i].2, rfl, ?_⟩
      refine ⟨_, S4 _ _ hD2, by rw [List.length_map, List.length_replicate, sizeLine_eq]; omega, ?_, ?_, fun b o hb e => ?_⟩
      · rw [upd_same, List.replicate_succ', List.map_append]
        rfl
      · rw [upd_ne Dd.symm]
        exact S4 _ _ hd2
      · rw [upd_ne (ne_of_none e hD0)]
        exact S4 b o (S2 b o hb e)
    · rintro H2 ⟨hD2, hd2, S2⟩
      refine ⟨D, _, rfl, SqL.of hD2, hd2, ?_⟩
      have e : (List.replicate (kv es).length true).all id = true := by
        rw [List.all_eq_true]
        intro x hx
        exact List.eq_of_mem_replicate hx
      rw [e]
      refine q _ fun b o eb => ?_
      by_cases hb : b = d
      · subst hb
        rw [upd_same]
        exact hd.symm.trans eb
      · exact (upd_ne hb).trans (S2 b o hb eb)
end
end K12
set_option maxHeartbeats 8000000
namespace K12
open PySem PySem.Spec PyProof.Rows L2

abbrev sSize : Stmt := top 44
abbrev sInit : Stmt := inClass sSize 0
abbrev FnD (K : PySem.W.Frag) (x qual : Str) (st : Stmt) (dvs : List V) (f : Addr) (fd : FuncData) : Prop := FunD K x qual (defArgs st) (defBody st) (defScope st) dvs [] f fd
/-- without the names whose exponent is 0 -/
def nzE (es : Es) (n : Str) : Option Int := match es.lookup n with
  | some v => if v = 0 then none else some v
  | none => none
/-- a Size with these exponents stands at p -/
def SizeAt (C : Addr) (H : Hp) (p : Addr) (es : Es) : Prop := ∃ dx D, H p = some (.ins C dx [("_exponents", .ref D)]) ∧ H D = some (.dK (kv es)) ∧ SdE es ∧ (∀ q ∈ es, q.2 ≠ 0) ∧ (∀ q ∈ es, isNm q.1 = true) ∧ es.length < 64
def spInit (C : Addr) : Sp := fun vs H Q _ => ∃ (p dx : Addr) (v : V) (es : Es), vs = [.ref p, v] ∧ H p = some (.ins C dx []) ∧
  ((v = .non ∧ es = []) ∨ ∃ d, v = .ref d ∧ d ≠ p ∧ H d = some (.dK (kv es))) ∧ (es.map (·.1)).Nodup ∧ es.length < 64 ∧ (∀ q ∈ es, isNm q.1 = true) ∧
  ∀ H' D R, (∀ b o, b ≠ p → H b = some o → H' b = some o) → H' p = some (.ins C dx [("_exponents", .ref D)]) → H D = none → H' D = some (.dK (kv R)) →
    SdE R → (∀ n, R.lookup n = nzE es n) → R.length ≤ es.length → Q .non H'
structure Cs (K : PySem.W.Frag) (C : Addr) : Prop where
  cl : Cls K C
  nE : NoAttr K C "_exponents"
def flE (es : Es) (ys : List Str) : Es := (ys.map fun n => (n, g0 es n)).filter fun p => decide (p.2 ≠ 0)
theorem fl_keys (es : Es) (ys : List Str) : ((flE es ys).map (·.1)).Sublist ys := by
  have z : ((flE es ys).map (·.1)).Sublist ((ys.map fun n => (n, g0 es n)).map (·.1)) := List.Sublist.map _ List.filter_sublist
  have ek : (ys.map fun n => (n, g0 es n)).map (·.1) = ys := by
    rw [List.map_map]
    exact List.map_id'' (fun _ => rfl) ys
  rw [ek] at z
  exact z
theorem fl_step {es : Es} {ys : List Str} {i : Nat} (hi : i < ys.length) :
    flE es (ys.take (i + 1)) = if g0 es ys[i] ≠ 0 then flE es (ys.take i) ++ [(ys[i], g0 es ys[i])] else flE es (ys.take i) := by
  have e : ys.take (i + 1) = ys.take i ++ [ys[i]] := by
    rw [List.take_add_one, List.getElem?_eq_getElem hi]
    rfl
  unfold flE
  rw [e, List.map_append, List.filter_append]
  by_cases h : g0 es ys[i] = 0
  · rw [if_neg (fun z => z h)]
    simp [h]
  · rw [if_pos h]
    simp [h]
theorem fl_look (es : Es) (n : Str) : ∀ zs : List Str, (flE es zs).lookup n = if n ∈ zs ∧ g0 es n ≠ 0 then some (g0 es n) else none
  | [] => by simp [flE]
  | z :: r => by
    have ih := fl_look es n r
    have e : flE es (z :: r) = if g0 es z ≠ 0 then (z, g0 es z) :: flE es r else flE es r := by
      unfold flE
      rw [List.map_cons, List.filter_cons]
      by_cases h : g0 es z = 0
      · simp [h]
      · simp [h]
    rw [e]
    by_cases h : g0 es z = 0
    · rw [if_neg (fun q => q h), ih]
      by_cases hz : n = z
      · subst hz
        rw [if_neg (fun q => q.2 h), if_neg (fun q => q.2 h)]
      · simp [hz]
    · rw [if_pos h]
      by_cases hz : n = z
      · subst hz
        rw [List.lookup_cons_self, if_pos ⟨List.mem_cons_self .., h⟩]
      · have eb : (n == z) = false := by simpa using hz
        rw [List.lookup_cons, eb]
        show (flE es r).lookup n = _
        rw [ih]
        simp [hz]
theorem fl_nz {es : Es} {ys : List Str} (h : ∀ n, n ∈ ys ↔ n ∈ es.map (·.1)) (n : Str) : (flE es ys).lookup n = nzE es n := by
  rw [fl_look]
  unfold nzE
  by_cases hin : n ∈ ys
  · obtain ⟨v, hv⟩ := Option.isSome_iff_exists.mp (look_mem.mpr ((h n).mp hin))
    have hg : g0 es n = v := by
      unfold g0
      rw [hv]
      rfl
    rw [hv, hg]
    by_cases z : v = 0
    · rw [if_neg (fun q => q.2 z)]
      show none = if v = 0 then none else some v
      rw [if_pos z]
    · rw [if_pos ⟨hin, z⟩]
      show some v = if v = 0 then none else some v
      rw [if_neg z]
  · rw [if_neg (fun q => hin q.1), g0_none fun z => hin ((h n).mpr z)]
def NIi : List Str := ["self", "exponents", "given", "name"]
section
variable {P : Program} {w : World} {K : PySem.W.Frag} {mg : Str → Option Value} {base : Heap} {C : Addr}
theorem scIni : FnScope NIi ["self", "exponents"] (defScope sInit) :=
  ⟨rfl, rfl, rfl, by decide +kernel, rfl, by decide +kernel, by decide +kernel⟩
theorem rd_ini {p dx g : Addr} {v : V} {es : Es} {H1 : Hp} {DD : Ends} (Tc : Cs K C) (hg : H1 g = some (.dK (kv es))) (hp : H1 p = some (.ins C dx [])) (hn : (es.map (·.1)).Nodup)
    (hl : es.length < 64) (hnm : ∀ q ∈ es, isNm q.1 = true)
    (k : ∀ H2 D R, Same H1 H2 → H1 D = none → H2 D = some (.dK (kv R)) → SdE R → (∀ n, R.lookup n = nzE es n) → R.length ≤ es.length →
      DD.nx [some (.ref p), some v, some (.ref g), none] (upd H2 p (.ins C dx [("_exponents", .ref D)]))) :
    tSeq (tIfS (tNot (tB (tCall spIsExp [] E0 (tCons (tVar 2) tNil)))) (fun _ _ _ => False) tNext)
      (sFld K (tVar 0) (tDc (iList K (tCB (fun xs H Q => ∃ (a : Addr) (kvs : List (Key × V)) (ks : List Str), xs = [.ref a] ∧ Rd H a (.dK kvs) ∧ kvs.map (·.1) = ks.map Sum.inr ∧ ks.length < 64 ∧
          ∀ ys p, ys.Perm ks → sortedS ys = true → H p = none → Q (.ref p) (upd H p (.lst (ys.map V.str)))) (tCons (tVar 2) tNil)))
        (gName 3) (tTest (tOp rNe (tDGet (tVar 2) (tVar 3)) (tC (.int 0)))) (tVar 3) (tDGet (tVar 2) (tVar 3)) [3]) "_exponents") DD
      [some (.ref p), some v, some (.ref g), none] H1 := by
  refine ⟨_, rfl, g, es, rfl, hg, by omega, hn, hnm, fun H2 S2 => ?_⟩
  refine ⟨_, rfl, iteF ?_⟩
  have hg2 := S2 _ _ hg
  refine ⟨_, rfl, g, _, es.map (·.1), rfl, .inl hg2, ?_, by rw [List.length_map]; exact hl, fun ys r perm srt nr => ?_⟩
  · unfold kv
    rw [List.map_map, List.map_map]
    rfl
  have S3 := fresh_upd (o := .lst (ys.map V.str)) nr
  refine ⟨r, rfl, ⟨_, SqL.of upd_same⟩, fun D hD => ?_⟩
  have hD0 : H1 D = none := by
    cases e : H1 D with
    | none => rfl
    | some o =>
      have z := S3 _ _ (S2 _ _ e)
      rw [hD] at z
      cases z
  have hys : ys.Nodup := perm.nodup_iff.mpr hn
  have hyl : ys.length = es.length := by rw [perm.length_eq, List.length_map]
  have hg3 := S3 _ _ hg2
  refine dc_it (walk_list (K := K) (a := r) (xs := ys.map V.str)) (fun i H3 => H3 D = some (.dK (kv (flE es (ys.take i)))) ∧
    Same (upd H2 r (.lst (ys.map V.str))) H3) ⟨upd_same, fresh_upd hD⟩ (fun i H3 _ h => SqL.of (h.2 _ _ upd_same)) ?_ ?_
  · rintro i x H3 H4 hi ⟨hD3, S4⟩ ⟨rfl, hx⟩
    rw [List.length_map] at hi
    have ex : x = .str ys[i] := by
      rw [List.getElem?_map, List.getElem?_eq_getElem hi] at hx
      exact (Option.some.inj hx).symm
    subst ex
    have hin : ys[i] ∈ es.map (·.1) := perm.mem_iff.mp (List.getElem_mem hi)
    obtain ⟨u, hu⟩ := Option.isSome_iff_exists.mp (look_mem.mpr hin)
    have hgu : g0 es ys[i] = u := by
      unfold g0
      rw [hu]
      rfl
    have dg : DGet H4 g (kV (ky ys[i])) (some (.int u)) := .inl ⟨_, ky ys[i], .inl (S4 _ _ hg3), rfl, by rw [val_kv, hu]; rfl⟩
    refine ⟨rfl, ?_⟩
    refine ⟨_, rfl, _, rfl, g, .int u, rfl, dg, rfl, _, rfl, ?_⟩
    by_cases h0 : u = 0
    · subst h0
      rw [decide_eq_true rfl]
      refine iteF ⟨?_, S4⟩
      rw [fl_step hi, hgu, if_neg (fun z => z rfl)]
      exact hD3
    · rw [decide_eq_false (show ¬ V.int u = V.int 0 from fun z => h0 (V.int.inj z))]
      refine iteT' rfl ?_
      refine ⟨_, rfl, _, rfl, _, rfl, g, .int u, rfl, dg, ?_⟩
      refine ⟨_, ky ys[i], rfl, hD3, ?_, ?_, fun b o e => ?_⟩
      · rw [kv_len, sizeLine_eq]
        have h1 : (flE es (ys.take i)).length ≤ (ys.take i).length := by
          unfold flE
          refine Nat.le_trans (List.length_filter_le _ _) ?_
          rw [List.length_map]
          exact Nat.le_refl _
        have h2 : (ys.take i).length ≤ i := by rw [List.length_take]; exact Nat.min_le_left ..
        omega
      · have en : ys[i] ∉ (flE es (ys.take i)).map (·.1) := fun z => by
          have z2 := (fl_keys es (ys.take i)).subset z
          obtain ⟨j, hj, e2⟩ := List.mem_take_iff_getElem.mp z2
          exact List.pairwise_iff_getElem.mp hys j i (by omega) hi (by omega) e2
        rw [upd_same, putK_new _ (val_none en), fl_step hi, hgu, if_pos h0]
        unfold kv
        rw [List.map_append]
        rfl
      · rw [upd_ne (ne_of_none e hD)]
        exact S4 b o e
  · rintro H3 ⟨hD3, S4⟩
    rw [List.length_map, List.take_length] at hD3
    refine ⟨_, rfl, p, C, dx, [], rfl, S4 _ _ (S3 _ _ (S2 _ _ hp)), Tc.cl, Tc.nE, by decide, ?_⟩
    exact k _ D _ (S2.trans (S3.trans S4)) hD0 hD3 (List.Pairwise.sublist (fl_keys es ys) (sd_of srt hys)) (fl_nz fun n => perm.mem_iff)
      (by
        unfold flE
        refine Nat.le_trans (List.length_filter_le _ _) ?_
        rw [List.length_map, hyl]
        exact Nat.le_refl _)
theorem ok_init {f fE : Addr} {fd fdE : FuncData} (F : FnD K "__init__" "Size.__init__" sInit [.non] f fd) (T : Na mg) (Tc : Cs K C)
    (GE : FnOk P w K mg base CX0 2 fE fdE ["value"] spIsExp) (kE : PySem.W.keepIn K (.ref fE) = true) (bE : Binds K fdE ["value"] []) (gE : mg "_is_exponents" = some (.ref fE)) :
    FnOk P w K mg base CX0 3 f fd ["self", "exponents"] (spInit C) := by
  refine F.ok scIni (fun vs H Q E h => ?_) (fun cdv A outer s H vs Q E hr h => ?_)
  · obtain ⟨p, dx, v, es, rfl, _⟩ := h
    rfl
  · obtain ⟨p, dx, v, es, rfl, hp, hv, hn, hl, hnm, q⟩ := h
    have hu : (A.deeper (envOfC "Size.__init__" (defScope sInit) s.heap.objs.size f cdv)).units + 1 < cLine := by have := hr.units; omega
    refine ⟨_, PSs.nox (pss_cons (ps_set (i := 2) scIni.nd rfl (.inr rfl) (pe_ifExp (pt_cmpR op_isN (pv 1) pe_non rfl) pe_dnewK (pv 1)))
      (pss_cons (ps_if (pt_not (pt_val (pe_call GE hr rfl gE kE bE .nil pass0 (pa_cons (pv 2) pa_nil)))) (pss_one ps_no) pss_nil)
      (pss_one (ps_fld (pv 0) (pe_dc (own := [("name", 3)]) (g := gName 3) (tt := tTest (tOp rNe (tDGet (tVar 2) (tVar 3)) (tC (.int 0)))) (tk := tVar 3) (tv := tDGet (tVar 2) (tVar 3)) rfl scIni.nd
        (pi_list (pe_callB (call_sortedD rfl) (by rfl) T.sorted (by decide +kernel) (pa_cons (pv 2) pa_nil)))
        (blkOk_by (own := [("name", 3)]) (N := NIi) (sc := defScope sInit) (by decide +kernel)) (fun _ _ _ _ _ => pg_name (i := 3) scIni.nd rfl (Or.inl rfl))
        (fun _ _ _ _ _ => pts_one (by exact pt_cmpR op_ne (pe_dget hu (pv 2) (pv 3) (fun _ _ => rfl)) pe_int (nomark _)))
        (fun _ _ _ _ _ => by exact pv 3) (fun _ _ _ _ _ => by exact pe_dget hu (pv 2) (pv 3) (fun _ _ => rfl))) rfl)))), ?_⟩
    rcases hv with ⟨rfl, rfl⟩ | ⟨d, rfl, dp, hd⟩
    · refine ⟨_, rfl, rfl, _, rfl, iteT' rfl ?_⟩
      intro g ng
      have gp : g ≠ p := fun z => by
        rw [z, hp] at ng
        cases ng
      refine rd_ini Tc (es := []) upd_same ((upd_ne gp.symm).trans hp) hn hl hnm fun H2 D R S2 nD hD sR lR zR => ?_
      have nD0 : H D = none := by
        cases e : H D with
        | none => rfl
        | some o =>
          have z := fresh_upd (o := .dK []) ng _ _ e
          rw [nD] at z
          cases z
      have Dp : D ≠ p := fun z => by
        rw [z, hp] at nD0
        cases nD0
      exact q _ D R (fun b o hb e => (upd_ne hb).trans (S2 _ _ (fresh_upd ng _ _ e))) upd_same nD0 ((upd_ne Dp).trans hD) sR lR zR
    · refine ⟨_, rfl, rfl, _, rfl, iteF ?_⟩
      refine ⟨_, rfl, ?_⟩
      refine rd_ini Tc hd hp hn hl hnm fun H2 D R S2 nD hD sR lR zR => ?_
      have Dp : D ≠ p := fun z => by
        rw [z, hp] at nD
        cases nD
      exact q _ D R (fun b o hb e => (upd_ne hb).trans (S2 _ _ e)) upd_same nD ((upd_ne Dp).trans hD) sR lR zR
end
end K12
set_option maxHeartbeats 8000000
namespace K12
open PySem PySem.Spec PyProof.Rows L2

abbrev sCheck : Stmt := top 45
/-- the class as a value and as a kind -/
structure Ck (K : PySem.W.Frag) (mg : Str → Option Value) (C : Addr) : Prop extends Cs K C where
  gC : mg "Size" = some (.ref C)
  cc : PySem.W.findIn K (.ref C) "__class__" = some (some (.builtin "object.__class__"))
  cn : PySem.W.specialIn K (.builtin "object.__class__") "__get__" = some (some (.builtin "getset_descriptor.__get__"))
  ct : PySem.W.takesIn K (.builtin "object.__class__") = some true
  co : PySem.W.mroIn K C (.type "object") = some true
def spCheck (C : Addr) : Sp := fun vs H Q _ => ∃ (p dx : Addr) (fs : List (Str × V)), vs = [.ref p] ∧ H p = some (.ins C dx fs) ∧ Q .non H
section
variable {P : Program} {w : World} {K : PySem.W.Frag} {mg : Str → Option Value} {base : Heap} {C : Addr}
theorem scCheck : FnScope ["value"] ["value"] (defScope sCheck) :=
  ⟨rfl, rfl, rfl, by decide +kernel, rfl, by decide +kernel, by decide +kernel⟩
theorem ok_check {f : Addr} {fd : FuncData} (F : Fun K "check_size" "check_size" sCheck f fd) (T : Nk mg) (Tc : Ck K mg C) :
    FnOk P w K mg base CX0 1 f fd ["value"] (spCheck C) := by
  refine F.ok scCheck (fun vs H Q E h => ?_) (fun cdv A outer s H vs Q E hr h => ?_)
  · obtain ⟨p, dx, fs, rfl, _⟩ := h
    rfl
  · obtain ⟨p, dx, fs, rfl, hp, q⟩ := h
    refine ⟨_, pss_one (ps_if (pt_not (pt_val (pe_callB call_isi (by rfl) T.isi (by decide +kernel) (pa_cons (pv 0) (pa_cons (pe_glob (v := .ref C) (by rfl) Tc.gC rfl) pa_nil)))))
      (pss_one ps_no) pss_nil), ?_⟩
    refine ⟨_, rfl, _, _, _, _, true, rfl, .own _, .base (.ins hp Tc.cl Tc.cc Tc.cn Tc.ct Tc.co), ?_, _, rfl, iteF q⟩
    unfold PySem.W.kitOne
    rw [if_pos (by simp)]
end
end K12
set_option maxHeartbeats 8000000
namespace K12
open PySem PySem.Spec PyProof.Rows L2

/-! ### numbers as exponents -/
def cz (v : Int) : Option Int := if v = 0 then none else some v
theorem nz_cz (es : Es) (n : Str) : nzE es n = cz (g0 es n) := by
  unfold nzE cz g0
  cases es.lookup n with
  | none => rfl
  | some v => rfl
theorem g0_cz {R : Es} {n : Str} {v : Int} (h : R.lookup n = cz v) : g0 R n = v := by
  unfold g0
  rw [h]
  unfold cz
  by_cases z : v = 0
  · rw [if_pos z, z]
    rfl
  · rw [if_neg z]
    rfl
theorem g0_add {es t : Es} (h : (es.map (·.1)).Nodup) (n : Str) : g0 (addE t es) n = g0 t n + g0 es n := by
  unfold g0
  rw [look_add t n h]
  by_cases hin : n ∈ es.map (·.1)
  · rw [if_pos hin]
    rfl
  · rw [if_neg hin, g0_none hin]
    show _ = (t.lookup n).getD 0 + 0
    rw [Int.add_zero]
theorem g0_sum2 {es fs : Es} (h : (es.map (·.1)).Nodup) (g : (fs.map (·.1)).Nodup) (n : Str) : g0 (sumE [es, fs]) n = g0 es n + g0 fs n := by
  show g0 (addE (addE [] es) fs) n = _
  rw [g0_add g, g0_add h]
  show 0 + g0 es n + g0 fs n = _
  rw [Int.zero_add]
theorem mem_add {es t : Es} {n : Str} (h : (es.map (·.1)).Nodup) (hn : n ∈ (addE t es).map (·.1)) : n ∈ t.map (·.1) ∨ n ∈ es.map (·.1) := by
  have z := look_mem.mpr hn
  rw [look_add t n h] at z
  by_cases hin : n ∈ es.map (·.1)
  · exact .inr hin
  · rw [if_neg hin] at z
    exact .inl (look_mem.mp z)
/-- what a new Size of es holds -/
theorem size_of {C p dx D : Addr} {es R : Es} {H : Hp} (h1 : H p = some (.ins C dx [("_exponents", .ref D)])) (h2 : H D = some (.dK (kv R))) (sR : SdE R)
    (lR : ∀ n, R.lookup n = nzE es n) (zR : R.length ≤ es.length) (hl : es.length < 64) (hnm : ∀ q ∈ es, isNm q.1 = true) : SizeAt C H p R := by
  have at_ : ∀ q ∈ R, R.lookup q.1 = some q.2 := fun q hq => by
    obtain ⟨i, hi, e⟩ := List.getElem_of_mem hq
    have z := val_at sR.nodup hi
    rw [val_kv, e] at z
    cases e2 : R.lookup q.1 with
    | none =>
      rw [e2] at z
      cases z
    | some v =>
      rw [e2] at z
      injection z with z
      injection z with z
      rw [z]
  refine ⟨dx, D, h1, h2, sR, fun q hq e => ?_, fun q hq => ?_, by omega⟩
  · have z := at_ q hq
    rw [lR, nz_cz] at z
    unfold cz at z
    by_cases h0 : g0 es q.1 = 0
    · rw [if_pos h0] at z
      cases z
    · rw [if_neg h0] at z
      injection z with z
      exact h0 (z.trans e)
  · have z := at_ q hq
    rw [lR] at z
    have hin : q.1 ∈ es.map (·.1) := by
      unfold nzE at z
      cases e : es.lookup q.1 with
      | none =>
        rw [e] at z
        cases z
      | some v => exact look_mem.mp (by rw [e]; rfl)
    obtain ⟨r, hr, e⟩ := List.mem_map.mp hin
    rw [← e]
    exact hnm r hr

abbrev sNames : Stmt := inClass sSize 7
abbrev sExpo : Stmt := inClass sSize 8
abbrev sMul : Stmt := inClass sSize 14
abbrev sLen : Stmt := inClass sSize 16
def spNames (C : Addr) : Sp := fun vs H Q _ => ∃ (p : Addr) (es : Es), vs = [.ref p] ∧ SizeAt C H p es ∧ ∀ l, H l = none → Q (.ref l) (upd H l (.lst (es.map fun q => V.str q.1)))
def spExpo (C : Addr) : Sp := fun vs H Q _ => ∃ (p : Addr) (es : Es), vs = [.ref p] ∧ SizeAt C H p es ∧ ∀ l, H l = none → Q (.ref l) (upd H l (.dK (kv es)))
def spLen (C : Addr) : Sp := fun vs H Q _ => ∃ (p : Addr) (es : Es), vs = [.ref p] ∧ SizeAt C H p es ∧ Q (.int es.length) H
/-- r is new, and what it holds -/
def Nw (C : Addr) (H H' : Hp) (r : Addr) : Prop := ∃ dx D, H' r = some (.ins C dx [("_exponents", .ref D)]) ∧ H r = none ∧ H D = none
theorem none_pre {H H' : Hp} (S : Same H H') {a : Addr} (n : H' a = none) : H a = none := by
  cases e : H a with
  | none => rfl
  | some o =>
    have z := S _ _ e
    rw [n] at z
    cases z
theorem Nw.pre {C r : Addr} {H0 H H' : Hp} (S : Same H0 H) (h : Nw C H H' r) : Nw C H0 H' r := by
  obtain ⟨dx, D, e, n1, n2⟩ := h
  exact ⟨dx, D, e, none_pre S n1, none_pre S n2⟩
theorem Nw.post {C r : Addr} {H H' H'' : Hp} (h : Nw C H H' r) (S : Same H' H'') : Nw C H H'' r := by
  obtain ⟨dx, D, e, n1, n2⟩ := h
  exact ⟨dx, D, S _ _ e, n1, n2⟩
def spMul (C : Addr) : Sp := fun vs H Q _ => ∃ (p q : Addr) (es fs : Es), vs = [.ref p, .ref q] ∧ SizeAt C H p es ∧ SizeAt C H q fs ∧ es.length + fs.length < 64 ∧
  ∀ H' r rs, Same H H' → SizeAt C H' r rs → Nw C H H' r → (∀ n, rs.lookup n = cz (g0 es n + g0 fs n)) → Q (.ref r) H'
theorem SizeAt.same {C p : Addr} {es : Es} {H H' : Hp} (h : SizeAt C H p es) (S : Same H H') : SizeAt C H' p es := by
  obtain ⟨dx, D, h1, h2, h3⟩ := h
  exact ⟨dx, D, S _ _ h1, S _ _ h2, h3⟩
structure Nt (mg : Str → Option Value) : Prop where
  list : mg "list" = none
  dict : mg "dict" = none
  len : mg "len" = none
section
variable {P : Program} {w : World} {K : PySem.W.Frag} {mg : Str → Option Value} {base : Heap} {C : Addr}
theorem scNames : FnScope ["self"] ["self"] (defScope sNames) :=
  ⟨rfl, rfl, rfl, by decide +kernel, rfl, by decide +kernel, by decide +kernel⟩
theorem ok_names {f : Addr} {fd : FuncData} (F : Fun K "names" "Size.names" sNames f fd) (T : Nt mg) (Tc : Ck K mg C) : FnOk P w K mg base CX0 1 f fd ["self"] (spNames C) := by
  refine F.ok scNames (fun vs H Q E h => ?_) (fun cdv A outer s H vs Q E hr h => ?_)
  · obtain ⟨p, es, rfl, _⟩ := h
    rfl
  · obtain ⟨p, es, rfl, ⟨dx, D, h1, h2, _⟩, q⟩ := h
    refine ⟨_, pss_one (ps_ret (pe_callTy (call_listD rfl) (by rfl) T.list (by decide +kernel) (pa_cons (pe_fld (pv 0) rfl) pa_nil))), ?_⟩
    refine ⟨_, rfl, p, C, dx, _, _, rfl, h1, Tc.cl, Tc.nE, rfl, D, _, rfl, .inl h2, fun l nl => ?_⟩
    have z := q l nl
    have e : (kv es).map (fun kv => kV kv.1) = es.map fun q => V.str q.1 := by
      unfold kv
      rw [List.map_map]
      rfl
    rw [e]
    exact z
theorem scExpo : FnScope ["self"] ["self"] (defScope sExpo) :=
  ⟨rfl, rfl, rfl, by decide +kernel, rfl, by decide +kernel, by decide +kernel⟩
theorem ok_expo {f : Addr} {fd : FuncData} (F : Fun K "exponents" "Size.exponents" sExpo f fd) (T : Nt mg) (Tc : Ck K mg C) : FnOk P w K mg base CX0 1 f fd ["self"] (spExpo C) := by
  refine F.ok scExpo (fun vs H Q E h => ?_) (fun cdv A outer s H vs Q E hr h => ?_)
  · obtain ⟨p, es, rfl, _⟩ := h
    rfl
  · obtain ⟨p, es, rfl, ⟨dx, D, h1, h2, _⟩, q⟩ := h
    refine ⟨_, pss_one (ps_ret (pe_callTy call_dictD (by rfl) T.dict (by decide +kernel) (pa_cons (pe_fld (pv 0) rfl) pa_nil))), ?_⟩
    exact ⟨_, rfl, p, C, dx, _, _, rfl, h1, Tc.cl, Tc.nE, rfl, D, _, rfl, .inl h2, q⟩
theorem scLen : FnScope ["self"] ["self"] (defScope sLen) :=
  ⟨rfl, rfl, rfl, by decide +kernel, rfl, by decide +kernel, by decide +kernel⟩
theorem ok_len {f : Addr} {fd : FuncData} (F : Fun K "__len__" "Size.__len__" sLen f fd) (T : Nt mg) (Tc : Ck K mg C) : FnOk P w K mg base CX0 1 f fd ["self"] (spLen C) := by
  refine F.ok scLen (fun vs H Q E h => ?_) (fun cdv A outer s H vs Q E hr h => ?_)
  · obtain ⟨p, es, rfl, _⟩ := h
    rfl
  · obtain ⟨p, es, rfl, ⟨dx, D, h1, h2, _⟩, q⟩ := h
    refine ⟨_, pss_one (ps_ret (pe_callB call_lenD (by rfl) T.len PySem.boot_len (pa_cons (pe_fld (pv 0) rfl) pa_nil))), ?_⟩
    refine ⟨_, rfl, p, C, dx, _, _, rfl, h1, Tc.cl, Tc.nE, rfl, D, kv es, rfl, h2, ?_⟩
    rw [kv_len]
    exact q
end
end K12
set_option maxHeartbeats 8000000
namespace K12
open PySem PySem.Spec PyProof.Rows L2
section
variable {P : Program} {w : World} {K : PySem.W.Frag} {mg : Str → Option Value} {base : Heap} {C : Addr}
theorem scMul : FnScope ["self", "other"] ["self", "other"] (defScope sMul) :=
  ⟨rfl, rfl, rfl, by decide +kernel, rfl, by decide +kernel, by decide +kernel⟩
theorem ok_mul {f fC fI fX fA : Addr} {fd fdC fdI fdX fdA : FuncData} (F : Fun K "__mul__" "Size.__mul__" sMul f fd) (Tc : Ck K mg C)
    (GC : FnOk P w K mg base CX0 1 fC fdC ["value"] (spCheck C)) (kC : PySem.W.keepIn K (.ref fC) = true) (bC : Binds K fdC ["value"] []) (gC : mg "check_size" = some (.ref fC))
    (M : Mk K C fI) (GI : FnOk P w K mg base CX0 3 fI fdI ["self", "exponents"] (spInit C)) (bI : Binds K fdI ["self", "exponents"] [])
    (mX : Meth K C "exponents" fX) (GX : FnOk P w K mg base CX0 1 fX fdX ["self"] (spExpo C)) (bX : Binds K fdX ["self"] [])
    (GA : FnOk P w K mg base CX0 1 fA fdA ["tables"] (spAdded K)) (kA : PySem.W.keepIn K (.ref fA) = true) (bA : Binds K fdA ["tables"] []) (gA : mg "added" = some (.ref fA)) :
    FnOk P w K mg base CX0 5 f fd ["self", "other"] (spMul C) := by
  have GC4 := GC.mono (k := 4) (by decide)
  have GA4 := GA.mono (k := 4) (by decide)
  have GX4 := GX.mono (k := 4) (by decide)
  refine F.ok scMul (fun vs H Q E h => ?_) (fun cdv A outer s H vs Q E hr h => ?_)
  · obtain ⟨p, q, es, fs, rfl, _⟩ := h
    rfl
  · obtain ⟨p, q, es, fs, rfl, h1, h2, hl, k⟩ := h
    refine ⟨_, pss_cons (ps_expr (pe_call GC4 hr rfl gC kC bC .nil pass0 (pa_cons (pv 1) pa_nil)))
      (pss_one (ps_ret (pe_make M GI hr rfl Tc.gC bI .nil pass0 (pa_cons (pe_call GA4 hr rfl gA kA bA .nil pass0 (pa_cons (pe_lst (pa_cons (pe_fld (pv 0) rfl)
        (pa_cons (pe_meth0 (pv 1) Tc.cl mX GX4 hr bX .nil pass0) pa_nil))) pa_nil)) pa_nil)))), ?_⟩
    obtain ⟨dx, D, p1, p2, p3, p4, p5, p6⟩ := id h1
    obtain ⟨dy, D', q1, q2, q3, q4, q5, q6⟩ := id h2
    refine ⟨_, rfl, q, dy, _, rfl, q1, ?_⟩
    refine ⟨_, rfl, p, C, dx, _, _, rfl, p1, Tc.cl, Tc.nE, rfl, _, rfl, q, dy, _, rfl, q1, rfl, q, fs, rfl, h2, fun l nl => ?_⟩
    have S1 := fresh_upd (o := .dK (kv fs)) nl
    refine ⟨(by rw [sizeLine_eq]; show 2 ≤ 16777216; decide), fun a na => ?_⟩
    have S2 := fresh_upd (o := .lst [.ref D, .ref l]) na
    refine ⟨a, _, [es, fs], rfl, SqL.of upd_same, .cons (S2 _ _ (S1 _ _ p2)) p3.nodup (.cons (S2 _ _ upd_same) q3.nodup .nil), (by show 2 ≤ 1000; decide), ?_, fun H3 G R S3 nG hG sR lR zR => ?_⟩
    · show es.length + (fs.length + 0) < 64
      omega
    have hlen : R.length < 64 := by
      have z : R.length ≤ es.length + (fs.length + 0) := zR
      omega
    have gR : ∀ n, g0 R n = g0 es n + g0 fs n := fun n => by
      unfold g0
      rw [lR n]
      exact g0_sum2 p3.nodup q3.nodup n
    have nmR : ∀ q ∈ R, isNm q.1 = true := fun q hq => by
      have hin : q.1 ∈ R.map (·.1) := List.mem_map.mpr ⟨q, hq, rfl⟩
      have h3 : q.1 ∈ (sumE [es, fs]).map (·.1) := look_mem.mp (by rw [← lR]; exact look_mem.mpr hin)
      have h4 : q.1 ∈ (addE [] es).map (·.1) ∨ q.1 ∈ fs.map (·.1) := mem_add q3.nodup h3
      rcases h4 with h4 | h4
      · rcases mem_add p3.nodup h4 with h5 | h5
        · cases h5
        · obtain ⟨r, hr, e⟩ := List.mem_map.mp h5
          rw [← e]
          exact p5 r hr
      · obtain ⟨r, hr, e⟩ := List.mem_map.mp h4
        rw [← e]
        exact q5 r hr
    intro x ex nx ndx nex
    have Gx : G ≠ x := ne_of_none hG nx
    have Gex : G ≠ ex := ne_of_none hG ndx
    have Sx : Same H3 (upd (upd H3 ex (.own x)) x (.ins C ex [])) := fun b o e => by
      rw [upd_ne (ne_of_none e nx), upd_ne (ne_of_none e ndx)]
      exact e
    refine ⟨x, ex, .ref G, R, rfl, upd_same, .inr ⟨G, rfl, Gx, Sx _ _ hG⟩, sR.nodup, hlen, nmR, fun H4 D4 R4 S4 hx4 nD4 hD4 sR4 lR4 zR4 => ⟨rfl, ?_⟩⟩
    refine k H4 x R4 (fun b o e => ?_) (size_of hx4 hD4 sR4 lR4 zR4 hlen nmR) ⟨ex, D4, hx4, none_pre (S1.trans (S2.trans S3)) nx, none_pre (S1.trans (S2.trans (S3.trans Sx))) nD4⟩ fun n => by rw [lR4, nz_cz, gR]
    have e3 := S3 _ _ (S2 _ _ (S1 _ _ e))
    exact S4 b o (ne_of_none e3 nx) (Sx _ _ e3)
end
end K12
set_option maxHeartbeats 8000000
namespace K12
open PySem PySem.Spec PyProof.Rows L2

/-- Size(d), d a dict of names -/
theorem rd_make {C G : Addr} {R : Es} {H : Hp} {Q : VK} (hG : H G = some (.dK (kv R))) (hn : (R.map (·.1)).Nodup) (hl : R.length < 64) (nmR : ∀ q ∈ R, isNm q.1 = true)
    (k : ∀ H' r rs, Same H H' → SizeAt C H' r rs → Nw C H H' r → (∀ n, rs.lookup n = cz (g0 R n)) → Q (.ref r) H') :
    ∀ x dx, H x = none → H dx = none → dx ≠ x → spInit C (.ref x :: ([.ref G] ++ [])) (upd (upd H dx (.own x)) x (.ins C dx [])) (fun v H2 => v = .non ∧ Q (.ref x) H2) E0 := by
  intro x ex nx ndx nex
  have Gx : G ≠ x := ne_of_none hG nx
  have Sx : Same H (upd (upd H ex (.own x)) x (.ins C ex [])) := fun b o e => by
    rw [upd_ne (ne_of_none e nx), upd_ne (ne_of_none e ndx)]
    exact e
  refine ⟨x, ex, .ref G, R, rfl, upd_same, .inr ⟨G, rfl, Gx, Sx _ _ hG⟩, hn, hl, nmR, fun H4 D4 R4 S4 hx4 nD4 hD4 sR4 lR4 zR4 => ⟨rfl, ?_⟩⟩
  refine k H4 x R4 (fun b o e => S4 b o (ne_of_none e nx) (Sx _ _ e)) (size_of hx4 hD4 sR4 lR4 zR4 hl nmR) ⟨ex, D4, hx4, nx, none_pre Sx nD4⟩ fun n => by rw [lR4, nz_cz]
theorem mulE_keys (es : Es) (k : Int) : (mulE es k).map (·.1) = es.map (·.1) := by
  unfold mulE
  rw [List.map_map]
  rfl
theorem mulE_nm {es : Es} {k : Int} (h : ∀ q ∈ es, isNm q.1 = true) : ∀ q ∈ mulE es k, isNm q.1 = true := fun q hq => by
  unfold mulE at hq
  obtain ⟨p, hp, rfl⟩ := List.mem_map.mp hq
  exact h p hp
theorem mulE_g0 (k : Int) (n : Str) : ∀ es : Es, g0 (mulE es k) n = g0 es n * k
  | [] => by
    show (0 : Int) = 0 * k
    rw [Int.zero_mul]
  | (m, i) :: r => by
    have ih := mulE_g0 k n r
    unfold g0 at ih ⊢
    show (List.lookup n ((m, i * k) :: mulE r k)).getD 0 = _
    by_cases h : n = m
    · subst h
      rw [List.lookup_cons_self, List.lookup_cons_self]
      rfl
    · have e : (n == m) = false := by simpa using h
      rw [List.lookup_cons, List.lookup_cons, e]
      exact ih
theorem mulE_len (es : Es) (k : Int) : (mulE es k).length = es.length := by
  unfold mulE
  rw [List.length_map]
/-- the names of a sum of two -/
theorem nm_sum2 {es fs R : Es} (p3 : (es.map (·.1)).Nodup) (q3 : (fs.map (·.1)).Nodup) (p5 : ∀ q ∈ es, isNm q.1 = true) (q5 : ∀ q ∈ fs, isNm q.1 = true)
    (lR : ∀ n, R.lookup n = (sumE [es, fs]).lookup n) : ∀ q ∈ R, isNm q.1 = true := fun q hq => by
  have hin : q.1 ∈ R.map (·.1) := List.mem_map.mpr ⟨q, hq, rfl⟩
  have h3 : q.1 ∈ (sumE [es, fs]).map (·.1) := look_mem.mp (by rw [← lR]; exact look_mem.mpr hin)
  have h4 : q.1 ∈ (addE [] es).map (·.1) ∨ q.1 ∈ fs.map (·.1) := mem_add q3 h3
  rcases h4 with h4 | h4
  · rcases mem_add p3 h4 with h5 | h5
    · cases h5
    · obtain ⟨r, hr, e⟩ := List.mem_map.mp h5
      rw [← e]
      exact p5 r hr
  · obtain ⟨r, hr, e⟩ := List.mem_map.mp h4
    rw [← e]
    exact q5 r hr

abbrev sOver : Stmt := inClass sSize 10
abbrev sPower : Stmt := inClass sSize 11
def spOver (C : Addr) : Sp := fun vs H Q _ => ∃ (p q : Addr) (es fs : Es), vs = [.ref p, .ref q] ∧ SizeAt C H p es ∧ SizeAt C H q fs ∧ es.length + fs.length < 64 ∧
  ∀ H' r rs, Same H H' → SizeAt C H' r rs → Nw C H H' r → (∀ n, rs.lookup n = cz (g0 es n - g0 fs n)) → Q (.ref r) H'
def spPower (C : Addr) : Sp := fun vs H Q _ => ∃ (p : Addr) (es : Es) (m : Int), vs = [.ref p, .int m] ∧ SizeAt C H p es ∧ 0 ≤ m ∧ m < 2 ^ 64 ∧
  ∀ H' r rs, Same H H' → SizeAt C H' r rs → Nw C H H' r → (∀ n, rs.lookup n = cz (g0 es n * m)) → Q (.ref r) H'
section
variable {P : Program} {w : World} {K : PySem.W.Frag} {mg : Str → Option Value} {base : Heap} {C : Addr}
theorem scOver : FnScope ["self", "other"] ["self", "other"] (defScope sOver) :=
  ⟨rfl, rfl, rfl, by decide +kernel, rfl, by decide +kernel, by decide +kernel⟩
theorem ok_over {f fC fI fX fA fT : Addr} {fd fdC fdI fdX fdA fdT : FuncData} (F : Fun K "over" "Size.over" sOver f fd) (Tc : Ck K mg C)
    (GC : FnOk P w K mg base CX0 1 fC fdC ["value"] (spCheck C)) (kC : PySem.W.keepIn K (.ref fC) = true) (bC : Binds K fdC ["value"] []) (gC : mg "check_size" = some (.ref fC))
    (M : Mk K C fI) (GI : FnOk P w K mg base CX0 3 fI fdI ["self", "exponents"] (spInit C)) (bI : Binds K fdI ["self", "exponents"] [])
    (mX : Meth K C "exponents" fX) (GX : FnOk P w K mg base CX0 1 fX fdX ["self"] (spExpo C)) (bX : Binds K fdX ["self"] [])
    (GT : FnOk P w K mg base CX0 1 fT fdT ["table", "factor"] spTimes) (kT : PySem.W.keepIn K (.ref fT) = true) (bT : Binds K fdT ["table", "factor"] []) (gT : mg "_times" = some (.ref fT))
    (GA : FnOk P w K mg base CX0 1 fA fdA ["tables"] (spAdded K)) (kA : PySem.W.keepIn K (.ref fA) = true) (bA : Binds K fdA ["tables"] []) (gA : mg "added" = some (.ref fA)) :
    FnOk P w K mg base CX0 5 f fd ["self", "other"] (spOver C) := by
  have GC4 := GC.mono (k := 4) (by decide)
  have GA4 := GA.mono (k := 4) (by decide)
  have GX4 := GX.mono (k := 4) (by decide)
  have GT4 := GT.mono (k := 4) (by decide)
  refine F.ok scOver (fun vs H Q E h => ?_) (fun cdv A outer s H vs Q E hr h => ?_)
  · obtain ⟨p, q, es, fs, rfl, _⟩ := h
    rfl
  · obtain ⟨p, q, es, fs, rfl, h1, h2, hl, k⟩ := h
    refine ⟨_, pss_cons (ps_expr (pe_call GC4 hr rfl gC kC bC .nil pass0 (pa_cons (pv 1) pa_nil)))
      (pss_one (ps_ret (pe_make M GI hr rfl Tc.gC bI .nil pass0 (pa_cons (pe_call GA4 hr rfl gA kA bA .nil pass0 (pa_cons (pe_lst (pa_cons (pe_fld (pv 0) rfl)
        (pa_cons (pe_call GT4 hr rfl gT kT bT .nil pass0 (pa_cons (pe_meth0 (pv 1) Tc.cl mX GX4 hr bX .nil pass0) (pa_cons (pe_un un_neg pe_int) pa_nil))) pa_nil))) pa_nil)) pa_nil)))), ?_⟩
    obtain ⟨dx, D, p1, p2, p3, p4, p5, p6⟩ := id h1
    obtain ⟨dy, D', q1, q2, q3, q4, q5, q6⟩ := id h2
    refine ⟨_, rfl, q, dy, _, rfl, q1, ?_⟩
    refine ⟨_, rfl, p, C, dx, _, _, rfl, p1, Tc.cl, Tc.nE, rfl, _, rfl, q, dy, _, rfl, q1, rfl, q, fs, rfl, h2, fun l nl => ?_⟩
    have S1 := fresh_upd (o := .dK (kv fs)) nl
    refine ⟨_, rfl, l, fs, -1, rfl, upd_same, q3.nodup, by omega, by decide, by decide, fun H2 L S2 nL hL => ?_⟩
    refine ⟨by rw [sizeLine_eq]; show 2 ≤ 16777216; decide, fun a na => ?_⟩
    have S3 := fresh_upd (o := .lst [.ref D, .ref L]) na
    have m3 : ((mulE fs (-1)).map (·.1)).Nodup := by rw [mulE_keys]; exact q3.nodup
    refine ⟨a, _, [es, mulE fs (-1)], rfl, SqL.of upd_same, .cons (S3 _ _ (S2 _ _ (S1 _ _ p2))) p3.nodup (.cons (S3 _ _ hL) m3 .nil), (by show 2 ≤ 1000; decide), ?_, fun H4 G R S4 nG hG sR lR zR => ?_⟩
    · show es.length + ((mulE fs (-1)).length + 0) < 64
      rw [mulE_len]
      omega
    have hlen : R.length < 64 := by
      have z : R.length ≤ es.length + ((mulE fs (-1)).length + 0) := zR
      rw [mulE_len] at z
      omega
    refine rd_make hG sR.nodup hlen (nm_sum2 p3.nodup m3 p5 (mulE_nm q5) lR) fun H' r rs S5 sz nw ls => k H' r rs (S1.trans (S2.trans (S3.trans (S4.trans S5)))) sz (nw.pre (S1.trans (S2.trans (S3.trans S4)))) fun n => ?_
    have gR : g0 R n = g0 es n - g0 fs n := by
      have z : g0 R n = g0 (sumE [es, mulE fs (-1)]) n := by
        unfold g0
        rw [lR n]
      rw [z, g0_sum2 p3.nodup m3, mulE_g0]
      omega
    rw [ls, gR]
theorem scPower : FnScope ["self", "count"] ["self", "count"] (defScope sPower) :=
  ⟨rfl, rfl, rfl, by decide +kernel, rfl, by decide +kernel, by decide +kernel⟩
theorem ok_power {f fC fI fT : Addr} {fd fdC fdI fdT : FuncData} (F : Fun K "power" "Size.power" sPower f fd) (Tc : Ck K mg C)
    (GC : FnOk P w K mg base CX0 2 fC fdC ["value"] spIsCount) (kC : PySem.W.keepIn K (.ref fC) = true) (bC : Binds K fdC ["value"] []) (gC : mg "is_count" = some (.ref fC))
    (M : Mk K C fI) (GI : FnOk P w K mg base CX0 3 fI fdI ["self", "exponents"] (spInit C)) (bI : Binds K fdI ["self", "exponents"] [])
    (GT : FnOk P w K mg base CX0 1 fT fdT ["table", "factor"] spTimes) (kT : PySem.W.keepIn K (.ref fT) = true) (bT : Binds K fdT ["table", "factor"] []) (gT : mg "_times" = some (.ref fT)) :
    FnOk P w K mg base CX0 5 f fd ["self", "count"] (spPower C) := by
  have GC4 := GC.mono (k := 4) (by decide)
  have GT4 := GT.mono (k := 4) (by decide)
  refine F.ok scPower (fun vs H Q E h => ?_) (fun cdv A outer s H vs Q E hr h => ?_)
  · obtain ⟨p, es, m, rfl, _⟩ := h
    rfl
  · obtain ⟨p, es, m, rfl, h1, hm, hm2, k⟩ := h
    refine ⟨_, pss_cons (ps_if (pt_not (pt_val (pe_call GC4 hr rfl gC kC bC .nil pass0 (pa_cons (pv 1) pa_nil)))) (pss_one ps_no) pss_nil)
      (pss_one (ps_ret (pe_make M GI hr rfl Tc.gC bI .nil pass0 (pa_cons (pe_call GT4 hr rfl gT kT bT .nil pass0 (pa_cons (pe_fld (pv 0) rfl) (pa_cons (pv 1) pa_nil))) pa_nil)))), ?_⟩
    obtain ⟨dx, D, p1, p2, p3, p4, p5, p6⟩ := id h1
    refine ⟨_, rfl, m, rfl, _, rfl, ?_⟩
    rw [decide_eq_true hm]
    refine iteF ?_
    refine ⟨_, rfl, p, C, dx, _, _, rfl, p1, Tc.cl, Tc.nE, rfl, _, rfl, D, es, m, rfl, p2, p3.nodup, by omega, by omega, hm2, fun H2 L S2 nL hL => ?_⟩
    refine rd_make hL (by rw [mulE_keys]; exact p3.nodup) (by rw [mulE_len]; exact p6) (mulE_nm p5) fun H' r rs S5 sz nw ls => k H' r rs (S2.trans S5) sz (nw.pre S2) fun n => ?_
    rw [ls, mulE_g0]
end
end K12
set_option maxHeartbeats 8000000
namespace K12
open PySem

/-! ### numbers by coprime bases -/
/-- products of members -/
inductive G (l : List Nat) : Nat → Prop
  | one : G l 1
  | mul {x n : Nat} : x ∈ l → G l n → G l (x * n)
theorem G.mulG {l : List Nat} {m n : Nat} (h : G l m) (k : G l n) : G l (m * n) := by
  induction h with
  | one => rw [Nat.one_mul]; exact k
  | mul hx _ ih => rw [Nat.mul_assoc]; exact .mul hx ih
theorem G.mem {l : List Nat} {x : Nat} (h : x ∈ l) : G l x := by
  have z := G.mul h (G.one (l := l))
  rw [Nat.mul_one] at z
  exact z
theorem G.trans {l m : List Nat} {n : Nat} (h : G l n) (k : ∀ x ∈ l, G m x) : G m n := by
  induction h with
  | one => exact .one
  | mul hx _ ih => exact (k _ hx).mulG ih
def Cop (bs : List Nat) : Prop := bs.Pairwise Nat.Coprime ∧ ∀ b ∈ bs, 1 < b
theorem not_cop_self {b : Nat} (h : 1 < b) : ¬ Nat.Coprime b b := fun z => by
  unfold Nat.Coprime at z
  rw [Nat.gcd_self] at z
  omega
theorem Cop.nodup {bs : List Nat} (h : Cop bs) : bs.Nodup := by
  obtain ⟨h1, h2⟩ := h
  induction h1 with
  | nil => exact List.Pairwise.nil
  | @cons a l ha _ ih =>
    refine List.Pairwise.cons (fun b hb e => ?_) (ih fun b hb => h2 b (List.mem_cons_of_mem _ hb))
    have z := ha b hb
    rw [← e] at z
    exact not_cop_self (h2 a (List.mem_cons_self ..)) z
def pw (f : Nat → Nat) : List Nat → Nat
  | [] => 1
  | b :: r => b ^ f b * pw f r
theorem pw_congr {f g : Nat → Nat} : ∀ {bs : List Nat}, (∀ b ∈ bs, f b = g b) → pw f bs = pw g bs
  | [], _ => rfl
  | b :: r, h => by
    show b ^ f b * pw f r = b ^ g b * pw g r
    rw [h b (List.mem_cons_self ..), pw_congr fun c hc => h c (List.mem_cons_of_mem _ hc)]
theorem pw_zero : ∀ bs : List Nat, pw (fun _ => 0) bs = 1
  | [] => rfl
  | b :: r => by
    show b ^ 0 * pw (fun _ => 0) r = 1
    rw [pw_zero r, Nat.pow_zero]
theorem pw_add (f g : Nat → Nat) : ∀ bs : List Nat, pw (fun b => f b + g b) bs = pw f bs * pw g bs
  | [] => rfl
  | b :: r => by
    show b ^ (f b + g b) * pw (fun b => f b + g b) r = b ^ f b * pw f r * (b ^ g b * pw g r)
    rw [pw_add f g r, Nat.pow_add, Nat.mul_mul_mul_comm]
theorem pw_mul (k : Nat) (f : Nat → Nat) : ∀ bs : List Nat, pw (fun b => k * f b) bs = pw f bs ^ k
  | [] => by
    show 1 = 1 ^ k
    rw [Nat.one_pow]
  | b :: r => by
    show b ^ (k * f b) * pw (fun b => k * f b) r = (b ^ f b * pw f r) ^ k
    rw [pw_mul k f r, Nat.mul_pow, ← Nat.pow_mul, Nat.mul_comm k]
theorem pw_one {x : Nat} : ∀ {bs : List Nat}, bs.Nodup → x ∈ bs → pw (fun b => if b = x then 1 else 0) bs = x
  | [], _, h => by cases h
  | b :: r, hn, h => by
    obtain ⟨n1, n2⟩ := List.pairwise_cons.mp hn
    show b ^ (if b = x then 1 else 0) * pw (fun b => if b = x then 1 else 0) r = x
    by_cases e : b = x
    · rw [if_pos e, Nat.pow_one, pw_congr (g := fun _ => 0) (fun c hc => if_neg fun z => n1 c hc (by rw [e, z])), pw_zero, Nat.mul_one, e]
    · rw [if_neg e, Nat.pow_zero, Nat.one_mul]
      rcases List.mem_cons.mp h with z | z
      · exact absurd z.symm e
      · exact pw_one n2 z
theorem G.pw {bs : List Nat} {n : Nat} (h : G bs n) (hn : bs.Nodup) : ∃ f, n = K12.pw f bs := by
  induction h with
  | one => exact ⟨fun _ => 0, (pw_zero bs).symm⟩
  | @mul x m hx _ ih =>
    obtain ⟨f, rfl⟩ := ih
    exact ⟨fun b => (if b = x then 1 else 0) + f b, by rw [pw_add, pw_one hn hx]⟩
theorem cop_pw {c : Nat} (f : Nat → Nat) : ∀ {bs : List Nat}, (∀ b ∈ bs, Nat.Coprime c b) → Nat.Coprime c (pw f bs)
  | [], _ => Nat.coprime_one_right c
  | b :: r, h => Nat.Coprime.mul_right (Nat.Coprime.pow_right _ (h b (List.mem_cons_self ..))) (cop_pw f fun d hd => h d (List.mem_cons_of_mem _ hd))
/-- a base's own part -/
theorem pw_split {b : Nat} (f : Nat → Nat) : ∀ {bs : List Nat}, Cop bs → b ∈ bs → ∃ r, pw f bs = b ^ f b * r ∧ Nat.Coprime b r
  | [], _, h => by cases h
  | c :: r, hc, h => by
    obtain ⟨h1, h2⟩ := hc
    obtain ⟨n1, n2⟩ := List.pairwise_cons.mp h1
    have hr : Cop r := ⟨n2, fun d hd => h2 d (List.mem_cons_of_mem _ hd)⟩
    by_cases e : b = c
    · subst e
      exact ⟨pw f r, rfl, cop_pw f n1⟩
    · have hb : b ∈ r := by
        rcases List.mem_cons.mp h with z | z
        · exact absurd z e
        · exact z
      obtain ⟨q, e2, hq⟩ := pw_split f hr hb
      refine ⟨c ^ f c * q, ?_, Nat.Coprime.mul_right (Nat.Coprime.pow_right _ (n1 b hb).symm) hq⟩
      show c ^ f c * pw f r = _
      rw [e2, Nat.mul_left_comm]
/-- below divides above just if it does so base by base -/
theorem pw_dvd {f g : Nat → Nat} {bs : List Nat} (hc : Cop bs) : pw f bs ∣ pw g bs ↔ ∀ b ∈ bs, f b ≤ g b := by
  constructor
  · intro h b hb
    obtain ⟨r, e1, h1⟩ := pw_split f hc hb
    obtain ⟨q, e2, h2⟩ := pw_split g hc hb
    have h3 : b ^ f b ∣ b ^ g b * q := by
      rw [← e2]
      exact Nat.dvd_trans ⟨r, e1⟩ h
    have h4 : b ^ f b ∣ b ^ g b := (Nat.Coprime.pow_left _ h2).dvd_of_dvd_mul_right h3
    exact (Nat.pow_dvd_pow_iff_le_right (hc.2 b hb)).mp h4
  · intro h
    refine ⟨pw (fun b => g b - f b) bs, ?_⟩
    rw [← pw_add]
    exact pw_congr fun b hb => by have := h b hb; omega
theorem pw_pos {f : Nat → Nat} : ∀ {bs : List Nat}, (∀ b ∈ bs, 1 < b) → 0 < pw f bs
  | [], _ => Nat.one_pos
  | b :: r, h => Nat.mul_pos (Nat.pow_pos (by have := h b (List.mem_cons_self ..); omega)) (pw_pos fun c hc => h c (List.mem_cons_of_mem _ hc))
end K12
set_option maxHeartbeats 8000000
namespace K12
open PySem

/-- how often b goes into n -/
def IsOrd (n b k : Nat) : Prop := ∃ r, n = b ^ k * r ∧ ¬ b ∣ r
theorem IsOrd.zero {n b : Nat} (h : ¬ b ∣ n) : IsOrd n b 0 := ⟨n, by rw [Nat.pow_zero, Nat.one_mul], h⟩
theorem IsOrd.succ {n b k : Nat} (h : b ∣ n) (hk : IsOrd (n / b) b k) : IsOrd n b (k + 1) := by
  obtain ⟨r, e, hr⟩ := hk
  refine ⟨r, ?_, hr⟩
  rw [Nat.pow_succ', Nat.mul_assoc, ← e, Nat.mul_div_cancel' h]
theorem IsOrd.le {b k j r s : Nat} (hb : 1 < b) (e : b ^ k * r = b ^ j * s) (hr : ¬ b ∣ r) : j ≤ k := by
  refine Nat.le_of_not_lt fun h => hr ?_
  obtain ⟨d, rfl⟩ := Nat.exists_eq_add_of_lt h
  have e2 : b ^ k * r = b ^ k * (b * (b ^ d * s)) := by
    rw [e, Nat.add_right_comm, show k + 1 + d = k + (d + 1) by omega, Nat.pow_add, Nat.pow_succ', Nat.mul_assoc, Nat.mul_assoc]
  exact ⟨_, Nat.eq_of_mul_eq_mul_left (Nat.pow_pos (by omega)) e2⟩
theorem IsOrd.one {n b k j : Nat} (hb : 1 < b) (h : IsOrd n b k) (g : IsOrd n b j) : k = j := by
  obtain ⟨r, e1, hr⟩ := h
  obtain ⟨s, e2, hs⟩ := g
  exact Nat.le_antisymm (IsOrd.le hb (e2.symm.trans e1) hs) (IsOrd.le hb (e1.symm.trans e2) hr)
theorem ord_pw {f : Nat → Nat} {bs : List Nat} {b k : Nat} (hc : Cop bs) (hb : b ∈ bs) (h : IsOrd (pw f bs) b k) : k = f b := by
  obtain ⟨r, e, hr⟩ := pw_split f hc hb
  have h1 := hc.2 b hb
  refine IsOrd.one h1 h ⟨r, e, fun z => ?_⟩
  have z2 := Nat.Coprime.eq_one_of_dvd hr z
  omega
/-- a number that the bases make is the product of their powers, by these orders -/
theorem G.by_ord {bs : List Nat} {n : Nat} (h : G bs n) (hc : Cop bs) {f : Nat → Nat} (hf : ∀ b ∈ bs, IsOrd n b (f b)) : n = K12.pw f bs := by
  obtain ⟨g, rfl⟩ := h.pw hc.nodup
  exact pw_congr fun b hb => (ord_pw hc hb (hf b hb)).symm

/-! ### the bases, refined -/
def pr : List Nat → Nat
  | [] => 1
  | x :: r => x * pr r
theorem pr_app : ∀ a b : List Nat, pr (a ++ b) = pr a * pr b
  | [], b => (Nat.one_mul _).symm
  | x :: r, b => by
    show x * pr (r ++ b) = x * pr r * pr b
    rw [pr_app r b, Nat.mul_assoc]
theorem pr_pos : ∀ {a : List Nat}, (∀ x ∈ a, 0 < x) → 0 < pr a
  | [], _ => Nat.one_pos
  | x :: r, h => Nat.mul_pos (h x (List.mem_cons_self ..)) (pr_pos fun y hy => h y (List.mem_cons_of_mem _ hy))
structure Rf (ts found pending : List Nat) : Prop where
  cop : Cop found
  pos : ∀ p ∈ pending, 0 < p
  gen : ∀ x ∈ ts, G (found ++ pending) x
def mu (found pending : List Nat) : Nat := 3 * (pr found * pr pending) + pending.length
theorem Rf.fpos {ts found pending : List Nat} (h : Rf ts found pending) : ∀ x ∈ found, 0 < x := fun x hx => by
  have := h.cop.2 x hx
  omega
/-- a part that shares nothing -/
theorem Rf.add {ts found ps : List Nat} {p : Nat} (h : Rf ts found (ps ++ [p])) (hs : ∀ b ∈ found, Nat.gcd b p ≤ 1) (h1 : 1 < p) : Rf ts (found ++ [p]) ps ∧ mu (found ++ [p]) ps < mu found (ps ++ [p]) := by
  refine ⟨⟨⟨?_, fun b hb => ?_⟩, fun x hx => h.pos x (List.mem_append_left _ hx), fun x hx => (h.gen x hx).trans fun y hy => .mem ?_⟩, ?_⟩
  · refine List.pairwise_append.mpr ⟨h.cop.1, List.pairwise_singleton .., fun a ha b hb => ?_⟩
    rw [List.mem_singleton.mp hb]
    have h2 := hs a ha
    have h3 := Nat.gcd_pos_of_pos_right a (show 0 < p by omega)
    show Nat.gcd a p = 1
    omega
  · rcases List.mem_append.mp hb with z | z
    · exact h.cop.2 b z
    · rw [List.mem_singleton.mp z]
      exact h1
  · rcases List.mem_append.mp hy with z | z
    · exact List.mem_append_left _ (List.mem_append_left _ z)
    · rcases List.mem_append.mp z with z | z
      · exact List.mem_append_right _ z
      · exact List.mem_append_left _ (List.mem_append_right _ z)
  · unfold mu
    rw [pr_app, pr_app, List.length_append]
    have e : pr found * pr [p] * pr ps = pr found * (pr ps * pr [p]) := by rw [Nat.mul_assoc, Nat.mul_comm (pr [p])]
    rw [e]
    show _ < _ + (ps.length + 1)
    omega
theorem Rf.drop {ts found ps : List Nat} {p : Nat} (h : Rf ts found (ps ++ [p])) (h1 : ¬ 1 < p) : Rf ts found ps ∧ mu found ps < mu found (ps ++ [p]) := by
  have e1 : p = 1 := by
    have := h.pos p (List.mem_append_right _ (List.mem_singleton.mpr rfl))
    omega
  subst e1
  refine ⟨⟨h.cop, fun x hx => h.pos x (List.mem_append_left _ hx), fun x hx => (h.gen x hx).trans fun y hy => ?_⟩, ?_⟩
  · rcases List.mem_append.mp hy with z | z
    · exact .mem (List.mem_append_left _ z)
    · rcases List.mem_append.mp z with z | z
      · exact .mem (List.mem_append_right _ z)
      · rw [List.mem_singleton.mp z]
        exact .one
  · unfold mu
    rw [pr_app, List.length_append]
    show 3 * (pr found * pr ps) + ps.length < 3 * (pr found * (pr ps * (1 * 1))) + (ps.length + 1)
    rw [Nat.mul_one]
    omega
theorem Rf.split {ts l1 l2 ps : List Nat} {b p : Nat} (h : Rf ts (l1 ++ b :: l2) (ps ++ [p])) (hs : 1 < Nat.gcd b p) :
    Rf ts (l1 ++ l2) (ps ++ [b / Nat.gcd b p, Nat.gcd b p, p / Nat.gcd b p]) ∧ mu (l1 ++ l2) (ps ++ [b / Nat.gcd b p, Nat.gcd b p, p / Nat.gcd b p]) < mu (l1 ++ b :: l2) (ps ++ [p]) := by
  have hb : 0 < b := h.fpos b (List.mem_append_right _ (List.mem_cons_self ..))
  have hp : 0 < p := h.pos p (List.mem_append_right _ (List.mem_singleton.mpr rfl))
  have d1 : Nat.gcd b p ∣ b := Nat.gcd_dvd_left b p
  have d2 : Nat.gcd b p ∣ p := Nat.gcd_dvd_right b p
  generalize Nat.gcd b p = c at hs d1 d2
  obtain ⟨x, rfl⟩ := d1
  obtain ⟨y, rfl⟩ := d2
  rw [Nat.mul_div_cancel_left x (by omega), Nat.mul_div_cancel_left y (by omega)]
  have hx : 0 < x := Nat.pos_of_mul_pos_left hb
  have hy : 0 < y := Nat.pos_of_mul_pos_left hp
  have hsub : (l1 ++ l2).Sublist (l1 ++ c * x :: l2) := List.Sublist.append_left (List.sublist_cons_self ..) l1
  refine ⟨⟨⟨List.Pairwise.sublist hsub h.cop.1, fun d hd => h.cop.2 d (hsub.subset hd)⟩, fun z hz => ?_, fun z hz => (h.gen z hz).trans fun w hw => ?_⟩, ?_⟩
  · rcases List.mem_append.mp hz with q | q
    · exact h.pos z (List.mem_append_left _ q)
    · simp only [List.mem_cons, List.not_mem_nil, or_false] at q
      rcases q with rfl | rfl | rfl <;> omega
  · have mem1 : ∀ v, v ∈ [x, c, y] → G (l1 ++ l2 ++ (ps ++ [x, c, y])) v := fun v hv => .mem (List.mem_append_right _ (List.mem_append_right _ hv))
    rcases List.mem_append.mp hw with q | q
    · rcases List.mem_append.mp q with q | q
      · exact .mem (List.mem_append_left _ (List.mem_append_left _ q))
      · rcases List.mem_cons.mp q with q | q
        · rw [q]
          exact (mem1 c (by simp)).mulG (mem1 x (by simp))
        · exact .mem (List.mem_append_left _ (List.mem_append_right _ q))
    · rcases List.mem_append.mp q with q | q
      · exact .mem (List.mem_append_right _ (List.mem_append_left _ q))
      · rw [List.mem_singleton.mp q]
        exact (mem1 c (by simp)).mulG (mem1 y (by simp))
  · unfold mu
    rw [pr_app, pr_app, pr_app, pr_app, List.length_append, List.length_append]
    show 3 * (pr l1 * pr l2 * (pr ps * (x * (c * (y * 1))))) + (ps.length + 3) < 3 * (pr l1 * (c * x * pr l2) * (pr ps * (c * y * 1))) + (ps.length + 1)
    have e1 : pr l1 * (c * x * pr l2) * (pr ps * (c * y * 1)) = c * (pr l1 * pr l2 * (pr ps * (x * (c * (y * 1))))) := by
      simp only [Nat.mul_one, Nat.mul_assoc, Nat.mul_left_comm, Nat.mul_comm]
    rw [e1]
    have hl : 0 < pr l1 * pr l2 * (pr ps * (x * (c * (y * 1)))) := by
      refine Nat.mul_pos (Nat.mul_pos (pr_pos fun d hd => h.fpos d (List.mem_append_left _ hd)) (pr_pos fun d hd => h.fpos d (List.mem_append_right _ (List.mem_cons_of_mem _ hd)))) (Nat.mul_pos (pr_pos fun d hd => h.pos d (List.mem_append_left _ hd)) ?_)
      exact Nat.mul_pos hx (Nat.mul_pos (by omega) (by omega))
    generalize pr l1 * pr l2 * (pr ps * (x * (c * (y * 1)))) = P at hl
    have h2 : 2 * P ≤ c * P := Nat.mul_le_mul_right P (by omega)
    omega
end K12
set_option maxHeartbeats 8000000
namespace K12
open PySem

/-! ### a size's value by orders -/
/-- exponents, each with the orders of its number -/
abbrev Ls : Type := List (Int × (Nat → Nat))
def upE : Ls → Nat → Nat
  | [], _ => 0
  | (e, f) :: r, b => (if 0 < e then e.toNat else 0) * f b + upE r b
def dnE : Ls → Nat → Nat
  | [], _ => 0
  | (e, f) :: r, b => (if e < 0 then (-e).toNat else 0) * f b + dnE r b
def sm : Ls → Nat → Int
  | [], _ => 0
  | (e, f) :: r, b => e * (f b : Nat) + sm r b
/-- the values above and below -/
def above (bs : List Nat) : Ls → Nat
  | [] => 1
  | (e, f) :: r => (if 0 < e then pw f bs ^ e.toNat else 1) * above bs r
def below (bs : List Nat) : Ls → Nat
  | [] => 1
  | (e, f) :: r => (if e < 0 then pw f bs ^ (-e).toNat else 1) * below bs r
theorem above_eq (bs : List Nat) : ∀ l : Ls, above bs l = pw (upE l) bs
  | [] => (pw_zero bs).symm
  | (e, f) :: r => by
    show (if 0 < e then pw f bs ^ e.toNat else 1) * above bs r = pw (fun b => (if 0 < e then e.toNat else 0) * f b + upE r b) bs
    rw [above_eq bs r, pw_add, pw_mul]
    split
    · rfl
    · rw [Nat.pow_zero]
theorem below_eq (bs : List Nat) : ∀ l : Ls, below bs l = pw (dnE l) bs
  | [] => (pw_zero bs).symm
  | (e, f) :: r => by
    show (if e < 0 then pw f bs ^ (-e).toNat else 1) * below bs r = pw (fun b => (if e < 0 then (-e).toNat else 0) * f b + dnE r b) bs
    rw [below_eq bs r, pw_add, pw_mul]
    split
    · rfl
    · rw [Nat.pow_zero]
theorem sm_eq (b : Nat) : ∀ l : Ls, sm l b = (upE l b : Int) - (dnE l b : Int)
  | [] => rfl
  | (e, f) :: r => by
    show e * (f b : Nat) + sm r b = (((if 0 < e then e.toNat else 0) * f b + upE r b : Nat) : Int) - (((if e < 0 then (-e).toNat else 0) * f b + dnE r b : Nat) : Int)
    rw [sm_eq b r]
    by_cases h1 : 0 < e
    · have h2 : ¬ e < 0 := by omega
      rw [if_pos h1, if_neg h2, Nat.zero_mul, Nat.zero_add]
      have e1 : ((e.toNat * f b + upE r b : Nat) : Int) = e * (f b : Nat) + (upE r b : Nat) := by
        rw [Int.natCast_add, Int.natCast_mul, Int.toNat_of_nonneg (by omega)]
      rw [e1]
      omega
    · by_cases h2 : e < 0
      · rw [if_neg h1, if_pos h2, Nat.zero_mul, Nat.zero_add]
        have e1 : (((-e).toNat * f b + dnE r b : Nat) : Int) = -e * (f b : Nat) + (dnE r b : Nat) := by
          rw [Int.natCast_add, Int.natCast_mul, Int.toNat_of_nonneg (by omega)]
        rw [e1, Int.neg_mul]
        omega
      · have : e = 0 := by omega
        subst this
        simp
theorem above_pos {bs : List Nat} (hc : Cop bs) (l : Ls) : 0 < above bs l := by
  rw [above_eq]
  exact pw_pos hc.2
theorem below_pos {bs : List Nat} (hc : Cop bs) (l : Ls) : 0 < below bs l := by
  rw [below_eq]
  exact pw_pos hc.2
/-- whole: all sums are at least 0, and the value is the product of the bases' powers -/
theorem value_whole {bs : List Nat} (l : Ls) (h : ∀ b ∈ bs, 0 ≤ sm l b) : above bs l = below bs l * pw (fun b => (sm l b).toNat) bs := by
  rw [above_eq, below_eq, ← pw_add]
  exact pw_congr fun b hb => by
    have h1 := h b hb
    rw [sm_eq] at h1 ⊢
    omega
theorem value_not {bs : List Nat} (hc : Cop bs) (l : Ls) {b : Nat} (hb : b ∈ bs) (h : sm l b < 0) : ¬ below bs l ∣ above bs l := fun z => by
  rw [above_eq, below_eq] at z
  have h1 := (pw_dvd hc).mp z b hb
  rw [sm_eq] at h
  omega
theorem value_dvd {bs : List Nat} (hc : Cop bs) (l : Ls) : below bs l ∣ above bs l ↔ ∀ b ∈ bs, 0 ≤ sm l b := by
  constructor
  · intro z b hb
    refine Int.not_lt.mp fun h => value_not hc l hb h z
  · intro h
    exact ⟨_, value_whole l h⟩
end K12
set_option maxHeartbeats 8000000
namespace K12
open PySem PySem.Spec PyProof.Rows L2

/-! ### order_in -/
abbrev sOrd : Stmt := top 22
def spOrd : Sp := fun vs H Q _ => ∃ n b : Nat, vs = [.int n, .int b] ∧ 0 < n ∧ 1 < b ∧ b < 1073741824 ∧ ∀ k : Nat, IsOrd n b k → Q (.int k) H
section
variable {P : Program} {w : World} {K : PySem.W.Frag} {mg : Str → Option Value} {base : Heap}
theorem scOrd : FnScope ["number", "base", "order"] ["number", "base"] (defScope sOrd) :=
  ⟨rfl, rfl, rfl, by decide +kernel, rfl, by decide +kernel, by decide +kernel⟩
theorem ok_ord {f : Addr} {fd : FuncData} (F : Fun K "order_in" "order_in" sOrd f fd) : FnOk P w K mg base CX0 1 f fd ["number", "base"] spOrd := by
  refine F.ok scOrd (fun vs H Q E h => ?_) (fun cdv A outer s H vs Q E hr h => ?_)
  · obtain ⟨n, b, rfl, _⟩ := h
    rfl
  · obtain ⟨n, b, rfl, n0, b1, b2, k⟩ := h
    refine ⟨_, pss_cons (ps_set (i := 2) scOrd.nd rfl (.inl rfl) pe_int)
      (pss_cons (ps_while PassesOwn.never (pt_cmpR op_eq (pe_op op_mod (pv 0) (pv 1)) pe_int (nomark _))
        (pss_cons (ps_set (i := 0) scOrd.nd rfl (.inl rfl) (pe_op op_fdiv (pv 0) (pv 1))) (pss_one (ps_set (i := 2) scOrd.nd rfl (.inl rfl) (pe_op op_add (pv 2) pe_int)))))
      (pss_one (ps_ret (pv 2)))), ?_⟩
    refine ⟨fun μ σ H2 => H2 = H ∧ ∃ m j : Nat, σ = [some (.int m), some (.int b), some (.int j)] ∧ 0 < m ∧ μ = m ∧ ∀ i, IsOrd m b i → IsOrd n b (j + i), ⟨n, rfl, n, 0, rfl, n0, rfl, fun i h => by rw [Nat.zero_add]; exact h⟩, ?_⟩
    rintro μ σ H2 ⟨rfl, m, j, rfl, m0, rfl, hj⟩
    refine ⟨_, rfl, _, rfl, _, _, rfl, rfl, (by show (0 : Int) < (b : Int); omega), ?_⟩
    refine ⟨rfl, _, rfl, ?_⟩
    have em : ((μ : Nat) : Int) % (b : Int) = ((μ % b : Nat) : Int) := by omega
    by_cases hd : b ∣ μ
    · have h0 : μ % b = 0 := Nat.mod_eq_zero_of_dvd hd
      refine iteT' (decide_eq_true (show V.int (((μ : Nat) : Int) % (b : Int)) = V.int 0 by rw [em, h0]; rfl)) ?_
      refine ⟨fun σ' H' => H' = H2 ∧ σ' = [some (.int ((μ / b : Nat) : Int)), some (.int b), some (.int ((j + 1 : Nat) : Int))], ?_, ?_⟩
      · rintro σ' H' ⟨rfl, rfl⟩
        refine ⟨μ / b, Nat.div_lt_self m0 b1, rfl, μ / b, j + 1, rfl, Nat.div_pos (Nat.le_of_dvd m0 hd) (by omega), rfl, fun i h => ?_⟩
        rw [Nat.add_assoc, Nat.add_comm 1]
        exact hj _ (.succ hd h)
      · refine ⟨_, rfl, _, rfl, _, _, rfl, rfl, ⟨by show (0 : Int) < (b : Int); omega, by show (b : Int) < 1073741824; omega⟩, ?_⟩
        refine ⟨_, rfl, _, _, rfl, rfl, rfl, ?_⟩
        have e1 : ((μ : Nat) : Int) / (b : Int) = ((μ / b : Nat) : Int) := by omega
        show [some (V.int (((μ : Nat) : Int) / (b : Int))), some (V.int b), some (V.int ((j : Nat) + 1))] = _
        rw [e1]
        rfl
    · have h0 : μ % b ≠ 0 := fun z => hd (Nat.dvd_of_mod_eq_zero z)
      refine iteN' (fun z => h0 (by have z2 : ((μ : Nat) : Int) % (b : Int) = 0 := V.int.inj z; omega)) ?_
      exact ⟨_, rfl, k j (hj 0 (.zero hd))⟩
end
end K12
set_option maxHeartbeats 8000000
namespace K12
open PySem PySem.Spec PyProof.Rows L2

/-! ### _sharing -/
abbrev sSha : Stmt := top 24
/-- the numbers of a list -/
def nv (bs : List Nat) : List V := bs.map fun (b : Nat) => V.int (Int.ofNat b)
def spSha : Sp := fun vs H Q _ => ∃ (l : Addr) (bs : List Nat) (p : Nat), vs = [.ref l, .int p] ∧ H l = some (.lst (nv bs)) ∧
  ((∀ b ∈ bs, Nat.gcd b p ≤ 1) → ∀ H', Same H H' → Q .non H') ∧ (∀ l1 b l2, bs = l1 ++ b :: l2 → (∀ c ∈ l1, Nat.gcd c p ≤ 1) → 1 < Nat.gcd b p → ∀ H', Same H H' → Q (.int (l1.length : Nat)) H')
section
variable {P : Program} {w : World} {K : PySem.W.Frag} {mg : Str → Option Value} {base : Heap}
def NSh : List Str := ["bases", "number", "at", "base"]
theorem scSha : FnScope NSh ["bases", "number"] (defScope sSha) :=
  ⟨rfl, rfl, rfl, by decide +kernel, rfl, by decide +kernel, by decide +kernel⟩
theorem ok_sha {f : Addr} {fd : FuncData} (F : Fun K "_sharing" "_sharing" sSha f fd) (eN : mg "enumerate" = none) (gG : mg "gcd" = some (.builtin "math.gcd")) : FnOk P w K mg base CX0 1 f fd ["bases", "number"] spSha := by
  refine F.ok scSha (fun vs H Q E h => ?_) (fun cdv A outer s H vs Q E hr h => ?_)
  · obtain ⟨l, bs, p, rfl, _⟩ := h
    rfl
  · obtain ⟨l, bs, p, rfl, hl, k0, k1⟩ := h
    refine ⟨_, pss_cons (ps_for PassesOwn.never rfl (pi_enum (by rfl) eN (pa_cons (pv 0) pa_nil)) (pg_tup rfl (pgs_cons (pg_name (i := 2) scSha.nd rfl (Or.inl rfl)) (pgs_cons (pg_name (i := 3) scSha.nd rfl (Or.inl rfl)) pgs_nil)))
        (pss_one (ps_if (pt_cmpR op_gt (pe_callBfun cr_gcd (by rfl) gG (pa_cons (pv 3) (pa_cons (pv 1) pa_nil))) pe_int (nomark _)) (pss_one (ps_ret (pv 2))) pss_nil)))
      (pss_one (ps_ret pe_non)), ?_⟩
    refine ⟨_, rfl, l, _, rfl, SqL.of hl, for_it (walk_enum (K := K) (a := l) (xs := nv bs)) (fun i σ H2 => (∃ o2 o3, σ = [some (.ref l), some (.int p), o2, o3]) ∧ Same H H2 ∧ ∀ c ∈ bs.take i, Nat.gcd c p ≤ 1)
      ⟨⟨none, none, rfl⟩, Same.refl H, fun c hc => by simp at hc⟩ (fun i σ H2 _ h => SqL.of (h.2.1 _ _ hl)) ?_ ?_⟩
    · rintro i v σ H2 H3 hi ⟨⟨o2, o3, rfl⟩, S2, hc⟩ ⟨T, y, z, rfl, nT, rfl, e1, e2⟩
      unfold nv at hi e2
      rw [List.length_map] at hi
      have ez : z = V.int (Int.ofNat bs[i]) := by
        dsimp only at e2
        rw [List.getElem?_map, List.getElem?_eq_getElem hi] at e2
        exact (Option.some.inj e2).symm
      have ey : y = V.int (i : Nat) := (Option.some.inj e1).symm
      subst ez
      subst ey
      have S3 : Same H2 (upd H2 T (.tup [V.int (i : Nat), V.int (Int.ofNat bs[i])])) := fresh_upd nT
      refine ⟨T, _, rfl, SqT.of upd_same, rfl, _, _, rfl, _, _, rfl, rfl, ?_⟩
      refine ⟨_, rfl, _, rfl, _, _, rfl, ?_⟩
      refine ⟨_, _, rfl, rfl, _, rfl, ?_⟩
      have eg : ((Int.ofNat bs[i]).natAbs).gcd ((p : Int).natAbs) = Nat.gcd bs[i] p := rfl
      rw [eg]
      refine ite2 (fun h => ?_) fun h => ?_
      · have h' : 1 < Nat.gcd bs[i] p := by
          have := of_decide_eq_true h
          omega
        refine ⟨_, rfl, ?_⟩
        have e3 : bs = bs.take i ++ bs[i] :: bs.drop (i + 1) := by
          rw [← List.drop_eq_getElem_cons hi, List.take_append_drop]
        have z := k1 (bs.take i) bs[i] (bs.drop (i + 1)) e3 hc h' _ (S2.trans S3)
        rw [List.length_take, Nat.min_eq_left (Nat.le_of_lt hi)] at z
        exact z
      · have h' : Nat.gcd bs[i] p ≤ 1 := by
          have := of_decide_eq_false (Bool.eq_false_iff.mpr h)
          omega
        refine ⟨⟨_, _, rfl⟩, S2.trans S3, fun c hc2 => ?_⟩
        rw [List.take_add_one, List.getElem?_eq_getElem hi] at hc2
        rcases List.mem_append.mp hc2 with q | q
        · exact hc c q
        · rw [List.mem_singleton.mp q]
          exact h'
    · rintro σ H2 ⟨⟨o2, o3, rfl⟩, S2, hc⟩
      unfold nv at hc
      rw [List.length_map, List.take_length] at hc
      exact k0 hc H2 S2
end
end K12
set_option maxHeartbeats 8000000
namespace K12
open PySem PySem.Spec PyProof.Rows L2

/-! ### _refined: the state's bounds -/
structure Lg (m P0 : Nat) (found pending : List Nat) : Prop where
  ex : ∃ e, pr found * pr pending < 2 ^ e ∧ 3 * e + pending.length ≤ m
  le : pr found * pr pending ≤ P0
  small : ∀ x ∈ found ++ pending, x < 1073741824
theorem len_pr : ∀ {a : List Nat}, (∀ x ∈ a, 1 < x) → 2 ^ a.length ≤ pr a
  | [], _ => Nat.le_refl _
  | x :: r, h => by
    show 2 ^ (r.length + 1) ≤ x * pr r
    rw [Nat.pow_succ, Nat.mul_comm]
    exact Nat.mul_le_mul (h x (List.mem_cons_self ..)) (len_pr fun y hy => h y (List.mem_cons_of_mem _ hy))
theorem Lg.flen {ts : List Nat} {m P0 : Nat} {found pending : List Nat} (h : Lg m P0 found pending) (r : Rf ts found pending) : found.length ≤ m := by
  obtain ⟨e, h1, h2⟩ := h.ex
  have h3 := len_pr r.cop.2
  have h4 := pr_pos r.pos
  have h5 : 2 ^ found.length < 2 ^ e := Nat.lt_of_le_of_lt (Nat.le_trans h3 (Nat.le_mul_of_pos_right _ h4)) h1
  have h6 := (Nat.pow_lt_pow_iff_right (show 1 < 2 by decide)).mp h5
  omega
theorem Lg.plen {m P0 : Nat} {found pending : List Nat} (h : Lg m P0 found pending) : pending.length ≤ m := by
  obtain ⟨e, h1, h2⟩ := h.ex
  omega
theorem Lg.add {m P0 : Nat} {found ps : List Nat} {p : Nat} (h : Lg m P0 found (ps ++ [p])) : Lg (m - 1) P0 (found ++ [p]) ps ∧ 0 < m := by
  obtain ⟨⟨e, h1, h2⟩, h3, h4⟩ := h
  have ee : pr (found ++ [p]) * pr ps = pr found * pr (ps ++ [p]) := by
    rw [pr_app, pr_app, Nat.mul_assoc, Nat.mul_comm (pr [p])]
  rw [List.length_append] at h2
  have h2' : 3 * e + (ps.length + 1) ≤ m := h2
  refine ⟨⟨⟨e, by rw [ee]; exact h1, by omega⟩, by rw [ee]; exact h3, fun x hx => h4 x ?_⟩, by omega⟩
  simp only [List.mem_append] at hx ⊢
  rcases hx with (z | z) | z
  · exact .inl z
  · exact .inr (.inr z)
  · exact .inr (.inl z)
theorem Lg.drop {m P0 : Nat} {found ps : List Nat} (h : Lg m P0 found (ps ++ [1])) : Lg (m - 1) P0 found ps ∧ 0 < m := by
  obtain ⟨⟨e, h1, h2⟩, h3, h4⟩ := h
  have ee : pr (ps ++ [1]) = pr ps := by
    rw [pr_app]
    exact Nat.mul_one _
  rw [ee] at h1 h3
  rw [List.length_append] at h2
  have h2' : 3 * e + (ps.length + 1) ≤ m := h2
  exact ⟨⟨⟨e, h1, by omega⟩, h3, fun x hx => h4 x (by
    simp only [List.mem_append] at hx ⊢
    rcases hx with z | z
    · exact .inl z
    · exact .inr (.inl z))⟩, by omega⟩
theorem Lg.split {ts : List Nat} {m P0 : Nat} {l1 l2 ps : List Nat} {b p : Nat} (h : Lg m P0 (l1 ++ b :: l2) (ps ++ [p])) (r : Rf ts (l1 ++ b :: l2) (ps ++ [p])) (hs : 1 < Nat.gcd b p) :
    Lg (m - 1) P0 (l1 ++ l2) (ps ++ [b / Nat.gcd b p, Nat.gcd b p, p / Nat.gcd b p]) ∧ 0 < m := by
  obtain ⟨⟨e, h1, h2⟩, h3, h4⟩ := h
  have hb : 0 < b := r.fpos b (List.mem_append_right _ (List.mem_cons_self ..))
  have hp : 0 < p := r.pos p (List.mem_append_right _ (List.mem_singleton.mpr rfl))
  have sb := h4 b (by simp)
  have sp := h4 p (by simp)
  have d1 : Nat.gcd b p ∣ b := Nat.gcd_dvd_left b p
  have d2 : Nat.gcd b p ∣ p := Nat.gcd_dvd_right b p
  have hl : 0 < pr (l1 ++ b :: l2) * pr (ps ++ [p]) := Nat.mul_pos (pr_pos r.fpos) (pr_pos r.pos)
  generalize Nat.gcd b p = c at hs d1 d2
  obtain ⟨x, rfl⟩ := d1
  obtain ⟨y, rfl⟩ := d2
  rw [Nat.mul_div_cancel_left x (by omega), Nat.mul_div_cancel_left y (by omega)]
  have e1 : pr (l1 ++ c * x :: l2) * pr (ps ++ [c * y]) = c * (pr (l1 ++ l2) * pr (ps ++ [x, c, y])) := by
    rw [pr_app, pr_app, pr_app, pr_app]
    show pr l1 * (c * x * pr l2) * (pr ps * (c * y * 1)) = c * (pr l1 * pr l2 * (pr ps * (x * (c * (y * 1)))))
    simp only [Nat.mul_one, Nat.mul_assoc, Nat.mul_left_comm, Nat.mul_comm]
  rw [e1] at h1 h3 hl
  have q1 : pr (l1 ++ l2) * pr (ps ++ [x, c, y]) ≤ c * (pr (l1 ++ l2) * pr (ps ++ [x, c, y])) := Nat.le_mul_of_pos_left _ (by omega)
  have q2 : 2 * (pr (l1 ++ l2) * pr (ps ++ [x, c, y])) ≤ c * (pr (l1 ++ l2) * pr (ps ++ [x, c, y])) := Nat.mul_le_mul_right _ hs
  have q0 : 0 < pr (l1 ++ l2) * pr (ps ++ [x, c, y]) := Nat.pos_of_mul_pos_left hl
  have he : 0 < e := by
    refine Nat.pos_of_ne_zero fun z => ?_
    subst z
    rw [Nat.pow_zero] at h1
    omega
  obtain ⟨d, rfl⟩ : ∃ d, e = d + 1 := ⟨e - 1, by omega⟩
  rw [Nat.pow_succ] at h1
  rw [List.length_append] at h2
  have h2' : 3 * (d + 1) + (ps.length + 1) ≤ m := h2
  refine ⟨⟨⟨d, by omega, by rw [List.length_append]; show _ + (_ + 3) ≤ _; omega⟩, by omega, fun z hz => ?_⟩, by omega⟩
  have sx : x < 1073741824 := Nat.lt_of_le_of_lt (Nat.le_mul_of_pos_left x (by omega)) sb
  have sy : y < 1073741824 := Nat.lt_of_le_of_lt (Nat.le_mul_of_pos_left y (by omega)) sp
  have sc : c < 1073741824 := Nat.lt_of_le_of_lt (Nat.le_mul_of_pos_right c (Nat.pos_of_mul_pos_left hb)) sb
  simp only [List.mem_append, List.mem_cons, List.not_mem_nil, or_false] at hz
  rcases hz with (z1 | z1) | z1 | z1
  · exact h4 z (by simp [z1])
  · exact h4 z (by simp [z1])
  · exact h4 z (by simp [z1])
  · rcases z1 with rfl | rfl | rfl <;> assumption
end K12
set_option maxHeartbeats 8000000
namespace K12
open PySem PySem.Spec PyProof.Rows L2

/-! ### _refined -/
abbrev sRef : Stmt := top 23
def spRef : Sp := fun vs H Q _ => ∃ (l : Addr) (bs : List Nat) (n : Nat) (ts : List Nat), vs = [.ref l, .int n] ∧ H l = some (.lst (nv bs)) ∧ Rf ts bs [n] ∧ Lg 300000 (pr bs * n) bs [n] ∧
  ∀ H' r bs', Same H H' → H r = none → H' r = some (.lst (nv bs')) → Rf ts bs' [] → (∀ x ∈ bs', x < 1073741824) → pr bs' ≤ pr bs * n → Q (.ref r) H'
def NRe : List Str := ["bases", "number", "found", "pending", "part", "at", "base", "common"]
section
variable {P : Program} {w : World} {K : PySem.W.Frag} {mg : Str → Option Value} {base : Heap}
theorem scRef : FnScope NRe ["bases", "number"] (defScope sRef) :=
  ⟨rfl, rfl, rfl, by decide +kernel, rfl, by decide +kernel, by decide +kernel⟩
theorem nv_app (a b : List Nat) : nv (a ++ b) = nv a ++ nv b := List.map_append
theorem nv_len (a : List Nat) : (nv a).length = a.length := List.length_map ..
theorem ok_ref {f fS : Addr} {fd fdS : FuncData} (F : Fun K "_refined" "_refined" sRef f fd) (lN : mg "list" = none) (gG : mg "gcd" = some (.builtin "math.gcd"))
    (GS : FnOk P w K mg base CX0 1 fS fdS ["bases", "number"] spSha) (kS : PySem.W.keepIn K (.ref fS) = true) (bS : Binds K fdS ["bases", "number"] []) (gS : mg "_sharing" = some (.ref fS)) :
    FnOk P w K mg base CX0 2 f fd ["bases", "number"] spRef := by
  refine F.ok scRef (fun vs H Q E h => ?_) (fun cdv A outer s H vs Q E hr h => ?_)
  · obtain ⟨l, bs, n, ts, rfl, _⟩ := h
    rfl
  · obtain ⟨l, bs, n, ts, rfl, hl, hR, hL, k⟩ := h
    refine ⟨_, pss_cons (ps_set (i := 2) scRef.nd rfl (.inl rfl) (pe_callTy call_list_of (by rfl) lN (by decide +kernel) (pa_cons (pv 0) pa_nil)))
      (pss_cons (ps_set (i := 3) scRef.nd rfl (.inl rfl) (pe_lst (pa_cons (pv 1) pa_nil)))
      (pss_cons (ps_while PassesOwn.never (pt_truth (pv 3) (by intro _; rfl))
        (pss_cons (ps_set (i := 4) scRef.nd rfl (.inl rfl) (pe_bm0 PySem.F.plainAttrs_list PySem.F.slot_list_pop PySem.F.type_list_pop mt_pop (pv 3)))
        (pss_cons (ps_set (i := 5) scRef.nd rfl (.inl rfl) (pe_call GS hr rfl gS kS bS .nil pass0 (pa_cons (pv 2) (pa_cons (pv 4) pa_nil))))
        (pss_one (ps_if (pt_cmpR op_isN (pv 5) pe_non (nomark _))
          (pss_one (ps_if (pt_cmpR op_gt (pv 4) pe_int (nomark _)) (pss_one (ps_expr (pe_bm PySem.F.plainAttrs_list PySem.F.slot_list_append PySem.F.type_list_append mt_append (pv 2) (pa_cons (pv 4) pa_nil)))) pss_nil))
          (pss_cons (ps_set (i := 6) scRef.nd rfl (.inl rfl) (pe_bm PySem.F.plainAttrs_list PySem.F.slot_list_pop PySem.F.type_list_pop mt_popAt (pv 2) (pa_cons (pv 5) pa_nil)))
          (pss_cons (ps_set (i := 7) scRef.nd rfl (.inl rfl) (pe_callBfun cr_gcd (by rfl) gG (pa_cons (pv 6) (pa_cons (pv 4) pa_nil))))
          (pss_one (ps_expr (pe_bm PySem.F.plainAttrs_list PySem.F.slot_list_extend PySem.F.type_list_extend mt_extend (pv 3) (pa_cons (pe_lst (pa_cons (pe_op op_fdiv (pv 6) (pv 7)) (pa_cons (pv 7) (pa_cons (pe_op op_fdiv (pv 4) (pv 7)) pa_nil)))) pa_nil)))))))))))
      (pss_one (ps_ret (pv 2))))), ?_⟩
    refine ⟨_, rfl, l, _, rfl, .inl (SqL.of hl), fun a1 n1 => ?_⟩
    have S1 := fresh_upd (o := .lst (nv bs)) n1
    have e1 : upd H a1 (.lst (nv bs)) a1 = some (.lst (nv bs)) := upd_same
    generalize upd H a1 (.lst (nv bs)) = H1 at S1 e1
    refine ⟨_, rfl, by rw [sizeLine_eq]; show 1 ≤ 16777216; decide, fun a2 n2 => ?_⟩
    have S2 := fresh_upd (o := .lst [V.int (n : Int)]) n2
    have e2 : upd H1 a2 (.lst [V.int (n : Int)]) a2 = some (.lst (nv [n])) := upd_same
    have e12 := S2 _ _ e1
    have a12 : a1 ≠ a2 := ne_of_none e1 n2
    have n20 : H a2 = none := by
      cases e : H a2 with
      | none => rfl
      | some o =>
        have z := S1 _ _ e
        rw [n2] at z
        cases z
    have S02 := S1.trans S2
    generalize upd H1 a2 (.lst [V.int (n : Int)]) = H2 at S2 e2 e12 S02
    refine ⟨fun m σ H3 => m ≤ 300000 ∧ Same H H3 ∧ ∃ found pending : List Nat, (∃ o4 o5 o6 o7, σ = [some (.ref l), some (.int n), some (.ref a1), some (.ref a2), o4, o5, o6, o7]) ∧ H3 a1 = some (.lst (nv found)) ∧ H3 a2 = some (.lst (nv pending)) ∧
      Rf ts found pending ∧ Lg m (pr bs * n) found pending, ⟨300000, Nat.le_refl _, S02, bs, [n], ⟨none, none, none, none, rfl⟩, e12, e2, hR, hL⟩, ?_⟩
    rintro m σ H3 ⟨hm, S3, found, pending, ⟨o4, o5, o6, o7, rfl⟩, h1, h2, R, L⟩
    by_cases hp : pending = []
    · subst hp
      refine ⟨_, rfl, _, .inl ⟨_, SqL.of h2, rfl⟩, iteF ?_⟩
      exact ⟨_, rfl, k H3 a1 found S3 n1 h1 R (fun x hx => L.small x (List.mem_append_left _ hx)) (by
        have z := L.le
        have e : pr ([] : List Nat) = 1 := rfl
        rw [e, Nat.mul_one] at z
        exact z)⟩
    · obtain ⟨ps, p, rfl⟩ : ∃ ps p, pending = ps ++ [p] := by
        rcases List.eq_nil_or_concat pending with z | ⟨a, b, z⟩
        · exact absurd z hp
        · exact ⟨a, b, by rw [z, List.concat_eq_append]⟩
      have hpl := L.plen
      have hfl := L.flen R
      rw [List.length_append] at hpl
      have hpl' : ps.length + 1 ≤ m := hpl
      have en : nv (ps ++ [p]) = nv ps ++ [V.int (Int.ofNat p)] := nv_app ps [p]
      have ee : (!(nv (ps ++ [p])).isEmpty) = true := by
        rw [en]
        simp
      refine ⟨_, rfl, _, .inl ⟨_, SqL.of h2, rfl⟩, ?_⟩
      refine iteT' ee ?_
      refine ⟨fun σ' H' => Same H H' ∧ ∃ found' pending' : List Nat, (∃ o4 o5 o6 o7, σ' = [some (.ref l), some (.int n), some (.ref a1), some (.ref a2), o4, o5, o6, o7]) ∧ H' a1 = some (.lst (nv found')) ∧ H' a2 = some (.lst (nv pending')) ∧
        Rf ts found' pending' ∧ Lg (m - 1) (pr bs * n) found' pending', fun σ' H' hN => ⟨m - 1, by omega, by omega, hN⟩, ?_⟩
      have hlast : (nv (ps ++ [p]))[(nv (ps ++ [p])).length - 1]? = some (V.int (Int.ofNat p)) := by
        rw [en, List.length_append, nv_len]
        show (nv ps ++ [V.int (Int.ofNat p)])[ps.length + 1 - 1]? = _
        rw [Nat.add_sub_cancel, List.getElem?_append_right (by rw [nv_len]; exact Nat.le_refl _), nv_len, Nat.sub_self]
        rfl
      have hdrop : (nv (ps ++ [p])).dropLast = nv ps := by
        rw [en, List.dropLast_concat]
      refine ⟨_, rfl, .inl ⟨rfl, _, SqL.of h2⟩, a2, _, _, rfl, rfl, h2, hlast, ?_⟩
      rw [hdrop]
      have h1' : upd H3 a2 (.lst (nv ps)) a1 = some (.lst (nv found)) := (upd_ne a12).trans h1
      have h2' : upd H3 a2 (.lst (nv ps)) a2 = some (.lst (nv ps)) := upd_same
      have S3' : Same H (upd H3 a2 (.lst (nv ps))) := fun b o e => by
        rw [upd_ne (ne_of_none e n20)]
        exact S3 _ _ e
      generalize upd H3 a2 (.lst (nv ps)) = H4 at h1' h2' S3'
      refine ⟨_, rfl, _, rfl, a1, found, p, rfl, h1', fun hno H5 S5 => ?_, fun l1 b l2 ef hc hg H5 S5 => ?_⟩
      · refine ⟨_, rfl, rfl, _, rfl, iteT' (decide_eq_true rfl) ?_⟩
        refine ⟨_, rfl, _, _, rfl, rfl, _, rfl, ?_⟩
        refine ite2 (fun h => ?_) fun h => ?_
        · have hp1 : 1 < p := by
            have h' : (1 : Int) < (p : Int) := of_decide_eq_true h
            omega
          obtain ⟨R', _⟩ := R.add hno hp1
          obtain ⟨L', _⟩ := L.add
          refine ⟨_, rfl, .inl ⟨rfl, _, SqL.of (S5 _ _ h1')⟩, _, rfl, a1, _, _, rfl, rfl, S5 _ _ h1', by rw [nv_len, sizeLine_eq]; omega, ?_⟩
          refine ⟨fun b o e => ?_, found ++ [p], ps, ⟨_, _, _, _, rfl⟩, ?_, ?_, R', L'⟩
          · rw [upd_ne (ne_of_none e n1)]
            exact S5 _ _ (S3' _ _ e)
          · rw [upd_same, nv_app]
            rfl
          · rw [upd_ne a12.symm]
            exact S5 _ _ h2'
        · have hp1 : ¬ 1 < p := fun z => h (decide_eq_true (show (1 : Int) < (p : Int) by omega))
          have e1 : p = 1 := by
            have := R.pos p (by simp)
            omega
          subst e1
          obtain ⟨R', _⟩ := R.drop hp1
          obtain ⟨L', _⟩ := L.drop
          exact ⟨S3'.trans S5, found, ps, ⟨_, _, _, _, rfl⟩, S5 _ _ h1', S5 _ _ h2', R', L'⟩
      · subst ef
        obtain ⟨R', _⟩ := R.split hg
        obtain ⟨L', _⟩ := L.split R hg
        have hll : (l1 ++ b :: l2).length = l1.length + (l2.length + 1) := by rw [List.length_append]; rfl
        refine ⟨_, rfl, rfl, _, rfl, iteN' (fun z => nomatch z) ?_⟩
        have e3 : nv (l1 ++ b :: l2) = nv l1 ++ V.int (Int.ofNat b) :: nv l2 := nv_app l1 (b :: l2)
        have hat : (nv (l1 ++ b :: l2))[l1.length]? = some (V.int (Int.ofNat b)) := by
          rw [e3, List.getElem?_append_right (by rw [nv_len]; exact Nat.le_refl _), nv_len, Nat.sub_self]
          rfl
        have her : (nv (l1 ++ b :: l2)).eraseIdx l1.length = nv (l1 ++ l2) := by
          rw [e3, nv_app, List.eraseIdx_append_of_length_le (by rw [nv_len]; exact Nat.le_refl _), nv_len, Nat.sub_self]
          rfl
        have hsi : seqIndex? ((l1.length : Nat) : Int) (nv (l1 ++ b :: l2)).length = some l1.length := by
          have z := seqIndex_of (k := ((l1.length : Nat) : Int)) (n := (nv (l1 ++ b :: l2)).length) (by omega) (by rw [nv_len, hll]; omega)
          rw [z]
          rfl
        refine ⟨_, rfl, .inl ⟨rfl, _, SqL.of (S5 _ _ h1')⟩, _, rfl, a1, _, _, l1.length, _, rfl, rfl, S5 _ _ h1', by omega, by omega, hsi, hat, ?_⟩
        rw [her]
        have g1 : upd H5 a1 (.lst (nv (l1 ++ l2))) a1 = some (.lst (nv (l1 ++ l2))) := upd_same
        have g2 : upd H5 a1 (.lst (nv (l1 ++ l2))) a2 = some (.lst (nv ps)) := (upd_ne a12.symm).trans (S5 _ _ h2')
        have S6 : Same H (upd H5 a1 (.lst (nv (l1 ++ l2)))) := fun b o e => by
          rw [upd_ne (ne_of_none e n1)]
          exact S5 _ _ (S3' _ _ e)
        generalize upd H5 a1 (.lst (nv (l1 ++ l2))) = H6 at g1 g2 S6
        refine ⟨_, rfl, _, rfl, _, _, rfl, ?_⟩
        have eg : ((Int.ofNat b).natAbs).gcd ((Int.ofNat p).natAbs) = Nat.gcd b p := rfl
        rw [eg]
        have cs : Nat.gcd b p < 1073741824 := L'.small _ (by simp)
        have d1 : (Int.ofNat b) / ((Nat.gcd b p : Nat) : Int) = Int.ofNat (b / Nat.gcd b p) := (Int.natCast_ediv b (Nat.gcd b p)).symm
        have d2 : (Int.ofNat p) / ((Nat.gcd b p : Nat) : Int) = Int.ofNat (p / Nat.gcd b p) := (Int.natCast_ediv p (Nat.gcd b p)).symm
        refine ⟨_, rfl, .inl ⟨rfl, _, SqL.of g2⟩, ?_⟩
        refine ⟨_, rfl, _, rfl, _, _, rfl, rfl, ⟨by omega, by omega⟩, _, rfl, _, rfl, _, rfl, _, _, rfl, rfl, ⟨by omega, by omega⟩, ?_⟩
        have el : [V.int (Int.ofNat b / ((Nat.gcd b p : Nat) : Int)), V.int ((Nat.gcd b p : Nat) : Int), V.int (Int.ofNat p / ((Nat.gcd b p : Nat) : Int))] = nv [b / Nat.gcd b p, Nat.gcd b p, p / Nat.gcd b p] := by
          rw [d1, d2]
          rfl
        refine ⟨by rw [sizeLine_eq]; show 3 ≤ 16777216; decide, fun q nq => ?_⟩
        have S7 := fresh_upd (o := .lst [V.int (Int.ofNat b / ((Nat.gcd b p : Nat) : Int)), V.int ((Nat.gcd b p : Nat) : Int), V.int (Int.ofNat p / ((Nat.gcd b p : Nat) : Int))]) nq
        have gq : upd H6 q (.lst [V.int (Int.ofNat b / ((Nat.gcd b p : Nat) : Int)), V.int ((Nat.gcd b p : Nat) : Int), V.int (Int.ofNat p / ((Nat.gcd b p : Nat) : Int))]) q = some (.lst (nv [b / Nat.gcd b p, Nat.gcd b p, p / Nat.gcd b p])) := by rw [upd_same, el]
        have qa1 : a1 ≠ q := ne_of_none g1 nq
        have qa2 : a2 ≠ q := ne_of_none g2 nq
        refine ⟨a2, q, nv ps, nv [b / Nat.gcd b p, Nat.gcd b p, p / Nat.gcd b p], rfl, rfl, S7 _ _ g2, gq, by rw [nv_len, nv_len, sizeLine_eq]; show _ + 3 ≤ _; omega, ?_⟩
        refine ⟨fun b' o e => ?_, l1 ++ l2, ps ++ [b / Nat.gcd b p, Nat.gcd b p, p / Nat.gcd b p], ⟨_, _, _, _, rfl⟩, ?_, ?_, R', L'⟩
        · rw [upd_ne (ne_of_none e n20)]
          exact S7 _ _ (S6 _ _ e)
        · rw [upd_ne a12]
          exact S7 _ _ g1
        · rw [upd_same, nv_app]
end
end K12
set_option maxHeartbeats 8000000
namespace K12
open PySem PySem.Spec PyProof.Rows L2

/-! ### coprime_bases -/
abbrev sCob : Stmt := top 21
theorem pr_le : ∀ {a : List Nat}, (∀ x ∈ a, x < 1073741824) → pr a ≤ 2 ^ (30 * a.length)
  | [], _ => Nat.le_refl _
  | x :: r, h => by
    show x * pr r ≤ 2 ^ (30 * (r.length + 1))
    rw [Nat.mul_add, Nat.pow_add, Nat.mul_comm]
    exact Nat.mul_le_mul (pr_le fun y hy => h y (List.mem_cons_of_mem _ hy)) (by have := h x (List.mem_cons_self ..); show x ≤ 1073741824; omega)
def spCob (K : PySem.W.Frag) : Sp := fun vs H Q _ => ∃ (l : Addr) (ns : List Nat), vs = [.ref l] ∧ H l = some (.lst (nv ns)) ∧ ns.length ≤ 64 ∧ (∀ n ∈ ns, 0 < n ∧ n < 1073741824) ∧
  ∀ H' r bs, Same H H' → H r = none → H' r = some (.lst (nv bs)) → Cop bs → (∀ n ∈ ns, G bs n) → (∀ x ∈ bs, x < 1073741824) → bs.length ≤ 2000 → Q (.ref r) H'
def NCo : List Str := ["numbers", "bases", "number"]
section
variable {P : Program} {w : World} {K : PySem.W.Frag} {mg : Str → Option Value} {base : Heap}
theorem scCob : FnScope NCo ["numbers"] (defScope sCob) :=
  ⟨rfl, rfl, rfl, by decide +kernel, rfl, by decide +kernel, by decide +kernel⟩
theorem ok_cob {f fR : Addr} {fd fdR : FuncData} (F : Fun K "coprime_bases" "coprime_bases" sCob f fd)
    (GR : FnOk P w K mg base CX0 2 fR fdR ["bases", "number"] spRef) (kR : PySem.W.keepIn K (.ref fR) = true) (bR : Binds K fdR ["bases", "number"] []) (gR : mg "_refined" = some (.ref fR)) :
    FnOk P w K mg base CX0 3 f fd ["numbers"] (spCob K) := by
  refine F.ok scCob (fun vs H Q E h => ?_) (fun cdv A outer s H vs Q E hr h => ?_)
  · obtain ⟨l, ns, rfl, _⟩ := h
    rfl
  · obtain ⟨l, ns, rfl, hl, hz, hn, k⟩ := h
    refine ⟨_, pss_cons (ps_set (i := 1) scCob.nd rfl (.inl rfl) (pe_lst pa_nil))
      (pss_cons (ps_for PassesOwn.never rfl (pi_list (pv 0)) (pg_name (i := 2) scCob.nd rfl (Or.inl rfl))
        (pss_one (ps_set (i := 1) scCob.nd rfl (.inl rfl) (pe_call GR hr rfl gR kR bR .nil pass0 (pa_cons (pv 1) (pa_cons (pv 2) pa_nil))))))
      (pss_one (ps_ret (pv 1)))), ?_⟩
    refine ⟨Nat.zero_le _, fun a na => ?_⟩
    have S1 := fresh_upd (o := .lst []) na
    refine ⟨_, rfl, l, rfl, ⟨_, SqL.of (S1 _ _ hl)⟩, for_it (walk_list (K := K) (a := l) (xs := nv ns)) (fun i σ H2 => Same H H2 ∧ ∃ (r : Addr) (bs : List Nat), (∃ o2, σ = [some (.ref l), some (.ref r), o2]) ∧ H r = none ∧ H2 r = some (.lst (nv bs)) ∧
      Rf (ns.take i) bs [] ∧ (∀ x ∈ bs, x < 1073741824) ∧ pr bs ≤ pr (ns.take i)) ⟨S1, a, [], ⟨none, rfl⟩, na, upd_same, ⟨⟨List.Pairwise.nil, (fun x hx => nomatch hx)⟩, (fun x hx => nomatch hx), fun x hx => by simp at hx⟩, (fun x hx => nomatch hx), Nat.le_refl _⟩
      (fun i σ H2 _ h => SqL.of (h.1 _ _ hl)) ?_ ?_⟩
    · rintro i x σ H2 H3 hi ⟨S2, r, bs, ⟨o2, rfl⟩, nr, hr2, R, hs, hp⟩ ⟨rfl, hx⟩
      rw [nv_len] at hi
      have ex : x = V.int (Int.ofNat ns[i]) := by
        unfold nv at hx
        rw [List.getElem?_map, List.getElem?_eq_getElem hi] at hx
        exact (Option.some.inj hx).symm
      subst ex
      obtain ⟨n0, n1⟩ := hn ns[i] (List.getElem_mem hi)
      have et : ns.take (i + 1) = ns.take i ++ [ns[i]] := by
        rw [List.take_add_one, List.getElem?_eq_getElem hi]
        rfl
      have R' : Rf (ns.take (i + 1)) bs [ns[i]] := by
        refine ⟨R.cop, fun p hp' => by rw [List.mem_singleton.mp hp']; exact n0, fun y hy => ?_⟩
        rw [et] at hy
        rcases List.mem_append.mp hy with z | z
        · have g := R.gen y z
          rw [List.append_nil] at g
          exact g.trans fun w' hw => .mem (List.mem_append_left _ hw)
        · exact .mem (List.mem_append_right _ z)
      have ep : pr (ns.take (i + 1)) = pr (ns.take i) * ns[i] := by
        rw [et, pr_app]
        show _ * (_ * 1) = _
        rw [Nat.mul_one]
      have hle : pr bs * ns[i] ≤ pr (ns.take (i + 1)) := by
        rw [ep]
        exact Nat.mul_le_mul_right _ hp
      have hbig : pr (ns.take (i + 1)) ≤ 2 ^ (30 * (ns.take (i + 1)).length) := pr_le fun y hy => (hn y (List.mem_of_mem_take hy)).2
      have hlen : (ns.take (i + 1)).length ≤ 64 := by
        rw [List.length_take]
        omega
      have L' : Lg 300000 (pr bs * ns[i]) bs [ns[i]] := by
        have e1 : pr bs * pr [ns[i]] = pr bs * ns[i] := by
          show pr bs * (ns[i] * 1) = _
          rw [Nat.mul_one]
        refine ⟨⟨30 * (ns.take (i + 1)).length + 1, ?_, by show _ + 1 ≤ _; omega⟩, by rw [e1]; exact Nat.le_refl _, fun y hy => ?_⟩
        · rw [e1, Nat.pow_succ]
          have : 0 < 2 ^ (30 * (ns.take (i + 1)).length) := Nat.pow_pos (by decide)
          omega
        · rcases List.mem_append.mp hy with z | z
          · exact hs y z
          · rw [List.mem_singleton.mp z]
            exact n1
      refine ⟨_, rfl, _, rfl, r, bs, ns[i], ns.take (i + 1), rfl, hr2, R', L', fun H4 r4 bs4 S4 nr4 h4 R4 s4 p4 => ?_⟩
      have nr40 : H r4 = none := by
        cases e : H r4 with
        | none => rfl
        | some o =>
          have z := S2 _ _ e
          rw [nr4] at z
          cases z
      exact ⟨S2.trans S4, r4, bs4, ⟨_, rfl⟩, nr40, h4, R4, s4, Nat.le_trans p4 hle⟩
    · rintro σ H2 ⟨S2, r, bs, ⟨o2, rfl⟩, nr, hr2, R, hs, hp⟩
      rw [nv_len, List.take_length] at R hp
      have h3 := len_pr R.cop.2
      have h4 : pr ns ≤ 2 ^ (30 * ns.length) := pr_le fun y hy => (hn y hy).2
      have h5 : 2 ^ bs.length < 2 ^ (30 * ns.length + 1) := by
        rw [Nat.pow_succ]
        have : 0 < 2 ^ (30 * ns.length) := Nat.pow_pos (by decide)
        omega
      have h6 := (Nat.pow_lt_pow_iff_right (show 1 < 2 by decide)).mp h5
      exact ⟨_, rfl, k H2 r bs S2 nr hr2 R.cop (fun n hn' => by
        have g := R.gen n hn'
        rw [List.append_nil] at g
        exact g) hs (by omega)⟩
end
end K12
set_option maxHeartbeats 8000000
namespace K12
open PySem PySem.Spec PyProof.Rows L2

/-! ### orders -/
open Classical in
noncomputable def ordF (n b : Nat) : Nat := if h : ∃ k, IsOrd n b k then Classical.choose h else 0
theorem ordF_eq {n b k : Nat} (hb : 1 < b) (h : IsOrd n b k) : ordF n b = k := by
  have hx : ∃ k, IsOrd n b k := ⟨k, h⟩
  unfold ordF
  rw [dif_pos hx]
  exact IsOrd.one hb (Classical.choose_spec hx) h
noncomputable def lsO (es : Es) (N : Str → Nat) : Ls := es.map fun q => (q.2, ordF (N q.1))
theorem sm_sum (N : Str → Nat) (b : Nat) : ∀ es : Es, sm (lsO es N) b = (es.map fun q => q.2 * (ordF (N q.1) b : Int)).sum
  | [] => rfl
  | q :: r => by
    show q.2 * (ordF (N q.1) b : Nat) + sm (lsO r N) b = _
    rw [sm_sum N b r, List.map_cons, List.sum_cons]
theorem lookG : ∀ {es : Es} {q : Str × Int}, (es.map (·.1)).Nodup → q ∈ es → es.lookup q.1 = some q.2
  | [], _, _, h => by cases h
  | p :: r, q, hn, h => by
    obtain ⟨n1, n2⟩ := List.pairwise_cons.mp hn
    rw [List.lookup_cons]
    rcases List.mem_cons.mp h with rfl | h
    · simp
    · have e : (q.1 == p.1) = false := by
        have z := n1 q.1 (List.mem_map.mpr ⟨q, h, rfl⟩)
        simpa using fun y : q.1 = p.1 => z y.symm
      rw [e]
      exact lookG n2 h
theorem IsOrd.lt {n b k : Nat} (hb : 1 < b) (n0 : 0 < n) (hn : n < 1073741824) (h : IsOrd n b k) : k < 30 := by
  obtain ⟨r, e, hr⟩ := h
  have r0 : 0 < r := by
    refine Nat.pos_of_ne_zero fun z => ?_
    rw [z, Nat.mul_zero] at e
    omega
  have h1 : 2 ^ k ≤ b ^ k := Nat.pow_le_pow_left hb k
  have h2 : b ^ k ≤ n := by
    rw [e]
    exact Nat.le_mul_of_pos_right _ r0
  have h3 : 2 ^ k < 2 ^ 30 := by
    have : (2 : Nat) ^ 30 = 1073741824 := by decide
    omega
  exact (Nat.pow_lt_pow_iff_right (show 1 < 2 by decide)).mp h3
abbrev sOrs : Stmt := top 20
def NumAt (H : Hp) (m : Addr) (es : Es) (N : Str → Nat) : Prop := ∃ ms : Es, H m = some (.dK (kv ms)) ∧ ∀ q ∈ es, ms.lookup q.1 = some (N q.1 : Int) ∧ 0 < N q.1 ∧ N q.1 < 1073741824
theorem NumAt.same {H H' : Hp} {m : Addr} {es : Es} {N : Str → Nat} (h : NumAt H m es N) (S : Same H H') : NumAt H' m es N := by
  obtain ⟨ms, e, k⟩ := h
  exact ⟨ms, S _ _ e, k⟩
theorem NumAt.get {H : Hp} {m : Addr} {es : Es} {N : Str → Nat} (h : NumAt H m es N) {q : Str × Int} (hq : q ∈ es) : DGet H m (.str q.1) (some (.int (N q.1 : Int))) := by
  obtain ⟨ms, e, k⟩ := h
  exact .inl ⟨_, ky q.1, .inl e, rfl, by rw [val_kv, (k q hq).1]; rfl⟩
def PtAt (H : Hp) (L : Ls) (ts : List Addr) (bs : List Nat) : Prop := Paired (fun t b => H t = some (.tup [V.int (Int.ofNat b), V.int (sm L b)])) ts bs
def spOrs : Sp := fun vs H Q _ => ∃ (d m : Addr) (es : Es) (N : Str → Nat), vs = [.ref d, .ref m] ∧ H d = some (.dK (kv es)) ∧ (es.map (·.1)).Nodup ∧ es.length < 64 ∧ NumAt H m es N ∧
  ∀ H' r ts bs, Same H H' → H r = none → H' r = some (.lst (ts.map V.ref)) → PtAt H' (lsO es N) ts bs → Cop bs → (∀ q ∈ es, G bs (N q.1)) → (∀ x ∈ bs, x < 1073741824) → bs.length ≤ 2000 → Q (.ref r) H'
def NOr : List Str := ["exponents", "numbers", "names", "pairs", "base", "parts", "name"]
section
variable {P : Program} {w : World} {K : PySem.W.Frag} {mg : Str → Option Value} {base : Heap}
theorem scOrs : FnScope NOr ["exponents", "numbers"] (defScope sOrs) :=
  ⟨rfl, rfl, rfl, by decide +kernel, rfl, by decide +kernel, by decide +kernel⟩
theorem ok_ors {f fC fO : Addr} {fd fdC fdO : FuncData} (F : Fun K "orders" "orders" sOrs f fd) (lN : mg "list" = none) (sN : mg "sum" = none)
    (GC : FnOk P w K mg base CX0 3 fC fdC ["numbers"] (spCob K)) (kC : PySem.W.keepIn K (.ref fC) = true) (bC : Binds K fdC ["numbers"] []) (gC : mg "coprime_bases" = some (.ref fC))
    (GO : FnOk P w K mg base CX0 1 fO fdO ["number", "base"] spOrd) (kO : PySem.W.keepIn K (.ref fO) = true) (bO : Binds K fdO ["number", "base"] []) (gO : mg "order_in" = some (.ref fO)) :
    FnOk P w K mg base CX0 4 f fd ["exponents", "numbers"] spOrs := by
  have GO3 := GO.mono (k := 3) (by decide)
  refine F.ok scOrs (fun vs H Q E h => ?_) (fun cdv A outer s H vs Q E hr h => ?_)
  · obtain ⟨d, m, es, N, rfl, _⟩ := h
    rfl
  · obtain ⟨d, m, es, N, rfl, hd, hn, hz, hN, k⟩ := h
    have hu : (A.deeper (envOfC "orders" (defScope sOrs) s.heap.objs.size f cdv)).units + 1 < cLine := by have := hr.units; omega
    refine ⟨_, pss_cons (ps_set (i := 2) scOrs.nd rfl (by first | exact .inl rfl | exact .inr rfl) (pe_callTy (call_listD rfl) (by rfl) lN (by decide +kernel) (pa_cons (pv 0) pa_nil)))
      (pss_cons (ps_set (i := 3) scOrs.nd rfl (.inl rfl) (pe_lst pa_nil))
      (pss_cons (ps_for PassesOwn.never rfl (pi_list (pe_call GC hr rfl gC kC bC .nil pass0 (pa_cons
            (pe_lc (own := [("name", 6)]) (g := gName 6) (tt := tYes) (te := tDGet (tVar 1) (tVar 6)) rfl scOrs.nd (pi_list (pv 2))
              (blkOk_by (own := [("name", 6)]) (N := NOr) (sc := defScope sOrs) (by decide +kernel)) (fun _ _ _ _ _ => pg_name (i := 6) scOrs.nd rfl (Or.inl rfl))
              (fun _ _ _ _ _ => pts_nil) (fun _ _ _ _ _ => by exact pe_dget hu (pv 1) (pv 6) (fun _ _ => rfl))) pa_nil)))
          (pg_name (i := 4) scOrs.nd rfl (by first | exact Or.inl rfl | exact Or.inr rfl))
        (pss_cons (ps_setLc (i := 5) (own := [("name", 6)]) (g := gName 6) (tt := tYes) (te := tOp (rI CMul fun i j => V.int (i * j)) (tDGet (tVar 0) (tVar 6)) (tCall spOrd [] E0 (tCons (tDGet (tVar 1) (tVar 6)) (tCons (tVar 4) tNil)))) rfl scOrs.nd rfl rfl (sw_true rfl rfl rfl (by decide +kernel)) (pi_list (pv 2))
              (blkOk_by (own := [("name", 6)]) (N := NOr) (sc := defScope sOrs) (by decide +kernel)) (fun _ _ _ _ _ => pg_name (i := 6) scOrs.nd rfl (Or.inl rfl))
              (fun _ _ _ _ _ => pts_nil) (fun _ _ _ _ _ => by exact pe_op op_mul (pe_dget hu (pv 0) (pv 6) (fun _ _ => rfl)) (pe_call GO3 hr rfl gO kO bO .nil pass0 (pa_cons (pe_dget hu (pv 1) (pv 6) (fun _ _ => rfl)) (pa_cons (pv 4) pa_nil)))))
        (pss_one (ps_expr (pe_bm PySem.F.plainAttrs_list PySem.F.slot_list_append PySem.F.type_list_append mt_append (pv 3) (pa_cons (pe_tup (pa_cons (pv 4) (pa_cons (pe_callB (cr_sum rfl) (by rfl) sN (by decide +kernel) (pa_cons (pv 5) pa_nil)) pa_nil))) pa_nil))))))
      (pss_one (ps_ret (pv 3))))), ?_⟩
    refine ⟨_, rfl, d, _, rfl, .inl hd, fun ln nln => ?_⟩
    have ek : (kv es).map (fun kv => kV kv.1) = es.map fun q => V.str q.1 := by
      unfold kv
      rw [List.map_map]
      rfl
    rw [ek]
    have S1 := fresh_upd (o := .lst (es.map fun q => V.str q.1)) nln
    have e1 : upd H ln (.lst (es.map fun q => V.str q.1)) ln = some (.lst (es.map fun q => V.str q.1)) := upd_same
    generalize upd H ln (.lst (es.map fun q => V.str q.1)) = H1 at S1 e1
    refine ⟨Nat.zero_le _, fun a na => ?_⟩
    have S2 := fresh_upd (o := .lst []) na
    have e2 : upd H1 a (.lst []) a = some (.lst []) := upd_same
    generalize upd H1 a (.lst []) = H2 at S2 e2
    have S02 := S1.trans S2
    have na0 : H a = none := by
      cases e : H a with
      | none => rfl
      | some o =>
        have z := S1 _ _ e
        rw [na] at z
        cases z
    have dg : ∀ {H' : Hp} {q : Str × Int}, Same H H' → q ∈ es → DGet H' d (.str q.1) (some (.int q.2)) := fun {H' q} S hq =>
      .inl ⟨_, ky q.1, .inl (S _ _ hd), rfl, by rw [val_kv, lookG hn hq]; rfl⟩
    refine ⟨_, rfl, ln, rfl, ⟨_, SqL.of (S2 _ _ e1)⟩, fun D hD => ?_⟩
    refine lc_it (walk_list (K := K) (a := ln) (xs := es.map fun q => V.str q.1)) (fun i H3 => Same H2 H3 ∧ H3 D = some (.lst (nv ((es.take i).map fun q => N q.1)))) ⟨fresh_upd hD, upd_same⟩ (fun i H3 _ h => SqL.of (h.1 _ _ (S2 _ _ e1))) ?_ ?_
    · rintro i x H3 H4 hi ⟨S3, h3⟩ ⟨rfl, hx⟩
      rw [List.length_map] at hi
      have ex : x = V.str es[i].1 := by
        rw [List.getElem?_map, List.getElem?_eq_getElem hi] at hx
        exact (Option.some.inj hx).symm
      subst ex
      have hq := List.getElem_mem hi
      refine ⟨rfl, ?_⟩
      unfold tYes
      dsimp only
      rw [if_pos rfl]
      refine ⟨_, rfl, _, rfl, m, _, rfl, (hN.same (S02.trans S3)).get hq, ?_⟩
      refine ⟨_, h3, by rw [nv_len, List.length_map, List.length_take, sizeLine_eq]; omega, fun b o e => ?_, ?_⟩
      · rw [upd_ne (ne_of_none e hD)]
        exact S3 _ _ e
      · rw [upd_same, List.take_add_one, List.getElem?_eq_getElem hi, List.map_append, nv_app]
        rfl
    rintro H3 ⟨S3, h3⟩
    rw [List.length_map, List.take_length] at h3
    have S03 := S02.trans S3
    refine ⟨D, es.map fun q => N q.1, rfl, h3, by rw [List.length_map]; omega, fun n hn' => ?_, fun H4 r bs S4 nr hr4 hC hG hs hb => ?_⟩
    · obtain ⟨q, hq, rfl⟩ := List.mem_map.mp hn'
      obtain ⟨ms, _, kk⟩ := hN
      exact (kk q hq).2
    have S04 := S03.trans S4
    have ha4 := S4 _ _ (S3 _ _ e2)
    have hln4 := S4 _ _ (S3 _ _ (S2 _ _ e1))
    refine ⟨r, rfl, ⟨_, SqL.of hr4⟩, for_it (walk_list (K := K) (a := r) (xs := nv bs)) (fun i σ H5 => (∃ o4 o5 o6, σ = [some (.ref d), some (.ref m), some (.ref ln), some (.ref a), o4, o5, o6]) ∧ (∀ b o, b ≠ a → H4 b = some o → H5 b = some o) ∧
      ∃ ts : List Addr, H5 a = some (.lst (ts.map V.ref)) ∧ PtAt H5 (lsO es N) ts (bs.take i)) ⟨⟨none, none, none, rfl⟩, fun b o _ e => e, [], ha4, .nil⟩ ?_ ?_ ?_⟩
    · intro i σ H5 _ h
      have ra : r ≠ a := fun z => by
        rw [z, ha4] at hr4
        have := HO.lst.inj (Option.some.inj hr4)
        rw [z] at nr
        rw [S3 _ _ e2] at nr
        cases nr
      exact SqL.of (h.2.1 _ _ ra hr4)
    · rintro i x σ H5 H6 hi ⟨⟨o4, o5, o6, rfl⟩, S5, ts, h5, hP⟩ ⟨rfl, hx⟩
      rw [nv_len] at hi
      have ex : x = V.int (Int.ofNat bs[i]) := by
        unfold nv at hx
        rw [List.getElem?_map, List.getElem?_eq_getElem hi] at hx
        exact (Option.some.inj hx).symm
      subst ex
      have hbm := List.getElem_mem hi
      have hb1 := hC.2 _ hbm
      have hb2 := hs _ hbm
      have S05 : Same H H6 := fun b o e => S5 b o (fun z => by rw [z, na0] at e; cases e) (S04 _ _ e)
      have lna : ln ≠ a := fun z => by
        rw [z] at e1
        rw [e1] at na
        cases na
      have hln5 := S5 _ _ lna hln4
      refine ⟨_, rfl, ln, rfl, ⟨_, SqL.of hln5⟩, fun D2 hD2 => ?_⟩
      refine lc_it (walk_list (K := K) (a := ln) (xs := es.map fun q => V.str q.1)) (fun j H7 => Same H6 H7 ∧ H7 D2 = some (.lst ((es.take j).map fun q => V.int (q.2 * (ordF (N q.1) bs[i] : Int))))) ⟨fresh_upd hD2, upd_same⟩ (fun j H7 _ h => SqL.of (h.1 _ _ hln5)) ?_ ?_
      · rintro j x H7 H8 hj ⟨S7, h7⟩ ⟨rfl, hx⟩
        rw [List.length_map] at hj
        have ex : x = V.str es[j].1 := by
          rw [List.getElem?_map, List.getElem?_eq_getElem hj] at hx
          exact (Option.some.inj hx).symm
        subst ex
        have hq := List.getElem_mem hj
        have N7 := hN.same (S05.trans S7)
        have np : 0 < N es[j].1 ∧ N es[j].1 < 1073741824 := by
          obtain ⟨ms, _, kk⟩ := hN
          exact (kk _ hq).2
        refine ⟨rfl, ?_⟩
        unfold tYes
        dsimp only
        rw [if_pos rfl]
        refine ⟨_, rfl, _, rfl, d, _, rfl, dg (S05.trans S7) hq, ?_⟩
        refine ⟨_, rfl, _, rfl, m, _, rfl, N7.get hq, _, rfl, N es[j].1, bs[i], rfl, np.1, hb1, hb2, fun kk hk => ?_⟩
        have ho := ordF_eq hb1 hk
        have hkl := hk.lt hb1 np.1 np.2
        refine ⟨_, _, rfl, rfl, .inr ⟨by omega, by omega⟩, ?_⟩
        refine ⟨_, h7, by rw [List.length_map, List.length_take, sizeLine_eq]; omega, fun b o e => ?_, ?_⟩
        · rw [upd_ne (ne_of_none e hD2)]
          exact S7 _ _ e
        · rw [upd_same, List.take_add_one, List.getElem?_eq_getElem hj, List.map_append, ← ho]
          rfl
      rintro H7 ⟨S7, h7⟩
      rw [List.length_map, List.take_length] at h7
      have e7 : (es.map fun q => V.int (q.2 * (ordF (N q.1) bs[i] : Int))) = (es.map fun q => q.2 * (ordF (N q.1) bs[i] : Int)).map V.int := by
        rw [List.map_map]
        rfl
      rw [e7] at h7
      have h5' := S7 _ _ h5
      have hPl : ts.length = (bs.take i).length := Paired.length hP
      rw [List.length_take] at hPl
      refine ⟨_, rfl, .inl ⟨rfl, _, SqL.of h5'⟩, _, rfl, _, rfl, D2, _, rfl, SqL.of h7, ?_⟩
      rw [← sm_sum]
      refine ⟨by rw [sizeLine_eq]; show 2 ≤ 16777216; decide, fun T nT => ?_⟩
      have S8 := fresh_upd (o := .tup [V.int (Int.ofNat bs[i]), V.int (sm (lsO es N) bs[i])]) nT
      have hT : upd H7 T (.tup [V.int (Int.ofNat bs[i]), V.int (sm (lsO es N) bs[i])]) T = some (.tup [V.int (Int.ofNat bs[i]), V.int (sm (lsO es N) bs[i])]) := upd_same
      generalize upd H7 T (.tup [V.int (Int.ofNat bs[i]), V.int (sm (lsO es N) bs[i])]) = H8 at S8 hT
      have h8 := S8 _ _ h5'
      refine ⟨a, _, _, rfl, rfl, h8, by rw [List.length_map, sizeLine_eq]; omega, ?_⟩
      refine ⟨⟨_, _, _, rfl⟩, fun b o hb e => (upd_ne hb).trans (S8 _ _ (S7 _ _ (S5 b o hb e))), ts ++ [T], ?_, ?_⟩
      · rw [upd_same, List.map_append]
        rfl
      · rw [List.take_add_one, List.getElem?_eq_getElem hi]
        have keep : ∀ {t : Addr} {xs : List V}, H8 t = some (.tup xs) → upd H8 a (.lst (ts.map V.ref ++ [V.ref T])) t = some (.tup xs) := fun {t xs} e =>
          (upd_ne (fun z => by rw [z, h8] at e; cases e)).trans e
        exact Paired.snoc (Paired.mapP hP fun _ _ e => keep (S8 _ _ (S7 _ _ e))) (keep hT)
    · rintro σ H5 ⟨⟨o4, o5, o6, rfl⟩, S5, ts, h5, hP⟩
      rw [nv_len, List.take_length] at hP
      exact ⟨_, rfl, k H5 a ts bs (fun b o e => S5 b o (fun z => by rw [z, na0] at e; cases e) (S04 _ _ e)) na0 h5 hP hC (fun q hq => hG _ (List.mem_map.mpr ⟨q, hq, rfl⟩)) hs hb⟩
end
end K12
set_option maxHeartbeats 8000000
namespace K12
open PySem PySem.Spec PyProof.Rows L2

/-! ### raised -/
theorem next_ {D : Ends} {σ : L2.St} {H : Hp} (h : D.nx σ H) : tNext D σ H := h
abbrev sRai : Stmt := top 19
def spRai : Sp := fun vs H Q _ => ∃ b c : Nat, vs = [.int b, .int c] ∧ 0 < b ∧ b < 1073741824 ∧ c ≤ 10000 ∧ Q (.int ((b ^ c : Nat) : Int)) H
theorem rai_lt {b c : Nat} (h : b < 1073741824) (hc : c ≤ 10000) : b ^ c < 2 ^ 300001 := by
  have h1 : b ^ c ≤ (2 ^ 30) ^ c := Nat.pow_le_pow_left (show b ≤ 1073741824 by omega) c
  rw [← Nat.pow_mul] at h1
  have h2 : 2 ^ (30 * c) ≤ 2 ^ 300000 := Nat.pow_le_pow_right (by decide) (by omega)
  exact Nat.lt_of_le_of_lt (Nat.le_trans h1 h2) (Nat.pow_lt_pow_right (by decide) (by decide))
theorem le_pw {x y z M : Nat} (h : z * x ^ y = M) (hx : 0 < x) (hz : 0 < z) (hy : 0 < y) : x ≤ M ∧ z ≤ M := by
  have h1 : x ≤ x ^ y := Nat.le_self_pow (by omega) x
  have h2 : 0 < x ^ y := Nat.pow_pos hx
  rw [← h]
  exact ⟨Nat.le_trans h1 (Nat.le_mul_of_pos_left _ hz), Nat.le_mul_of_pos_right _ h2⟩
theorem wm {x z M : Nat} (hx : x ≤ M) (hz : z ≤ M) (hM : M < 2 ^ 300001) : CMulW (z : Int) (x : Int) :=
  wide_mul (a := 300001) (b := 300001) (by rw [Int.natAbs_natCast]; omega) (by rw [Int.natAbs_natCast]; omega) (by decide) (by decide) (by decide)
section
variable {P : Program} {w : World} {K : PySem.W.Frag} {mg : Str → Option Value} {base : Heap}
theorem scRai : FnScope ["base", "count", "power"] ["base", "count"] (defScope sRai) :=
  ⟨rfl, rfl, rfl, by decide +kernel, rfl, by decide +kernel, by decide +kernel⟩
theorem ok_rai {f : Addr} {fd : FuncData} (F : Fun K "raised" "raised" sRai f fd) : FnOk P w K mg base CX0 1 f fd ["base", "count"] spRai := by
  refine F.ok scRai (fun vs H Q E h => ?_) (fun cdv A outer s H vs Q E hr h => ?_)
  · obtain ⟨b, c, rfl, _⟩ := h
    rfl
  · obtain ⟨b, c, rfl, b0, b1, hc, k⟩ := h
    have hM := rai_lt b1 hc
    generalize eM : b ^ c = M at hM k
    refine ⟨_, pss_cons (ps_set (i := 2) scRai.nd rfl (.inl rfl) pe_int)
      (pss_cons (ps_while PassesOwn.never (pt_cmpR op_gt (pv 1) pe_int (nomark _))
        (pss_cons (ps_if (pt_cmpR op_eq (pe_op op_mod (pv 1) pe_int) pe_int (nomark _)) (pss_one (ps_set (i := 2) scRai.nd rfl (.inl rfl) (pe_op op_mulW (pv 2) (pv 0)))) pss_nil)
        (pss_cons (ps_set (i := 1) scRai.nd rfl (.inl rfl) (pe_op op_fdiv (pv 1) pe_int))
        (pss_one (ps_if (pt_cmpR op_gt (pv 1) pe_int (nomark _)) (pss_one (ps_set (i := 0) scRai.nd rfl (.inl rfl) (pe_op op_mulW (pv 0) (pv 0)))) pss_nil)))))
      (pss_one (ps_ret (pv 2)))), ?_⟩
    refine ⟨fun μ σ H2 => H2 = H ∧ ∃ x y z : Nat, σ = [some (.int x), some (.int y), some (.int z)] ∧ μ = y ∧ z * x ^ y = M ∧ 0 < x ∧ 0 < z, ⟨c, rfl, b, c, 1, rfl, rfl, by rw [Nat.one_mul]; exact eM, b0, Nat.one_pos⟩, ?_⟩
    rintro μ σ H2 ⟨rfl, x, y, z, rfl, rfl, hz, x0, z0⟩
    refine ⟨_, rfl, _, _, rfl, rfl, _, rfl, ?_⟩
    by_cases h0 : 0 < μ
    · refine iteT' (decide_eq_true (show (0 : Int) < (μ : Int) by omega)) ?_
      obtain ⟨hx, hzM⟩ := le_pw hz x0 z0 h0
      have e2 : ((μ : Nat) : Int) / 2 = ((μ / 2 : Nat) : Int) := by omega
      -- behind the first test
      have key : ∀ (D : Ends) (z' : Nat), z' * (x * x) ^ (μ / 2) = M → 0 < z' → (∀ x' : Nat, z' * x' ^ (μ / 2) = M → 0 < x' → D.nx [some (.int x'), some (.int ((μ / 2 : Nat) : Int)), some (.int z')] H2) →
          tSeq (tAsg (tOp (rI CDiv fun i j => V.int (i / j)) (tVar 1) (tC (.int 2))) (gName 1)) (tIfS (tTest (tOp (rI0 fun i j => V.bl (decide (j < i))) (tVar 1) (tC (.int 0)))) (tAsg (tOp (rI CMulW fun i j => V.int (i * j)) (tVar 0) (tVar 0)) (gName 0)) tNext)
            D [some (.int x), some (.int μ), some (.int z')] H2 := by
        intro D z' q1 q2 kk
        refine ⟨_, rfl, _, _, rfl, rfl, ⟨by decide, by decide⟩, ?_⟩
        show tIfS (tTest (tOp (rI0 fun i j => V.bl (decide (j < i))) (tVar 1) (tC (.int 0)))) (tAsg (tOp (rI CMulW fun i j => V.int (i * j)) (tVar 0) (tVar 0)) (gName 0)) tNext D [some (V.int x), some (V.int (((μ : Nat) : Int) / 2)), some (V.int z')] H2
        rw [e2]
        refine ⟨_, rfl, _, _, rfl, rfl, _, rfl, ?_⟩
        by_cases h1 : 0 < μ / 2
        · refine iteT' (decide_eq_true (show (0 : Int) < ((μ / 2 : Nat) : Int) by omega)) ?_
          have hxx := (le_pw q1 (Nat.mul_pos x0 x0) q2 h1).1
          refine ⟨_, rfl, _, rfl, _, _, rfl, rfl, wm hx hx hM, ?_⟩
          show D.nx [some (V.int ((x : Int) * (x : Int))), some (V.int ((μ / 2 : Nat) : Int)), some (V.int z')] H2
          rw [← Int.natCast_mul]
          exact kk (x * x) q1 (Nat.mul_pos x0 x0)
        · refine iteN' (show ¬ (0 : Int) < ((μ / 2 : Nat) : Int) by omega) (kk x ?_ x0)
          have e0 : μ / 2 = 0 := by omega
          rw [e0] at q1 ⊢
          exact q1
      have ex2 : ∀ n : Nat, (x * x) ^ n = x ^ (2 * n) := fun n => by rw [Nat.mul_comm 2, Nat.pow_mul, ← Nat.pow_two, ← Nat.pow_mul, ← Nat.pow_mul, Nat.mul_comm]
      refine ⟨fun σ' H' => H' = H2 ∧ ∃ x y z : Nat, σ' = [some (.int x), some (.int y), some (.int z)] ∧ y = μ / 2 ∧ z * x ^ y = M ∧ 0 < x ∧ 0 < z, fun σ' H' hN => ?_, ?_⟩
      · obtain ⟨rfl, x', y', z', rfl, ey, q1, q2, q3⟩ := hN
        exact ⟨y', by omega, rfl, x', y', z', rfl, rfl, q1, q2, q3⟩
      · have em : ((μ : Nat) : Int) % 2 = ((μ % 2 : Nat) : Int) := by omega
        refine ⟨_, rfl, _, _, rfl, rfl, (by show (0 : Int) < 2; decide), rfl, _, rfl, ?_⟩
        by_cases ho : μ % 2 = 1
        · refine iteT' (decide_eq_true (show V.int (((μ : Nat) : Int) % 2) = V.int 1 by rw [em, ho]; rfl)) ?_
          refine ⟨_, rfl, _, rfl, _, _, rfl, rfl, wm hx hzM hM, ?_⟩
          have ezx : ((z : Int) * (x : Int)) = ((z * x : Nat) : Int) := (Int.natCast_mul z x).symm
          have hq : z * x * (x * x) ^ (μ / 2) = M := by
            rw [ex2, Nat.mul_assoc, ← Nat.pow_succ', show (2 * (μ / 2)).succ = μ by omega]
            exact hz
          have kz := fun D kk => key D (z * x) hq (Nat.mul_pos z0 x0) kk
          rw [← ezx] at kz
          refine kz _ fun x' r1 r2 => ?_
          rw [ezx]
          exact ⟨rfl, x', μ / 2, z * x, rfl, rfl, r1, r2, Nat.mul_pos z0 x0⟩
        · refine iteN' (fun y => ho (by have y2 : ((μ : Nat) : Int) % 2 = 1 := V.int.inj y; omega)) (next_ ?_)
          have hq : z * (x * x) ^ (μ / 2) = M := by
            rw [ex2, show 2 * (μ / 2) = μ by omega]
            exact hz
          exact key _ z hq z0 fun x' r1 r2 => ⟨rfl, x', μ / 2, z, rfl, rfl, r1, r2, z0⟩
    · have e0 : μ = 0 := by omega
      subst e0
      rw [Nat.pow_zero, Nat.mul_one] at hz
      subst hz
      refine iteN' (by decide) ?_
      exact ⟨_, rfl, k⟩
end
end K12
set_option maxHeartbeats 8000000
namespace K12
open PySem PySem.Spec PyProof.Rows L2

/-! ### is_numbers -/
abbrev sIsNum : Stmt := top 29
def spIsNum : Sp := fun vs H Q _ => ∃ (d : Addr) (es : Es), vs = [.ref d] ∧ H d = some (.dK (kv es)) ∧ es.length ≤ 1000 ∧ (es.map (·.1)).Nodup ∧ (∀ p ∈ es, isNm p.1 = true) ∧ (∀ p ∈ es, 1 ≤ p.2) ∧
  ∀ H', Same H H' → Q (.bl true) H'
def NIm : List Str := ["value", "name"]
section
variable {P : Program} {w : World} {K : PySem.W.Frag} {mg : Str → Option Value} {base : Heap}
theorem scIsNum : FnScope NIm ["value"] (defScope sIsNum) :=
  ⟨rfl, rfl, rfl, by decide +kernel, rfl, by decide +kernel, by decide +kernel⟩
theorem ok_isnum {f fN fI : Addr} {fd fdN fdI : FuncData} (F : Fun K "is_numbers" "is_numbers" sIsNum f fd) (T : Nk mg)
    (GN : FnOk P w K mg base CX0 1 fN fdN ["value"] (spIsName K)) (kN : PySem.W.keepIn K (.ref fN) = true) (bN : Binds K fdN ["value"] []) (gN : mg "is_name" = some (.ref fN))
    (GI : FnOk P w K mg base CX0 1 fI fdI ["value"] spIsInt) (kI : PySem.W.keepIn K (.ref fI) = true) (bI : Binds K fdI ["value"] []) (gI : mg "is_integer" = some (.ref fI)) :
    FnOk P w K mg base CX0 2 f fd ["value"] spIsNum := by
  refine F.ok scIsNum (fun vs H Q E h => ?_) (fun cdv A outer s H vs Q E hr h => ?_)
  · obtain ⟨d, es, rfl, _⟩ := h
    rfl
  · obtain ⟨d, es, rfl, hd, hl, hn, hnm, hpo, q⟩ := h
    have hu : (A.deeper (envOfC "is_numbers" (defScope sIsNum) s.heap.objs.size f cdv)).units + 1 < cLine := by have := hr.units; omega
    refine ⟨_, pss_cons (ps_if (pt_not (pt_val (pe_callB call_isi (by rfl) T.isi (by decide +kernel) (pa_cons (pv 0) (pa_cons (pe_bltn (v := .ty "dict") (u := .type "dict") (by rfl) T.dict (by decide +kernel) rfl) pa_nil)))))
        (pss_one (ps_ret pe_bl)) pss_nil)
      (pss_one (ps_ret (pe_lock (pe_callB (cr_all rfl) (by rfl) T.all (by decide +kernel) (pa_cons
        (pe_lc (own := [("name", 1)]) (g := gName 1) (tt := tYes)
          (te := tAndV (tCall (spIsName K) [] E0 (tCons (tVar 1) tNil)) (tAndV (tCall spIsInt [] E0 (tCons (tDGet (tVar 0) (tVar 1)) tNil)) (tOp (rI0 fun i j => V.bl (decide (j ≤ i))) (tDGet (tVar 0) (tVar 1)) (tC (.int 1))))) rfl scIsNum.nd (pi_keys (pv 0))
          (blkOk_by (own := [("name", 1)]) (N := NIm) (sc := defScope sIsNum) (by decide +kernel)) (fun _ _ _ _ _ => pg_name (i := 1) scIsNum.nd rfl (Or.inl rfl))
          (fun _ _ _ _ _ => pts_nil) (fun _ _ _ _ _ => by
            exact pe_and (pe_call GN hr rfl gN kN bN .nil pass0 (pa_cons (pv 1) pa_nil))
              (pe_and (pe_call GI hr rfl gI kI bI .nil pass0 (pa_cons (pe_dget hu (pv 0) (pv 1) (fun _ _ => rfl)) pa_nil)) (pe_one (pe_cmpR op_ge (pe_dget hu (pv 0) (pv 1) (fun _ _ => rfl)) pe_int (nomark _)))))) pa_nil))))), ?_⟩
    refine ⟨_, rfl, _, _, _, _, true, rfl, .ty _, .base (.dK hd), kit_ty (by decide +kernel), _, rfl, iteF ?_⟩
    refine ⟨d, _, hd, trivial, fun od => ?_⟩
    refine ⟨_, rfl, d, od, rfl, .inl ⟨kv es, upd_same, fun D hD => ?_⟩⟩
    have Dd : D ≠ d := fun z => by
      rw [z, upd_same] at hD
      cases hD
    have hD0 : H D = none := by
      rw [upd_ne Dd] at hD
      exact hD
    refine lc_it walk_keys (fun i H2 => H2 D = some (.lst ((List.replicate i true).map V.bl)) ∧ H2 d = some (.frz od (.dK (kv es))) ∧ ∀ b o, b ≠ d → H b = some o → H2 b = some o)
      ⟨upd_same, (upd_ne Dd.symm).trans upd_same, fun b o e1 e2 => ?_⟩ (fun i H2 _ p => p.2.1) ?_ ?_
    · rw [upd_ne (ne_of_none e2 hD0), upd_ne e1]
      exact e2
    · rintro i v H2 H3 hi ⟨hD2, hd2, S2⟩ ⟨rfl, k', v', e1, rfl⟩
      rw [kv_len] at hi
      have ei : (kv es)[i]? = some (ky es[i].1, V.int es[i].2) := by
        unfold kv
        rw [List.getElem?_map, List.getElem?_eq_getElem hi]
        rfl
      rw [ei] at e1
      cases e1
      have hnmi := hnm es[i] (List.getElem_mem hi)
      refine ⟨rfl, ?_⟩
      unfold tYes
      dsimp only
      rw [if_pos rfl]
      refine ⟨_, rfl, .inl ⟨es[i].1, rfl, by have := nm_len hnmi; omega, fun H4 S4 => ?_⟩⟩
      rw [hnmi]
      refine ⟨_, rfl, iteT' rfl ?_⟩
      have dg : DGet H4 d (.str es[i].1) (some (.int es[i].2)) := .inl ⟨_, ky es[i].1, .inr ⟨od, S4 _ _ hd2⟩, rfl, (val_at hn hi).symm⟩
      refine ⟨_, rfl, _, rfl, d, .int es[i].2, rfl, dg, es[i].2, rfl, _, rfl, iteT' rfl ?_⟩
      refine ⟨_, rfl, _, rfl, d, .int es[i].2, rfl, dg, _, _, rfl, rfl, ?_⟩
      have eb : V.bl (decide ((1 : Int) ≤ es[i].2)) = V.bl true := congrArg V.bl (decide_eq_true (hpo es[i] (List.getElem_mem hi)))
      dsimp only
      rw [eb]
      refine ⟨_, S4 _ _ hD2, by rw [List.length_map, List.length_replicate, sizeLine_eq]; omega, ?_, ?_, fun b o hb e => ?_⟩
      · rw [upd_same, List.replicate_succ', List.map_append]
        rfl
      · rw [upd_ne Dd.symm]
        exact S4 _ _ hd2
      · rw [upd_ne (ne_of_none e hD0)]
        exact S4 b o (S2 b o hb e)
    · rintro H2 ⟨hD2, hd2, S2⟩
      refine ⟨D, _, rfl, SqL.of hD2, hd2, ?_⟩
      have e : (List.replicate (kv es).length true).all id = true := by
        rw [List.all_eq_true]
        intro x hx
        exact List.eq_of_mem_replicate hx
      rw [e]
      refine q _ fun b o eb => ?_
      by_cases hb : b = d
      · subst hb
        rw [upd_same]
        exact hd.symm.trans eb
      · exact (upd_ne hb).trans (S2 b o hb eb)
end
end K12
set_option maxHeartbeats 8000000
namespace K12
open PySem PySem.Spec PyProof.Rows L2

/-! ### check_numbers, of right numbers -/
abbrev sChN : Stmt := top 31
def spChN : Sp := fun vs H Q _ => ∃ (d l : Addr) (es : Es) (ns : List Str), vs = [.ref d, .ref l] ∧ H d = some (.dK (kv es)) ∧ es.length ≤ 1000 ∧ (es.map (·.1)).Nodup ∧ (∀ p ∈ es, isNm p.1 = true) ∧ (∀ p ∈ es, 1 ≤ p.2) ∧
  H l = some (.lst (ns.map V.str)) ∧ ns.length ≤ 1000 ∧ (∀ n ∈ ns, n ∈ es.map (·.1)) ∧ ∀ H', Same H H' → Q .non H'
def NCN : List Str := ["value", "names", "name"]
section
variable {P : Program} {w : World} {K : PySem.W.Frag} {mg : Str → Option Value} {base : Heap}
theorem scChN : FnScope NCN ["value", "names"] (defScope sChN) :=
  ⟨rfl, rfl, rfl, by decide +kernel, rfl, by decide +kernel, by decide +kernel⟩
theorem all_false (n : Nat) : (List.replicate n false).any id = false := by
  rw [List.any_eq_false]
  intro x hx
  rw [List.eq_of_mem_replicate hx]
  decide
theorem ok_chn {f fN : Addr} {fd fdN : FuncData} (F : Fun K "check_numbers" "check_numbers" sChN f fd) (aN : mg "any" = none)
    (GN : FnOk P w K mg base CX0 2 fN fdN ["value"] spIsNum) (kN : PySem.W.keepIn K (.ref fN) = true) (bN : Binds K fdN ["value"] []) (gN : mg "is_numbers" = some (.ref fN)) :
    FnOk P w K mg base CX0 3 f fd ["value", "names"] spChN := by
  refine F.ok scChN (fun vs H Q E h => ?_) (fun cdv A outer s H vs Q E hr h => ?_)
  · obtain ⟨d, l, es, ns, rfl, _⟩ := h
    rfl
  · obtain ⟨d, l, es, ns, rfl, hd, hl, hn, hnm, hpo, hll, hz, hin, q⟩ := h
    have hu : (A.deeper (envOfC "check_numbers" (defScope sChN) s.heap.objs.size f cdv)).units + 1 < cLine := by have := hr.units; omega
    refine ⟨_, pss_one (ps_if (PW.pt (pw_or (pt_not (pt_val (pe_call GN hr rfl gN kN bN .nil pass0 (pa_cons (pv 0) pa_nil))))
        (pw_or1 (pt_val (pe_callB (cr_any rfl) (by rfl) aN (by decide +kernel) (pa_cons
          (pe_lc (own := [("name", 2)]) (g := gName 2) (tt := tYes) (te := tDNotIn (tVar 2) (tVar 0)) rfl scChN.nd (pi_list (pv 1))
            (blkOk_by (own := [("name", 2)]) (N := NCN) (sc := defScope sChN) (by decide +kernel)) (fun _ _ _ _ _ => pg_name (i := 2) scChN.nd rfl (Or.inl rfl))
            (fun _ _ _ _ _ => pts_nil) (fun _ _ _ _ _ => by exact pe_cmp (pc_dnotin hu (pv 2) (pv 0)) rfl)) pa_nil))))))
        (pss_one ps_no) pss_nil), ?_⟩
    refine ⟨_, rfl, d, es, rfl, hd, hl, hn, hnm, hpo, fun H2 S2 => ⟨_, rfl, iteF ?_⟩⟩
    refine ⟨_, rfl, l, rfl, ⟨_, SqL.of (S2 _ _ hll)⟩, fun D hD => ?_⟩
    refine lc_it (walk_list (K := K) (a := l) (xs := ns.map V.str)) (fun i H3 => H3 D = some (.lst ((List.replicate i false).map V.bl)) ∧ Same H2 H3) ⟨upd_same, fresh_upd hD⟩ (fun i H3 _ h => SqL.of (h.2 _ _ (S2 _ _ hll))) ?_ ?_
    · rintro i x H3 H4 hi ⟨h3, S3⟩ ⟨rfl, hx⟩
      rw [List.length_map] at hi
      obtain ⟨n, hnn, rfl⟩ := List.mem_map.mp (List.mem_of_getElem? hx)
      obtain ⟨p, hp, rfl⟩ := List.mem_map.mp (hin n hnn)
      refine ⟨rfl, ?_⟩
      unfold tYes
      dsimp only
      rw [if_pos rfl]
      refine ⟨_, rfl, _, rfl, d, some (.int p.2), rfl, .inl ⟨_, ky p.1, .inl (S3 _ _ (S2 _ _ hd)), rfl, by rw [val_kv, lookG hn hp]; rfl⟩, ?_⟩
      refine ⟨_, h3, by rw [List.length_map, List.length_replicate, sizeLine_eq]; omega, ?_, fun b o e => ?_⟩
      · rw [upd_same, List.replicate_succ', List.map_append]
        rfl
      · rw [upd_ne (ne_of_none e hD)]
        exact S3 b o e
    · rintro H3 ⟨h3, S3⟩
      refine ⟨D, List.replicate (ns.map V.str).length false, rfl, SqL.of h3, ?_⟩
      rw [all_false]
      exact ⟨_, rfl, iteF (next_ (q _ (S2.trans S3)))⟩
end
end K12
set_option maxHeartbeats 8000000
namespace K12
open PySem PySem.Spec PyProof.Rows L2

/-! ### is_point, check_point of a right point -/
abbrev sIsPt : Stmt := top 30
abbrev sChP : Stmt := top 32
def spIsPt : Sp := fun vs H Q _ => ∃ (d : Addr) (es : Es), vs = [.ref d] ∧ H d = some (.dK (kv es)) ∧ es.length ≤ 1000 ∧ (es.map (·.1)).Nodup ∧ (∀ p ∈ es, isNm p.1 = true) ∧ (∀ p ∈ es, 0 ≤ p.2) ∧
  ∀ H', Same H H' → Q (.bl true) H'
def spChP : Sp := fun vs H Q _ => ∃ (d : Addr) (es : Es), vs = [.ref d] ∧ H d = some (.dK (kv es)) ∧ es.length ≤ 1000 ∧ (es.map (·.1)).Nodup ∧ (∀ p ∈ es, isNm p.1 = true) ∧ (∀ p ∈ es, 0 ≤ p.2) ∧
  ∀ H', Same H H' → Q .non H'
def NIp : List Str := ["value", "name"]
section
variable {P : Program} {w : World} {K : PySem.W.Frag} {mg : Str → Option Value} {base : Heap}
theorem scIsPt : FnScope NIp ["value"] (defScope sIsPt) :=
  ⟨rfl, rfl, rfl, by decide +kernel, rfl, by decide +kernel, by decide +kernel⟩
theorem ok_ispoint {f fN fI : Addr} {fd fdN fdI : FuncData} (F : Fun K "is_point" "is_point" sIsPt f fd) (T : Nk mg)
    (GN : FnOk P w K mg base CX0 1 fN fdN ["value"] (spIsName K)) (kN : PySem.W.keepIn K (.ref fN) = true) (bN : Binds K fdN ["value"] []) (gN : mg "is_name" = some (.ref fN))
    (GI : FnOk P w K mg base CX0 2 fI fdI ["value"] spIsCount) (kI : PySem.W.keepIn K (.ref fI) = true) (bI : Binds K fdI ["value"] []) (gI : mg "is_count" = some (.ref fI)) :
    FnOk P w K mg base CX0 3 f fd ["value"] spIsPt := by
  have GN := GN.mono (k := 2) (by decide)
  refine F.ok scIsPt (fun vs H Q E h => ?_) (fun cdv A outer s H vs Q E hr h => ?_)
  · obtain ⟨d, es, rfl, _⟩ := h
    rfl
  · obtain ⟨d, es, rfl, hd, hl, hn, hnm, hpo, q⟩ := h
    have hu : (A.deeper (envOfC "is_point" (defScope sIsPt) s.heap.objs.size f cdv)).units + 1 < cLine := by have := hr.units; omega
    refine ⟨_, pss_cons (ps_if (pt_not (pt_val (pe_callB call_isi (by rfl) T.isi (by decide +kernel) (pa_cons (pv 0) (pa_cons (pe_bltn (v := .ty "dict") (u := .type "dict") (by rfl) T.dict (by decide +kernel) rfl) pa_nil)))))
        (pss_one (ps_ret pe_bl)) pss_nil)
      (pss_one (ps_ret (pe_lock (pe_callB (cr_all rfl) (by rfl) T.all (by decide +kernel) (pa_cons
        (pe_lc (own := [("name", 1)]) (g := gName 1) (tt := tYes)
          (te := tAndV (tCall (spIsName K) [] E0 (tCons (tVar 1) tNil)) (tCall spIsCount [] E0 (tCons (tDGet (tVar 0) (tVar 1)) tNil))) rfl scIsPt.nd (pi_keys (pv 0))
          (blkOk_by (own := [("name", 1)]) (N := NIp) (sc := defScope sIsPt) (by decide +kernel)) (fun _ _ _ _ _ => pg_name (i := 1) scIsPt.nd rfl (Or.inl rfl))
          (fun _ _ _ _ _ => pts_nil) (fun _ _ _ _ _ => by
            exact pe_and (pe_call GN hr rfl gN kN bN .nil pass0 (pa_cons (pv 1) pa_nil))
              (pe_one (pe_call GI hr rfl gI kI bI .nil pass0 (pa_cons (pe_dget hu (pv 0) (pv 1) (fun _ _ => rfl)) pa_nil))))) pa_nil))))), ?_⟩
    refine ⟨_, rfl, _, _, _, _, true, rfl, .ty _, .base (.dK hd), kit_ty (by decide +kernel), _, rfl, iteF ?_⟩
    refine ⟨d, _, hd, trivial, fun od => ?_⟩
    refine ⟨_, rfl, d, od, rfl, .inl ⟨kv es, upd_same, fun D hD => ?_⟩⟩
    have Dd : D ≠ d := fun z => by
      rw [z, upd_same] at hD
      cases hD
    have hD0 : H D = none := by
      rw [upd_ne Dd] at hD
      exact hD
    refine lc_it walk_keys (fun i H2 => H2 D = some (.lst ((List.replicate i true).map V.bl)) ∧ H2 d = some (.frz od (.dK (kv es))) ∧ ∀ b o, b ≠ d → H b = some o → H2 b = some o)
      ⟨upd_same, (upd_ne Dd.symm).trans upd_same, fun b o e1 e2 => ?_⟩ (fun i H2 _ p => p.2.1) ?_ ?_
    · rw [upd_ne (ne_of_none e2 hD0), upd_ne e1]
      exact e2
    · rintro i v H2 H3 hi ⟨hD2, hd2, S2⟩ ⟨rfl, k', v', e1, rfl⟩
      rw [kv_len] at hi
      have ei : (kv es)[i]? = some (ky es[i].1, V.int es[i].2) := by
        unfold kv
        rw [List.getElem?_map, List.getElem?_eq_getElem hi]
        rfl
      rw [ei] at e1
      cases e1
      have hnmi := hnm es[i] (List.getElem_mem hi)
      refine ⟨rfl, ?_⟩
      unfold tYes
      dsimp only
      rw [if_pos rfl]
      refine ⟨_, rfl, .inl ⟨es[i].1, rfl, by have := nm_len hnmi; omega, fun H4 S4 => ?_⟩⟩
      rw [hnmi]
      refine ⟨_, rfl, iteT' rfl ?_⟩
      refine ⟨_, rfl, _, rfl, d, .int es[i].2, rfl, .inl ⟨_, ky es[i].1, .inr ⟨od, S4 _ _ hd2⟩, rfl, (val_at hn hi).symm⟩, es[i].2, rfl, ?_⟩
      rw [decide_eq_true (hpo es[i] (List.getElem_mem hi))]
      refine ⟨_, S4 _ _ hD2, by rw [List.length_map, List.length_replicate, sizeLine_eq]; omega, ?_, ?_, fun b o hb e => ?_⟩
      · rw [upd_same, List.replicate_succ', List.map_append]
        rfl
      · rw [upd_ne Dd.symm]
        exact S4 _ _ hd2
      · rw [upd_ne (ne_of_none e hD0)]
        exact S4 b o (S2 b o hb e)
    · rintro H2 ⟨hD2, hd2, S2⟩
      refine ⟨D, _, rfl, SqL.of hD2, hd2, ?_⟩
      have e : (List.replicate (kv es).length true).all id = true := by
        rw [List.all_eq_true]
        intro x hx
        exact List.eq_of_mem_replicate hx
      rw [e]
      refine q _ fun b o eb => ?_
      by_cases hb : b = d
      · subst hb
        rw [upd_same]
        exact hd.symm.trans eb
      · exact (upd_ne hb).trans (S2 b o hb eb)
theorem scChP : FnScope ["value"] ["value"] (defScope sChP) :=
  ⟨rfl, rfl, rfl, by decide +kernel, rfl, by decide +kernel, by decide +kernel⟩
theorem ok_chp {f fN : Addr} {fd fdN : FuncData} (F : Fun K "check_point" "check_point" sChP f fd)
    (GN : FnOk P w K mg base CX0 3 fN fdN ["value"] spIsPt) (kN : PySem.W.keepIn K (.ref fN) = true) (bN : Binds K fdN ["value"] []) (gN : mg "is_point" = some (.ref fN)) :
    FnOk P w K mg base CX0 4 f fd ["value"] spChP := by
  refine F.ok scChP (fun vs H Q E h => ?_) (fun cdv A outer s H vs Q E hr h => ?_)
  · obtain ⟨d, es, rfl, _⟩ := h
    rfl
  · obtain ⟨d, es, rfl, hd, hl, hn, hnm, hpo, q⟩ := h
    refine ⟨_, pss_one (ps_if (pt_not (pt_val (pe_call GN hr rfl gN kN bN .nil pass0 (pa_cons (pv 0) pa_nil)))) (pss_one ps_no) pss_nil), ?_⟩
    exact ⟨_, rfl, d, es, rfl, hd, hl, hn, hnm, hpo, fun H2 S2 => ⟨_, rfl, iteF (next_ (q _ S2))⟩⟩
end
end K12
set_option maxHeartbeats 8000000
namespace K12
open PySem PySem.Spec PyProof.Rows L2

/-! ### at_point -/
abbrev sAtP : Stmt := inClass sSize 13
def ptV (es ms : Es) : Int := (es.map fun q => q.2 * g0 ms q.1).sum
def spAtP (C : Addr) : Sp := fun vs H Q _ => ∃ (p d : Addr) (es ms : Es), vs = [.ref p, .ref d] ∧ SizeAt C H p es ∧ (∀ q ∈ es, -(2 ^ 64) < q.2 ∧ q.2 < 2 ^ 64) ∧ H d = some (.dK (kv ms)) ∧ ms.length ≤ 1000 ∧ (ms.map (·.1)).Nodup ∧ (∀ p ∈ ms, isNm p.1 = true) ∧ (∀ p ∈ ms, 0 ≤ p.2) ∧
  ∀ H', Same H H' → Q (.int (ptV es ms)) H'
def NAp : List Str := ["self", "point", "name", "count"]
section
variable {P : Program} {w : World} {K : PySem.W.Frag} {mg : Str → Option Value} {base : Heap} {C : Addr}
theorem scAtP : FnScope NAp ["self", "point"] (defScope sAtP) :=
  ⟨rfl, rfl, rfl, by decide +kernel, rfl, by decide +kernel, by decide +kernel⟩
theorem ok_atp {f fN : Addr} {fd fdN : FuncData} (F : Fun K "at_point" "Size.at_point" sAtP f fd) (Tc : Ck K mg C) (sN : mg "sum" = none)
    (GN : FnOk P w K mg base CX0 4 fN fdN ["value"] spChP) (kN : PySem.W.keepIn K (.ref fN) = true) (bN : Binds K fdN ["value"] []) (gN : mg "check_point" = some (.ref fN)) :
    FnOk P w K mg base CX0 5 f fd ["self", "point"] (spAtP C) := by
  refine F.ok scAtP (fun vs H Q E h => ?_) (fun cdv A outer s H vs Q E hr h => ?_)
  · obtain ⟨p, d, es, ms, rfl, _⟩ := h
    rfl
  · obtain ⟨p, d, es, ms, rfl, hz, hb, hd, hl, hn, hnm, hpo, k⟩ := h
    have hu : (A.deeper (envOfC "Size.at_point" (defScope sAtP) s.heap.objs.size f cdv)).units + 1 < cLine := by have := hr.units; omega
    refine ⟨_, pss_cons (ps_expr (pe_call GN hr rfl gN kN bN .nil pass0 (pa_cons (pv 1) pa_nil)))
      (pss_one (ps_ret (pe_lock (pe_callB (cr_sum rfl) (by rfl) sN (by decide +kernel) (pa_cons
        (pe_lc (own := [("name", 2), ("count", 3)]) (g := gTup K 2 (gCons (gName 2) (gCons (gName 3) gNil))) (tt := tYes)
          (te := tOp (rI CMul fun i j => V.int (i * j)) (tVar 3) (tDGet2 (tVar 1) (tVar 2) (tC (.int 0)))) rfl scAtP.nd (pi_items (pe_fld (pv 0) rfl))
          (blkOk_by (own := [("name", 2), ("count", 3)]) (N := NAp) (sc := defScope sAtP) (by decide +kernel))
          (fun _ _ _ _ _ => pg_tup rfl (pgs_cons (pg_name (i := 2) scAtP.nd rfl (Or.inl rfl)) (pgs_cons (pg_name (i := 3) scAtP.nd rfl (Or.inl rfl)) pgs_nil)))
          (fun _ _ _ _ _ => pts_nil) (fun _ _ _ _ _ => by exact pe_op op_mul (pv 3) (pe_dget2 hu (pv 1) (pv 2) pe_int ⟨rfl, rfl, rfl, rfl⟩))) pa_nil))))), ?_⟩
    obtain ⟨dx, D0, p1, p2, p3, p4, p5, p6⟩ := id hz
    refine ⟨_, rfl, d, ms, rfl, hd, hl, hn, hnm, hpo, fun H2 S2 => ?_⟩
    have q1 := S2 _ _ p1
    have q2 := S2 _ _ p2
    have hd2' := S2 _ _ hd
    refine ⟨D0, _, q2, trivial, fun od => ?_⟩
    have pD : p ≠ D0 := fun z => by
      rw [z, p2] at p1
      cases p1
    refine ⟨_, rfl, p, C, dx, _, _, rfl, (upd_ne pD).trans q1, Tc.cl, Tc.nE, rfl, D0, od, kv es, rfl, upd_same, fun L hL => ?_⟩
    have LD : L ≠ D0 := fun z => by
      rw [z, upd_same] at hL
      cases hL
    have hL0 : H2 L = none := by
      rw [upd_ne LD] at hL
      exact hL
    have rd : ∀ {H' : Hp}, H' D0 = some (.frz od (.dK (kv es))) → (∀ b o, b ≠ D0 → H2 b = some o → H' b = some o) → Rd H' d (.dK (kv ms)) := fun {H'} e1 e2 => by
      by_cases hdD : d = D0
      · subst hdD
        rw [q2] at hd2'
        have e3 : (HO.dK (kv es)) = HO.dK (kv ms) := Option.some.inj hd2'
        rw [← e3]
        exact .inr ⟨od, e1⟩
      · exact .inl (e2 _ _ hdD hd2')
    refine lc_it walk_items (fun i H3 => H3 L = some (.lst (((es.take i).map fun q => q.2 * g0 ms q.1).map V.int)) ∧ H3 D0 = some (.frz od (.dK (kv es))) ∧ ∀ b o, b ≠ D0 → H2 b = some o → H3 b = some o)
      ⟨upd_same, (upd_ne LD.symm).trans upd_same, fun b o e1 e2 => ?_⟩ (fun i H3 _ q => q.2.1) ?_ ?_
    · rw [upd_ne (ne_of_none e2 hL0), upd_ne e1]
      exact e2
    · rintro i v H3 H4 hi ⟨hL3, hD3, S3⟩ ⟨T, x, y, rfl, nT, rfl, e1, e2⟩
      rw [kv_len] at hi
      have ei : (kv es)[i]? = some (ky es[i].1, V.int es[i].2) := by
        unfold kv
        rw [List.getElem?_map, List.getElem?_eq_getElem hi]
        rfl
      dsimp only at e1 e2
      rw [ei] at e1 e2
      cases e1
      cases e2
      have LT : L ≠ T := ne_of_none hL3 nT
      have DT : D0 ≠ T := ne_of_none hD3 nT
      have hbi := hb es[i] (List.getElem_mem hi)
      have g3 := rd hD3 S3
      have g4 : Rd (upd H3 T (.tup [kV (ky es[i].1), V.int es[i].2])) d (.dK (kv ms)) := by
        rcases g3 with g | ⟨o, g⟩
        · exact .inl ((upd_ne (ne_of_none g nT)).trans g)
        · exact .inr ⟨o, (upd_ne (ne_of_none g nT)).trans g⟩
      refine ⟨T, _, rfl, SqT.of upd_same, rfl, _, _, rfl, _, _, rfl, rfl, rfl, ?_⟩
      unfold tYes
      dsimp only
      rw [if_pos rfl]
      refine ⟨_, rfl, _, rfl, d, rfl, .inl ⟨_, g4⟩, _, rfl, _, .inl ⟨_, ky es[i].1, g4, rfl, rfl⟩, ?_⟩
      rw [get_int]
      refine ⟨_, _, rfl, rfl, .inl hbi, ?_⟩
      refine ⟨_, (upd_ne LT).trans hL3, by rw [List.length_map, List.length_map, List.length_take, sizeLine_eq]; omega, ?_, ?_, fun b o hb' e => ?_⟩
      · rw [upd_same, List.take_add_one, List.getElem?_eq_getElem hi, List.map_append, List.map_append]
        rfl
      · rw [upd_ne LD.symm, upd_ne DT]
        exact hD3
      · rw [upd_ne (ne_of_none e hL0), upd_ne (ne_of_none (S3 b o hb' e) nT)]
        exact S3 b o hb' e
    · rintro H3 ⟨hL3, hD3, S3⟩
      rw [kv_len, List.take_length] at hL3
      refine ⟨L, _, rfl, SqL.of hL3, hD3, ?_⟩
      refine k _ fun b o e => ?_
      by_cases hbD : b = D0
      · subst hbD
        rw [upd_same]
        exact p2.symm.trans e
      · exact (upd_ne hbD).trans (S3 b o hbD (S2 _ _ e))
end
end K12
set_option maxHeartbeats 8000000
namespace K12
open PySem PySem.Spec PyProof.Rows L2

/-! ### the value at numbers -/
def upV : Es → (Str → Nat) → Nat
  | [], _ => 1
  | q :: r, N => (if 0 < q.2 then N q.1 ^ q.2.toNat else 1) * upV r N
def dnV : Es → (Str → Nat) → Nat
  | [], _ => 1
  | q :: r, N => (if q.2 < 0 then N q.1 ^ (-q.2).toNat else 1) * dnV r N
/-- a bound on what is multiplied -/
def bnd : Es → (Str → Nat) → Nat
  | [], _ => 0
  | q :: r, L => q.2.natAbs * L q.1 + bnd r L
theorem ord_of_G {bs : List Nat} {n : Nat} (hc : Cop bs) (h : G bs n) : ∃ f, n = K12.pw f bs ∧ ∀ b ∈ bs, IsOrd n b (f b) := by
  obtain ⟨f, e⟩ := G.pw h hc.nodup
  refine ⟨f, e, fun b hb => ?_⟩
  obtain ⟨r, er, hr⟩ := pw_split f hc hb
  refine ⟨r, e.trans er, fun z => ?_⟩
  have h1 := hc.2 b hb
  have h2 : Nat.gcd b r = b := Nat.gcd_eq_left z
  have h3 : Nat.gcd b r = 1 := hr
  omega
theorem pw_ord {bs : List Nat} {n : Nat} (hc : Cop bs) (h : G bs n) : n = K12.pw (ordF n) bs := by
  obtain ⟨f, e, k⟩ := ord_of_G hc h
  have z : K12.pw (ordF n) bs = K12.pw f bs := pw_congr fun b hb => ordF_eq (hc.2 b hb) (k b hb)
  rw [z]
  exact e
theorem above_up {bs : List Nat} (hc : Cop bs) (N : Str → Nat) : ∀ {es : Es}, (∀ q ∈ es, G bs (N q.1)) → above bs (lsO es N) = upV es N
  | [], _ => rfl
  | q :: r, h => by
    have ih := above_up hc N (es := r) fun q hq => h q (List.mem_cons_of_mem _ hq)
    show (if 0 < q.2 then K12.pw (ordF (N q.1)) bs ^ q.2.toNat else 1) * above bs (lsO r N) = _
    rw [ih, ← pw_ord hc (h q (List.mem_cons_self ..))]
    rfl
theorem below_dn {bs : List Nat} (hc : Cop bs) (N : Str → Nat) : ∀ {es : Es}, (∀ q ∈ es, G bs (N q.1)) → below bs (lsO es N) = dnV es N
  | [], _ => rfl
  | q :: r, h => by
    have ih := below_dn hc N (es := r) fun q hq => h q (List.mem_cons_of_mem _ hq)
    show (if q.2 < 0 then K12.pw (ordF (N q.1)) bs ^ (-q.2).toNat else 1) * below bs (lsO r N) = _
    rw [ih, ← pw_ord hc (h q (List.mem_cons_self ..))]
    rfl
theorem upV_lt {N L : Str → Nat} : ∀ {es : Es}, (∀ q ∈ es, N q.1 < 2 ^ L q.1) → upV es N ≤ 2 ^ bnd es L
  | [], _ => Nat.le_refl _
  | q :: r, h => by
    have ih := upV_lt (L := L) (es := r) fun q hq => h q (List.mem_cons_of_mem _ hq)
    have hq := h q (List.mem_cons_self ..)
    show (if 0 < q.2 then N q.1 ^ q.2.toNat else 1) * upV r N ≤ 2 ^ (q.2.natAbs * L q.1 + bnd r L)
    rw [Nat.pow_add]
    refine Nat.mul_le_mul ?_ ih
    split
    · rename_i h0
      have e : q.2.toNat = q.2.natAbs := by omega
      rw [e, Nat.mul_comm, Nat.pow_mul]
      exact Nat.pow_le_pow_left (by omega) _
    · exact Nat.one_le_two_pow
theorem dnV_lt {N L : Str → Nat} : ∀ {es : Es}, (∀ q ∈ es, N q.1 < 2 ^ L q.1) → dnV es N ≤ 2 ^ bnd es L
  | [], _ => Nat.le_refl _
  | q :: r, h => by
    have ih := dnV_lt (L := L) (es := r) fun q hq => h q (List.mem_cons_of_mem _ hq)
    have hq := h q (List.mem_cons_self ..)
    show (if q.2 < 0 then N q.1 ^ (-q.2).toNat else 1) * dnV r N ≤ 2 ^ (q.2.natAbs * L q.1 + bnd r L)
    rw [Nat.pow_add]
    refine Nat.mul_le_mul ?_ ih
    split
    · rename_i h0
      have e : (-q.2).toNat = q.2.natAbs := by omega
      rw [e, Nat.mul_comm, Nat.pow_mul]
      exact Nat.pow_le_pow_left (by omega) _
    · exact Nat.one_le_two_pow
theorem dnV_pos {N : Str → Nat} : ∀ {es : Es}, (∀ q ∈ es, 0 < N q.1) → 0 < dnV es N
  | [], _ => Nat.zero_lt_one
  | q :: r, h => by
    have ih := dnV_pos (es := r) fun q hq => h q (List.mem_cons_of_mem _ hq)
    have hq := h q (List.mem_cons_self ..)
    show 0 < (if q.2 < 0 then N q.1 ^ (-q.2).toNat else 1) * dnV r N
    refine Nat.mul_pos ?_ ih
    split
    · exact Nat.pow_pos hq
    · decide
theorem upV_pos {N : Str → Nat} : ∀ {es : Es}, (∀ q ∈ es, 0 < N q.1) → 0 < upV es N
  | [], _ => Nat.zero_lt_one
  | q :: r, h => by
    have ih := upV_pos (es := r) fun q hq => h q (List.mem_cons_of_mem _ hq)
    have hq := h q (List.mem_cons_self ..)
    show 0 < (if 0 < q.2 then N q.1 ^ q.2.toNat else 1) * upV r N
    refine Nat.mul_pos ?_ ih
    split
    · exact Nat.pow_pos hq
    · decide
theorem IsOrd.le_lg {n b k l : Nat} (hb : 1 < b) (n0 : 0 < n) (hn : n < 2 ^ l) (h : IsOrd n b k) : k ≤ l := by
  obtain ⟨r, e, hr⟩ := h
  have r0 : 0 < r := by
    refine Nat.pos_of_ne_zero fun z => ?_
    rw [z, Nat.mul_zero] at e
    omega
  have h1 : 2 ^ k ≤ b ^ k := Nat.pow_le_pow_left hb k
  have h2 : b ^ k ≤ n := by
    rw [e]
    exact Nat.le_mul_of_pos_right _ r0
  have h3 : 2 ^ k < 2 ^ l := by omega
  exact Nat.le_of_lt ((Nat.pow_lt_pow_iff_right (show 1 < 2 by decide)).mp h3)
theorem sm_le {bs : List Nat} (hc : Cop bs) {N L : Str → Nat} {b : Nat} (hb : b ∈ bs) : ∀ {es : Es}, (∀ q ∈ es, G bs (N q.1)) → (∀ q ∈ es, 0 < N q.1 ∧ N q.1 < 2 ^ L q.1) →
    sm (lsO es N) b ≤ (bnd es L : Nat)
  | [], _, _ => Int.le_refl _
  | q :: r, h, k => by
    have ih := sm_le hc hb (es := r) (fun q hq => h q (List.mem_cons_of_mem _ hq)) fun q hq => k q (List.mem_cons_of_mem _ hq)
    have hq := h q (List.mem_cons_self ..)
    obtain ⟨n0, nl⟩ := k q (List.mem_cons_self ..)
    obtain ⟨f, e, kf⟩ := ord_of_G hc hq
    have ho := ordF_eq (hc.2 b hb) (kf b hb)
    have hl := (kf b hb).le_lg (hc.2 b hb) n0 nl
    show q.2 * (ordF (N q.1) b : Nat) + sm (lsO r N) b ≤ ((q.2.natAbs * L q.1 + bnd r L : Nat) : Int)
    rw [ho]
    have h1 : q.2 * (f b : Nat) ≤ ((q.2.natAbs * L q.1 : Nat) : Int) := by
      have h2 : q.2 * (f b : Nat) ≤ (q.2.natAbs : Int) * (f b : Nat) := Int.mul_le_mul_of_nonneg_right (by omega) (by omega)
      have h3 : q.2.natAbs * f b ≤ q.2.natAbs * L q.1 := Nat.mul_le_mul_left _ hl
      have h4 : ((q.2.natAbs * f b : Nat) : Int) = (q.2.natAbs : Int) * (f b : Nat) := Int.natCast_mul ..
      omega
    omega
theorem pw_take {f : Nat → Nat} : ∀ {bs : List Nat}, (∀ b ∈ bs, 1 < b) → ∀ i, pw f (bs.take i) ≤ pw f bs
  | [], _, i => by simp
  | b :: r, h, 0 => by
    have : 0 < pw f (b :: r) := pw_pos h
    show 1 ≤ _
    omega
  | b :: r, h, i + 1 => by
    have ih := pw_take (f := f) (bs := r) (fun x hx => h x (List.mem_cons_of_mem _ hx)) i
    show b ^ f b * pw f (r.take i) ≤ b ^ f b * pw f r
    exact Nat.mul_le_mul_left _ ih
theorem pw_snoc (f : Nat → Nat) (b : Nat) : ∀ bs : List Nat, pw f (bs ++ [b]) = pw f bs * b ^ f b
  | [] => by
    show b ^ f b * 1 = 1 * b ^ f b
    omega
  | c :: r => by
    show c ^ f c * pw f (r ++ [b]) = c ^ f c * pw f r * b ^ f b
    rw [pw_snoc f b r, Nat.mul_assoc]
theorem value_eq {bs : List Nat} (hc : Cop bs) {N : Str → Nat} {es : Es} (hG : ∀ q ∈ es, G bs (N q.1)) (h : ∀ b ∈ bs, 0 ≤ sm (lsO es N) b) :
    dnV es N ∣ upV es N ∧ pw (fun b => (sm (lsO es N) b).toNat) bs = upV es N / dnV es N := by
  have z := value_whole (lsO es N) h
  rw [above_up hc N hG, below_dn hc N hG] at z
  have hp : 0 < dnV es N := by
    rw [← below_dn hc N hG]
    exact below_pos hc _
  refine ⟨⟨_, z⟩, ?_⟩
  rw [z, Nat.mul_div_cancel_left _ hp]
theorem value_no {bs : List Nat} (hc : Cop bs) {N : Str → Nat} {es : Es} (hG : ∀ q ∈ es, G bs (N q.1)) {b : Nat} (hb : b ∈ bs) (h : sm (lsO es N) b < 0) : ¬ dnV es N ∣ upV es N := by
  rw [← above_up hc N hG, ← below_dn hc N hG]
  exact value_not hc _ hb h
end K12
set_option maxHeartbeats 8000000
/-! own exceptions that are raised; methods that raise -/
namespace L2
open PySem PySem.Spec PyProof.Rows

/-- C(e, ..), to be raised: its dict is new -/
def tXm (C : Addr) (ps : List Str) (ta : TA) : St → Hp → XK → Prop := fun σ H Q => ta σ H fun vs H1 => vs.length = ps.length ∧
  ∀ d, H1 d = none → Q (.ref C) (some d) (upd H1 d (.xd (ps.zip vs.reverse)))
section
variable {X : Cx} {C : Addr} {p₀ : Str} {ps : List Str} {k : Nat} {x : Str} {p pos : Pos} {e : Expr} {es : List Expr} {ta : TA}
theorem pmk_x (M : MkAll X.prog X.w X.K X.mg C (p₀ :: ps)) (hr : Room k X.A) (hg : Gl X x) (hm : X.mg x = some (.ref C)) (R : Raises X (.ref C))
    (ha : PA X (e :: es) ta) (hdb : (x == ("__debug__" : Str)) = false := by decide)
    (he : starEach (e :: es) X.env = (false, eval e X.env) :: starEach es X.env := by rfl)
    (hpl : (backTo pos (starEach es X.env)).any (·.1) = false := by rfl) :
    PMk X (.Call (.Name x p) (e :: es) [] pos) (tXm C (p₀ :: ps) ta) := by
  intro pins s σ H Q I h
  refine wpAny_Call_Name_kw (ld_glob I hg hm ?_ hdb)
  refine PySem.W.callWith_K (h₀ := X.base) I.ok.mod.kin M.kp
    (thn (ha.run pos pins s σ H _ I h) fun us s1 ⟨vs, H1, I1, r, hl, q⟩ => ⟨I1.kIn, ?_⟩) he hpl
  have lu : us.length = (p₀ :: ps).length := r.length.symm.trans hl
  have Z := M.pos ((p₀ :: ps).zip us.reverse) (zip_fst (by rw [List.length_reverse]; exact lu))
  rw [zip_rev lu] at Z
  have kv := zip_kv (p₀ :: ps) (vals_rev r)
  have hd := hr.dp
  show wpAny _ _ (call (.ref C) us) _ _ _
  refine wpAny_call (Z X.A _ s1 I1.mh I1.nolimit (by omega) fun h' tk a W => ?_)
  have zo := W.obj
  obtain ⟨u0, ur, eu⟩ : ∃ u0 ur, us.reverse = u0 :: ur := by
    cases e : us.reverse with
    | nil =>
      have z := congrArg List.length e
      rw [List.length_reverse, lu] at z
      cases z
    | cons a b => exact ⟨a, b, rfl⟩
  obtain ⟨y0, yr, ey⟩ : ∃ y0 yr, vs.reverse = y0 :: yr := by
    cases e : vs.reverse with
    | nil =>
      have z := congrArg List.length e
      rw [List.length_reverse, hl] at z
      cases z
    | cons a b => exact ⟨a, b, rfl⟩
  rw [eu] at zo kv
  obtain ⟨t1, dx, e1, e2, e3, e4⟩ := zo
  obtain ⟨G, g1', g2'⟩ := restrict h' fun b => decide (b ≠ a)
  have gk : ∀ b, b ≠ a → G.get? b = h'.get? b := fun b hb => g1' b (decide_eq_true hb)
  have ge : G.get? a = none := g2' a (by simp)
  have na0 : H1 a = none := I1.hok.fresh W.new
  have hdx : H1 dx = none := I1.hok.fresh e2
  have keep : ∀ b o, s1.heap.get? b = some o → G.get? b = some o := fun b o z =>
    (gk b (Nat.ne_of_lt (Nat.lt_of_lt_of_le (Heap.lt_size z) W.new))).trans (W.keep b o z)
  have ok : ObjOk X.prog X.w H1 G dx (.xd ((p₀ :: ps).zip vs.reverse)) := by
    refine ⟨_, e4.at fun o y => (gk dx e3).trans y, ?_⟩
    exact kv_lookup kv
  have J := I1.laid (t' := tk) (a := dx) (o := .xd ((p₀ :: ps).zip vs.reverse)) (h' := G) keep e2 ok
  refine ⟨a, _, _, { s1 with heap := G, toks := tk }, _, .ref C, some dx, rfl, J, fun b o z => ?_, ge, e1, ⟨rfl, rfl⟩, rfl, rfl, ?_, rfl, I1.bare, R, q dx hdx⟩
  · by_cases hb : b = a
    · subst hb
      rw [show ({ s1 with heap := G, toks := tk } : Shared).heap = G from rfl, ge] at z
      cases z
    · exact (gk b hb).symm.trans z
  · rw [upd_ne e3.symm]
    exact na0
end

section
variable {X : Cx} {CX : CXT} {k : Nat} {f C : Addr} {fd : FuncData} {ps : List Str} {sp : Sp} {E : St → XK} {m : Str} {p apos : Pos} {e o : Expr} {es : List Expr} {ta : TE} {t : TA}
/-- o.m(e, ..), which may raise, as the slots stand -/
def tMethE (C : Addr) (m : Str) (sp : Sp) (E : St → XK) (ta : TE) (t : TA) : TE := fun σ H Q => ta σ H fun x H1 =>
  ∃ a dx fs, x = .ref a ∧ H1 a = some (.ins C dx fs) ∧ fs.lookup m = none ∧ t σ H1 fun vs H2 => sp (x :: vs) H2 Q (E σ)
theorem pe_methE {pl : Sem Bool} (he : PE X o ta) (c : Cls X.K C) (hm : Meth X.K C m f) (F : FnOk X.prog X.w X.K X.mg X.base CX k f fd ps sp) (hr : Room k X.A) (hb : Binds X.K fd ps []) (hx : ∀ σ, PassesAt CX X σ (E σ)) (ha : PA X (e :: es) t)
    (hst : starEach (e :: es) X.env = (false, eval e X.env) :: starEach es X.env := by rfl) (hpl : (backTo pos (starEach es X.env)).any (·.1) = false := by rfl)
    (ht : eval (.Call (.Attribute o m apos) (e :: es) [] pos) X.env = (do
      let ov ← eval o X.env
      standAt apos.atName
      let (f, first) ← holding [ov] (getMethod ov m pl)
      callWith pos f first (backTo pos (starEach (e :: es) X.env)) (backToKw pos (keywordEach [] X.env))) := by rfl) :
    PE X (.Call (.Attribute o m apos) (e :: es) [] pos) (tMethE C m sp E ta t) := by
  refine ⟨fun pins s σ H Q I h => ?_⟩
  refine PySem.W.methodCall_KW (pl := pl) (thn (he.run pins s σ H _ I h) fun u s1 ⟨x, H1, I1, rx, a, dx, fs, ex, ea, l, q⟩ => ?_) ht
  subst ex
  obtain rfl : u = Value.ref a := rx
  refine getmeth_ok I1 ea c hm l ?_
  refine PySem.W.callWith_K (first := [.ref a]) (h₀ := X.base) I.ok.mod.kin hm.kp (thn (ha.run pos pins s1 σ H1 _ I1 q) fun us s2 ⟨vs, H2, I2, r, q2⟩ => ⟨I2.kIn, ?_⟩) hst hpl
  exact run_fnS (us := .ref a :: us) (vs := .ref a :: vs) F hr hb (hx σ) I2 (.cons rfl r) q2
end

/-! ### what a suite asks of the exception that it holds -/
def tXb (a : Addr) (cls : Value) (d : Option Addr) (C : Addr) (f : Str) (te : TE) : TE := fun σ H Q => te σ H fun x H1 => x = .ref a ∧ cls = .ref C ∧
  ∃ (dd : Addr) (fs : List (Str × V)) (v : V), d = some dd ∧ H1 dd = some (.xd fs) ∧ fs.lookup f = some v ∧ Q v H1
def rXb (K : PySem.W.Frag) (a : Addr) (cls : Value) (d : Option Addr) (C : Addr) : List V → Hp → VK → Prop := fun xs H Q =>
  ∃ (c : V) (u : Value) (b : Bool) (dd : Addr) (fs : List (Str × V)), xs = [.ref a, c] ∧ cls = .ref C ∧ d = some dd ∧ H dd = some (.xd fs) ∧ ClsV c u ∧ PySem.W.kitOne K (.ref C) u = some b ∧ Q (.bl b) H
section
variable {X : Cx} {a C : Addr} {oe : Obj} {cls : Value} {d : Option Addr} {pn : List (Addr × Obj)} {e : Expr} {te : TE} {pos : Pos} {n : Str}
theorem pe_xb (T : XG X.K C) (hno : PySem.W.findIn X.K (.ref C) n = some none)
    (hz : Zc cls d oe) (hf : ∃ vs, oe.data = .fields vs) (he : PE (X.suite a ((a, oe) :: pn)) e te) (hb : attributeBase e n X.env (eval e X.env) = eval e X.env := by rfl) :
    PE (X.suite a ((a, oe) :: pn)) (.Attribute e n pos) (tXb a cls d C n te) := by
  refine ⟨fun pins s σ H Q I h => ?_⟩
  refine attr_of hb (thn (he.run pins s σ H _ I h) fun u s1 hh => ?_)
  obtain ⟨x, H1, I1, rx, ex, ec, dd, fs, v, ed, ea, l, q⟩ := hh
  subst ex
  obtain rfl : u = Value.ref a := rx
  subst ec
  subst ed
  obtain ⟨ha, _⟩ := I1.pin (a, oe) (List.mem_append_left _ List.mem_cons_self)
  obtain ⟨vs, hd⟩ := hf
  have hx : ObjOk X.prog X.w H1 s1.heap dd (.xd fs) := I1.hok dd _ ea
  obtain ⟨mA, hns, hr⟩ := hx
  obtain ⟨od, ho, hl⟩ := lookIn_ns hns
  obtain ⟨u, hu, ru⟩ := RelO.some_of (v := v) (o := mA n) (by rw [← l]; exact hr n)
  have J : PySem.W.InstAt s1.heap a oe C (some od) := ⟨ha, hz.1, by unfold PySem.W.notCls; rw [hd] <;> rfl, by rw [hz.2]; exact ho⟩
  exact HandSPX.exc_get I1.kIn J T.ga T.gg T.ex (PySem.W.findObj_own T.hd hno rfl (by rw [hl, hu])) (handed_of ru) ⟨v, H1, I1.tok _, ru, q⟩
theorem call_xb (G : XG X.K C) (hz : Zc cls d oe) (hf : ∃ vs, oe.data = .fields vs) : CallR (X.suite a ((a, oe) :: pn)) (.builtin "isinstance") (rXb X.K a cls d C) := by
  intro pins s σ H xs us Q I r h
  obtain ⟨c, u, b, dd, fs, rfl, ec, ed, ea, k, ek, q⟩ := h
  obtain ⟨u1, u2, rfl, r1, r2⟩ := vals2 r
  have e2 := k.eq r2
  subst e2
  obtain rfl : u1 = Value.ref a := r1
  subst ec
  subst ed
  obtain ⟨ha, _⟩ := I.pin (a, oe) (List.mem_append_left _ List.mem_cons_self)
  obtain ⟨vs, hd⟩ := hf
  have hx : ObjOk X.prog X.w H s.heap dd (.xd fs) := I.hok dd _ ea
  obtain ⟨mA, hns, hr⟩ := hx
  obtain ⟨od, ho, hl⟩ := lookIn_ns hns
  have J : PySem.W.InstAt s.heap a oe C (some od) := ⟨ha, hz.1, by unfold PySem.W.notCls; rw [hd] <;> rfl, by rw [hz.2]; exact ho⟩
  exact PySem.W.kia_one (PySem.W.kitx_exc G.cl G.ga G.gg G.ex G.cc G.cn G.ct G.co) I.kIn J ek (fun z => nomatch z) fun tk => ⟨.bl b, H, I.tok tk, rfl, q⟩
end

/-! ### defs that raise nothing, called whatever is being handled -/
structure RoomW (k : Nat) (A : Around) : Prop where
  dp : A.depth + 3 * k + 5 < recursionLimit
  un : A.units + 16 * k + 200 < cLine
theorem RoomW.mono {j k : Nat} {A : Around} (r : RoomW k A) (h : j ≤ k) : RoomW j A := ⟨by have := r.dp; omega, by have := r.un; omega⟩
theorem RoomW.deeper {k : Nat} {A : Around} (r : RoomW (k + 1) A) (env : Env) : RoomW k (A.deeper env) :=
  ⟨by have := r.dp; show A.depth + 1 + 3 * k + 5 < _; omega, by have := r.un; show A.units + 3 + 16 * k + 200 < _; omega⟩
theorem RoomW.depth {k : Nat} {A : Around} (r : RoomW k A) : A.depth < recursionLimit := by have := r.dp; omega
theorem RoomW.mark {k : Nat} {A : Around} (r : Room k A) (v : Option Value) : RoomW k (A.mark v) := ⟨r.dp, r.un⟩
theorem roomW_of {k : Nat} {A : Around} (r : Room k A) : RoomW k A := ⟨r.dp, r.un⟩
structure FnW (P : Program) (w : World) (K : PySem.W.Frag) (mg : Str → Option Value) (base : Heap) (k : Nat) (f : Addr) (fd : FuncData) (ps : List Str) (sp : Sp) : Prop where
  len : ∀ vs H Q, sp vs H Q E0 → vs.length = ps.length
  run : ∀ (A : Around) (outer : List Env) (s : Shared) (H : Hp) (args : Args) (us : List Value) (vs : List V) (Q : VK), RoomW k A → Env0 P w K mg base A outer s H → BindsTo s fd args (ps.zip us) → Vals vs us → sp vs H Q E0 →
    codeAny (model P w) A (.call (.ref f) args) (CR CX0 outer P w H s Q E0) s
def cxW (P : Program) (w : World) (K : PySem.W.Frag) (mg : Str → Option Value) (base : Heap) (N : List Str) (qual : Str) (scope : Scope) (f : Addr) (cd : Value) (A : Around) (outer : List Env) (s : Shared) (H : Hp) : Cx :=
  { cxOf CX0 P w K mg base N qual scope f cd A outer s H E0 with calm := false }
theorem inv_startW {P : Program} {w : World} {K : PySem.W.Frag} {mg : Str → Option Value} {base : Heap} {N ps : List Str} {qual : Str} {scope : Scope} {f : Addr} {cd : Value} {A : Around} {outer : List Env} {s s1 : Shared} {H : Hp} {us : List Value} {vs : List V}
    (S : FnScope N ps scope) (e0 : Env0 P w K mg base A outer s H) (hl : vs.length = ps.length) (r : Vals vs us)
    (x : InCallC s s.heap.objs.size (bindL (envOfC qual scope s.heap.objs.size f cd).kindOf (ps.zip us) fun _ => none) (cellsFrom (s.heap.objs.size + 1) scope.names []) (bindC (envOfC qual scope s.heap.objs.size f cd).kindOf (ps.zip us) fun _ => none) s1) :
    Inv (cxW P w K mg base N qual scope f cd A outer s H) [] (L2.start N vs) H s1 := by
  have hpl : ps.length ≤ N.length := by have := congrArg List.length S.pre; rw [List.length_take] at this; omega
  obtain ⟨h1, tk, rfl, hk⟩ := x.done
  have noA : ∀ b : Addr, b ∉ (cxW P w K mg base N qual scope f cd A outer s H).ex := fun b z => absurd (show b ∈ ([] : List Addr) from z) (by simp)
  refine ⟨⟨e0.mod, S.kind, rfl, rfl, Nat.le_refl _, fun y z c h1 h2 => ?_, fun y hy => ?_, fun y c _ h => ?_, (fun z => Bool.noConfusion (show false = true from z)), Around.frames_deeper e0.frames, .inr ⟨rfl, rfl⟩, fun b z => absurd z (noA b), e0.bs, e0.bsz, fun b _ _ => noA b, fun b z => absurd z (noA b), e0.funs, e0.frf⟩,
    rfl, e0.bare, Un.kept hk, ⟨_, x.toInCall.ns, fun i y v h1 h2 h3 => ?_⟩, fun y c h => ⟨_, x.cell y c h⟩, e0.hok.fresh (Nat.le_refl _), fun y c h => ?_, fun q hq => ?_, e0.hok.kept hk, ?_⟩
  · exact name_of_addr x.apart (PySem.mem_of_lookup h1) (PySem.mem_of_lookup h2)
  · have hy : scope.names.lookup y = some .cell ∨ scope.names.lookup y = some .free := hy
    rcases hy with hy | hy
    · exact cell_has hy
    · exact absurd rfl (S.nofree _ (PySem.mem_of_lookup hy))
  · exact Nat.le_of_lt (x.above y c (PySem.mem_of_lookup h))
  · have hi : i < vs.length := by
      unfold L2.start at h2
      by_cases hi : i < vs.length
      · exact hi
      · rw [List.getElem?_append_right (by simpa using hi)] at h2
        rw [List.getElem?_replicate] at h2
        split at h2 <;> cases h2
    have ha : vs[i]? = some v := by
      unfold L2.start at h2
      rw [List.getElem?_append_left (by simpa using hi), List.getElem?_map] at h2
      cases e : vs[i]? with
      | none => rw [e] at h2; cases h2
      | some a => rw [e] at h2; cases h2; rfl
    obtain ⟨u, hu, rv⟩ := r.get ha
    have hp : ps[i]? = some y := by
      rw [← S.pre, List.getElem?_take_of_lt (by omega)]; exact h1
    have ndP : ps.Nodup := by rw [← S.pre]; exact S.nd.sublist (List.take_sublist _ _)
    refine ⟨u, rv, ?_⟩
    rcases S.par y (List.mem_of_getElem? hp) with k | k
    · exact .inl ⟨k, bindL_get ndP hp hu k⟩
    · obtain ⟨c, e⟩ := cell_has (n := s.heap.objs.size + 1) k
      refine .inr ⟨.inl k, c, e, ?_⟩
      have q := x.cell y c e
      rw [bindC_get ndP hp hu (by show scope.names.lookup y ≠ _; rw [k]; decide)] at q
      exact q
  · exact e0.hok.fresh (Nat.le_of_lt (x.above y c (PySem.mem_of_lookup h)))
  · cases hq
  · unfold L2.start
    show _ = N.length
    rw [List.length_append, List.length_map, List.length_replicate]
    omega
theorem fn_ofW {P : Program} {w : World} {K : PySem.W.Frag} {mg : Str → Option Value} {base : Heap} {k : Nat} {f : Addr} {name qual : Str} {params : Arguments} {body : List Stmt} {scope : Scope} {dV kV doc pm cdv ct oc : Value} {an od : Option Addr}
    {osl : Array (Option Value)} {N ps : List Str} {sp : Sp} (lk : K.lookup f = some ⟨oc, od, .func (PySem.W.fnOf name qual params body scope dV kV doc pm an cdv ct), osl⟩) (hcd : PySem.W.codeIn K cdv qual = true) (S : FnScope N ps scope)
    (len : ∀ vs H Q, sp vs H Q E0 → vs.length = ps.length)
    (hbody : ∀ (A : Around) (outer : List Env) (s : Shared) (H : Hp) (vs : List V) (Q : VK), RoomW k (A.deeper (envOfC qual scope s.heap.objs.size f cdv)) → sp vs H Q E0 →
      ∃ t, PSs (cxW P w K mg base N qual scope f cdv A outer s H) body t ∧ t { nx := fun _ H' => Q .non H', rt := Q } (L2.start N vs) H) :
    FnW P w K mg base (k + 1) f (PySem.W.fnOf name qual params body scope dV kV doc pm an cdv ct) ps sp := by
  refine ⟨len, fun A outer s H args us vs Q hr e0 hb r hsp => ?_⟩
  have hl := len _ _ _ hsp
  have KX : K.In s.heap := e0.mod.kin.keeps fun b o e => (e0.bs b o e).1
  have lim : s.heap.NoLimit := e0.mod.nolimit.keeps fun b o e => (e0.bs b o e).1
  have hkind : ∀ y ∈ ps.zip us, scope.names.lookup y.1 = some .local ∨ (scope.names.lookup y.1 = some .cell ∧ ((cellsFrom (s.heap.objs.size + 1) scope.names []).lookup y.1).isSome = true) := fun ⟨n, v⟩ hy => by
    rcases S.par n (List.of_mem_zip hy).1 with q | q
    · exact .inl q
    · exact .inr ⟨q, PySem.W.cellsFrom_some _ _ _ (.inl q)⟩
  refine codeAny_call_function hr.depth (KX _ _ lk) rfl S.co S.gen rfl (PySem.W.codeRec_of KX hcd) (hb _ _ _ _ ?_)
  refine wpAny_newFunctionEnv_cells S.kind hkind fun env he s1 x => ?_
  subst he
  refine ⟨lim.keeps x.toInCall.keep, codeAny_func ?_⟩
  obtain ⟨t, ht, hq⟩ := hbody A outer s H vs Q (hr.deeper _) hsp
  have I : Inv (cxW P w K mg base N qual scope f cdv A outer s H) [] (L2.start N vs) H s1 := inv_startW S e0 hl r x
  refine wpAny_mono (ht.run [] s1 (L2.start N vs) H _ I hq) (fun fl s' hs => ?_) fun e s' hs => hs
  have fin : ∀ {σ' : St} {H' : Hp} {v : V} {u : Value}, Inv (cxW P w K mg base N qual scope f cdv A outer s H) [] σ' H' s' → RelV v u → Q v H' → CE outer P w H s Q u s' :=
    fun {σ' H' v u} J rv q => ⟨v, H', J.os, J.bare, J.base, J.hok, rv, q⟩
  cases fl with
  | ret u =>
    obtain ⟨v, σ', H', J, rv, q⟩ := hs
    exact fin J rv q
  | next =>
    obtain ⟨σ', H', J, q⟩ := hs
    exact fin (v := V.non) (u := Value.none) J rfl q
  | brk =>
    obtain ⟨_, _, _, q⟩ := hs
    exact False.elim q
  | cont =>
    obtain ⟨_, _, _, q⟩ := hs
    exact False.elim q
/-- as Fun.ok -/
theorem Fun.okW {P : Program} {w : World} {K : PySem.W.Frag} {mg : Str → Option Value} {base : Heap} {x qual : Str} {st : Stmt} {f : Addr} {fd : FuncData} {N ps : List Str} {k : Nat} {sp : Sp} (F : Fun K x qual st f fd) (S : FnScope N ps (defScope st)) (len : ∀ vs H Q, sp vs H Q E0 → vs.length = ps.length)
    (hbody : ∀ (cdv : Value) (A : Around) (outer : List Env) (s : Shared) (H : Hp) (vs : List V) (Q : VK), RoomW k (A.deeper (envOfC qual (defScope st) s.heap.objs.size f cdv)) → sp vs H Q E0 →
      ∃ t, PSs (cxW P w K mg base N qual (defScope st) f cdv A outer s H) (defBody st) t ∧ t { nx := fun _ H' => Q .non H', rt := Q } (L2.start N vs) H) : FnW P w K mg base (k + 1) f fd ps sp := by
  obtain ⟨oc, od, kV, doc, pm, an, cdv, ct, osl, rfl, lk, hcd⟩ := F.ex
  exact fn_ofW lk hcd S len fun A outer s H vs Q hr hsp => hbody cdv A outer s H vs Q hr hsp
end L2
set_option maxHeartbeats 8000000
namespace K12
open PySem PySem.Spec PyProof.Rows L2

/-! ### at -/
abbrev sAt : Stmt := inClass sSize 12
def nOf (ms : Es) (n : Str) : Nat := (g0 ms n).toNat
/-- right numbers stand at d -/
structure NumD (H : Hp) (d : Addr) (ms : Es) : Prop where
  at_ : H d = some (.dK (kv ms))
  len : ms.length ≤ 1000
  nd : (ms.map (·.1)).Nodup
  nm : ∀ p ∈ ms, isNm p.1 = true
  pos : ∀ p ∈ ms, 1 ≤ p.2
  lt : ∀ p ∈ ms, p.2 < 1073741824
theorem NumD.same {H H' : Hp} {d : Addr} {ms : Es} (h : NumD H d ms) (S : Same H H') : NumD H' d ms := ⟨S _ _ h.at_, h.len, h.nd, h.nm, h.pos, h.lt⟩
theorem NumD.look {H : Hp} {d : Addr} {ms : Es} (h : NumD H d ms) {n : Str} (hn : n ∈ ms.map (·.1)) : ms.lookup n = some (nOf ms n : Int) ∧ 0 < nOf ms n ∧ nOf ms n < 1073741824 := by
  obtain ⟨p, hp, rfl⟩ := List.mem_map.mp hn
  have e := lookG h.nd hp
  have h1 := h.pos p hp
  have h2 := h.lt p hp
  have e2 : nOf ms p.1 = p.2.toNat := by
    unfold nOf g0
    rw [e]
    rfl
  rw [e2]
  exact ⟨by rw [e]; congr 1; omega, by omega, by omega⟩
def spAt (C CW : Addr) : Sp := fun vs H Q E => ∃ (p d : Addr) (es ms : Es) (L : Str → Nat), vs = [.ref p, .ref d] ∧ SizeAt C H p es ∧ NumD H d ms ∧ (∀ q ∈ es, q.1 ∈ ms.map (·.1)) ∧
  bnd es L ≤ 10000 ∧ (∀ q ∈ es, nOf ms q.1 < 2 ^ L q.1) ∧
  (dnV es (nOf ms) ∣ upV es (nOf ms) → ∀ H', Same H H' → Q (.int ((upV es (nOf ms) / dnV es (nOf ms) : Nat) : Int)) H') ∧
  (¬ dnV es (nOf ms) ∣ upV es (nOf ms) → ∀ H' dd, Same H H' → H dd = none → H' dd = some (.xd [("size", .ref p)]) → E (.ref CW) (some dd) H')
def NAt : List Str := ["self", "numbers", "pairs", "value", "base", "order", "_"]
theorem pairedR {α β : Type} {R : α → β → Prop} : ∀ {xs : List α} {ys : List β}, Paired R xs ys → ∀ {i : Nat} (hi : i < ys.length), ∃ x, xs[i]? = some x ∧ R x ys[i]
  | _, _, .nil, i, hi => absurd hi (Nat.not_lt_zero _)
  | _, _, .cons r t, 0, hi => ⟨_, rfl, r⟩
  | _, _, .cons r t, i + 1, hi => pairedR t (Nat.lt_of_succ_lt_succ hi)
theorem any_of : ∀ {xs : List Int}, (xs.map fun x => decide (x < 0)).any id = decide (∃ x ∈ xs, x < 0)
  | [] => by simp
  | x :: r => by
    have ih := any_of (xs := r)
    rw [List.map_cons, List.any_cons, ih]
    by_cases h : x < 0 <;> simp [h]
section
variable {P : Program} {w : World} {K : PySem.W.Frag} {mg : Str → Option Value} {base : Heap} {C CW : Addr}
theorem scAt : FnScope NAt ["self", "numbers"] (defScope sAt) :=
  ⟨rfl, rfl, rfl, by decide +kernel, rfl, by decide +kernel, by decide +kernel⟩
theorem ok_at {f fN fC fO fR : Addr} {fd fdN fdC fdO fdR : FuncData} (F : Fun K "at" "Size.at" sAt f fd) (Tc : Ck K mg C) (aN : mg "any" = none)
    (GC : FnOk P w K mg base CX0 3 fC fdC ["value", "names"] spChN) (kC : PySem.W.keepIn K (.ref fC) = true) (bC : Binds K fdC ["value", "names"] []) (gC : mg "check_numbers" = some (.ref fC))
    (GN : FnOk P w K mg base CX0 1 fN fdN ["self"] (spNames C)) (mN : Meth K C "names" fN) (bN : Binds K fdN ["self"] [])
    (GO : FnOk P w K mg base CX0 4 fO fdO ["exponents", "numbers"] spOrs) (kO : PySem.W.keepIn K (.ref fO) = true) (bO : Binds K fdO ["exponents", "numbers"] []) (gO : mg "orders" = some (.ref fO))
    (GR : FnOk P w K mg base CX0 1 fR fdR ["base", "count"] spRai) (kR : PySem.W.keepIn K (.ref fR) = true) (bR : Binds K fdR ["base", "count"] []) (gR : mg "raised" = some (.ref fR))
    (M : MkAll P w K mg CW ["size"]) (gW : mg "NotWhole" = some (.ref CW)) (R1 : PySem.W.subIn K (.ref CW) (.type "BaseException") = some true) (R2 : PySem.W.typeIn K (.ref CW) = some (.type "type")) :
    FnOk P w K mg base (L2.CX P w) 5 f fd ["self", "numbers"] (spAt C CW) := by
  have GC4 := GC.mono (k := 4) (by decide)
  have GN4 := GN.mono (k := 4) (by decide)
  have GR4 := GR.mono (k := 4) (by decide)
  refine F.okX scAt (fun vs H Q E h => ?_) (fun cdv A outer s H vs Q E hr h => ?_)
  · obtain ⟨p, d, es, ms, L, rfl, _⟩ := h
    rfl
  · obtain ⟨p, d, es, ms, L, rfl, hz, hD, hin, hb, hL, k1, k2⟩ := h
    refine ⟨_, pss_cons (ps_expr (pe_call GC4 hr rfl gC kC bC .nil pass0 (pa_cons (pv 1) (pa_cons (pe_meth0 (pv 0) Tc.cl mN GN4 hr bN .nil pass0) pa_nil))))
      (pss_cons (ps_set (i := 2) scAt.nd rfl (by first | exact .inl rfl | exact .inr rfl) (pe_call GO hr rfl gO kO bO .nil pass0 (pa_cons (pe_fld (pv 0) rfl) (pa_cons (pv 1) pa_nil))))
      (pss_cons (ps_if (pt_val (pe_callB (cr_any rfl) (by rfl) aN (by decide +kernel) (pa_cons
          (pe_lc (own := [("_", 6), ("order", 5)]) (g := gTup K 2 (gCons (gName 6) (gCons (gName 5) gNil))) (tt := tYes)
            (te := tOp (rI0 fun i j => V.bl (decide (i < j))) (tVar 5) (tC (.int 0))) rfl scAt.nd (pi_list (pv 2))
            (blkOk_by (own := [("_", 6), ("order", 5)]) (N := NAt) (sc := defScope sAt) (by decide +kernel))
            (fun _ _ _ _ _ => pg_tup rfl (pgs_cons (pg_name (i := 6) scAt.nd rfl (Or.inl rfl)) (pgs_cons (pg_name (i := 5) scAt.nd rfl (Or.inl rfl)) pgs_nil)))
            (fun _ _ _ _ _ => pts_nil) (fun _ _ _ _ _ => by exact pe_cmpR op_lt (pv 5) pe_int (nomark _))) pa_nil)))
          (pss_one (ps_raise rfl (takes_of rfl rfl rfl rfl) (pmk_x M hr rfl gW (raises_own R1 R2) (pa_cons (pv 0) pa_nil)))) pss_nil)
      (pss_cons (ps_set (i := 3) scAt.nd rfl (by first | exact .inl rfl | exact .inr rfl) pe_int)
      (pss_cons (ps_for (passes_of rfl) rfl (pi_list (pv 2)) (pg_tup rfl (pgs_cons (pg_name (i := 4) scAt.nd rfl (Or.inl rfl)) (pgs_cons (pg_name (i := 5) scAt.nd rfl (Or.inl rfl)) pgs_nil)))
          (pss_one (ps_set (i := 3) scAt.nd rfl (by first | exact .inl rfl | exact .inr rfl) (pe_op op_mulW (pv 3) (pe_call GR4 hr rfl gR kR bR .nil pass0 (pa_cons (pv 4) (pa_cons (pv 5) pa_nil)))))))
      (pss_one (ps_ret (pv 3))))))), ?_⟩
    obtain ⟨dx, D0, z1, z2, z3, z4, z5, z6⟩ := id hz
    refine ⟨_, rfl, _, rfl, p, dx, _, rfl, z1, rfl, p, es, rfl, hz, fun ln nln => ?_⟩
    have S1 := fresh_upd (o := .lst (es.map fun q => V.str q.1)) nln
    have e1 : upd H ln (.lst (es.map fun q => V.str q.1)) ln = some (.lst (es.map fun q => V.str q.1)) := upd_same
    generalize upd H ln (.lst (es.map fun q => V.str q.1)) = H1 at S1 e1
    refine ⟨d, ln, ms, es.map (·.1), rfl, S1 _ _ hD.at_, hD.len, hD.nd, hD.nm, hD.pos, by rw [List.map_map]; exact e1, by rw [List.length_map]; omega, fun n hn => ?_, fun H2 S2 => ?_⟩
    · obtain ⟨q, hq, rfl⟩ := List.mem_map.mp hn
      exact hin q hq
    have S02 := S1.trans S2
    have hlook := fun q (hq : q ∈ es) => hD.look (hin q hq)
    refine ⟨_, rfl, p, C, dx, _, _, rfl, S02 _ _ z1, Tc.cl, Tc.nE, rfl, ?_⟩
    refine ⟨_, rfl, D0, d, es, nOf ms, rfl, S02 _ _ z2, z3.nodup, z6, ⟨ms, S02 _ _ hD.at_, hlook⟩, fun H3 r ts bs S3 nr hr3 hP hC hG hs hbl => ?_⟩
    have S03 := S02.trans S3
    have hbb : ∀ b ∈ bs, sm (lsO es (nOf ms)) b ≤ 10000 := fun b hb' => by
      have z := sm_le hC (L := L) hb' hG fun q hq => ⟨(hlook q hq).2.1, hL q hq⟩
      omega
    generalize eS : sm (lsO es (nOf ms)) = sM at hP hbb
    have hP' : Paired (fun t b => H3 t = some (.tup [V.int (Int.ofNat b), V.int (sM b)])) ts bs := by
      unfold PtAt at hP
      rw [eS] at hP
      exact hP
    have hlen := hP'.length
    have get : ∀ {H' : Hp}, Same H3 H' → ∀ i (hi : i < bs.length), ∃ t, ts[i]? = some t ∧ H' t = some (.tup [V.int (Int.ofNat bs[i]), V.int (sM bs[i])]) := fun {H'} S i hi => by
      obtain ⟨t, ht, e⟩ := pairedR hP' hi
      exact ⟨t, ht, S _ _ e⟩
    refine ⟨_, rfl, r, rfl, ⟨_, SqL.of hr3⟩, fun D hD' => ?_⟩
    refine lc_it (walk_list (K := K) (a := r) (xs := ts.map V.ref)) (fun i H4 => Same H3 H4 ∧ H4 D = some (.lst ((((bs.take i).map sM).map fun x => decide (x < 0)).map V.bl))) ⟨fresh_upd hD', upd_same⟩ (fun i H4 _ h => SqL.of (h.1 _ _ hr3)) ?_ ?_
    · rintro i x H4 H5 hi ⟨S4, h4⟩ ⟨rfl, hx⟩
      rw [List.length_map, hlen] at hi
      obtain ⟨t, ht, e⟩ := get S4 i hi
      have ex : x = .ref t := by
        rw [List.getElem?_map, ht] at hx
        exact (Option.some.inj hx).symm
      subst ex
      refine ⟨t, _, rfl, SqT.of e, rfl, _, _, rfl, _, _, rfl, rfl, rfl, ?_⟩
      unfold tYes
      dsimp only
      rw [if_pos rfl]
      refine ⟨_, rfl, _, _, rfl, rfl, _, h4, by rw [List.length_map, List.length_map, List.length_map, List.length_take, sizeLine_eq]; omega, fun b o eb => ?_, ?_⟩
      · rw [upd_ne (ne_of_none eb hD')]
        exact S4 _ _ eb
      · rw [upd_same, List.take_add_one, List.getElem?_eq_getElem hi, List.map_append, List.map_append, List.map_append]
        rfl
    rintro H4 ⟨S4, h4⟩
    rw [List.length_map, hlen, List.take_length] at h4
    have S04 := S03.trans S4
    refine ⟨D, _, rfl, SqL.of h4, ?_⟩
    rw [any_of]
    refine ⟨_, rfl, ?_⟩
    by_cases hneg : ∃ x ∈ bs.map sM, x < 0
    · refine iteT' (decide_eq_true hneg) ?_
      obtain ⟨x, hx, hx0⟩ := hneg
      obtain ⟨b, hb', rfl⟩ := List.mem_map.mp hx
      have hno := value_no hC hG hb' (by rw [eS]; exact hx0)
      refine ⟨_, rfl, rfl, fun dd hdd => ?_⟩
      refine k2 hno _ dd (S04.trans (fresh_upd hdd)) ?_ upd_same
      cases e : H dd with
      | none => rfl
      | some o =>
        have z := S04 _ _ e
        rw [hdd] at z
        cases z
    · refine iteN' hneg (next_ ?_)
      have hnn : ∀ b ∈ bs, 0 ≤ sm (lsO es (nOf ms)) b := fun b hb' => by
        rw [eS]
        exact Int.not_lt.mp fun z => hneg ⟨_, List.mem_map.mpr ⟨b, hb', rfl⟩, z⟩
      obtain ⟨hdv, hval⟩ := value_eq hC hG hnn
      rw [eS] at hval hnn
      have hup := upV_lt hL
      have hpwU : pw (fun b => (sM b).toNat) bs ≤ 2 ^ 10000 := by
        rw [hval]
        exact Nat.le_trans (Nat.div_le_self ..) (Nat.le_trans hup (Nat.pow_le_pow_right (by decide) hb))
      refine ⟨_, rfl, r, rfl, ⟨_, SqL.of (S4 _ _ hr3)⟩, for_it (walk_list (K := K) (a := r) (xs := ts.map V.ref)) (fun i σ H5 => (∃ o4 o5 o6, σ = [some (.ref p), some (.ref d), some (.ref r), some (.int ((pw (fun b => (sM b).toNat) (bs.take i) : Nat) : Int)), o4, o5, o6]) ∧ Same H4 H5)
        ⟨⟨none, none, none, rfl⟩, fun b o e => e⟩ (fun i σ H5 _ h => SqL.of (h.2 _ _ (S4 _ _ hr3))) ?_ ?_⟩
      · rintro i x σ H5 H6 hi ⟨⟨o4, o5, o6, rfl⟩, S5⟩ ⟨rfl, hx⟩
        rw [List.length_map, hlen] at hi
        obtain ⟨t, ht, e⟩ := get (S4.trans S5) i hi
        have ex : x = .ref t := by
          rw [List.getElem?_map, ht] at hx
          exact (Option.some.inj hx).symm
        subst ex
        have hbm := List.getElem_mem hi
        have h0 := hnn _ hbm
        have h1 := hbb _ hbm
        have hb1 := hC.2 _ hbm
        obtain ⟨c, hc⟩ : ∃ c : Nat, sM bs[i] = (c : Int) := ⟨(sM bs[i]).toNat, by omega⟩
        have et : pw (fun b => (sM b).toNat) (bs.take (i + 1)) = pw (fun b => (sM b).toNat) (bs.take i) * bs[i] ^ c := by
          rw [List.take_add_one, List.getElem?_eq_getElem hi]
          show pw _ (bs.take i ++ [bs[i]]) = _
          rw [pw_snoc]
          rw [hc]
          rfl
        refine ⟨t, _, rfl, SqT.of e, rfl, _, _, rfl, _, _, rfl, rfl, ?_⟩
        refine ⟨_, rfl, _, rfl, _, rfl, bs[i], c, by rw [hc]; rfl, by omega, hs _ hbm, by omega, _, _, rfl, rfl, ?_, ?_⟩
        · have hle := pw_take (f := fun b => (sM b).toNat) hC.2 (i + 1)
          rw [et] at hle
          have hp1 : 0 < pw (fun b => (sM b).toNat) (bs.take i) := pw_pos fun b hb' => hC.2 b (List.mem_of_mem_take hb')
          have hp2 : 0 < bs[i] ^ c := Nat.pow_pos (by omega)
          have h2 : pw (fun b => (sM b).toNat) (bs.take i) ≤ pw (fun b => (sM b).toNat) (bs.take i) * bs[i] ^ c := Nat.le_mul_of_pos_right _ hp2
          have h3 : bs[i] ^ c ≤ pw (fun b => (sM b).toNat) (bs.take i) * bs[i] ^ c := Nat.le_mul_of_pos_left _ hp1
          have h4 : (2 : Nat) ^ 10000 < 2 ^ 300001 := Nat.pow_lt_pow_right (by decide) (by decide)
          exact wm (M := 2 ^ 10000) (Nat.le_trans h3 (Nat.le_trans hle hpwU)) (Nat.le_trans h2 (Nat.le_trans hle hpwU)) h4
        · refine ⟨⟨some (.int (Int.ofNat bs[i])), some (.int (sM bs[i])), o6, ?_⟩, S5⟩
          rw [et, Int.natCast_mul]
          rfl
      · rintro σ H5 ⟨⟨o4, o5, o6, rfl⟩, S5⟩
        rw [List.length_map, hlen, List.take_length]
        refine ⟨_, rfl, ?_⟩
        rw [hval]
        exact k1 hdv _ (S04.trans S5)
end
end K12
set_option maxHeartbeats 8000000
namespace K12
open PySem PySem.Spec PyProof.Rows L2

abbrev sExp1 : Stmt := inClass sSize 9
abbrev sHas : Stmt := inClass sSize 15
abbrev sWhole : Stmt := inClass sSize 4
def spExp1 (C : Addr) : Sp := fun vs H Q _ => ∃ (p : Addr) (es : Es) (n : Str), vs = [.ref p, .str n] ∧ SizeAt C H p es ∧ isNm n = true ∧ ∀ H', Same H H' → Q (.int (g0 es n)) H'
def spHas (K : PySem.W.Frag) (C : Addr) : Sp := fun vs H Q _ => ∃ (p : Addr) (es : Es) (v : V), vs = [.ref p, v] ∧ SizeAt C H p es ∧
  ((∃ n : Str, v = .str n ∧ n.length ≤ 1000000 ∧ ∀ H', Same H H' → Q (.bl (isNm n && (es.lookup n).isSome)) H') ∨
    ∃ t, TyX K H v t ∧ PySem.W.kitOne K t (.type "str") = some false ∧ Q (.bl false) H)
def spWhole (C : Addr) : Sp := fun vs H Q _ => ∃ (p : Addr) (es : Es), vs = [.ref p] ∧ SizeAt C H p es ∧ ∀ H', Same H H' → Q (.bl (es.all fun q => decide (0 ≤ q.2))) H'
section
variable {P : Program} {w : World} {K : PySem.W.Frag} {mg : Str → Option Value} {base : Heap} {C : Addr}
theorem scExp1 : FnScope ["self", "name"] ["self", "name"] (defScope sExp1) :=
  ⟨rfl, rfl, rfl, by decide +kernel, rfl, by decide +kernel, by decide +kernel⟩
theorem ok_exp1 {f fN : Addr} {fd fdN : FuncData} (F : Fun K "exponent" "Size.exponent" sExp1 f fd) (Tc : Ck K mg C)
    (GN : FnOk P w K mg base CX0 1 fN fdN ["value"] (spIsName K)) (kN : PySem.W.keepIn K (.ref fN) = true) (bN : Binds K fdN ["value"] []) (gN : mg "is_name" = some (.ref fN)) :
    FnOk P w K mg base CX0 2 f fd ["self", "name"] (spExp1 C) := by
  refine F.ok scExp1 (fun vs H Q E h => ?_) (fun cdv A outer s H vs Q E hr h => ?_)
  · obtain ⟨p, es, n, rfl, _⟩ := h
    rfl
  · obtain ⟨p, es, n, rfl, h1, hn, k⟩ := h
    have hu : (A.deeper (envOfC "Size.exponent" (defScope sExp1) s.heap.objs.size f cdv)).units + 1 < cLine := by have := hr.units; omega
    refine ⟨_, pss_cons (ps_if (pt_not (pt_val (pe_call GN hr rfl gN kN bN .nil pass0 (pa_cons (pv 1) pa_nil)))) (pss_one ps_no) pss_nil)
      (pss_one (ps_ret (pe_dget2 hu (pe_fld (pv 0) rfl) (pv 1) pe_int ⟨rfl, rfl, rfl, rfl⟩))), ?_⟩
    refine ⟨_, rfl, .inl ⟨n, rfl, by have := nm_len hn; omega, fun H2 S2 => ?_⟩⟩
    rw [hn]
    refine ⟨_, rfl, iteF ?_⟩
    obtain ⟨dx, D, p1, p2, p3⟩ := h1.same S2
    refine ⟨_, rfl, p, C, dx, _, _, rfl, p1, Tc.cl, Tc.nE, rfl, D, rfl, .inl ⟨_, .inl p2⟩, _, rfl, _, DGet.k (k := ky n) p2, ?_⟩
    rw [get_int]
    exact k H2 S2
theorem scHas : FnScope ["self", "name"] ["self", "name"] (defScope sHas) :=
  ⟨rfl, rfl, rfl, by decide +kernel, rfl, by decide +kernel, by decide +kernel⟩
theorem ok_has {f fN : Addr} {fd fdN : FuncData} (F : Fun K "__contains__" "Size.__contains__" sHas f fd) (Tc : Ck K mg C)
    (GN : FnOk P w K mg base CX0 1 fN fdN ["value"] (spIsName K)) (kN : PySem.W.keepIn K (.ref fN) = true) (bN : Binds K fdN ["value"] []) (gN : mg "is_name" = some (.ref fN)) :
    FnOk P w K mg base CX0 2 f fd ["self", "name"] (spHas K C) := by
  refine F.ok scHas (fun vs H Q E h => ?_) (fun cdv A outer s H vs Q E hr h => ?_)
  · obtain ⟨p, es, v, rfl, _⟩ := h
    rfl
  · obtain ⟨p, es, v, rfl, h1, h2⟩ := h
    have hu : (A.deeper (envOfC "Size.__contains__" (defScope sHas) s.heap.objs.size f cdv)).units + 1 < cLine := by have := hr.units; omega
    refine ⟨_, pss_one (ps_ret (pe_and (pe_call GN hr rfl gN kN bN .nil pass0 (pa_cons (pv 1) pa_nil)) (pe_one (pe_cmp (pc_din hu (pv 1) (pe_fld (pv 0) rfl)) rfl)))), ?_⟩
    rcases h2 with ⟨n, rfl, hl, k⟩ | ⟨t, ht, hk, k⟩
    · refine ⟨_, rfl, .inl ⟨n, rfl, hl, fun H2 S2 => ⟨_, rfl, ?_⟩⟩⟩
      obtain ⟨dx, D, p1, p2, p3⟩ := h1.same S2
      cases e : isNm n with
      | false =>
        refine iteF ?_
        have z := k H2 S2
        rw [e] at z
        exact z
      | true =>
        refine iteT' rfl ?_
        refine ⟨_, rfl, _, rfl, p, C, dx, _, _, rfl, p1, Tc.cl, Tc.nE, rfl, D, _, rfl, DGet.k (k := ky n) p2, ?_⟩
        have z := k H2 S2
        rw [e] at z
        rw [val_kv, Option.isSome_map]
        exact z
    · refine ⟨_, rfl, .inr ⟨_, t, rfl, ht, hk, _, rfl, iteF k⟩⟩
end
end K12
set_option maxHeartbeats 8000000
namespace K12
open PySem PySem.Spec PyProof.Rows L2

/-- some of the entries, each changed -/
def fmE (c : Int → Bool) (g : Int → Int) (es : Es) : Es := es.filterMap fun q => if c q.2 = true then some (q.1, g q.2) else none
theorem fm_step {c : Int → Bool} {g : Int → Int} {es : Es} {i : Nat} (hi : i < es.length) :
    fmE c g (es.take (i + 1)) = if c es[i].2 = true then fmE c g (es.take i) ++ [(es[i].1, g es[i].2)] else fmE c g (es.take i) := by
  have et : es.take (i + 1) = es.take i ++ [es[i]] := by
    rw [List.take_add_one, List.getElem?_eq_getElem hi]
    rfl
  unfold fmE
  rw [et, List.filterMap_append]
  by_cases h : c es[i].2 = true
  · simp [h]
  · simp [h]
theorem fm_keys (c : Int → Bool) (g : Int → Int) : ∀ es : Es, ((fmE c g es).map (·.1)).Sublist (es.map (·.1))
  | [] => List.Sublist.slnil
  | q :: r => by
    have ih := fm_keys c g r
    by_cases h : c q.2 = true
    · have e : fmE c g (q :: r) = (q.1, g q.2) :: fmE c g r := by
        unfold fmE
        simp [h]
      rw [e, List.map_cons, List.map_cons]
      exact List.Sublist.cons_cons _ ih
    · have e : fmE c g (q :: r) = fmE c g r := by
        unfold fmE
        simp [h]
      rw [e, List.map_cons]
      exact List.Sublist.cons _ ih
theorem fm_g0 {c : Int → Bool} {g : Int → Int} (c0 : c 0 = false) (n : Str) : ∀ es : Es, (es.map (·.1)).Nodup → g0 (fmE c g es) n = if c (g0 es n) = true then g (g0 es n) else 0
  | [], _ => by
    show (0 : Int) = if c 0 = true then g 0 else 0
    rw [c0]
    rfl
  | (m, v) :: r, hn => by
    rw [List.map_cons] at hn
    obtain ⟨n1, n2⟩ := List.pairwise_cons.mp hn
    have ih := fm_g0 (g := g) c0 n r n2
    by_cases e : n = m
    · subst e
      have gv : g0 ((n, v) :: r) n = v := by
        unfold g0
        rw [List.lookup_cons_self]
        rfl
      rw [gv]
      by_cases h : c v = true
      · have e : fmE c g ((n, v) :: r) = (n, g v) :: fmE c g r := by
          unfold fmE
          simp [h]
        rw [e, if_pos h]
        unfold g0
        rw [List.lookup_cons_self]
        rfl
      · have e : fmE c g ((n, v) :: r) = fmE c g r := by
          unfold fmE
          simp [h]
        have nr : n ∉ (fmE c g r).map (·.1) := fun z => n1 n ((fm_keys c g r).subset z) rfl
        rw [e, if_neg h]
        unfold g0
        rw [g0_none nr]
        rfl
    · have eb : (n == m) = false := by simpa using e
      have gv : g0 ((m, v) :: r) n = g0 r n := by
        unfold g0
        rw [List.lookup_cons, eb]
      rw [gv, ← ih]
      by_cases h : c v = true
      · have e2 : fmE c g ((m, v) :: r) = (m, g v) :: fmE c g r := by
          unfold fmE
          simp [h]
        rw [e2]
        unfold g0
        rw [List.lookup_cons, eb]
      · have e2 : fmE c g ((m, v) :: r) = fmE c g r := by
          unfold fmE
          simp [h]
        rw [e2]
theorem fm_nm {c : Int → Bool} {g : Int → Int} {es : Es} (h : ∀ q ∈ es, isNm q.1 = true) : ∀ q ∈ fmE c g es, isNm q.1 = true := fun q hq => by
  have z := (fm_keys c g es).subset (List.mem_map.mpr ⟨q, hq, rfl⟩)
  obtain ⟨r, hr, e⟩ := List.mem_map.mp z
  have e' : r.1 = q.1 := e
  rw [← e']
  exact h r hr
theorem fm_len (c : Int → Bool) (g : Int → Int) (es : Es) : (fmE c g es).length ≤ es.length := List.length_filterMap_le _ _
def spPart (C : Addr) (c : Int → Bool) (g : Int → Int) : Sp := fun vs H Q _ => ∃ (p : Addr) (es : Es), vs = [.ref p] ∧ SizeAt C H p es ∧
  ∀ H' r rs, Same H H' → SizeAt C H' r rs → (∀ n, rs.lookup n = cz (if c (g0 es n) = true then g (g0 es n) else 0)) → Q (.ref r) H'
def cTop (i : Int) : Bool := decide (0 < i)
def cBot (i : Int) : Bool := decide (i < 0)
theorem iteFx {c : Bool} {A B : Prop} (hc : ¬ c = true) (h : B) : if c = true then A else B := by
  rw [if_neg hc]
  exact h
section
variable {P : Program} {w : World} {K : PySem.W.Frag} {mg : Str → Option Value} {base : Heap} {C : Addr}
end
end K12
set_option maxHeartbeats 8000000
namespace K12
open PySem PySem.Spec PyProof.Rows L2

/-! ### == and != of an instance with an own __eq__ -/
/-- what may stand on the right, and its type -/
inductive Oth (C : Addr) (H : Hp) : V → Value → Prop
  | ins {b dy : Addr} {gs : List (Str × V)} : H b = some (.ins C dy gs) → Oth C H (.ref b) (.ref C)
  | int (i : Int) : Oth C H (.int i) (.type "int")
  | str (x : Str) : Oth C H (.str x) (.type "str")
  | dK {b : Addr} {kvs : List (Key × V)} : H b = some (.dK kvs) → Oth C H (.ref b) (.type "dict")
theorem ld_type {M : Model} {h : Heap} {a : Addr} {o : Obj} (e : h.get? a = some o) : PySem.W.Looks M h (typeOf (.ref a)) o.cls := (PySem.W.Looks.ld e).andThen .now
theorem Oth.looks {X : Cx} {pins : List (Addr × Obj)} {σ : L2.St} {H : Hp} {s : Shared} {C : Addr} {y : V} {t v : Value} (o : Oth C H y t) (I : Inv X pins σ H s) (r : RelV y v) :
    PySem.W.Looks (model X.prog X.w) s.heap (typeOf v) t := by
  cases o with
  | ins hb =>
    cases r
    obtain ⟨mB, J', _⟩ := ins_get I.hok hb
    obtain ⟨od', J', _⟩ := J'.look
    exact J'.type
  | int i =>
    obtain ⟨k, rfl⟩ := (show ∃ t, v = Value.int i t from r)
    exact .of_pure rfl
  | str x =>
    obtain ⟨k, rfl⟩ := (show ∃ t, v = Value.str x t from r)
    exact .of_pure rfl
  | @dK b kvs hb =>
    cases (show v = Value.ref b from r)
    obtain ⟨_, _, vs, _, o, es, ep, h1, h2, _⟩ := (show ObjOk X.prog X.w H s.heap b (.dK kvs) from I.hok b _ hb)
    have z := ld_type (M := model X.prog X.w) h1
    rw [h2.1] at z
    exact z
theorem sub_ty {K : PySem.W.Frag} {C : Addr} {n : String} {m : List Value} (e : fastBuiltinMro n = some m) (h : m.contains (.ref C) = false) : PySem.W.subIn K (.type n) (.ref C) = some false := by
  show (fastBuiltinMro n).map (·.contains (.ref C)) = some false
  rw [e]
  exact congrArg some h
theorem Oth.first {K : PySem.W.Frag} {C : Addr} {H : Hp} {y : V} {t : Value} (o : Oth C H y t) : PySem.W.notFirst K C t = true := by
  cases o with
  | ins _ => simp [PySem.W.notFirst]
  | int _ =>
    unfold PySem.W.notFirst
    rw [sub_ty (m := [.type "int", .type "object"]) (by decide +kernel) (by simp)]
    simp
  | str _ =>
    unfold PySem.W.notFirst
    rw [sub_ty (m := [.type "str", .type "object"]) (by decide +kernel) (by simp)]
    simp
  | dK _ =>
    unfold PySem.W.notFirst
    rw [sub_ty (m := [.type "dict", .type "object"]) (by decide +kernel) (by simp)]
    simp

section
variable {M : Model} {prog : Program} {w : World} {A : Around} {E : Value → Shared → Prop} {s : Shared} {K : PySem.W.Frag} {x C f : Addr} {ox : Obj} {od : Option Obj} {b tb : Value}
theorem entry_ne (hu : A.units < cLine) (X : K.In s.heap) (I : PySem.W.InstAt s.heap x ox C od) (hs : PySem.W.findIn K (.ref C) "__eq__" = some (some (.ref f))) (hf : PySem.W.isFn K (.ref f) = true) {Q : Fin → Shared → Prop}
    (hcall : wpAny (model prog w) A (call (.ref f) [.ref x, b]) (fun v s' => ∃ k, v = .bool k ∧ Q (.done (.ret (.bool (!k)))) s') E s) :
    wpAny (model prog w) A (Builtin.«object.__ne__» ⟨[.ref x, b], []⟩) Q E s := by
  unfold Builtin.«object.__ne__»
  repeat (first
    | with_reducible refine wpAny_cRoomFor hu ?_
    | (refine wpAny_bind (m := callSpecialIfBound? (.ref x) (Str.ofString "__eq__") [b])
        (PySem.W.ifBound_K X I hs hf (wpAny_mono hcall (fun v s' hv => by
          obtain ⟨k, rfl, hq⟩ := hv
          repeat (first | exact hq | exact wpAny_pure hq | exact wpAny_truthy_bool hq | (refine wpAny_bind (m := truthy (.bool _)) (wpAny_truthy_bool ?_)) | wp_step)) fun _ _ e => e)))
    | wp_step)
theorem ifBound_objNe {args : List Value} {Q : Option Value → Shared → Prop} (X : K.In s.heap) (I : PySem.W.InstAt s.heap x ox C od) (hs : PySem.W.findIn K (.ref C) "__ne__" = some (some (.builtin "object.__ne__")))
    (h : wpAny M A (call (.builtin "object.__ne__") (.ref x :: args)) (fun v => Q (some v)) E s) : wpAny M A (callSpecialIfBound? (.ref x) "__ne__" args) Q E s := by
  simp only [callSpecialIfBound?, bindSpecialIfBound?]
  refine wpAny_holding (wpAny_bind (wpAny_bind (wpAny_bind (I.type.here ((PySem.W.looks_findIn X hs).here ?_)))))
  refine wpAny_bind (wpAny_askSetting (wpAny_ite ?_))
  have fin : wpAny M A (call (.builtin "object.__ne__") ([.ref x] ++ args) >>= fun v => pure (some v)) Q E s := wpAny_bind (wpAny_mono h (fun v s' h' => wpAny_pure h') fun _ _ h' => h')
  split
  · exact wpAny_bind (wpAny_of_eq (F.cmp_object.ne.bind _) (wpAny_pure (by exact fin)))
  · exact wpAny_tryCatch (wpAny_bind (wpAny_of_eq (F.cmp_object.ne.bind _) (wpAny_pure (by exact fin))))
theorem ne_K {Q : Value → Shared → Prop} (hu : A.units + 1 < cLine) (X : K.In s.heap) (I : PySem.W.InstAt s.heap x ox C od) (hb : PySem.W.Looks (model prog w) s.heap (typeOf b) tb) (hn : PySem.W.notFirst K C tb = true)
    (hm : PySem.W.mroIn K C (.type "object") = some true) (hN : PySem.W.findIn K (.ref C) "__ne__" = some (some (.builtin "object.__ne__")))
    (hs : PySem.W.findIn K (.ref C) "__eq__" = some (some (.ref f))) (hf : PySem.W.isFn K (.ref f) = true)
    (h : wpAny (model prog w) A.in1 (call (.ref f) [.ref x, b]) (fun v s' => ∃ k, v = .bool k ∧ Q (.bool (!k)) s') E s) : wpAny (model prog w) A (richCompare .NotEq (.ref x) b) Q E s := by
  have one : wpAny (model prog w) A (tryCompare (.ref x) (cmpInfo .NotEq).2.1 b) (fun r s' => ∃ v, r = some v ∧ Q v s') E s := by
    unfold tryCompare
    refine wpAny_bind (ifBound_objNe X I hN (wpAny_call (codeAny_call_builtin F.cmp_object.ne.plain F.cmpEntry_ne
      (PySem.W.check_slot F.cmpKind_ne F.cmpSplit_ne (I.type.andThen (PySem.W.looks_mroIn X hm)) (F.cmpArgs_ne _ _) (entry_ne (A := A.in1) hu X I hs hf (wpAny_mono h (fun v s' hv => ?_) fun _ _ e => e))))))
    obtain ⟨k, rfl, hq⟩ := hv
    exact ⟨k, rfl, wpAny_pure ⟨_, rfl, hq⟩⟩
  unfold richCompare
  simp only [oneThing_ref]
  refine wpAny_holding (wpAny_bind (wpAny_cRoomFor (Nat.lt_of_succ_lt hu) ?_))
  refine wpAny_bind (I.type.here (wpAny_bind (hb.here ?_)))
  split
  · rename_i q
    have e : PySem.W.subIn K tb (.ref C) = some false := by
      rcases Bool.or_eq_true_iff.mp hn with e | e
      · rw [beq_iff_eq.mp e] at q; simp at q
      · exact beq_iff_eq.mp e
    refine wpAny_bind ((PySem.W.looks_subIn X e).here ?_)
    simp only [Bool.false_eq_true, if_false]
    refine wpAny_bind (wpAny_mono one (fun r s' z => ?_) fun _ _ e => e)
    obtain ⟨v, rfl, hq⟩ := z
    exact wpAny_pure hq
  · refine wpAny_bind (wpAny_pure ?_)
    simp only [Bool.false_eq_true, if_false]
    refine wpAny_bind (wpAny_mono one (fun r s' z => ?_) fun _ _ e => e)
    obtain ⟨v, rfl, hq⟩ := z
    exact wpAny_pure hq
end

def rOwn (C : Addr) (sp : Sp) (E : XK) (g : Bool → Bool) : R2 := fun x y H Q => ∃ (a dx : Addr) (fs : List (Str × V)) (t : Value), x = .ref a ∧ H a = some (.ins C dx fs) ∧ Oth C H y t ∧
  sp [.ref a, y] H (fun v H' => ∃ b, v = .bl b ∧ Q (.bl (g b)) H') E
section
variable {X : Cx} {CX : CXT} {C f : Addr} {fd : FuncData} {ps : List Str} {sp : Sp} {E : XK} {n : Nat}
theorem run_own {A : Around} (F : FnOk X.prog X.w X.K X.mg X.base CX n f fd ps sp) (hr : Room n A) (fr : A.frames = X.A.frames) (hb : Binds X.K fd ps []) (hx : Passes CX X E)
    {pins : List (Addr × Obj)} {σ : L2.St} {s : Shared} {H : Hp} {a : Addr} {y : V} {v : Value} {Q : Bool → Shared → Prop} (I : Inv X pins σ H s) (ry : RelV y v)
    (hsp : sp [.ref a, y] H (fun v H' => ∃ b, v = .bl b ∧ ∀ s', Inv X pins σ H' s' → Q b s') E) :
    wpAny (model X.prog X.w) A (call (.ref f) [.ref a, v]) (fun r s' => ∃ b, r = .bool b ∧ Q b s') X.xe s := by
  have e0 : Env0 X.prog X.w X.K X.mg X.base A X.stack s H := by
    have e := I.env0
    exact ⟨by rw [fr]; exact e.frames, e.mod, e.bs, e.bsz, e.funs, e.frf, e.hok, e.bare⟩
  have hl := F.len _ _ _ _ hsp
  have r2 : Vals [V.ref a, y] [Value.ref a, v] := .cons rfl (.cons ry .nil)
  refine wpAny_call (codeAny_mono (F.run A X.stack s H ⟨[.ref a, v], []⟩ [.ref a, v] [.ref a, y] _ E hr e0 (by
    have := hb s [.ref a, v] I.kIn (by simpa using hl)
    simpa using this) r2 hsp) fun r s' hq => ?_)
  cases r with
  | error e => exact hx pins σ H s e s' I hq
  | ok fl =>
    cases fl with
    | ret w =>
      obtain ⟨z, H', I', rz, b, ez, ex⟩ := I.after hq
      subst ez
      cases rz
      exact ⟨b, rfl, ex _ I'⟩
    | next => exact False.elim hq
    | brk => exact False.elim hq
    | cont => exact False.elim hq
theorem op_own (F : FnOk X.prog X.w X.K X.mg X.base CX n f fd ps sp) (hr : Room n X.A) (hs : PySem.W.findIn X.K (.ref C) "__eq__" = some (some (.ref f))) (hf : PySem.W.isFn X.K (.ref f) = true)
    (hb : Binds X.K fd ps []) (hx : Passes CX X E) (hsq : ∀ vs H (Q Q' : VK), (∀ v H', Q v H' → Q' v H') → sp vs H Q E → sp vs H Q' E) : OpR X (compareOp .Eq) (rOwn C sp E id) := by
  intro pins s σ H x y v u Q I rx ry h
  obtain ⟨a, dx, fs, t, rfl, ha, ho, hsp⟩ := h
  cases rx
  obtain ⟨mA, J, _⟩ := ins_get I.hok ha
  obtain ⟨od, J, _⟩ := J.look
  obtain ⟨m, hF⟩ := I.fr
  refine PySem.W.cmp_K (op := .Eq) (tb := t) hr.units0 hF I.ok.mod.kin J (ho.looks I ry) ho.first hs hf ?_
  refine wpAny_mono (run_own F hr rfl hb hx I ry (Q := fun b s' => EP X pins σ Q (.bool b) s') (hsq _ _ _ _ (fun v H' q => ?_) hsp)) (fun r s' z => ?_) fun _ _ e => e
  · obtain ⟨b, e, q⟩ := q
    exact ⟨b, e, fun s' I' => ⟨.bl b, H', I', rfl, q⟩⟩
  · obtain ⟨b, rfl, q⟩ := z
    exact q
theorem op_ownNe (F : FnOk X.prog X.w X.K X.mg X.base CX n f fd ps sp) (hr : Room (n + 1) X.A) (hs : PySem.W.findIn X.K (.ref C) "__eq__" = some (some (.ref f))) (hf : PySem.W.isFn X.K (.ref f) = true)
    (hm : PySem.W.mroIn X.K C (.type "object") = some true) (hN : PySem.W.findIn X.K (.ref C) "__ne__" = some (some (.builtin "object.__ne__")))
    (hb : Binds X.K fd ps []) (hx : Passes CX X E) (hsq : ∀ vs H (Q Q' : VK), (∀ v H', Q v H' → Q' v H') → sp vs H Q E → sp vs H Q' E) : OpR X (compareOp .NotEq) (rOwn C sp E not) := by
  intro pins s σ H x y v u Q I rx ry h
  obtain ⟨a, dx, fs, t, rfl, ha, ho, hsp⟩ := h
  cases rx
  obtain ⟨mA, J, _⟩ := ins_get I.hok ha
  obtain ⟨od, J, _⟩ := J.look
  show wpAny (model X.prog X.w) X.A (richCompare .NotEq (.ref a) u) (EP X pins σ Q) X.xe s
  refine ne_K (by have := hr.units; omega) I.kIn J (ho.looks I ry) ho.first hm hN hs hf ?_
  refine run_own F hr.in1 rfl hb hx I ry (Q := fun b s' => EP X pins σ Q (.bool (!b)) s') (hsq _ _ _ _ (fun v H' q => ?_) hsp)
  obtain ⟨b, e, q⟩ := q
  exact ⟨b, e, fun s' I' => ⟨.bl (!b), H', I', rfl, q⟩⟩
end
end K12
set_option maxHeartbeats 8000000
namespace K12
open PySem PySem.Spec PyProof.Rows L2

/-! ### dicts of numbers compared -/
def hitR (fs : Es) : Es → Bool
  | [] => true
  | (n, v) :: r => match fs.lookup n with
    | some u => (v == u) && hitR fs r
    | none => false
theorem hits_int {A : Around} {s : Shared} {fs : Es} {vb : List (Key × Value)} (rb : KV (kv fs) vb) : ∀ {es : Es} {va : List (Key × Value)}, KV (kv es) va → PySem.W.KeqHits A s vb va (hitR fs es)
  | [], va, ra => by
    unfold KV at ra
    cases ra
    exact .nil
  | (n, v) :: r, va, ra => by
    unfold KV at ra
    cases ra with
    | @cons p q ps qs h t =>
      obtain ⟨h1, h2⟩ := h
      obtain ⟨k, x⟩ := q
      have h1' : ky n = k := h1
      subst h1'
      obtain ⟨tk, rfl⟩ := (show ∃ t, x = Value.int v t from h2)
      have ih := hits_int (A := A) (s := s) rb (es := r) (va := qs) t
      have rr := rb.val (ky n)
      rw [val_kv] at rr
      show PySem.W.KeqHits A s vb _ (match fs.lookup n with
        | some u => (v == u) && hitR fs r
        | none => false)
      cases e : fs.lookup n with
      | none =>
        rw [e] at rr
        have z : valueAt vb (ky n) = none := RelO.none_of rr
        exact .miss z
      | some u =>
        rw [e] at rr
        obtain ⟨y, hy, ry⟩ := RelO.some_of rr
        obtain ⟨tu, rfl⟩ := (show ∃ t, y = Value.int u t from ry)
        exact .hit hy (SeqAt.EqAt.int_int v tk u tu) ih
theorem pig {α : Type} [DecidableEq α] : ∀ (l m : List α), l.Nodup → (∀ x, x ∈ l → x ∈ m) → m.length ≤ l.length → ∀ x, x ∈ m → x ∈ l
  | [], m, _, _, hl, x, hx => by
    cases m with
    | nil => exact hx
    | cons a t => simp at hl
  | a :: r, m, hn, hs, hl, x, hx => by
    obtain ⟨n1, n2⟩ := List.pairwise_cons.mp hn
    by_cases e : x = a
    · rw [e]; exact List.mem_cons_self ..
    · have ha := hs a (List.mem_cons_self ..)
      have h1 : ∀ y, y ∈ r → y ∈ m.erase a := fun y hy => (List.mem_erase_of_ne (fun z => n1 y hy z.symm)).mpr (hs y (List.mem_cons_of_mem _ hy))
      have h2 : (m.erase a).length ≤ r.length := by
        rw [List.length_erase_of_mem ha]
        simp at hl
        omega
      exact List.mem_cons_of_mem _ (pig r (m.erase a) n2 h1 h2 x ((List.mem_erase_of_ne e).mpr hx))
theorem look_get {es : Es} (h : (es.map (·.1)).Nodup) {n : Str} {v : Int} (hm : (n, v) ∈ es) : es.lookup n = some v := by
  induction es with
  | nil => cases hm
  | cons p r ih =>
    rw [List.map_cons] at h
    obtain ⟨n1, n2⟩ := List.pairwise_cons.mp h
    rcases List.mem_cons.mp hm with e | hm
    · subst e
      exact List.lookup_cons_self
    · have ne : (n == p.1) = false := by
        have : n ≠ p.1 := fun z => n1 n (List.mem_map.mpr ⟨_, hm, rfl⟩) z.symm
        simpa using this
      rw [List.lookup_cons, ne]
      exact ih n2 hm
theorem hit_all {fs : Es} : ∀ {es : Es}, hitR fs es = true → ∀ n v, (n, v) ∈ es → fs.lookup n = some v
  | [], _, _, _, h => by cases h
  | (m, u) :: r, h, n, v, hm => by
    have h' : (match fs.lookup m with
      | some w => (u == w) && hitR fs r
      | none => false) = true := h
    cases e : fs.lookup m with
    | none =>
      rw [e] at h'
      cases h'
    | some w =>
      rw [e] at h'
      obtain ⟨h1, h2⟩ := Bool.and_eq_true_iff.mp h'
      rcases List.mem_cons.mp hm with z | z
      · cases z
        rw [e, beq_iff_eq.mp h1]
      · exact hit_all h2 n v z
theorem hit_self {es : Es} (h : (es.map (·.1)).Nodup) : ∀ {r : Es}, (∀ p ∈ r, p ∈ es) → hitR es r = true
  | [], _ => rfl
  | (n, v) :: r, hs => by
    show (match es.lookup n with
      | some w => (v == w) && hitR es r
      | none => false) = true
    rw [look_get h (hs _ (List.mem_cons_self ..))]
    show ((v == v) && hitR es r) = true
    rw [hit_self h fun p hp => hs p (List.mem_cons_of_mem _ hp)]
    simp
theorem eq_hit {es fs : Es} (h : SdE es) (g : SdE fs) : (es.length == fs.length && hitR fs es) = decide (es = fs) := by
  by_cases e : es = fs
  · subst e
    rw [decide_eq_true rfl, hit_self h.nodup fun _ q => q]
    simp
  · rw [decide_eq_false e]
    cases c : (es.length == fs.length && hitR fs es) with
    | false => rfl
    | true =>
      obtain ⟨c1, c2⟩ := Bool.and_eq_true_iff.mp c
      have hl := beq_iff_eq.mp c1
      have hA := hit_all c2
      refine absurd (SdE.one h g fun n => ?_) e
      cases q : es.lookup n with
      | some v =>
        have hin : ∃ u, (n, u) ∈ es := by
          have z := look_mem.mp (show (es.lookup n).isSome = true by rw [q]; rfl)
          obtain ⟨p, hp, e⟩ := List.mem_map.mp z
          exact ⟨p.2, by rw [← e]; exact hp⟩
        obtain ⟨u, hu⟩ := hin
        have q2 := look_get h.nodup hu
        rw [q] at q2
        rw [hA n u hu, ← q2]
      | none =>
        cases q2 : fs.lookup n with
        | none => rfl
        | some u =>
          have z := look_mem.mp (show (fs.lookup n).isSome = true by rw [q2]; rfl)
          have z2 := pig (es.map (·.1)) (fs.map (·.1)) h.nodup (fun x hx => by
            obtain ⟨p, hp, e⟩ := List.mem_map.mp hx
            exact look_mem.mp (by rw [← e, hA p.1 p.2 hp]; rfl)) (by rw [List.length_map, List.length_map]; omega) n z
          have z3 := look_mem.mpr z2
          rw [q] at z3
          cases z3
def rEqI (g : Bool → Bool) : R2 := fun x y H Q => ∃ (a b : Addr) (es fs : Es), x = .ref a ∧ y = .ref b ∧ H a = some (.dK (kv es)) ∧ H b = some (.dK (kv fs)) ∧ SdE es ∧ SdE fs ∧ Q (.bl (g (decide (es = fs)))) H
section
variable {X : Cx}
theorem op_eqI (hu : X.A.units < cLine) : OpR X (compareOp .Eq) (rEqI id) := by
  intro pins s σ H x y v u Q I rx ry h
  obtain ⟨a, b, es, fs, rfl, rfl, ea, eb, he, hf, q⟩ := h
  obtain rfl : v = Value.ref a := rx
  obtain rfl : u = Value.ref b := ry
  obtain ⟨_, ya, va, ra, da⟩ := (show ObjOk X.prog X.w H s.heap a (.dK (kv es)) from I.hok a _ ea)
  obtain ⟨_, yb, vb, rb, db⟩ := (show ObjOk X.prog X.w H s.heap b (.dK (kv fs)) from I.hok b _ eb)
  refine PySem.W.keq_eq (knd := mixKind X.prog X.w) (r := hitR fs es) ya yb da db hu (fun _ => hits_int rb ra) (fin_bl I q ?_)
  rw [← ra.length, ← rb.length, kv_len, kv_len, eq_hit he hf]
  rfl
theorem op_neI (hu : X.A.units < cLine) : OpR X (compareOp .NotEq) (rEqI not) := by
  intro pins s σ H x y v u Q I rx ry h
  obtain ⟨a, b, es, fs, rfl, rfl, ea, eb, he, hf, q⟩ := h
  obtain rfl : v = Value.ref a := rx
  obtain rfl : u = Value.ref b := ry
  obtain ⟨_, ya, va, ra, da⟩ := (show ObjOk X.prog X.w H s.heap a (.dK (kv es)) from I.hok a _ ea)
  obtain ⟨_, yb, vb, rb, db⟩ := (show ObjOk X.prog X.w H s.heap b (.dK (kv fs)) from I.hok b _ eb)
  refine PySem.W.keq_ne (knd := mixKind X.prog X.w) (r := hitR fs es) ya yb da db hu (fun _ => hits_int rb ra) (fin_bl I q ?_)
  rw [← ra.length, ← rb.length, kv_len, kv_len, eq_hit he hf]
end
abbrev sEq : Stmt := inClass sSize 17
def spEqS (K : PySem.W.Frag) (C : Addr) : Sp := fun vs H Q _ => ∃ (p : Addr) (es : Es) (y : V), vs = [.ref p, y] ∧ SizeAt C H p es ∧
  ((∃ (q : Addr) (fs : Es), y = .ref q ∧ SizeAt C H q fs ∧ Q (.bl (decide (es = fs))) H) ∨ ∃ t, TyX K H y t ∧ PySem.W.kitOne K t (.ref C) = some false ∧ Q (.bl false) H)
section
variable {P : Program} {w : World} {K : PySem.W.Frag} {mg : Str → Option Value} {base : Heap} {C : Addr}
theorem scEq : FnScope ["self", "other"] ["self", "other"] (defScope sEq) :=
  ⟨rfl, rfl, rfl, by decide +kernel, rfl, by decide +kernel, by decide +kernel⟩
theorem ok_eq {f : Addr} {fd : FuncData} (F : Fun K "__eq__" "Size.__eq__" sEq f fd) (T : Nk mg) (Tc : Ck K mg C) :
    FnOk P w K mg base CX0 1 f fd ["self", "other"] (spEqS K C) := by
  refine F.ok scEq (fun vs H Q E h => ?_) (fun cdv A outer s H vs Q E hr h => ?_)
  · obtain ⟨p, es, y, rfl, _⟩ := h
    rfl
  · obtain ⟨p, es, y, rfl, h1, h2⟩ := h
    have hu : (A.deeper (envOfC "Size.__eq__" (defScope sEq) s.heap.objs.size f cdv)).units < cLine := by have := hr.units; omega
    refine ⟨_, pss_one (ps_ret (pe_and (pe_callB call_isi (by rfl) T.isi (by decide +kernel) (pa_cons (pv 1) (pa_cons (pe_glob (v := .ref C) (by rfl) Tc.gC rfl) pa_nil)))
      (pe_one (pe_cmpR (op_eqI hu) (pe_fld (pv 0) rfl) (pe_fld (pv 1) rfl) (nomark _))))), ?_⟩
    obtain ⟨dx, D, p1, p2, p3, p4⟩ := h1
    rcases h2 with ⟨q, fs, rfl, ⟨dy, D', q1, q2, q3, q4⟩, k⟩ | ⟨t, ht, hk, k⟩
    · refine ⟨_, rfl, _, _, _, _, true, rfl, .own _, .base (.ins q1 Tc.cl Tc.cc Tc.cn Tc.ct Tc.co), ?_, _, rfl, ?_⟩
      · unfold PySem.W.kitOne
        rw [if_pos (by simp)]
      refine iteT' rfl ?_
      exact ⟨_, rfl, p, C, dx, _, _, rfl, p1, Tc.cl, Tc.nE, rfl, _, rfl, q, C, dy, _, _, rfl, q1, Tc.cl, Tc.nE, rfl, D, D', es, fs, rfl, rfl, p2, q2, p3, q3, k⟩
    · exact ⟨_, rfl, _, _, _, _, false, rfl, .own _, ht, hk, _, rfl, iteF k⟩
end
theorem spEq_mono {K : PySem.W.Frag} {C : Addr} {E : XK} : ∀ vs H (Q Q' : VK), (∀ v H', Q v H' → Q' v H') → spEqS K C vs H Q E → spEqS K C vs H Q' E := by
  rintro vs H Q Q' h ⟨p, es, y, e, h1, h2⟩
  refine ⟨p, es, y, e, h1, ?_⟩
  rcases h2 with ⟨q, fs, e, h3, k⟩ | ⟨t, h3, h4, k⟩
  · exact .inl ⟨q, fs, e, h3, h _ _ k⟩
  · exact .inr ⟨t, h3, h4, h _ _ k⟩
end K12
set_option maxHeartbeats 8000000
namespace K12
open PySem PySem.Spec PyProof.Rows L2

/-! ### a class that a local name holds is called -/
def tMakeL (i : Nat) (C : Addr) (sp : Sp) (dvs : List V) (E : XK) (t : TA) : TE := fun σ H Q => σ[i]? = some (some (.ref C)) ∧ t σ H fun vs H1 => ∀ x dx, H1 x = none → H1 dx = none → dx ≠ x →
  sp (.ref x :: (vs ++ dvs)) (upd (upd H1 dx (.own x)) x (.ins C dx [])) (fun v H2 => v = .non ∧ Q (.ref x) H2) E
section
variable {X : Cx} {CX : CXT} {k i : Nat} {f C : Addr} {fd : FuncData} {ps : List Str} {sp : Sp} {dvs : List V} {ds : List Value} {E : XK} {x : Str} {p pos : Pos} {e : Expr} {es : List Expr} {t : TA}
theorem pe_makeL (M : Mk X.K C f) (F : FnOk X.prog X.w X.K X.mg X.base CX k f fd ps sp) (hr : Room (k + 1) X.A) (hN : X.N[i]? = some x) (hv : Vis X.env.scope x) (hb : Binds X.K fd ps ds) (hd : Vals dvs ds) (hx : Passes CX X E)
    (ha : PA X (e :: es) t) (hdb : (x == ("__debug__" : Str)) = false := by decide) (hcd : (x == ("__classdict__" : Str)) = false := by decide)
    (he : starEach (e :: es) X.env = (false, eval e X.env) :: starEach es X.env := by rfl) (hpl : (backTo pos (starEach es X.env)).any (·.1) = false := by rfl) :
    PE X (.Call (.Name x p) (e :: es) [] pos) (tMakeL i C sp dvs E t) := by
  refine ⟨fun pins s σ H Q I h => ?_⟩
  obtain ⟨hs, ht⟩ := h
  refine wpAny_Call_Name_kw (thn ((pe_var (pos := p) hN hv hdb hcd).run pins s σ H (fun v H1 => v = .ref C ∧ H1 = H) I ⟨.ref C, hs, rfl, rfl⟩) fun u s1 ⟨v, H1, I1, r1, q1⟩ => ?_)
  obtain ⟨rfl, rfl⟩ := q1
  cases r1
  refine PySem.W.callWith_K (h₀ := X.base) I.ok.mod.kin M.kp (thn (ha.run pos pins s1 σ _ _ I1 ht) fun us s2 ⟨vs, H2, I2, r, q⟩ => ⟨I2.kIn, ?_⟩) he hpl
  exact run_make M F hr hb hd hx I2 r q
end

/-! ### several Sizes -/
inductive Szs (C : Addr) (H : Hp) : List V → List Es → Prop
  | nil : Szs C H [] []
  | cons {p : Addr} {es : Es} {vs : List V} {ess : List Es} : SizeAt C H p es → Szs C H vs ess → Szs C H (.ref p :: vs) (es :: ess)
theorem Szs.same {C : Addr} {H H' : Hp} (S : Same H H') : ∀ {vs : List V} {ess : List Es}, Szs C H vs ess → Szs C H' vs ess
  | _, _, .nil => .nil
  | _, _, .cons h t => .cons (h.same S) (t.same S)
theorem Szs.len {C : Addr} {H : Hp} : ∀ {vs : List V} {ess : List Es}, Szs C H vs ess → vs.length = ess.length
  | _, _, .nil => rfl
  | _, _, .cons _ t => congrArg (· + 1) t.len
theorem Szs.get {C : Addr} {H : Hp} : ∀ {vs : List V} {ess : List Es} {i : Nat} {x : V}, Szs C H vs ess → vs[i]? = some x →
    ∃ p es, x = .ref p ∧ ess[i]? = some es ∧ SizeAt C H p es
  | _, _, _, _, .nil, e => by simp at e
  | _, _, 0, _, .cons h t, e => by
    simp at e
    exact ⟨_, _, e.symm, rfl, h⟩
  | _, _, i + 1, _, .cons h t, e => by
    obtain ⟨p, es, h1, h2, h3⟩ := t.get (i := i) (by simpa using e)
    exact ⟨p, es, h1, by simpa using h2, h3⟩
/-- the sum for one name -/
def gS : List Es → Str → Int
  | [], _ => 0
  | es :: r, n => g0 es n + gS r n
theorem g0_fold (n : Str) : ∀ (ts : List Es) (t : Es), (∀ es ∈ ts, (es.map (·.1)).Nodup) → g0 (ts.foldl addE t) n = g0 t n + gS ts n
  | [], t, _ => by
    show g0 t n = g0 t n + 0
    rw [Int.add_zero]
  | es :: r, t, h => by
    have ih := g0_fold n r (addE t es) fun q hq => h q (List.mem_cons_of_mem _ hq)
    show g0 (r.foldl addE (addE t es)) n = g0 t n + (g0 es n + gS r n)
    rw [ih, g0_add (h es (List.mem_cons_self ..)), Int.add_assoc]
theorem g0_sum (n : Str) {ts : List Es} (h : ∀ es ∈ ts, (es.map (·.1)).Nodup) : g0 (sumE ts) n = gS ts n := by
  unfold sumE
  rw [g0_fold n ts [] h]
  show 0 + gS ts n = _
  rw [Int.zero_add]
theorem mem_fold {n : Str} : ∀ (ts : List Es) (t : Es), (∀ es ∈ ts, (es.map (·.1)).Nodup) → n ∈ (ts.foldl addE t).map (·.1) → n ∈ t.map (·.1) ∨ ∃ es ∈ ts, n ∈ es.map (·.1)
  | [], t, _, hn => .inl hn
  | es :: r, t, h, hn => by
    rcases mem_fold r (addE t es) (fun q hq => h q (List.mem_cons_of_mem _ hq)) hn with z | ⟨q, hq, z⟩
    · rcases mem_add (h es (List.mem_cons_self ..)) z with z | z
      · exact .inl z
      · exact .inr ⟨es, List.mem_cons_self .., z⟩
    · exact .inr ⟨q, List.mem_cons_of_mem _ hq, z⟩
theorem Szs.all {C : Addr} {H : Hp} : ∀ {vs : List V} {ess : List Es}, Szs C H vs ess → ∀ es ∈ ess, SdE es ∧ ∀ q ∈ es, isNm q.1 = true
  | _, _, .nil, _, h => by cases h
  | _, _, .cons ⟨_, _, _, _, p3, _, p5, _⟩ t, es, h => by
    rcases List.mem_cons.mp h with e | h
    · subst e
      exact ⟨p3, p5⟩
    · exact t.all es h

abbrev sChecks : Stmt := top 46
def spChecks (K : PySem.W.Frag) (C : Addr) : Sp := fun vs H Q _ => ∃ (t : Addr) (xs : List V) (ess : List Es), vs = [.ref t] ∧ SqT K H t xs ∧ Szs C H xs ess ∧ Q .non H
abbrev sProd : Stmt := inClass sSize 3
/-- product, its arguments in a tuple -/
def spProdT (C : Addr) : Sp := fun vs H Q _ => ∃ (t : Addr) (xs : List V) (ess : List Es), vs = [.ref C, .ref t] ∧ H t = some (.tup xs) ∧ Szs C H xs ess ∧ xs.length ≤ 1000 ∧ lenT ess < 64 ∧
  ∀ H' r rs, Same H H' → SizeAt C H' r rs → (∀ n, rs.lookup n = cz (gS ess n)) → Q (.ref r) H'
def spProd (C : Addr) : Sp := fun vs H Q _ => ∃ (xs : List V) (ess : List Es), vs = .ref C :: xs ∧ Szs C H xs ess ∧ xs.length ≤ 1000 ∧ lenT ess < 64 ∧
  ∀ H' r rs, Same H H' → SizeAt C H' r rs → (∀ n, rs.lookup n = cz (gS ess n)) → Q (.ref r) H'
section
variable {P : Program} {w : World} {K : PySem.W.Frag} {mg : Str → Option Value} {base : Heap} {C : Addr}
theorem scChecks : FnScope ["values", "value"] ["values"] (defScope sChecks) :=
  ⟨rfl, rfl, rfl, by decide +kernel, rfl, by decide +kernel, by decide +kernel⟩
theorem ok_checks {f fC : Addr} {fd fdC : FuncData} (F : Fun K "check_sizes" "check_sizes" sChecks f fd)
    (GC : FnOk P w K mg base CX0 1 fC fdC ["value"] (spCheck C)) (kC : PySem.W.keepIn K (.ref fC) = true) (bC : Binds K fdC ["value"] []) (gC : mg "check_size" = some (.ref fC)) :
    FnOk P w K mg base CX0 2 f fd ["values"] (spChecks K C) := by
  refine F.ok scChecks (fun vs H Q E h => ?_) (fun cdv A outer s H vs Q E hr h => ?_)
  · obtain ⟨t, xs, ess, rfl, _⟩ := h
    rfl
  · obtain ⟨t, xs, ess, rfl, hT, hZ, k⟩ := h
    refine ⟨_, pss_one (ps_for PassesOwn.never rfl (pi_tup (pv 0)) (pg_name (i := 1) scChecks.nd rfl (Or.inl rfl))
      (pss_one (ps_expr (pe_call GC hr rfl gC kC bC .nil pass0 (pa_cons (pv 1) pa_nil))))), ?_⟩
    refine ⟨_, rfl, t, rfl, ⟨xs, hT⟩, ?_⟩
    refine for_it (walk_tup (K := K) (a := t) (xs := xs)) (fun i σ H2 => H2 = H ∧ ∃ o, σ = [some (.ref t), o]) ⟨rfl, none, rfl⟩ (fun i σ H2 _ h => by rw [h.1]; exact hT) ?_ ?_
    · rintro i x σ H2 H3 hi ⟨rfl, o, rfl⟩ ⟨rfl, hx⟩
      obtain ⟨p, es, rfl, he, h3⟩ := hZ.get hx
      obtain ⟨dx, D, p1, _⟩ := h3
      exact ⟨_, rfl, p, dx, _, rfl, p1, rfl, _, rfl⟩
    · rintro σ H2 ⟨rfl, o, rfl⟩
      exact k
end
end K12
set_option maxHeartbeats 8000000
namespace K12
open PySem PySem.Spec PyProof.Rows L2

theorem Tabs.same {H H' : Hp} (S : Same H H') : ∀ {vs : List V} {ts : List Es}, Tabs H vs ts → Tabs H' vs ts
  | _, _, .nil => .nil
  | _, _, .cons h n t => .cons (S _ _ h) n (t.same S)
theorem Tabs.snoc {H : Hp} {d : Addr} {es : Es} (h : H d = some (.dK (kv es))) (n : (es.map (·.1)).Nodup) : ∀ {vs : List V} {ts : List Es}, Tabs H vs ts → Tabs H (vs ++ [.ref d]) (ts ++ [es])
  | _, _, .nil => .cons h n .nil
  | _, _, .cons h1 n1 t => .cons h1 n1 (t.snoc h n)
/-- all but what stands at L -/
theorem Tabs.at {H H' : Hp} {L : Addr} (hL : ∀ kvs, H L ≠ some (.dK kvs)) (S : ∀ b o, b ≠ L → H b = some o → H' b = some o) : ∀ {vs : List V} {ts : List Es}, Tabs H vs ts → Tabs H' vs ts
  | _, _, .nil => .nil
  | _, _, @Tabs.cons _ d es _ _ h n t => .cons (S _ _ (fun z => hL (kv es) (by rw [← z]; exact h)) h) n (t.at hL S)
theorem nm_sum {ess : List Es} {R : Es} (h : ∀ es ∈ ess, SdE es ∧ ∀ q ∈ es, isNm q.1 = true) (lR : ∀ n, R.lookup n = (sumE ess).lookup n) : ∀ q ∈ R, isNm q.1 = true := fun q hq => by
  have hin : q.1 ∈ R.map (·.1) := List.mem_map.mpr ⟨q, hq, rfl⟩
  have h3 : q.1 ∈ (sumE ess).map (·.1) := look_mem.mp (by rw [← lR]; exact look_mem.mpr hin)
  rcases mem_fold ess [] (fun es he => (h es he).1.nodup) h3 with z | ⟨es, he, z⟩
  · cases z
  · obtain ⟨r, hr, e⟩ := List.mem_map.mp z
    rw [← e]
    exact (h es he).2 r hr
section
variable {P : Program} {w : World} {K : PySem.W.Frag} {mg : Str → Option Value} {base : Heap} {C : Addr}
theorem scProd : FnScope ["cls", "sizes", "size"] ["cls", "sizes"] (defScope sProd) :=
  ⟨rfl, rfl, rfl, by decide +kernel, rfl, by decide +kernel, by decide +kernel⟩
theorem ok_prod {f fCS fI fX fA : Addr} {fd fdCS fdI fdX fdA : FuncData} (F : Fun K "product" "Size.product" sProd f fd) (Tc : Ck K mg C)
    (GC : FnOk P w K mg base CX0 2 fCS fdCS ["values"] (spChecks K C)) (kC : PySem.W.keepIn K (.ref fCS) = true) (bC : Binds K fdCS ["values"] []) (gC : mg "check_sizes" = some (.ref fCS))
    (M : Mk K C fI) (GI : FnOk P w K mg base CX0 3 fI fdI ["self", "exponents"] (spInit C)) (bI : Binds K fdI ["self", "exponents"] [])
    (mX : Meth K C "exponents" fX) (GX : FnOk P w K mg base CX0 1 fX fdX ["self"] (spExpo C)) (bX : Binds K fdX ["self"] [])
    (GA : FnOk P w K mg base CX0 1 fA fdA ["tables"] (spAdded K)) (kA : PySem.W.keepIn K (.ref fA) = true) (bA : Binds K fdA ["tables"] []) (gA : mg "added" = some (.ref fA)) :
    FnR P w K mg base CX0 5 f (spProd C) := by
  have GC4 := GC.mono (k := 4) (by decide)
  have GA4 := GA.mono (k := 4) (by decide)
  have GX4 := GX.mono (k := 4) (by decide)
  obtain ⟨oc, od, kV, doc, pm, an, cdv, ct, osl, ef, lk, hcd⟩ := F.ex
  subst ef
  intro A0 outer0 s0 H0 us0 vs0 Q0 E0' hr0 e00 r0 h0
  refine (StX.fn_star (P := P) (w := w) (mg := mg) (base := base) (CX := CX0) (k := 4) (ps := ["cls"]) (pv := "sizes") (sp := spProdT C) lk hcd scProd StX.cxUp_none
    (StX.bind_star1 (B := fun l => bindArgs (PySem.W.fnOf "product" "Size.product" (defArgs sProd) (defBody sProd) (defScope sProd) .none kV doc pm an cdv ct) ⟨l, []⟩) (p1 := "cls") (pv := "sizes") (fun _ => rfl) (fun _ _ _ => rfl)) fun A outer s H vs Q E hr h => ?_) A0 outer0 s0 H0 us0 vs0 Q0 E0' hr0 e00 r0 ?_
  rotate_left
  · obtain ⟨xs, ess, rfl, hZ, hl, hl2, k⟩ := h0
    refine ⟨[.ref C], xs, rfl, rfl, by rw [sizeLine_eq]; omega, fun p hp => ?_⟩
    have S0 := fresh_upd (o := .tup xs) hp
    exact ⟨p, xs, ess, rfl, upd_same, hZ.same S0, hl, hl2, fun H' r rs S sz ls => k H' r rs (S0.trans S) sz ls⟩
  · obtain ⟨t, xs, ess, rfl, hT, hZ, hl, hl2, k⟩ := h
    refine ⟨_, PSs.nox (pss_cons (ps_expr (pe_call GC4 hr rfl gC kC bC .nil pass0 (pa_cons (pv 1) pa_nil)))
      (pss_one (ps_ret (pe_makeL (i := 0) M GI hr rfl (Or.inl rfl) bI .nil pass0 (pa_cons (pe_call GA4 hr rfl gA kA bA .nil pass0 (pa_cons
        (pe_lc (own := [("size", 2)]) (g := gName 2) (tt := tYes) (te := tMeth C "exponents" (spExpo C) [] E0 (tVar 2) tNil) rfl scProd.nd (pi_tup (pv 1))
          (blkOk_by (own := [("size", 2)]) (N := ["cls", "sizes", "size"]) (sc := defScope sProd) (by decide +kernel)) (fun _ _ _ _ _ => pg_name (i := 2) scProd.nd rfl (Or.inl rfl))
          (fun _ _ _ _ _ => pts_nil) (fun _ _ _ _ _ => by exact pe_meth0 (pv 2) Tc.cl mX GX4 hr bX .nil pass0)) pa_nil)) pa_nil))))), ?_⟩
    refine ⟨_, rfl, t, xs, ess, rfl, SqT.of hT, hZ, ?_⟩
    refine ⟨rfl, _, rfl, t, rfl, ⟨xs, SqT.of hT⟩, fun L hL => ?_⟩
    refine lc_it (walk_tup (K := K) (a := t) (xs := xs)) (fun i H2 => ∃ ys, H2 L = some (.lst ys) ∧ ys.length = i ∧ Tabs H2 ys (ess.take i) ∧ Same H H2)
      ⟨[], upd_same, rfl, .nil, fresh_upd hL⟩ (fun i H2 _ ⟨_, _, _, _, S⟩ => SqT.of (S _ _ hT)) ?_ ?_
    · rintro i x H2 H3 hi ⟨ys, hL2, hy, hTb, S2⟩ ⟨rfl, hx⟩
      obtain ⟨p, es, rfl, he, h3⟩ := hZ.get hx
      have h3' := h3.same S2
      obtain ⟨dx, D, p1, p2, p3, p4⟩ := id h3'
      refine ⟨rfl, ?_⟩
      unfold tYes
      dsimp only
      rw [if_pos rfl]
      refine ⟨_, rfl, p, dx, _, rfl, p1, rfl, p, es, rfl, h3', fun l nl => ?_⟩
      have Ll : L ≠ l := ne_of_none hL2 nl
      have S3 := fresh_upd (o := .dK (kv es)) nl
      refine ⟨ys, (upd_ne Ll).trans hL2, by rw [sizeLine_eq]; omega, ys ++ [.ref l], upd_same, by rw [List.length_append, hy]; rfl, ?_, fun b o e => ?_⟩
      · have et : ess.take (i + 1) = ess.take i ++ [es] := by
          rw [List.take_add_one, he]
          rfl
        rw [et]
        refine Tabs.at (H := upd H3 l (.dK (kv es))) (L := L) (fun kvs z => ?_) (fun b o hb e => (upd_ne hb).trans e) (Tabs.snoc upd_same p3.nodup (hTb.same S3))
        rw [upd_ne Ll, hL2] at z
        cases z
      · rw [upd_ne (ne_of_none e hL)]
        exact S3 _ _ (S2 b o e)
    · rintro H2 ⟨ys, hL2, hy, hTb, S2⟩
      have etk : ess.take xs.length = ess := by rw [hZ.len, List.take_length]
      rw [etk] at hTb
      refine ⟨L, ys, ess, rfl, SqL.of hL2, hTb, by omega, hl2, fun H3 D R S3 nD hD sR lR zR => ?_⟩
      have hA := hZ.all
      refine rd_make hD sR.nodup (by omega) (nm_sum hA lR) fun H' r rs S5 sz _ ls => k H' r rs (S2.trans (S3.trans S5)) sz fun n => ?_
      have gR : g0 R n = gS ess n := by
        rw [← g0_sum n fun es he => (hA es he).1.nodup]
        unfold g0
        rw [lR n]
      rw [ls, gR]
end
end K12
set_option maxHeartbeats 8000000
namespace K12
open PySem PySem.Spec PyProof.Rows L2

/-! ### a def with **kw, called by keywords -/
theorem ns_put {M : Model} {A : Around} {E : Value → Shared → Prop} {s : Shared} {d : Addr} {es : List DictEntry} {n : Nat} {k : Str} {v : Value} {Q : Unit → Shared → Prop}
    (D : s.heap.get? d = some (PySem.W.dictOf es n)) (hs : ∀ e ∈ es, e.key.isStr k = false) (hr : ∀ e ∈ es, e.refKey = false)
    (h : ∀ h', h'.get? d = some (PySem.W.dictOf (es ++ [⟨PyData.keyHash M.w.params k, .str k s.toks, v⟩]) (n + 1)) → h'.objs.size = s.heap.objs.size → (∀ b, b ≠ d → h'.get? b = s.heap.get? b) → Q () { s with heap := h', toks := s.toks + 1 }) :
    wpAny M A (nsSet d k v) Q E s := by
  have e1 : es.any (·.key.isStr k) = false := by
    cases q : es.any (·.key.isStr k) with
    | false => rfl
    | true => obtain ⟨e, he, z⟩ := List.any_eq_true.mp q; rw [hs e he] at z; cases z
  have e2 : es.any (·.refKey) = false := by
    cases q : es.any (·.refKey) with
    | false => rfl
    | true => obtain ⟨e, he, z⟩ := List.any_eq_true.mp q; rw [hr e he] at z; cases z
  have e : Obj.putName k (PyData.keyHash M.w.params k) (.str k s.toks) v (PySem.W.dictOf es n) = PySem.W.dictOf (es ++ [⟨PyData.keyHash M.w.params k, .str k s.toks, v⟩]) (n + 1) := by
    rw [PySem.W.putName_dict, PySem.W.putL_new hs]
    show PySem.W.dictOf _ (if es.any (·.key.isStr k) then n else n + 1) = _
    rw [e1, if_neg Bool.false_ne_true]
  have c : aRefKeyMayBeTheName k es.toArray = false := by
    rw [aRefKeyMayBeTheName_at, ← Array.any_toList, ← Array.any_toList]
    show (!es.any (·.key.isStr k) && es.any (·.refKey)) = false
    rw [e2, Bool.and_false]
  unfold nsSet
  refine wpAny_bind (wpAny_bind (wpAny_askSetting (wpAny_pure (wpAny_bind (wpAny_mkText (wpAny_bind (wpAny_loadPart D ?_)))))))
  dsimp only
  rw [c]
  refine wpAny_updatePart D (h _ ?_ ?_ ?_)
  · have z := Heap.get?_update_self (f := Obj.putName k (PyData.keyHash M.w.params k) (.str k s.toks) v) D (by rw [e]; rfl)
    rw [e] at z
    exact z
  · exact Heap.size_update ..
  · intro b hb
    exact Heap.get?_update_ne _ _ _ _ hb

theorem ns_fill {M : Model} {A : Around} {E : Value → Shared → Prop} {d : Addr} {Q : PUnit → Shared → Prop} : ∀ (ex : List (Str × Value)) (s : Shared) (es : List DictEntry) (n : Nat), s.heap.get? d = some (PySem.W.dictOf es n) →
    (∀ e ∈ es, ∀ x ∈ ex, e.key.isStr x.1 = false) → (∀ e ∈ es, e.refKey = false) → (ex.map (·.1)).Nodup →
    (∀ h', h'.get? d = some (PySem.W.dictOf (es ++ PySem.W.kwEs M.w.params s.toks ex) (n + ex.length)) → h'.objs.size = s.heap.objs.size → (∀ b, b ≠ d → h'.get? b = s.heap.get? b) → Q ⟨⟩ { s with heap := h', toks := s.toks + ex.length }) →
    wpAny M A (forIn ex PUnit.unit fun x _ => (nsSet d x.1 x.2 >>= fun _ => pure (ForInStep.yield PUnit.unit))) Q E s
  | [], s, es, n, D, _, _, _, h => by
    rw [List.forIn_nil]
    refine wpAny_pure (h s.heap ?_ rfl fun _ _ => rfl)
    show s.heap.get? d = some (PySem.W.dictOf (es ++ []) n)
    rw [List.append_nil]
    exact D
  | x :: r, s, es, n, D, hs, hr, hn, h => by
    obtain ⟨hn1, hn2⟩ := List.nodup_cons.mp (show (x.1 :: r.map (·.1)).Nodup from hn)
    rw [List.forIn_cons]
    refine wpAny_bind (wpAny_bind (ns_put D (fun e he => hs e he x (.head _)) hr fun h' D' z' k' => wpAny_pure ?_))
    show wpAny M A (forIn r PUnit.unit fun x _ => (nsSet d x.1 x.2 >>= fun _ => pure (ForInStep.yield PUnit.unit))) Q E { s with heap := h', toks := s.toks + 1 }
    refine ns_fill r { s with heap := h', toks := s.toks + 1 } _ _ D' (fun e he y hy => ?_) (fun e he => ?_) hn2 fun h'' D'' z'' k'' => ?_
    · rcases List.mem_append.mp he with he | he
      · exact hs e he y (.tail _ hy)
      · obtain rfl := List.mem_singleton.mp he
        show (x.1 == y.1) = false
        exact beq_eq_false_iff_ne.mpr fun q => hn1 (by rw [q]; exact List.mem_map_of_mem hy)
    · rcases List.mem_append.mp he with he | he
      · exact hr e he
      · obtain rfl := List.mem_singleton.mp he
        rfl
    · have t1 : s.toks + 1 + r.length = s.toks + (r.length + 1) := by omega
      have t2 : n + 1 + r.length = n + (r.length + 1) := by omega
      show Q ⟨⟩ { s with heap := h'', toks := s.toks + 1 + r.length }
      rw [t1]
      refine h h'' ?_ (z''.trans z') fun b hb => (k'' b hb).trans (k' b hb)
      rw [t2, List.append_assoc] at D''
      exact D''
theorem kwEs_mix {P : Program} {w : World} : ∀ (ex : List (Str × Value)) (t : Tok), Pairs (mixKind P w) (PySem.W.kwEs w.params t ex) (ex.map fun x => ((Sum.inr x.1 : Key), x.2))
  | [], _ => Pairs.nil
  | x :: r, t => Pairs.cons (mixKind_str P w x.1 t) rfl (kwEs_mix r (t + 1))
theorem kwEs_dict {P : Program} {w : World} {h : Heap} {d : Addr} {ex : List (Str × Value)} {t : Tok} {n : Nat} (D : h.get? d = some (PySem.W.dictOf (PySem.W.kwEs w.params t ex) n)) (hn : (ex.map (·.1)).Nodup) :
    h.DictOf (mixKind P w) d (ex.map fun x => ((Sum.inr x.1 : Key), x.2)) := by
  refine ⟨_, (PySem.W.kwEs w.params t ex).toArray, n, D, ⟨rfl, rfl, rfl⟩, rfl, fun e he => ?_, kwEs_mix ex t, ?_⟩
  · obtain ⟨k, u, hk, hh⟩ := PySem.W.kwEs_key ex t e (List.mem_toArray.mp he)
    refine ⟨Sum.inr k, ?_, hh⟩
    rw [hk]
    exact mixKind_str P w k u
  · rw [List.map_map]
    have e : ((fun x : Key × Value => x.1) ∘ fun x : Str × Value => ((Sum.inr x.1 : Key), x.2)) = (fun s : Str => (Sum.inr s : Key)) ∘ fun x : Str × Value => x.1 := rfl
    rw [e, ← List.map_map]
    exact List.Pairwise.map _ (fun a b h q => h (Sum.inr.inj q)) hn

/-- a promise for a call by keywords alone, the class ahead of them -/
def FnKw (P : Program) (w : World) (K : PySem.W.Frag) (mg : Str → Option Value) (base : Heap) (k : Nat) (f C : Addr) (ks : List Str) (sp : Sp) : Prop :=
  ∀ (A : Around) (outer : List Env) (s : Shared) (H : Hp) (ws : List Value) (zs : List V) (Q : VK) (E : XK), Room k A → Env0 P w K mg base A outer s H → Vals zs ws → zs.length = ks.length → sp zs H Q E →
    codeAny (model P w) A (.call (.ref f) ⟨[.ref C], ks.zip ws⟩) (CR CX0 outer P w H s Q E) s
abbrev sOf : Stmt := inClass sSize 1
def spOfD (C : Addr) : Sp := fun vs H Q _ => ∃ (d : Addr) (es : Es), vs = [.ref C, .ref d] ∧ H d = some (.dK (kv es)) ∧ (es.map (·.1)).Nodup ∧ es.length < 64 ∧ (∀ q ∈ es, isNm q.1 = true) ∧
  ∀ H' r rs, Same H H' → SizeAt C H' r rs → (∀ n, rs.lookup n = cz (g0 es n)) → Q (.ref r) H'
def spOf (C : Addr) (ks : List Str) : Sp := fun zs H Q _ => ∃ ns : List Int, zs = ns.map V.int ∧ ns.length = ks.length ∧
  ∀ H' r rs, Same H H' → SizeAt C H' r rs → (∀ n, rs.lookup n = cz (g0 (ks.zip ns) n)) → Q (.ref r) H'
theorem vals_ints : ∀ {ns : List Int} {ws : List Value}, Vals (ns.map V.int) ws → ∀ ks : List Str, KV (kv (ks.zip ns)) ((ks.zip ws).map fun x => ((Sum.inr x.1 : Key), x.2))
  | [], _, .nil, ks => by
    rw [List.zip_nil_right, List.zip_nil_right]
    exact .nil
  | n :: r, _, .cons h t, [] => .nil
  | n :: r, _, .cons h t, k :: ks => .cons ⟨rfl, h⟩ (vals_ints t ks)
theorem zip_keys {α : Type} : ∀ {ks : List Str} {ns : List α}, ns.length = ks.length → (ks.zip ns).map (·.1) = ks
  | [], _, _ => rfl
  | k :: ks, [], h => by cases h
  | k :: ks, n :: ns, h => by
    have ih := zip_keys (ks := ks) (ns := ns) (by simpa using h)
    show k :: (ks.zip ns).map (·.1) = _
    rw [ih]
section
variable {P : Program} {w : World} {K : PySem.W.Frag} {mg : Str → Option Value} {base : Heap} {C : Addr}
theorem scOf : FnScope ["cls", "exponents"] ["cls", "exponents"] (defScope sOf) :=
  ⟨rfl, rfl, rfl, by decide +kernel, rfl, by decide +kernel, by decide +kernel⟩
theorem ok_of {f fI : Addr} {fd fdI : FuncData} {ks : List Str} (F : Fun K "of" "Size.of" sOf f fd) (Tc : Ck K mg C) (hkn : ks.Nodup) (hkm : ∀ k ∈ ks, isNm k = true) (hkl : ks.length < 64)
    (M : Mk K C fI) (GI : FnOk P w K mg base CX0 3 fI fdI ["self", "exponents"] (spInit C)) (bI : Binds K fdI ["self", "exponents"] [])
    (hbd : ∀ (kV doc pm : Value) (an : Option Addr) (cdv ct : Value) (ws : List Value), ws.length = ks.length → bindArgs (PySem.W.fnOf "of" "Size.of" (defArgs sOf) (defBody sOf) (defScope sOf) .none kV doc pm an cdv ct) ⟨[.ref C], ks.zip ws⟩ =
      ((alloc (PySem.W.dictOf [] 0) : Sem Addr) >>= fun d => (forIn (ks.zip ws) PUnit.unit (fun x _ => (nsSet d x.1 x.2 >>= fun _ => pure (ForInStep.yield PUnit.unit))) : Sem PUnit) >>= fun _ => pure [(("cls" : Str), Value.ref C), (("exponents" : Str), Value.ref d)])) :
    FnKw P w K mg base 5 f C ks (spOf C ks) := by
  obtain ⟨oc, od, kV, doc, pm, an, cdv, ct, osl, ef, lk, hcd⟩ := F.ex
  subst ef
  intro A outer s H ws zs Q E hr e0 r hl h
  obtain ⟨ns, rfl, hns, k⟩ := h
  have hwl : ws.length = ks.length := by rw [← r.length]; exact hl
  have hn : H s.heap.objs.size = none := e0.hok.fresh (Nat.le_refl _)
  refine StX.run_bnd (k := 4) (ps := ["cls", "exponents"]) lk hcd scOf hr e0 (G := fun xs H2 => ∃ p, H p = none ∧ xs = [.ref C, .ref p] ∧ H2 = upd H p (.dK (kv (ks.zip ns)))) (fun A' Ex Q' hq => ?_) fun s2 H2 xs ⟨p, hp, ex, eH⟩ hr' => ?_
  · rw [hbd kV doc pm an cdv ct ws hwl]
    refine wpAny_bind (wpAny_alloc (wpAny_bind ?_))
    refine ns_fill (ks.zip ws) _ [] 0 (Heap.get?_push_size s.heap rfl) (fun _ he => nomatch he) (fun _ he => nomatch he) (by rw [zip_keys hwl]; exact hkn) fun h' D' z' k' => wpAny_pure ?_
    have kp : ∀ b o, s.heap.get? b = some o → h'.get? b = some o := fun b o e => (k' b (Nat.ne_of_lt (Heap.lt_size e))).trans (Heap.get?_push_of_some _ e)
    have D2 : h'.get? s.heap.objs.size = some (PySem.W.dictOf (PySem.W.kwEs w.params s.toks (ks.zip ws)) (0 + (ks.zip ws).length)) := D'
    have hsys : (s.heap.objs.size == sysModules) = false := beq_eq_false_iff_ne.mpr (Nat.ne_of_gt (StX.env0_big e0))
    have new : ObjOk P w (upd H s.heap.objs.size (.dK (kv (ks.zip ns)))) h' s.heap.objs.size (.dK (kv (ks.zip ns))) :=
      ⟨by rw [kv_len, List.length_zip, sizeLine_eq]; omega, hsys, _, vals_ints r ks, kwEs_dict D2 (by rw [zip_keys hwl]; exact hkn)⟩
    have hz : h'.objs.size = s.heap.objs.size + 1 := z'.trans (Heap.size_push _ _)
    have e2 : Env0 P w K mg base A outer { s with heap := h', toks := s.toks + (ks.zip ws).length } (upd H s.heap.objs.size (.dK (kv (ks.zip ns)))) := by
      refine ⟨e0.frames, e0.mod, fun b x e => ⟨kp b x (e0.bs b x e).1, ?_⟩, ?_, Heap.FunFrames.of_keeps (fun b x e _ => ⟨x, kp b x e, rfl⟩) e0.funs, fun b hb => ?_, e0.hok.laid kp (Nat.le_refl _) new, e0.bare⟩
      · rw [upd_ne (Nat.ne_of_lt (Heap.lt_size (e0.bs b x e).1))]
        exact (e0.bs b x e).2
      · show base.objs.size ≤ h'.objs.size
        rw [hz]
        exact Nat.le_succ_of_le e0.bsz
      · obtain ⟨_, x, hx, _⟩ := e0.funs.mem hb
        rw [upd_ne (Nat.ne_of_lt (Heap.lt_size hx))]
        exact e0.frf b hb
    have un : Un (frs outer) [] H (upd H s.heap.objs.size (.dK (kv (ks.zip ns)))) s.heap h' := Un.laid kp (Nat.le_refl _) hn
    exact hq _ _ [.ref C, .ref s.heap.objs.size] [.ref C, .ref s.heap.objs.size] e2 un rfl (fun e s' z => z.elim) (.cons rfl (.cons rfl .nil)) rfl ⟨_, hn, rfl, rfl⟩
  · subst ex eH
    have hkz : (ks.zip ns).map (·.1) = ks := zip_keys hns
    refine ⟨_, PSs.nox (pss_one (ps_ret (pe_makeL (i := 0) M GI hr' rfl (Or.inl rfl) bI .nil pass0 (pa_cons (pv 1) pa_nil)))), ?_⟩
    refine ⟨rfl, _, rfl, ?_⟩
    refine rd_make (R := ks.zip ns) upd_same (by rw [hkz]; exact hkn) (by rw [List.length_zip]; omega) (fun q hq => hkm _ (by rw [← hkz]; exact List.mem_map.mpr ⟨q, hq, rfl⟩)) fun H' r rs S5 sz _ ls => k H' r rs ((fresh_upd hp).trans S5) sz ls
end

/-! ### the call C.m(k = v, ..) of such a class method -/
def tCMethK (C : Addr) (sp : Sp) (E : XK) (m : Nat) (ta : TE) (t : TA) : TE := fun σ H Q => ta σ H fun x H1 => x = .ref C ∧ t σ H1 fun zs H2 => zs.length = m ∧ sp zs H2 Q E
section
variable {X : Cx} {k : Nat} {C p g : Addr} {mc : Value} {sp : Sp} {E : XK} {o : Expr} {kws : List Keyword} {ks : List Str} {m : Str} {pos apos : Pos} {ta : TE} {t : TA} {pl : Sem Bool}
theorem pe_cmethK (he : PE X o ta) (r : ClX.CRead X.K C mc) (c : ClX.CMet X.K C mc m p g) (F : FnKw X.prog X.w X.K X.mg X.base k g C ks sp) (hr : Room k X.A) (hkw : PK X kws t)
    (hall : (backToKw pos (keywordEach kws X.env)).all (·.1.isSome) = true := by rfl) (hks : (backToKw pos (keywordEach kws X.env)).filterMap (·.1) = ks := by rfl)
    (hpl : ((backTo pos (starEach [] X.env)).any (·.1) || (backToKw pos (keywordEach kws X.env)).any (·.1.isNone)) = false := by rfl)
    (ht : eval (.Call (.Attribute o m apos) [] kws pos) X.env = (do
      let ov ← eval o X.env
      standAt apos.atName
      let (f, first) ← holding [ov] (getMethod ov m pl)
      callWith pos f first (backTo pos (starEach [] X.env)) (backToKw pos (keywordEach kws X.env))) := by rfl) :
    PE X (.Call (.Attribute o m apos) [] kws pos) (tCMethK C sp E ks.length ta t) := by
  refine ⟨fun pins s σ H Q I h => ?_⟩
  refine PySem.W.methodCall_KW (pl := pl) (thn (he.run pins s σ H _ I h) fun u s1 ⟨x, H1, I1, rx, ex, q⟩ => ?_) ht
  subst ex
  obtain rfl : u = Value.ref C := rx
  refine ClX.getmethcm_ok I1 r c fun s2 I2 => ?_
  refine PySem.W.callWith_of (P := PySem.W.MethP X.K s1.heap.objs.size g (.ref C)) hpl (PySem.W.keeps_M c.fi) (evalArgs_kw2_nil hall ?_)
  refine thn (hkw.run pos _ s2 σ H1 _ I2 q) fun ws s3 ⟨zs, H2, I3, rz, l1, q2⟩ => ⟨⟨ClX.pin_at I3, I3.kIn⟩, ?_⟩
  rw [hks]
  have z : wpAny (model X.prog X.w) X.A (call (.ref s1.heap.objs.size) [] (ks.zip ws)) (EP X ((s1.heap.objs.size, PySem.W.methodObj (.ref g) (.ref C)) :: pins) σ Q) X.xe s3 := by
    refine wpAny_call (PySem.W.method_call (ClX.pin_at I3) (codeAny_mono (F X.A X.stack s3 H2 ws zs Q E hr I3.env0 rz l1 q2) fun r s' hq => ?_))
    cases r with
    | error e => exact hq.elim
    | ok fl =>
      cases fl with
      | ret u => exact I3.after hq
      | next => exact False.elim hq
      | brk => exact False.elim hq
      | cont => exact False.elim hq
  exact thn z fun _ _ y => ClX.unpinE y
end
end K12
set_option maxHeartbeats 8000000
namespace K12
open PySem PySem.Spec PyProof.Rows L2 TL

/-! ### texts of numbers and Sizes -/
def decS (n : Int) : Str := Str.ofString (toString n)
def pwT (n : Str) (v : Int) : Str := if v = 1 then n else n ++ ("^" : Str) ++ decS v
def texE (es : Es) : Str := if es = [] then "1" else Txt.join "*" (es.map fun q => pwT q.1 q.2)
def Big (v : Int) : Prop := -(10 ^ 60) < v ∧ v < 10 ^ 60
theorem dec_len0 {v : Int} (h0 : 0 ≤ v) (h : v < 10 ^ 60) : (decS v).length ≤ 60 := toString_length_le h0 (by decide) h
theorem dec_len {v : Int} (h : Big v) : (decS v).length ≤ 61 := by
  by_cases h0 : 0 ≤ v
  · have := dec_len0 h0 h.2
    omega
  · unfold decS
    rw [len_text_neg (by omega)]
    have := dec_len0 (v := 0 - v) (by omega) (by have := h.1; omega)
    unfold decS at this
    omega
theorem log_of {v : Int} (h : Big v) : v.natAbs.log2 < 1920 := by
  have h1 : v.natAbs < 2 ^ 200 := by
    have h2 : (10 : Int) ^ 60 < 2 ^ 200 := by decide
    have h3 : ((v.natAbs : Nat) : Int) < 2 ^ 200 := by
      have := h.1
      have := h.2
      omega
    exact_mod_cast h3
  by_cases h0 : v.natAbs = 0
  · rw [h0]
    decide
  · have := (Nat.log2_lt h0).mpr h1
    omega
theorem of_append (a b : String) : Str.ofString (a ++ b) = Str.ofString a ++ Str.ofString b := by
  apply str_eq
  show tl _ = tl _
  rw [tl_append]
  show (Str.ofString (a ++ b)).cps.toList = (Str.ofString a).cps.toList ++ (Str.ofString b).cps.toList
  rw [Str.ofString_eq_toList, Str.ofString_eq_toList, Str.ofString_eq_toList]
  simp [String.toList_append]
theorem dec_neg {v : Int} (h : v < 0) : ("-" : Str) ++ decS (-v) = decS v := by
  unfold decS
  rw [toString_neg h, of_append, Int.zero_sub]
theorem join_one (y x : Str) : Txt.join y [x] = x := by
  rw [join_eq]
  rfl
theorem len_joinL (S : List Nat) : ∀ ps : List (List Nat), (joinL S ps).length ≤ (ps.map List.length).sum + ps.length * S.length
  | [] => Nat.zero_le _
  | [p] => by
    show p.length ≤ p.length + 0 + 1 * S.length
    omega
  | p :: q :: r => by
    have ih := len_joinL S (q :: r)
    show (p ++ (S ++ joinL S (q :: r))).length ≤ (p.length + ((q :: r).map List.length).sum) + ((q :: r).length + 1) * S.length
    rw [List.length_append, List.length_append, Nat.add_mul, Nat.one_mul]
    omega
theorem len_join (y : Str) (ps : List Str) {b : Nat} (h : ∀ p ∈ ps, p.length ≤ b) : (Txt.join y ps).length ≤ ps.length * b + ps.length * y.length := by
  rw [join_eq, len_tl, tl_join]
  have h1 := len_joinL (tl y) (ps.map tl)
  rw [List.length_map, ← len_tl] at h1
  have h2 : ∀ l : List Str, (∀ p ∈ l, p.length ≤ b) → ((l.map tl).map List.length).sum ≤ l.length * b := fun l => by
    induction l with
    | nil => intro _; exact Nat.zero_le _
    | cons p r ih =>
      intro hl
      have z := ih fun q hq => hl q (List.mem_cons_of_mem _ hq)
      have z2 := hl p (List.mem_cons_self ..)
      rw [len_tl] at z2
      show (tl p).length + ((r.map tl).map List.length).sum ≤ (r.length + 1) * b
      rw [Nat.add_mul, Nat.one_mul]
      omega
  have := h2 ps h
  omega
theorem pw_len {n : Str} {v : Int} (hn : n.length ≤ 8) (h : Big v) : (pwT n v).length ≤ 70 := by
  unfold pwT
  split
  · omega
  · have := dec_len h
    rw [len_tl, tl_append, tl_append, List.length_append, List.length_append, ← len_tl, ← len_tl, ← len_tl]
    have e : ("^" : Str).length = 1 := by decide
    omega
theorem tex_len {es : Es} (h : ∀ q ∈ es, q.1.length ≤ 8 ∧ Big q.2) (hl : es.length < 64) : (texE es).length ≤ 10000 := by
  unfold texE
  split
  · decide
  · have z := len_join "*" (es.map fun q => pwT q.1 q.2) (b := 70) fun p hp => by
      obtain ⟨q, hq, e⟩ := List.mem_map.mp hp
      rw [← e]
      exact pw_len (h q hq).1 (h q hq).2
    rw [List.length_map] at z
    have e : ("*" : Str).length = 1 := by decide
    rw [e] at z
    omega

abbrev sDec : Stmt := top 37
abbrev sPw : Stmt := top 42
abbrev sTex : Stmt := top 40
abbrev sStr : Stmt := inClass sSize 18
def spDec0 : Sp := fun vs H Q _ => ∃ n : Int, vs = [.int n] ∧ 0 ≤ n ∧ n < 10 ^ 60 ∧ ∀ H', Same H H' → Q (.str (decS n)) H'
def spDec : Sp := fun vs H Q _ => ∃ n : Int, vs = [.int n] ∧ Big n ∧ ∀ H', Same H H' → Q (.str (decS n)) H'
def spPw : Sp := fun vs H Q _ => ∃ (x : Str) (n : Int), vs = [.str x, .int n] ∧ x.length ≤ 8 ∧ Big n ∧ ∀ H', Same H H' → Q (.str (pwT x n)) H'
def spTex : Sp := fun vs H Q _ => ∃ (d : Addr) (es : Es), vs = [.ref d] ∧ H d = some (.dK (kv es)) ∧ SdE es ∧ es.length < 64 ∧ (∀ q ∈ es, q.1.length ≤ 8 ∧ Big q.2) ∧ ∀ H', Same H H' → Q (.str (texE es)) H'
def spStr (C : Addr) : Sp := fun vs H Q _ => ∃ (p : Addr) (es : Es), vs = [.ref p] ∧ SizeAt C H p es ∧ (∀ q ∈ es, Big q.2) ∧ ∀ H', Same H H' → Q (.str (texE es)) H'
structure Ns (mg : Str → Option Value) : Prop where
  str : mg "str" = none
  chunk : ∃ t, mg "CHUNK" = some (.int (10 ^ 60) t)
section
variable {P : Program} {w : World} {K : PySem.W.Frag} {mg : Str → Option Value} {base : Heap} {C : Addr}
theorem scDec : FnScope ["number", "parts", "low"] ["number"] (defScope sDec) :=
  ⟨rfl, rfl, rfl, by decide +kernel, rfl, by decide +kernel, by decide +kernel⟩

theorem ok_dec0 {f : Addr} {fd : FuncData} (F : Fun K "decimal_text" "decimal_text" sDec f fd) (T : Ns mg) :
    FnOk P w K mg base CX0 1 f fd ["number"] spDec0 := by
  obtain ⟨tc, gc⟩ := T.chunk
  refine F.ok scDec (fun vs H Q E h => ?_) (fun cdv A outer s H vs Q E hr h => ?_)
  · obtain ⟨n, rfl, _⟩ := h
    rfl
  · obtain ⟨n, rfl, h0, h1, k⟩ := h
    refine ⟨_, pss_cons (ps_if (pt_cmpR op_lt (pv 0) pe_int (nomark _)) (pss_one ps_no) pss_nil)
      (pss_cons (ps_set (i := 1) scDec.nd rfl (.inl rfl) (pe_lst pa_nil))
      (pss_cons (ps_while PassesOwn.never (pt_cmpR op_ge (pv 0) (pe_glob (v := .int (10 ^ 60)) (by rfl) gc ⟨tc, rfl⟩) (nomark _)) (pss_cons ps_no (pss_one ps_no)))
      (pss_cons (ps_expr (pe_bm PySem.F.plainAttrs_list PySem.F.slot_list_append PySem.F.type_list_append mt_append (pv 1) (pa_cons (pe_callTy call_str_int (by rfl) T.str (by decide +kernel) (pa_cons (pv 0) pa_nil)) pa_nil)))
      (pss_one (ps_ret (pe_join pe_str (pe_revL (pv 1)))))))), ?_⟩
    refine ⟨_, rfl, _, _, rfl, rfl, _, rfl, ?_⟩
    refine iteN' (by omega) ?_
    refine ⟨Nat.zero_le _, fun a na => ?_⟩
    have S1 := fresh_upd (o := .lst []) na
    refine ⟨fun m σ H2 => σ = [some (.int n), some (.ref a), none] ∧ H2 = upd H a (.lst []), ⟨0, rfl, rfl⟩, ?_⟩
    rintro m σ H2 ⟨rfl, rfl⟩
    refine ⟨_, rfl, _, _, rfl, rfl, _, rfl, ?_⟩
    refine iteN' (by omega) ?_
    refine ⟨_, rfl, .inl ⟨rfl, _, SqL.of upd_same⟩, _, rfl, n, rfl, log_of ⟨by omega, h1⟩, a, [], _, rfl, rfl, upd_same, by rw [sizeLine_eq]; show 0 < 16777216; decide, ?_⟩
    refine ⟨⟨_, rfl⟩, _, rfl, a, _, rfl, SqL.of upd_same, fun p np => ?_⟩
    have hL := dec_len0 h0 h1
    refine ⟨_, p, [decS n], rfl, rfl, .inl (SqL.of upd_same), ?_, ?_⟩
    · show (decS n).length + 0 + 1 * Str.empty.length ≤ 16777216
      have e : Str.empty.length = 0 := rfl
      omega
    · rw [join_one]
      refine k _ fun b o e => ?_
      have ba : b ≠ a := ne_of_none e na
      have e1 := S1 _ _ e
      have bp : b ≠ p := ne_of_none ((upd_ne ba).trans e1) np
      rw [upd_ne bp, upd_ne ba]
      exact e1
theorem ok_dec {f : Addr} {fd : FuncData} (F : Fun K "decimal_text" "decimal_text" sDec f fd) (T : Ns mg) (bD : Binds K fd ["number"] []) (gD : mg "decimal_text" = some (.ref f)) (kD : PySem.W.keepIn K (.ref f) = true) :
    FnOk P w K mg base CX0 2 f fd ["number"] spDec := by
  have G0 : FnOk P w K mg base CX0 1 f fd ["number"] spDec0 := ok_dec0 F T
  obtain ⟨tc, gc⟩ := T.chunk
  refine F.ok scDec (fun vs H Q E h => ?_) (fun cdv A outer s H vs Q E hr h => ?_)
  · obtain ⟨n, rfl, _⟩ := h
    rfl
  · obtain ⟨n, rfl, hB, k⟩ := h
    by_cases h0 : n < 0
    · refine ⟨_, pss_cons (ps_if (pt_cmpR op_lt (pv 0) pe_int (nomark _)) (pss_one (ps_ret (pe_op op_add_str pe_str (pe_call G0 hr rfl gD kD bD .nil pass0 (pa_cons (pe_un un_neg (pv 0)) pa_nil))))) pss_nil)
        (pss_cons ps_no (pss_cons ps_no (pss_cons ps_no (pss_one ps_no)))), ?_⟩
      refine ⟨_, rfl, _, _, rfl, rfl, _, rfl, ?_⟩
      refine iteT' (decide_eq_true h0) ?_
      refine ⟨_, rfl, _, rfl, -n, rfl, by omega, by have := hB.1; omega, fun H' S => ⟨_, _, rfl, rfl, ?_, ?_⟩⟩
      · have := dec_len0 (v := -n) (by omega) (by have := hB.1; omega)
        have e : ("-" : Str).length = 1 := by decide
        rw [e, sizeLine_eq]
        omega
      · rw [dec_neg h0]
        exact k H' S
    · have h0 : 0 ≤ n := by omega
      have h1 := hB.2
      obtain ⟨t, ht, hq⟩ := (show ∃ t, PSs (cxOf CX0 P w K mg base ["number", "parts", "low"] "decimal_text" (defScope sDec) f cdv A outer s H E).nox (defBody sDec) t ∧ t { nx := fun _ H' => Q .non H', rt := Q } (start ["number", "parts", "low"] [.int n]) H from by
        refine ⟨_, pss_cons (ps_if (pt_cmpR op_lt (pv 0) pe_int (nomark _)) (pss_one ps_no) pss_nil)
          (pss_cons (ps_set (i := 1) scDec.nd rfl (.inl rfl) (pe_lst pa_nil))
          (pss_cons (ps_while PassesOwn.never (pt_cmpR op_ge (pv 0) (pe_glob (v := .int (10 ^ 60)) (by rfl) gc ⟨tc, rfl⟩) (nomark _)) (pss_cons ps_no (pss_one ps_no)))
          (pss_cons (ps_expr (pe_bm PySem.F.plainAttrs_list PySem.F.slot_list_append PySem.F.type_list_append mt_append (pv 1) (pa_cons (pe_callTy call_str_int (by rfl) T.str (by decide +kernel) (pa_cons (pv 0) pa_nil)) pa_nil)))
          (pss_one (ps_ret (pe_join pe_str (pe_revL (pv 1)))))))), ?_⟩
        refine ⟨_, rfl, _, _, rfl, rfl, _, rfl, ?_⟩
        refine iteN' (by omega) ?_
        refine ⟨Nat.zero_le _, fun a na => ?_⟩
        have S1 := fresh_upd (o := .lst []) na
        refine ⟨fun m σ H2 => σ = [some (.int n), some (.ref a), none] ∧ H2 = upd H a (.lst []), ⟨0, rfl, rfl⟩, ?_⟩
        rintro m σ H2 ⟨rfl, rfl⟩
        refine ⟨_, rfl, _, _, rfl, rfl, _, rfl, ?_⟩
        refine iteN' (by omega) ?_
        refine ⟨_, rfl, .inl ⟨rfl, _, SqL.of upd_same⟩, _, rfl, n, rfl, log_of ⟨by omega, h1⟩, a, [], _, rfl, rfl, upd_same, by rw [sizeLine_eq]; show 0 < 16777216; decide, ?_⟩
        refine ⟨⟨_, rfl⟩, _, rfl, a, _, rfl, SqL.of upd_same, fun p np => ?_⟩
        have hL := dec_len0 h0 h1
        refine ⟨_, p, [decS n], rfl, rfl, .inl (SqL.of upd_same), ?_, ?_⟩
        · show (decS n).length + 0 + 1 * Str.empty.length ≤ 16777216
          have e : Str.empty.length = 0 := rfl
          omega
        · rw [join_one]
          refine k _ fun b o e => ?_
          have ba : b ≠ a := ne_of_none e na
          have e1 := S1 _ _ e
          have bp : b ≠ p := ne_of_none ((upd_ne ba).trans e1) np
          rw [upd_ne bp, upd_ne ba]
          exact e1)
      exact ⟨t, ht, hq⟩
theorem scPw : FnScope ["name", "exponent"] ["name", "exponent"] (defScope sPw) :=
  ⟨rfl, rfl, rfl, by decide +kernel, rfl, by decide +kernel, by decide +kernel⟩
theorem ok_pw {f fD : Addr} {fd fdD : FuncData} (F : Fun K "_power_text" "_power_text" sPw f fd)
    (GD : FnOk P w K mg base CX0 2 fD fdD ["number"] spDec) (kD : PySem.W.keepIn K (.ref fD) = true) (bD : Binds K fdD ["number"] []) (gD : mg "decimal_text" = some (.ref fD)) :
    FnOk P w K mg base CX0 3 f fd ["name", "exponent"] spPw := by
  refine F.ok scPw (fun vs H Q E h => ?_) (fun cdv A outer s H vs Q E hr h => ?_)
  · obtain ⟨x, n, rfl, _⟩ := h
    rfl
  · obtain ⟨x, n, rfl, hx, hB, k⟩ := h
    refine ⟨_, pss_one (ps_ret (pe_ifExp (pt_cmpR op_eq (pv 1) pe_int (nomark _)) (pv 0) (pe_op op_add_str (pe_op op_add_str (pv 0) pe_str) (pe_call GD hr rfl gD kD bD .nil pass0 (pa_cons (pv 1) pa_nil))))), ?_⟩
    refine ⟨_, rfl, rfl, _, rfl, ?_⟩
    unfold pwT at k
    by_cases h1 : n = 1
    · subst h1
      refine iteT' (decide_eq_true rfl) ?_
      refine ⟨_, rfl, ?_⟩
      have z := k H (Same.refl H)
      rw [if_pos rfl] at z
      exact z
    · refine iteN' (fun z => h1 (V.int.inj z)) ?_
      have e : ("^" : Str).length = 1 := by decide
      have hd := dec_len hB
      refine ⟨_, rfl, _, _, rfl, rfl, by rw [e, sizeLine_eq]; omega, _, rfl, n, rfl, hB, fun H' S => ⟨_, _, rfl, rfl, ?_, ?_⟩⟩
      · rw [len_tl, tl_append, List.length_append, ← len_tl, ← len_tl, e, sizeLine_eq]
        omega
      · have z := k H' S
        rw [if_neg h1] at z
        exact z
theorem scTex : FnScope ["exponents", "name"] ["exponents"] (defScope sTex) :=
  ⟨rfl, rfl, rfl, by decide +kernel, rfl, by decide +kernel, by decide +kernel⟩
theorem ok_tex {f fP : Addr} {fd fdP : FuncData} (F : Fun K "exponents_text" "exponents_text" sTex f fd) (T : Na mg) (T2 : Nt mg)
    (GP : FnOk P w K mg base CX0 3 fP fdP ["name", "exponent"] spPw) (kP : PySem.W.keepIn K (.ref fP) = true) (bP : Binds K fdP ["name", "exponent"] []) (gP : mg "_power_text" = some (.ref fP)) :
    FnOk P w K mg base CX0 4 f fd ["exponents"] spTex := by
  refine F.ok scTex (fun vs H Q E h => ?_) (fun cdv A outer s H vs Q E hr h => ?_)
  · obtain ⟨d, es, rfl, _⟩ := h
    rfl
  · obtain ⟨d, es, rfl, hd, hS, hl, hB, k⟩ := h
    have hu : (A.deeper (envOfC "exponents_text" (defScope sTex) s.heap.objs.size f cdv)).units + 1 < cLine := by have := hr.units; omega
    refine ⟨_, pss_cons (ps_if (pt_cmpR op_eq (pe_callB call_lenD (by rfl) T2.len PySem.boot_len (pa_cons (pv 0) pa_nil)) pe_int (nomark _)) (pss_one (ps_ret pe_str)) pss_nil)
      (pss_one (ps_ret (pe_join pe_str (pe_lc (own := [("name", 1)]) (g := gName 1) (tt := tYes) (te := tCall spPw [] E0 (tCons (tVar 1) (tCons (tDGet (tVar 0) (tVar 1)) tNil))) rfl scTex.nd
        (pi_list (pe_callB (call_sortedD rfl) (by rfl) T.sorted (by decide +kernel) (pa_cons (pv 0) pa_nil)))
        (blkOk_by (own := [("name", 1)]) (N := ["exponents", "name"]) (sc := defScope sTex) (by decide +kernel)) (fun _ _ _ _ _ => pg_name (i := 1) scTex.nd rfl (Or.inl rfl))
        (fun _ _ _ _ _ => pts_nil) (fun _ _ _ _ _ => by
          exact pe_call GP hr rfl gP kP bP .nil pass0 (pa_cons (pv 1) (pa_cons (pe_dget hu (pv 0) (pv 1) (fun _ _ => rfl)) pa_nil))))))), ?_⟩
    refine ⟨_, rfl, d, _, rfl, hd, rfl, _, rfl, ?_⟩
    rw [kv_len]
    unfold texE at k
    by_cases h0 : es = []
    · subst h0
      refine iteT' (decide_eq_true rfl) ?_
      have z := k H (Same.refl H)
      rw [if_pos rfl] at z
      exact z
    · have h0' : es.length ≠ 0 := fun z => h0 (List.length_eq_zero_iff.mp z)
      refine iteN' (fun z => h0' (by have := V.int.inj z; omega)) ?_
      refine ⟨⟨_, rfl⟩, _, rfl, d, _, es.map (·.1), rfl, .inl hd, ?_, by rw [List.length_map]; exact hl, fun ys r perm srt nr => ?_⟩
      · unfold kv
        rw [List.map_map, List.map_map]
        rfl
      have ey : ys = es.map (·.1) := sd_one (sd_of srt (perm.nodup_iff.mpr hS.nodup)) hS fun x => perm.mem_iff
      subst ey
      have S3 := fresh_upd (o := .lst ((es.map (·.1)).map V.str)) nr
      refine ⟨r, rfl, ⟨_, SqL.of upd_same⟩, fun D hD => ?_⟩
      refine lc_it (walk_list (K := K) (a := r) (xs := (es.map (·.1)).map V.str)) (fun i H3 => H3 D = some (.lst (((es.take i).map fun q => pwT q.1 q.2).map V.str)) ∧
        Same (upd H r (.lst ((es.map (·.1)).map V.str))) H3) ⟨upd_same, fresh_upd hD⟩ (fun i H3 _ h => SqL.of (h.2 _ _ upd_same)) ?_ ?_
      · rintro i x H3 H4 hi ⟨hD3, S4⟩ ⟨rfl, hx⟩
        rw [List.length_map, List.length_map] at hi
        have ex : x = .str es[i].1 := by
          rw [List.getElem?_map, List.getElem?_map, List.getElem?_eq_getElem hi] at hx
          exact (Option.some.inj hx).symm
        subst ex
        obtain ⟨b1, b2⟩ := hB es[i] (List.getElem_mem hi)
        refine ⟨rfl, ?_⟩
        unfold tYes
        dsimp only
        rw [if_pos rfl]
        refine ⟨_, rfl, _, rfl, _, rfl, d, .int es[i].2, rfl, .inl ⟨_, ky es[i].1, .inl (S4 _ _ (S3 _ _ hd)), rfl, (val_at hS.nodup hi).symm⟩, es[i].1, es[i].2, rfl, b1, b2, fun H5 S5 => ?_⟩
        refine ⟨_, S5 _ _ hD3, by rw [List.length_map, List.length_map, List.length_take, sizeLine_eq]; omega, ?_, fun b o e => ?_⟩
        · have et : es.take (i + 1) = es.take i ++ [es[i]] := by
            rw [List.take_add_one, List.getElem?_eq_getElem hi]
            rfl
          rw [upd_same, et, List.map_append, List.map_append]
          rfl
        · rw [upd_ne (ne_of_none e hD)]
          exact S5 _ _ (S4 b o e)
      · rintro H3 ⟨hD3, S4⟩
        rw [List.length_map, List.length_map, List.take_length] at hD3
        refine ⟨_, D, es.map (fun q => pwT q.1 q.2), rfl, rfl, .inl (SqL.of hD3), ?_, ?_⟩
        · have hs : ∀ l : Es, (∀ q ∈ l, q.1.length ≤ 8 ∧ Big q.2) → ((l.map fun q => pwT q.1 q.2).map (·.length)).sum ≤ l.length * 70 := fun l => by
            induction l with
            | nil => intro _; exact Nat.zero_le _
            | cons p r ih =>
              intro hb
              have z := ih fun q hq => hb q (List.mem_cons_of_mem _ hq)
              have z2 := pw_len (hb p (List.mem_cons_self ..)).1 (hb p (List.mem_cons_self ..)).2
              show (pwT p.1 p.2).length + ((r.map fun q => pwT q.1 q.2).map (·.length)).sum ≤ (r.length + 1) * 70
              omega
          have z := hs es hB
          have e : ("*" : Str).length = 1 := by decide
          rw [e, List.length_map]
          omega
        · have z := k H3 (S3.trans S4)
          rw [if_neg h0] at z
          exact z
theorem scStr : FnScope ["self"] ["self"] (defScope sStr) :=
  ⟨rfl, rfl, rfl, by decide +kernel, rfl, by decide +kernel, by decide +kernel⟩
theorem ok_str {f fT : Addr} {fd fdT : FuncData} (F : Fun K "__str__" "Size.__str__" sStr f fd) (T : Ns mg) (Tc : Ck K mg C)
    (GT : FnOk P w K mg base CX0 4 fT fdT ["exponents"] spTex) (kT : PySem.W.keepIn K (.ref fT) = true) (bT : Binds K fdT ["exponents"] []) (gT : mg "exponents_text" = some (.ref fT)) :
    FnOk P w K mg base CX0 5 f fd ["self"] (spStr C) := by
  refine F.ok scStr (fun vs H Q E h => ?_) (fun cdv A outer s H vs Q E hr h => ?_)
  · obtain ⟨p, es, rfl, _⟩ := h
    rfl
  · obtain ⟨p, es, rfl, ⟨dx, D, p1, p2, p3, p4, p5, p6⟩, hB, k⟩ := h
    refine ⟨_, pss_one (ps_ret (pe_callTy SkE.call_str_str (by rfl) T.str (by decide +kernel) (pa_cons (pe_call GT hr rfl gT kT bT .nil pass0 (pa_cons (pe_fld (pv 0) rfl) pa_nil)) pa_nil))), ?_⟩
    exact ⟨_, rfl, p, C, dx, _, _, rfl, p1, Tc.cl, Tc.nE, rfl, D, es, rfl, p2, p3, p6, fun q hq => ⟨by have := nm_len (p5 q hq); omega, hB q hq⟩, fun H' S => ⟨_, rfl, k H' S⟩⟩
end
end K12
set_option maxHeartbeats 8000000
namespace K12
open PySem PySem.Spec PyProof.Rows L2 TL

/-! ### str(o), o an instance with an own __str__ -/
def rStrO (C : Addr) (sp : Sp) (E : XK) : List V → Hp → VK → Prop := fun xs H Q => ∃ (a dx : Addr) (fs : List (Str × V)), xs = [.ref a] ∧ H a = some (.ins C dx fs) ∧
  sp [.ref a] H (fun v H' => ∃ x, v = .str x ∧ Q (.str x) H') E
section
variable {X : Cx} {CX : CXT} {C f : Addr} {fd : FuncData} {ps : List Str} {sp : Sp} {E : XK} {n : Nat}
theorem call_strO (F : FnOk X.prog X.w X.K X.mg X.base CX n f fd ps sp) (hr : Room (n + 2) X.A) (hs : PySem.W.findIn X.K (.ref C) "__str__" = some (some (.ref f))) (hf : PySem.W.isFn X.K (.ref f) = true)
    (hb : Binds X.K fd ps []) (hx : Passes CX X E) : CallR X (.type "str") (rStrO C sp E) := by
  intro pins s σ H xs us Q I r h
  obtain ⟨a, dx, fs, rfl, ha, hsp⟩ := h
  obtain ⟨u, rfl, ru⟩ := vals1 r
  cases (show u = Value.ref a from ru)
  obtain ⟨mA, J, _⟩ := ins_get I.hok ha
  obtain ⟨od, J, _⟩ := J.look
  refine PySem.W.kso_call (by have := hr.units; show X.A.units + 1 + 1 < cLine; omega) I.kIn J hs hf ?_
  have e0 : Env0 X.prog X.w X.K X.mg X.base X.A.in1.in1 X.stack s H := by
    have e := I.env0
    exact ⟨e.frames, e.mod, e.bs, e.bsz, e.funs, e.frf, e.hok, e.bare⟩
  have hl := F.len _ _ _ _ hsp
  have r2 : Vals [V.ref a] [Value.ref a] := .cons rfl .nil
  refine wpAny_call (codeAny_mono (F.run X.A.in1.in1 X.stack s H ⟨[.ref a], []⟩ [.ref a] [.ref a] _ E hr.in1.in1 e0 (by
    have := hb s [.ref a] I.kIn (by simpa using hl)
    simpa using this) r2 hsp) fun r s' hq => ?_)
  cases r with
  | error e => exact hx pins σ H s e s' I hq
  | ok fl =>
    cases fl with
    | ret w =>
      obtain ⟨z, H', I', rz, x, ez, ex⟩ := I.after hq
      subst ez
      obtain ⟨t, rfl⟩ := (show ∃ t, w = Value.str x t from rz)
      exact ⟨.str x, H', I', ⟨t, rfl⟩, ex⟩
    | next => exact False.elim hq
    | brk => exact False.elim hq
    | cont => exact False.elim hq
end

/-! ### models: a function from names to numbers, and the one dict that says it -/
theorem sub_len {α : Type} [DecidableEq α] : ∀ (l m : List α), l.Nodup → (∀ x, x ∈ l → x ∈ m) → l.length ≤ m.length
  | [], m, _, _ => Nat.zero_le _
  | a :: r, m, hn, hs => by
    obtain ⟨n1, n2⟩ := List.pairwise_cons.mp hn
    have ha := hs a (List.mem_cons_self ..)
    have h1 : ∀ y, y ∈ r → y ∈ m.erase a := fun y hy => (List.mem_erase_of_ne (fun z => n1 y hy z.symm)).mpr (hs y (List.mem_cons_of_mem _ hy))
    have h2 := sub_len r (m.erase a) n2 h1
    rw [List.length_erase_of_mem ha] at h2
    have h3 : 0 < m.length := List.length_pos_of_mem ha
    show r.length + 1 ≤ m.length
    omega
/-- names that may be drawn -/
structure Pool (N : List Str) : Prop where
  nd : N.Nodup
  nm : ∀ n ∈ N, isNm n = true
  ln : N.length ≤ 10
structure Md (N : List Str) (b : Int) (f : Str → Int) (es : Es) : Prop where
  sd : SdE es
  lk : ∀ n, es.lookup n = cz (f n)
  sup : ∀ n, n ∉ N → f n = 0
  bd : ∀ n, -b ≤ f n ∧ f n ≤ b
theorem Md.g {N : List Str} {b : Int} {f : Str → Int} {es : Es} (h : Md N b f es) (n : Str) : g0 es n = f n := g0_cz (h.lk n)
theorem Md.one {N M : List Str} {b c : Int} {f g : Str → Int} {es fs : Es} (h : Md N b f es) (k : Md M c g fs) (e : ∀ n, f n = g n) : es = fs :=
  h.sd.one k.sd fun n => by rw [h.lk, k.lk, e]
theorem Md.at {N : List Str} {b : Int} {f : Str → Int} {es : Es} (h : Md N b f es) {q : Str × Int} (hq : q ∈ es) : q.2 = f q.1 ∧ f q.1 ≠ 0 := by
  have z := look_get h.sd.nodup (n := q.1) (v := q.2) hq
  rw [h.lk] at z
  unfold cz at z
  by_cases h0 : f q.1 = 0
  · rw [if_pos h0] at z
    cases z
  · rw [if_neg h0] at z
    exact ⟨(Option.some.inj z).symm, h0⟩
theorem Md.key {N : List Str} {b : Int} {f : Str → Int} {es : Es} (h : Md N b f es) {q : Str × Int} (hq : q ∈ es) : q.1 ∈ N := by
  by_cases z : q.1 ∈ N
  · exact z
  · exact absurd (h.sup _ z) (h.at hq).2
theorem Md.len {N : List Str} {b : Int} {f : Str → Int} {es : Es} (h : Md N b f es) (P : Pool N) : es.length ≤ 10 := by
  have z := sub_len (es.map (·.1)) N h.sd.nodup fun x hx => by
    obtain ⟨q, hq, e⟩ := List.mem_map.mp hx
    rw [← e]
    exact h.key hq
  rw [List.length_map] at z
  have := P.ln
  omega
theorem Md.nm {N : List Str} {b : Int} {f : Str → Int} {es : Es} (h : Md N b f es) (P : Pool N) : ∀ q ∈ es, isNm q.1 = true := fun q hq => P.nm _ (h.key hq)
theorem Md.nz {N : List Str} {b : Int} {f : Str → Int} {es : Es} (h : Md N b f es) : ∀ q ∈ es, q.2 ≠ 0 := fun q hq => by
  rw [(h.at hq).1]
  exact (h.at hq).2
theorem Md.bq {N : List Str} {b : Int} {f : Str → Int} {es : Es} (h : Md N b f es) {q : Str × Int} (hq : q ∈ es) : -b ≤ q.2 ∧ q.2 ≤ b := by
  rw [(h.at hq).1]
  exact h.bd _
theorem Md.mem {N : List Str} {b : Int} {f : Str → Int} {es : Es} (h : Md N b f es) {n : Str} (hn : n ∈ es.map (·.1)) : f n ≠ 0 := by
  obtain ⟨q, hq, e⟩ := List.mem_map.mp hn
  rw [← e]
  exact (h.at hq).2
/-- what a Size says of its model -/
theorem Md.of {C p : Addr} {N : List Str} {b : Int} {f : Str → Int} {es : Es} {H : Hp} (h : SizeAt C H p es) (lk : ∀ n, es.lookup n = cz (f n)) (sup : ∀ n, n ∉ N → f n = 0) (bd : ∀ n, -b ≤ f n ∧ f n ≤ b) : Md N b f es := by
  obtain ⟨_, _, _, _, sd, _⟩ := h
  exact ⟨sd, lk, sup, bd⟩
theorem Md.nil (N : List Str) : Md N 0 (fun _ => 0) [] := ⟨List.Pairwise.nil, fun _ => rfl, fun _ _ => rfl, fun _ => ⟨by decide, by decide⟩⟩
theorem Md.congr {N : List Str} {b c : Int} {f g : Str → Int} {es : Es} (h : Md N b f es) (e : ∀ n, f n = g n) (hb : b ≤ c) : Md N c g es :=
  ⟨h.sd, fun n => by rw [h.lk, e], fun n hn => by rw [← e]; exact h.sup n hn, fun n => by have := h.bd n; rw [← e]; omega⟩
end K12
set_option maxHeartbeats 8000000
namespace K12
open PySem PySem.Spec PyProof.Rows L2 TL

/-! ### names that are drawn -/
def one (c : Nat) : Str := ⟨#[c]⟩
/-- _law_choice(rng, text) -/
def spChoiceS : Sp := fun vs H Q _ => ∃ (r : Addr) (x : Str), vs = [.ref r, .str x] ∧ Rg H r ∧ 0 < x.length ∧ x.length < 1000000 ∧
  ∀ (H' : Hp) (c : Nat), c ∈ tl x → Rg H' r → But r H H' → Q (.str (one c)) H'
theorem But.refl (r : Addr) (H : Hp) : But r H H := fun _ _ _ e => e
theorem But.of {r : Addr} {H H' : Hp} (S : Same H H') : But r H H' := fun b o _ e => S b o e
theorem Rg.same {H H' : Hp} {r : Addr} (h : Rg H r) (S : Same H H') : Rg H' r := by
  obtain ⟨x, y, h1, h2⟩ := h
  exact ⟨x, y, S _ _ h1, h2⟩
theorem Rg.ne {H : Hp} {r p : Addr} (h : Rg H r) (n : H p = none) : r ≠ p := by
  obtain ⟨x, y, h1, h2⟩ := h
  exact ne_of_none h1 n
theorem Rg.upd {H : Hp} {r p : Addr} {o : HO} (h : Rg H r) (n : p ≠ r) : Rg (upd H p o) r := by
  obtain ⟨x, y, h1, h2⟩ := h
  exact ⟨x, y, (upd_ne n.symm).trans h1, h2⟩
theorem But.upd {H H' : Hp} {r p : Addr} {o : HO} (h : But r H H') (n : H p = none) : But r H (upd H' p o) := fun b u hb e => by
  rw [upd_ne (ne_of_none e n)]
  exact h b u hb e
theorem sum_ones : ∀ {ys : List Str}, (∀ y ∈ ys, y.length ≤ 1) → (ys.map (·.length)).sum ≤ ys.length
  | [], _ => Nat.le_refl _
  | y :: r, h => by
    have ih := sum_ones (ys := r) fun z hz => h z (List.mem_cons_of_mem _ hz)
    have h1 := h y (List.mem_cons_self ..)
    show y.length + (r.map (·.length)).sum ≤ r.length + 1
    omega
theorem eq_str (a b : Str) : eqV (.str a) (.str b) = (a == b) := rfl
theorem inV_str {x : Str} : ∀ {ns : List Str}, inV (.str x) (ns.map V.str) = decide (x ∈ ns)
  | [] => by simp [inV]
  | n :: r => by
    have ih := inV_str (x := x) (ns := r)
    show (eqV (.str n) (.str x) || inV (.str x) (r.map V.str)) = _
    rw [ih, eq_str]
    by_cases h : n = x
    · subst h
      simp
    · have h1 : (n == x) = false := by simpa using h
      have h2 : ¬ x = n := fun z => h z.symm
      rw [h1]
      simp [h2]
theorem flat_strs : ∀ ns : List Str, (ns.map V.str).all flatV = true
  | [] => rfl
  | n :: r => by
    rw [List.map_cons, List.all_cons, flat_strs r]
    rfl
/-- a drawn text -/
def Ltr (x : Str) : Prop := 1 ≤ x.length ∧ x.length ≤ 3 ∧ ∀ c ∈ tl x, c ∈ tl abc
def spare (x : Str) : List Str := x :: (tl abc).map fun c => x ++ one c
theorem nm_of {x : Str} (h1 : 1 ≤ x.length) (h2 : x.length ≤ 8) (h3 : ∀ c ∈ tl x, c ∈ tl abc) : isNm x = true := by
  unfold isNm
  rw [decide_eq_true h1, decide_eq_true h2, Bool.true_and, Bool.true_and, List.all_eq_true]
  intro c hc
  exact decide_eq_true (h3 c hc)
theorem tl_one (c : Nat) : tl (one c) = [c] := rfl
theorem spare_nm {x : Str} (h : Ltr x) : ∀ y ∈ spare x, isNm y = true := fun y hy => by
  obtain ⟨h1, h2, h3⟩ := h
  rcases List.mem_cons.mp hy with rfl | hy
  · exact nm_of h1 (by omega) h3
  · obtain ⟨c, hc, rfl⟩ := List.mem_map.mp hy
    have e : (x ++ one c).length = x.length + 1 := by
      rw [len_tl, tl_append, List.length_append, ← len_tl, tl_one]
      rfl
    refine nm_of (by omega) (by omega) fun d hd => ?_
    rw [tl_append] at hd
    rcases List.mem_append.mp hd with hd | hd
    · exact h3 d hd
    · rw [tl_one] at hd
      rw [List.mem_singleton.mp hd]
      exact hc
theorem spare_nd (x : Str) : (spare x).Nodup := by
  refine List.nodup_cons.mpr ⟨fun z => ?_, ?_⟩
  · obtain ⟨c, _, e⟩ := List.mem_map.mp z
    have e2 := congrArg tl e
    rw [tl_append, tl_one] at e2
    have e3 := congrArg List.length e2
    rw [List.length_append] at e3
    simp at e3
  · have hn : (tl abc).Nodup := by decide +kernel
    refine List.Pairwise.map _ (fun a b h e => h ?_) hn
    have e2 := congrArg tl e
    rw [tl_append, tl_append, tl_one, tl_one] at e2
    have e3 := List.append_cancel_left e2
    injection e3
theorem spare_len (x : Str) : (spare x).length = 27 := by
  unfold spare
  rw [List.length_cons, List.length_map]
  have : (tl abc).length = 26 := by decide +kernel
  omega
theorem spare_free {x : Str} {ns : List Str} (h : ns.length < 27) : (spare x).filter (fun y => decide (y ∉ ns)) ≠ [] := fun e => by
  have z := sub_len (spare x) ns (spare_nd x) fun y hy => by
    by_cases q : y ∈ ns
    · exact q
    · have : y ∈ (spare x).filter (fun y => decide (y ∉ ns)) := List.mem_filter.mpr ⟨hy, decide_eq_true q⟩
      rw [e] at this
      cases this
  rw [spare_len] at z
  omega
theorem joinL_nil : ∀ ps : List (List Nat), joinL [] ps = ps.flatten
  | [] => rfl
  | [p] => by
    show p = (p :: []).flatten
    simp
  | p :: q :: r => by
    have ih := joinL_nil (q :: r)
    show p ++ ([] ++ joinL [] (q :: r)) = p ++ (q :: r).flatten
    rw [ih]
    rfl
theorem ltr_of {ys : List Str} (h1 : 1 ≤ ys.length) (h2 : ys.length ≤ 3) (h : ∀ y ∈ ys, ∃ c ∈ tl abc, y = one c) : Ltr (Txt.join "" ys) := by
  have e : tl (Txt.join "" ys) = (ys.map tl).flatten := by
    rw [join_eq, tl_join]
    exact joinL_nil _
  have hl : ∀ zs : List Str, (∀ y ∈ zs, ∃ c ∈ tl abc, y = one c) → (zs.map tl).flatten.length = zs.length ∧ ∀ c ∈ (zs.map tl).flatten, c ∈ tl abc := fun zs => by
    induction zs with
    | nil => intro _; exact ⟨rfl, fun c hc => by cases hc⟩
    | cons z r ih =>
      intro hz
      obtain ⟨i1, i2⟩ := ih fun y hy => hz y (List.mem_cons_of_mem _ hy)
      obtain ⟨c, hc, rfl⟩ := hz z (List.mem_cons_self ..)
      rw [List.map_cons, List.flatten_cons, tl_one]
      refine ⟨by rw [List.length_append, i1, List.length_cons, List.length_cons, List.length_nil]; omega, fun d hd => ?_⟩
      rcases List.mem_append.mp hd with hd | hd
      · rw [List.mem_singleton.mp hd]
        exact hc
      · exact i2 d hd
  obtain ⟨i1, i2⟩ := hl ys h
  have e2 : (Txt.join "" ys).length = ys.length := by rw [len_tl, e, i1]
  exact ⟨by omega, by omega, fun c hc => i2 c (by rw [← e]; exact hc)⟩

abbrev sNm : Stmt := top 53
def spNm : Sp := fun vs H Q _ => ∃ (r : Addr) (m : Int) (t : Addr), vs = [.ref r, .int m, .ref t] ∧ Rg H r ∧ 0 ≤ m ∧ m ≤ 10 ∧ t ≠ r ∧ H t = some (.lst []) ∧
  ∀ (H' : Hp) (l : Addr) (ns : List Str), But r H H' → Rg H' r → H l = none → H' l = some (.lst (ns.map V.str)) → Pool ns → Q (.ref l) H'
def NNm : List Str := ["_law_rng_here", "_law_many", "_law_taken", "_law_found", "_law_k", "_law_name", "_law_spare", "_law_turn", "_law_one"]
section
variable {P : Program} {w : World} {K : PySem.W.Frag} {mg : Str → Option Value} {base : Heap}
theorem ok_choiceS {f fD : Addr} {fd fdD : FuncData} (F : Fun K "_law_choice" "_law_choice" sChoice f fd) (T : Nb mg)
    (FD : Fun K "_law_draw" "_law_draw" sDraw fD fdD) (bD : Binds K fdD ["_law_rng_here", "_law_many"] [])
    (gD : mg "_law_draw" = some (.ref fD)) :
    FnOk P w K mg base CX0 2 f fd ["_law_rng_here", "_law_some"] spChoiceS := by
  have GD : FnOk P w K mg base CX0 1 fD fdD ["_law_rng_here", "_law_many"] spDraw := ok_draw FD T
  refine F.ok scChoice (fun vs H Q E h => ?_) (fun cdv A outer s H vs Q E hr h => ?_)
  · obtain ⟨r, x, rfl, _⟩ := h
    rfl
  · obtain ⟨r, x, rfl, hR, h0, h1, q⟩ := h
    refine ⟨_, pss_one (ps_ret (pe_ix ix_str (pv 1) (pe_call GD hr rfl gD FD.kp bD .nil pass0
      (pa_cons (pv 0) (pa_cons (pe_callB call_len_str (by rfl) T.len PySem.boot_len (pa_cons (pv 1) pa_nil)) pa_nil)))
      (fun _ _ => rfl))), ?_⟩
    refine ⟨_, rfl, _, rfl, _, rfl, x, rfl, by rw [sizeLine_eq]; omega, ?_⟩
    refine ⟨r, _, rfl, hR, by omega, by omega, fun H' d d0 d1 hR' hB => ?_⟩
    obtain ⟨j, rfl⟩ : ∃ j : Nat, d = (j : Int) := ⟨d.toNat, by omega⟩
    have hj : j < x.cps.toList.length := by
      have e : x.length = x.cps.toList.length := len_tl x
      omega
    exact ⟨x, _, x.cps.toList[j], rfl, rfl, by rw [sizeLine_eq]; omega, atI_nat (List.getElem?_eq_getElem hj), q H' _ (List.getElem_mem hj) hR' hB⟩
theorem scNm : FnScope NNm ["_law_rng_here", "_law_many", "_law_taken"] (defScope sNm) :=
  ⟨rfl, rfl, rfl, by decide +kernel, rfl, by decide +kernel, by decide +kernel⟩
theorem ok_nm {f fD fC : Addr} {fd fdD fdC : FuncData} (F : Fun K "_law_names" "_law_names" sNm f fd) (T : Nb mg)
    (FD : Fun K "_law_draw" "_law_draw" sDraw fD fdD) (bD : Binds K fdD ["_law_rng_here", "_law_many"] []) (gD : mg "_law_draw" = some (.ref fD))
    (FC : Fun K "_law_choice" "_law_choice" sChoice fC fdC) (bC : Binds K fdC ["_law_rng_here", "_law_some"] []) (gC : mg "_law_choice" = some (.ref fC)) :
    FnOk P w K mg base CX0 3 f fd ["_law_rng_here", "_law_many", "_law_taken"] spNm := by
  have GD : FnOk P w K mg base CX0 2 fD fdD ["_law_rng_here", "_law_many"] spDraw := (ok_draw FD T).mono (by decide)
  have GC : FnOk P w K mg base CX0 2 fC fdC ["_law_rng_here", "_law_some"] spChoiceS := ok_choiceS FC T FD bD gD
  refine F.ok scNm (fun vs H Q E h => ?_) (fun cdv A outer s H vs Q E hr h => ?_)
  · obtain ⟨r, m, t, rfl, _⟩ := h
    rfl
  · obtain ⟨r, m, t, rfl, hR, hm, hm2, tr, ht, q⟩ := h
    refine ⟨_, pss_cons (ps_set (i := 3) scNm.nd rfl (.inr rfl) (pe_lst pa_nil))
      (pss_cons (ps_for PassesOwn.never rfl (pi_range1 (by rfl) T.range (pa_cons (pv 1) pa_nil)) (pg_name (i := 4) scNm.nd rfl (Or.inl rfl))
        (pss_cons (ps_set (i := 5) scNm.nd rfl (.inr rfl) (pe_join pe_str (pe_lc (own := [("_law_turn", 7)]) (g := gName 7) (tt := tYes) (te := tCall spChoiceS [] E0 (tCons (tVar 0) (tCons (tC (.str abc)) tNil))) rfl scNm.nd
          (pi_range1 (by rfl) T.range (pa_cons (pe_op op_add pe_int (pe_call GD hr rfl gD FD.kp bD .nil pass0 (pa_cons (pv 0) (pa_cons pe_int pa_nil)))) pa_nil))
          (blkOk_by (own := [("_law_turn", 7)]) (N := NNm) (sc := defScope sNm) (by decide +kernel)) (fun _ _ _ _ _ => pg_name (i := 7) scNm.nd rfl (Or.inl rfl))
          (fun _ _ _ _ _ => pts_nil) (fun _ _ _ _ _ => by exact pe_call GC hr rfl gC FC.kp bC .nil pass0 (pa_cons (pv 0) (pa_cons pe_str pa_nil))))))
        (pss_cons (ps_set (i := 6) scNm.nd rfl (.inl rfl) (pe_op op_cat (pe_lst (pa_cons (pv 5) pa_nil)) (pe_lc (own := [("_law_one", 8)]) (g := gName 8) (tt := tYes)
          (te := tOp (fun x y H Q => ∃ i j, x = .str i ∧ y = .str j ∧ i.length + j.length ≤ sizeLine ∧ Q (.str (i ++ j)) H) (tVar 5) (tVar 8)) rfl scNm.nd (pi_str pe_str)
          (blkOk_by (own := [("_law_one", 8)]) (N := NNm) (sc := defScope sNm) (by decide +kernel)) (fun _ _ _ _ _ => pg_name (i := 8) scNm.nd rfl (Or.inl rfl))
          (fun _ _ _ _ _ => pts_nil) (fun _ _ _ _ _ => by exact pe_op op_add_str (pv 5) (pv 8)))))
        (pss_one (ps_expr (pe_bm PySem.F.plainAttrs_list PySem.F.slot_list_append PySem.F.type_list_append mt_append (pv 3) (pa_cons
          (pe_ix ix_list (pe_lc (own := [("_law_one", 8)]) (g := gName 8) (tt := tAnd (tTest (tOp (rIn K true) (tVar 8) (tVar 3))) (tTest (tOp (rIn K true) (tVar 8) (tVar 2)))) (te := tVar 8) rfl scNm.nd (pi_list (pv 6))
            (blkOk_by (own := [("_law_one", 8)]) (N := NNm) (sc := defScope sNm) (by decide +kernel)) (fun _ _ _ _ _ => pg_name (i := 8) scNm.nd rfl (Or.inl rfl))
            (fun _ _ _ _ _ => pts_one (by exact PW.pt (pw_and (pt_cmpR op_notIn_seq (pv 8) (pv 3) rfl) (pw_and1 (pt_cmpR op_notIn_seq (pv 8) (pv 2) rfl))))) (fun _ _ _ _ _ => by exact pv 8))
            pe_int (fun _ _ => rfl)) pa_nil)))))))
      (pss_one (ps_ret (pv 3)))), ?_⟩
    refine ⟨Nat.zero_le _, fun l nl => ?_⟩
    have S0 := fresh_upd (o := .lst []) nl
    have rl := hR.ne nl
    have tl' : t ≠ l := ne_of_none ht nl
    refine ⟨_, rfl, m, rfl, by omega, by omega, ?_⟩
    refine for_it (walk_range (lo := 0) (n := m.toNat)) (fun i σ H2 => (∃ o4 o5 o6, σ = [some (.ref r), some (.int m), some (.ref t), some (.ref l), o4, o5, o6, none, none]) ∧ Rg H2 r ∧ But r H H2 ∧
      ∃ ns : List Str, H2 l = some (.lst (ns.map V.str)) ∧ ns.Nodup ∧ ns.length = i ∧ ∀ n ∈ ns, isNm n = true)
      ⟨⟨none, none, none, rfl⟩, hR.same S0, But.of S0, [], upd_same, List.Pairwise.nil, rfl, fun n hn => by cases hn⟩ (fun _ _ _ _ _ => trivial) ?_ ?_
    · rintro i x σ H2 H2' hi ⟨⟨o4, o5, o6, rfl⟩, hR2, B2, ns, hl2, nd, hln, hnm⟩ ⟨rfl, rfl⟩
      have ht2 := B2 _ _ tr ht
      refine ⟨⟨_, rfl⟩, _, rfl, r, 3, rfl, hR2, by decide, by decide, fun H3 d d0 d1 hR3 B3 => ⟨_, _, rfl, rfl, _, rfl, by omega, by omega, fun D hD => ?_⟩⟩
      have Dr : D ≠ r := (hR3.ne hD).symm
      refine lc_range (lo := 0) (n := (1 + d).toNat) (fun j H4 => Rg H4 r ∧ But r H3 H4 ∧ ∃ ys : List Str, H4 D = some (.lst (ys.map V.str)) ∧ ys.length = j ∧ ∀ y ∈ ys, ∃ c ∈ TL.tl abc, y = one c)
        ⟨hR3.upd Dr, But.of (fresh_upd hD), [], upd_same, rfl, fun y hy => by cases hy⟩ ?_ ?_
      · rintro j H4 hj ⟨hR4, B4, ys, hD4, hy, hys⟩
        refine ⟨rfl, ?_⟩
        unfold tYes
        dsimp only
        rw [if_pos rfl]
        refine ⟨_, rfl, r, abc, rfl, hR4, by decide +kernel, by decide +kernel, fun H5 c hc hR5 B5 => ?_⟩
        refine ⟨_, B5 _ _ Dr hD4, by rw [List.length_map, sizeLine_eq]; omega, hR5.upd Dr, (B4.trans B5).upd hD, ys ++ [one c], ?_, by rw [List.length_append, hy]; rfl, fun y hy' => ?_⟩
        · rw [upd_same, List.map_append]
          rfl
        · rcases List.mem_append.mp hy' with z | z
          · exact hys y z
          · exact ⟨c, hc, List.mem_singleton.mp z⟩
      · rintro H4 ⟨hR4, B4, ys, hD4, hy, hys⟩
        have hx : Ltr (Txt.join "" ys) := ltr_of (by omega) (by omega) hys
        refine ⟨_, D, ys, rfl, rfl, .inl (SqL.of hD4), ?_, ?_⟩
        · have z := sum_ones (ys := ys) fun y hy => by
            obtain ⟨c, _, rfl⟩ := hys y hy
            exact Nat.le_refl _
          have e : ("" : Str).length = 0 := rfl
          rw [e]
          omega
        generalize Txt.join (Str.ofString "") ys = x at hx
        refine ⟨_, rfl, by rw [sizeLine_eq]; show 1 ≤ 16777216; decide, fun p1 np1 => ?_⟩
        have S1 := fresh_upd (o := .lst [.str x]) np1
        refine ⟨_, rfl, fun D2 hD2 => ?_⟩
        refine lc_it walk_str (fun j H5 => H5 D2 = some (.lst ((((TL.tl abc).take j).map fun c => x ++ one c).map V.str)) ∧ Same (L2.upd H4 p1 (.lst [.str x])) H5)
          ⟨upd_same, fresh_upd hD2⟩ (fun _ _ _ _ => trivial) ?_ ?_
        · rintro j v H5 H6 hj ⟨hD5, S5⟩ ⟨rfl, c, hc, rfl⟩
          refine ⟨rfl, ?_⟩
          unfold tYes
          dsimp only
          rw [if_pos rfl]
          have l26 : (TL.tl abc).length = 26 := by decide +kernel
          refine ⟨_, rfl, _, rfl, _, _, rfl, rfl, ?_, _, hD5, ?_, ?_, fun b o e => ?_⟩
          · have e : (⟨#[c]⟩ : Str).length = 1 := rfl
            have := hx.2.1
            rw [e, sizeLine_eq]
            omega
          · rw [List.length_map, List.length_map, List.length_take, sizeLine_eq]
            omega
          · have hc2 : (TL.tl abc)[j]? = some c := by
              show abc.cps.toList[j]? = some c
              rw [Array.getElem?_toList]
              exact hc
            rw [upd_same, List.take_add_one, hc2]
            simp
            rfl
          · rw [upd_ne (ne_of_none e hD2)]
            exact S5 b o e
        · rintro H5 ⟨hD5, S5⟩
          have S45 : Same H4 H5 := S1.trans S5
          have e1 : (TL.tl abc).take abc.cps.size = TL.tl abc := by
            rw [show abc.cps.size = (TL.tl abc).length from (Array.length_toList ..).symm, List.take_length]
          have hD5' : H5 D2 = some (.lst (((TL.tl abc).map fun c => x ++ one c).map V.str)) := by
            rw [← e1]
            exact hD5
          refine ⟨p1, D2, [.str x], ((TL.tl abc).map fun c => x ++ one c).map V.str, rfl, rfl, S5 _ _ upd_same, hD5', ?_, fun p3 np3 => ?_⟩
          · rw [List.length_map, List.length_map, sizeLine_eq]
            have l26 : (TL.tl abc).length = 26 := by decide +kernel
            show 1 + _ ≤ _
            omega
          have S6 := fresh_upd (o := .lst ((spare x).map V.str)) np3
          have S46 := S45.trans S6
          have nDl : D ≠ l := fun z => by
            rw [z, B3 _ _ rl.symm hl2] at hD
            cases hD
          have hl6 : L2.upd H5 p3 (.lst ((spare x).map V.str)) l = some (.lst (ns.map V.str)) := S46 _ _ (B4 _ _ rl.symm (B3 _ _ rl.symm hl2))
          have ht6 : L2.upd H5 p3 (.lst ((spare x).map V.str)) t = some (.lst []) := S46 _ _ (B4 _ _ tr (B3 _ _ tr ht2))
          refine ⟨_, rfl, .inl ⟨rfl, _, SqL.of hl6⟩, _, rfl, p3, rfl, ⟨_, SqL.of upd_same⟩, fun D3 hD3 => ?_⟩
          have S7' := fresh_upd (o := .lst []) hD3
          refine lc_it (walk_list (K := K) (a := p3) (xs := (spare x).map V.str)) (fun j H7 => H7 D3 = some (.lst ((((spare x).take j).filter fun y => decide (y ∉ ns)).map V.str)) ∧ Same (L2.upd H5 p3 (.lst ((spare x).map V.str))) H7)
            ⟨upd_same, S7'⟩ (fun i H7 _ h => SqL.of (h.2 _ _ upd_same)) ?_ ?_
          · rintro j v H7 H8 hj ⟨hD7, S7⟩ ⟨rfl, hv⟩
            rw [List.length_map, spare_len] at hj
            have hj' : j < (spare x).length := by rw [spare_len]; exact hj
            have ex : v = .str (spare x)[j] := by
              rw [List.getElem?_map, List.getElem?_eq_getElem hj'] at hv
              exact (Option.some.inj hv).symm
            subst ex
            have et : (spare x).take (j + 1) = (spare x).take j ++ [(spare x)[j]] := by
              rw [List.take_add_one, List.getElem?_eq_getElem hj']
              rfl
            refine ⟨rfl, ?_⟩
            refine ⟨_, rfl, _, rfl, l, _, rfl, .inl (SqL.of (S7 _ _ hl6)), rfl, flat_strs ns, _, rfl, ?_⟩
            rw [if_pos rfl, inV_str]
            by_cases hin : (spare x)[j] ∈ ns
            · rw [decide_eq_true hin]
              refine iteF (iteF ⟨?_, S7⟩)
              rw [et, List.filter_append]
              simpa [hin] using hD7
            · rw [decide_eq_false hin]
              refine iteT' rfl ?_
              refine ⟨_, rfl, _, rfl, t, [], rfl, .inl (SqL.of (S7 _ _ ht6)), rfl, rfl, _, rfl, ?_⟩
              refine iteT' rfl ?_
              refine ⟨_, rfl, _, hD7, ?_, ?_, fun b o e => ?_⟩
              · rw [List.length_map, sizeLine_eq]
                have h1 := List.length_filter_le (fun y => decide (y ∉ ns)) ((spare x).take j)
                have h2 : ((spare x).take j).length ≤ j := by rw [List.length_take]; exact Nat.min_le_left ..
                omega
              · rw [upd_same, et, List.filter_append, List.map_append]
                simp [hin]
              · rw [upd_ne (ne_of_none e hD3)]
                exact S7 b o e
          · rintro H7 ⟨hD7, S7⟩
            rw [List.length_map, List.take_length] at hD7
            have hne := spare_free (x := x) (ns := ns) (by omega)
            obtain ⟨y, rest, ey⟩ : ∃ y rest, (spare x).filter (fun y => decide (y ∉ ns)) = y :: rest := by
              cases q : (spare x).filter (fun y => decide (y ∉ ns)) with
              | nil => exact absurd q hne
              | cons y rest => exact ⟨y, rest, rfl⟩
            have hyin : y ∈ (spare x).filter (fun y => decide (y ∉ ns)) := by
              rw [ey]
              exact List.mem_cons_self ..
            obtain ⟨hy1, hy2⟩ := List.mem_filter.mp hyin
            have hy3 : y ∉ ns := of_decide_eq_true hy2
            rw [ey] at hD7
            refine ⟨D3, _, 0, .str y, rfl, rfl, SqL.of hD7, (show atI (List.map V.str (y :: rest)) ((0 : Nat) : Int) = some (V.str y) from atI_nat rfl), l, _, _, rfl, rfl, S7 _ _ hl6, by rw [List.length_map, sizeLine_eq]; omega, ⟨_, _, _, rfl⟩, ?_, ?_, ns ++ [y], ?_, ?_, ?_, ?_⟩
            · exact ((hR4.same S46).same S7).upd rl.symm
            · refine But.upd (fun b o hb e => ?_) nl
              exact S7 _ _ (S46 _ _ (B4 _ _ hb (B3 _ _ hb (B2 _ _ hb e))))
            · rw [upd_same, List.map_append]
              rfl
            · rw [List.nodup_append]
              refine ⟨nd, List.pairwise_singleton .., fun a ha b hb e => ?_⟩
              rw [List.mem_singleton.mp hb] at e
              exact hy3 (by rw [← e]; exact ha)
            · rw [List.length_append, hln]
              rfl
            · intro n hn
              rcases List.mem_append.mp hn with z | z
              · exact hnm n z
              · rw [List.mem_singleton.mp z]
                exact spare_nm hx y hy1
    · rintro σ H2 ⟨⟨o4, o5, o6, rfl⟩, hR2, B2, ns, hl2, nd, hln, hnm⟩
      exact ⟨_, rfl, q _ l ns B2 hR2 nl hl2 ⟨nd, hnm, by omega⟩⟩
end
end K12
set_option maxHeartbeats 8000000
namespace K12
open PySem PySem.Spec PyProof.Rows L2

/-! ### dict([(name, number), ..]) -/
def PsAt (H : Hp) (ps : List Addr) (es : Es) : Prop := Paired (fun p q => H p = some (.tup [V.str q.1, V.int q.2])) ps es
theorem PsAt.same {H H' : Hp} (S : ∀ b xs, H b = some (.tup xs) → H' b = some (.tup xs)) {ps : List Addr} {es : Es} (h : PsAt H ps es) : PsAt H' ps es :=
  Paired.mapP h fun _ _ e => S _ _ e
theorem PsAt.snoc {H : Hp} {ps : List Addr} {es : Es} {p : Addr} {q : Str × Int} (h : PsAt H ps es) (e : H p = some (.tup [V.str q.1, V.int q.2])) : PsAt H (ps ++ [p]) (es ++ [q]) :=
  Paired.snoc h e
theorem PsAt.pairs {K : PySem.W.Frag} {H : Hp} : ∀ {ps : List Addr} {es : Es}, PsAt H ps es → Paired (fun p kv => SqT K H p [kV kv.1, kv.2]) ps (kv es)
  | _, _, .nil => .nil
  | _, _, .cons h t => .cons (SqT.of h) (PsAt.pairs t)
theorem merge_new : ∀ {ys xs : Es}, ((xs ++ ys).map (·.1)).Nodup → mergeK (kv xs) (kv ys) = kv (xs ++ ys)
  | [], xs, _ => by
    rw [List.append_nil]
    rfl
  | (n, v) :: r, xs, h => by
    have e : xs ++ (n, v) :: r = (xs ++ [(n, v)]) ++ r := by simp
    have hn : n ∉ xs.map (·.1) := fun z => by
      rw [List.map_append, List.nodup_append] at h
      exact h.2.2 n z n (by simp) rfl
    have ih := merge_new (ys := r) (xs := xs ++ [(n, v)]) (by rw [← e]; exact h)
    show mergeK (putK (kv xs) (ky n) (.int v)) (kv r) = _
    rw [putK_new _ (val_none hn), e, ← ih]
    unfold kv
    rw [List.map_append]
    rfl
theorem merge_kv {es : Es} (h : (es.map (·.1)).Nodup) : mergeK [] (kv es) = kv es := merge_new (xs := []) h

abbrev sTimesL : Stmt := top 54
def spTimesL : Sp := fun vs H Q _ => ∃ (a b : Addr) (es fs : Es), vs = [.ref a, .ref b] ∧ H a = some (.dK (kv es)) ∧ H b = some (.dK (kv fs)) ∧ (es.map (·.1)).Nodup ∧ (fs.map (·.1)).Nodup ∧ es.length + fs.length < 64 ∧
  ∀ H' D rs, Same H H' → H D = none → H' D = some (.dK (kv rs)) → SdE rs → (∀ n, rs.lookup n = cz (g0 es n + g0 fs n)) → Q (.ref D) H'
def NTl : List Str := ["_law_one", "_law_other", "_law_found", "_law_name", "_law_power"]
section
variable {P : Program} {w : World} {K : PySem.W.Frag} {mg : Str → Option Value} {base : Heap}
theorem scTimesL : FnScope NTl ["_law_one", "_law_other"] (defScope sTimesL) :=
  ⟨rfl, rfl, rfl, by decide +kernel, rfl, by decide +kernel, by decide +kernel⟩
theorem ok_timesL {f : Addr} {fd : FuncData} (F : Fun K "_law_times" "_law_times" sTimesL f fd) (T : Na mg) (T2 : Nt mg) :
    FnOk P w K mg base CX0 1 f fd ["_law_one", "_law_other"] spTimesL := by
  refine F.ok scTimesL (fun vs H Q E h => ?_) (fun cdv A outer s H vs Q E hr h => ?_)
  · obtain ⟨a, b, es, fs, rfl, _⟩ := h
    rfl
  · obtain ⟨a, b, es, fs, rfl, ha, hb, na, nb, hl, q⟩ := h
    have hu : (A.deeper (envOfC "_law_times" (defScope sTimesL) s.heap.objs.size f cdv)).units + 1 < cLine := by have := hr.units; omega
    refine ⟨_, pss_cons (ps_set (i := 2) scTimesL.nd rfl (.inr rfl) (pe_callTy call_dictD (by rfl) T2.dict (by decide +kernel) (pa_cons (pv 0) pa_nil)))
      (pss_cons (ps_lock (ps_for PassesOwn.never rfl (pi_items (pv 1)) (pg_tup rfl (pgs_cons (pg_name (i := 3) scTimesL.nd rfl (Or.inl rfl)) (pgs_cons (pg_name (i := 4) scTimesL.nd rfl (Or.inl rfl)) pgs_nil)))
          (pss_one (ps_dput hu (pv 2) (pv 3) (pe_op op_add (pe_dget2 hu (pv 2) (pv 3) pe_int ⟨rfl, rfl, rfl, rfl⟩) (pv 4)) rfl))))
      (pss_one (ps_ret (pe_callTy (call_dictP rfl) (by rfl) T2.dict (by decide +kernel) (pa_cons
        (pe_lc (own := [("_law_name", 3)]) (g := gName 3) (tt := tTest (tOp rNe (tDGet (tVar 2) (tVar 3)) (tC (.int 0)))) (te := tTup (tCons (tVar 3) (tCons (tDGet (tVar 2) (tVar 3)) tNil))) rfl scTimesL.nd
        (pi_list (pe_callB (call_sortedD rfl) (by rfl) T.sorted (by decide +kernel) (pa_cons (pv 2) pa_nil)))
        (blkOk_by (own := [("_law_name", 3)]) (N := NTl) (sc := defScope sTimesL) (by decide +kernel)) (fun _ _ _ _ _ => pg_name (i := 3) scTimesL.nd rfl (Or.inl rfl))
        (fun _ _ _ _ _ => pts_one (by exact pt_cmpR op_ne (pe_dget hu (pv 2) (pv 3) (fun _ _ => rfl)) pe_int (nomark _)))
        (fun _ _ _ _ _ => by exact pe_tup (pa_cons (pv 3) (pa_cons (pe_dget hu (pv 2) (pv 3) (fun _ _ => rfl)) pa_nil)))) pa_nil))))), ?_⟩
    refine ⟨_, rfl, a, _, rfl, .inl ha, fun p np => ?_⟩
    have S0 := fresh_upd (o := .dK (kv es)) np
    have hb0 := S0 _ _ hb
    have pb : p ≠ b := fun z => by
      rw [z, hb] at np
      cases np
    refine ⟨b, _, hb0, trivial, fun od => ?_⟩
    refine ⟨_, rfl, b, od, kv fs, rfl, upd_same, for_it walk_items (fun j σ H3 => (∃ o3 o4, σ = [some (.ref a), some (.ref b), some (.ref p), o3, o4]) ∧
      H3 p = some (.dK (kv (addE es (fs.take j)))) ∧ H3 b = some (.frz od (.dK (kv fs))) ∧ ∀ c o, c ≠ b → H c = some o → H3 c = some o)
      ⟨⟨none, none, rfl⟩, (upd_ne pb).trans upd_same, upd_same, fun c o hc e => (upd_ne hc).trans (S0 _ _ e)⟩ (fun j σ H3 _ h => h.2.2.1) ?_ ?_⟩
    · rintro j v σ H3 H4 hj ⟨⟨o3, o4, rfl⟩, hp3, hd3, S3⟩ ⟨T', y, z, rfl, nT, rfl, e1, e2⟩
      rw [kv_len] at hj
      have ej : (kv fs)[j]? = some (ky fs[j].1, V.int fs[j].2) := by
        unfold kv
        rw [List.getElem?_map, List.getElem?_eq_getElem hj]
        rfl
      dsimp only at e1 e2
      rw [ej] at e1 e2
      cases e1
      cases e2
      have pT : p ≠ T' := ne_of_none hp3 nT
      have dT : b ≠ T' := ne_of_none hd3 nT
      have hp4 : (upd H3 T' (.tup [kV (ky fs[j].1), V.int fs[j].2])) p = some (.dK (kv (addE es (fs.take j)))) := (upd_ne pT).trans hp3
      refine ⟨T', _, rfl, SqT.of upd_same, rfl, _, _, rfl, _, _, rfl, rfl, ?_⟩
      refine ⟨_, rfl, p, rfl, .inl ⟨_, .inl hp4⟩, _, rfl, _, DGet.k (k := ky fs[j].1) hp4, _, rfl, _, _, get_int _ _, rfl, ?_⟩
      have hlen : (addE es (fs.take j)).length < 64 := by
        have h1 := len_add (fs.take j) es
        have h4 : (fs.take j).length ≤ fs.length := by rw [List.length_take]; exact Nat.min_le_right ..
        omega
      refine ⟨_, rfl, _, rfl, p, _, rfl, .inl ⟨_, ky fs[j].1, hp4, rfl, by rw [kv_len, sizeLine_eq]; omega, rfl⟩, ⟨_, _, rfl⟩, ?_, ?_, fun c o hc e => ?_⟩
      · have et : fs.take (j + 1) = fs.take j ++ [fs[j]] := by
          rw [List.take_add_one, List.getElem?_eq_getElem hj]
          rfl
        rw [upd_same, et, addE_snoc, kv_put]
      · rw [upd_ne pb.symm, upd_ne dT]
        exact hd3
      · rw [upd_ne (ne_of_none e np), upd_ne (ne_of_none (S3 c o hc e) nT)]
        exact S3 c o hc e
    · rintro σ H3 ⟨⟨o3, o4, rfl⟩, hp3, hd3, S3⟩
      rw [kv_len, List.take_length] at hp3
      refine ⟨hd3, ?_⟩
      have S4 : Same H (upd H3 b (.dK (kv fs))) := fun c o e => by
        by_cases hc : c = b
        · subst hc
          rw [upd_same]
          exact hb.symm.trans e
        · exact (upd_ne hc).trans (S3 c o hc e)
      have hp4 : upd H3 b (.dK (kv fs)) p = some (.dK (kv (addE es fs))) := (upd_ne pb).trans hp3
      generalize upd H3 b (.dK (kv fs)) = H4 at S4 hp4
      have hnd : ((addE es fs).map (·.1)).Nodup := nod_add na
      have hl3 := len_add fs es
      refine ⟨_, rfl, p, _, (addE es fs).map (·.1), rfl, .inl hp4, ?_, by rw [List.length_map]; omega, fun ys r perm srt nr => ?_⟩
      · unfold kv
        rw [List.map_map, List.map_map]
        rfl
      have S5 := fresh_upd (o := .lst (ys.map V.str)) nr
      refine ⟨r, rfl, ⟨_, SqL.of upd_same⟩, fun D hD => ?_⟩
      have hys : ys.Nodup := perm.nodup_iff.mpr hnd
      have hyl : ys.length = (addE es fs).length := by rw [perm.length_eq, List.length_map]
      have hp5 := S5 _ _ hp4
      refine lc_it (walk_list (K := K) (a := r) (xs := ys.map V.str)) (fun i H5 => (∃ ps, H5 D = some (.lst (ps.map V.ref)) ∧ PsAt H5 ps (flE (addE es fs) (ys.take i))) ∧
        Same (upd H4 r (.lst (ys.map V.str))) H5) ⟨⟨[], upd_same, .nil⟩, fresh_upd hD⟩ (fun i H5 _ h => SqL.of (h.2 _ _ upd_same)) ?_ ?_
      · rintro i x H5 H6 hi ⟨⟨ps, hD5, hps⟩, S6⟩ ⟨rfl, hx⟩
        rw [List.length_map] at hi
        have ex : x = .str ys[i] := by
          rw [List.getElem?_map, List.getElem?_eq_getElem hi] at hx
          exact (Option.some.inj hx).symm
        subst ex
        have hin : ys[i] ∈ (addE es fs).map (·.1) := perm.mem_iff.mp (List.getElem_mem hi)
        obtain ⟨u, hu'⟩ := Option.isSome_iff_exists.mp (look_mem.mpr hin)
        have hgu : g0 (addE es fs) ys[i] = u := by
          unfold g0
          rw [hu']
          rfl
        have dg : DGet H6 p (kV (ky ys[i])) (some (.int u)) := .inl ⟨_, ky ys[i], .inl (S6 _ _ hp5), rfl, by rw [val_kv, hu']; rfl⟩
        refine ⟨rfl, ?_⟩
        refine ⟨_, rfl, _, rfl, p, .int u, rfl, dg, rfl, _, rfl, ?_⟩
        by_cases h0 : u = 0
        · subst h0
          rw [decide_eq_true rfl]
          refine iteF ⟨⟨ps, hD5, ?_⟩, S6⟩
          rw [fl_step hi, hgu, if_neg (fun z => z rfl)]
          exact hps
        · rw [decide_eq_false (show ¬ V.int u = V.int 0 from fun z => h0 (V.int.inj z))]
          refine iteT' rfl ?_
          refine ⟨_, rfl, _, rfl, _, rfl, p, .int u, rfl, dg, by rw [sizeLine_eq]; show 2 ≤ 16777216; decide, fun T nT => ?_⟩
          have DT : D ≠ T := ne_of_none hD5 nT
          have hlp := hps.length
          refine ⟨ps.map V.ref, (upd_ne DT).trans hD5, ?_, ⟨ps ++ [T], ?_, ?_⟩, fun c o e => ?_⟩
          · rw [List.length_map, hlp, sizeLine_eq]
            have h1 : (flE (addE es fs) (ys.take i)).length ≤ (ys.take i).length := by
              unfold flE
              refine Nat.le_trans (List.length_filter_le _ _) ?_
              rw [List.length_map]
              exact Nat.le_refl _
            have h2 : (ys.take i).length ≤ i := by rw [List.length_take]; exact Nat.min_le_left ..
            omega
          · rw [upd_same, List.map_append]
            rfl
          · rw [fl_step hi, hgu, if_pos h0]
            refine (hps.same fun c xs e => ?_).snoc ?_
            · have cT : c ≠ T := ne_of_none e nT
              have cD : c ≠ D := fun z => by
                rw [z, hD5] at e
                cases e
              rw [upd_ne cD, upd_ne cT]
              exact e
            · rw [upd_ne DT.symm]
              exact upd_same
          · rw [upd_ne (ne_of_none e hD), upd_ne (ne_of_none (S6 c o e) nT)]
            exact S6 c o e
      · rintro H5 ⟨⟨ps, hD5, hps⟩, S6⟩
        rw [List.length_map, List.take_length] at hps
        have hS : SdE (flE (addE es fs) ys) := List.Pairwise.sublist (fl_keys _ ys) (sd_of srt hys)
        refine ⟨D, ps, _, rfl, SqL.of hD5, hps.pairs, fun R nR => ?_⟩
        have S7 : Same H5 (upd H5 R (.dK (mergeK [] (kv (flE (addE es fs) ys))))) := fresh_upd nR
        have SH : Same H H5 := S4.trans (S5.trans S6)
        have nR0 : H R = none := by
          cases e : H R with
          | none => rfl
          | some o =>
            have z := SH _ _ e
            rw [nR] at z
            cases z
        refine q _ R (flE (addE es fs) ys) (SH.trans S7) nR0 (by rw [upd_same, merge_kv hS.nodup]) hS fun n => ?_
        rw [fl_nz (fun n => perm.mem_iff) n, nz_cz, g0_add nb]
end
end K12
set_option maxHeartbeats 8000000
namespace K12
open PySem PySem.Spec PyProof.Rows L2

/-! ### exponents that are drawn -/
def B0 : Int := 10 ^ 20 + 1000
theorem B0_eq : B0 = 100000000000000001000 := by decide
/-- numbers for some of the names, in any sequence -/
structure PsE (ns : List Str) (es : Es) : Prop where
  nd : (es.map (·.1)).Nodup
  sub : ∀ q ∈ es, q.1 ∈ ns
  bd : ∀ q ∈ es, -B0 ≤ q.2 ∧ q.2 ≤ B0
theorem mem_put {t : Es} {n : Str} {v : Int} {q : Str × Int} (h : q ∈ putE t n v) : q ∈ t ∨ q = (n, v) := by
  unfold putE at h
  split at h
  · obtain ⟨p, hp, e⟩ := List.mem_map.mp h
    by_cases hn : p.1 = n
    · rw [if_pos hn] at e
      exact .inr (by rw [← e, hn])
    · rw [if_neg hn] at e
      exact .inl (by rw [← e]; exact hp)
  · rcases List.mem_append.mp h with z | z
    · exact .inl z
    · exact .inr (List.mem_singleton.mp z)
theorem PsE.put {ns : List Str} {es : Es} (h : PsE ns es) {n : Str} {v : Int} (hn : n ∈ ns) (hv : -B0 ≤ v ∧ v ≤ B0) : PsE ns (putE es n v) := by
  refine ⟨nod_put h.nd n v, fun q hq => ?_, fun q hq => ?_⟩
  · rcases mem_put hq with z | z
    · exact h.sub q z
    · rw [z]; exact hn
  · rcases mem_put hq with z | z
    · exact h.bd q z
    · rw [z]; exact hv
theorem PsE.nil (ns : List Str) : PsE ns [] := ⟨List.Pairwise.nil, (fun q h => nomatch h), (fun q h => nomatch h)⟩
theorem PsE.len {ns : List Str} {es : Es} (h : PsE ns es) (P : Pool ns) : es.length ≤ 10 := by
  have z := sub_len (es.map (·.1)) ns h.nd fun x hx => by
    obtain ⟨q, hq, e⟩ := List.mem_map.mp hx
    rw [← e]
    exact h.sub q hq
  rw [List.length_map] at z
  have := P.ln
  omega
theorem abc_small : ∀ c ∈ TL.tl abc, c < 0x110000 := by decide +kernel
theorem strOk_nm {n : Str} (h : isNm n = true) : PyData.strOk n = true := by
  unfold isNm at h
  rw [Bool.and_eq_true, Bool.and_eq_true, decide_eq_true_eq, decide_eq_true_eq, List.all_eq_true] at h
  obtain ⟨_, h2, h3⟩ := h
  unfold PyData.strOk
  rw [← Array.all_toList, List.all_eq_true]
  intro c hc
  exact decide_eq_true (abc_small c (of_decide_eq_true (h3 c hc)))
theorem dp_strs {K : PySem.W.Frag} {H : Hp} : ∀ ns : List Str, DpAll K H (ns.map V.str) (ns.map PyData.str)
  | [] => .nil
  | n :: r => .cons (.str n) (dp_strs r)
theorem depth_strs : ∀ ns : List Str, PyData.depthAll (ns.map PyData.str) ≤ 1
  | [] => by
    simp only [List.map_nil, PyData.depthAll]
    exact Nat.zero_le _
  | n :: r => by
    simp only [List.map_cons, PyData.depthAll, PyData.depth]
    exact Nat.max_le.mpr ⟨by omega, depth_strs r⟩
theorem shaped_strs {ns : List Str} (h : ∀ n ∈ ns, isNm n = true) : SeqAt.shaped (.list (ns.map PyData.str)) = true := by
  unfold SeqAt.shaped
  rw [Bool.and_eq_true]
  constructor
  · show PyData.canLayAll0 (ns.map PyData.str) = true
    rw [canLayAll_strs', List.all_eq_true]
    exact fun n hn => strOk_nm (h n hn)
  · refine decide_eq_true ?_
    simp only [PyData.depth]
    have := depth_strs ns
    omega
theorem eqv_nil : ∀ ns : List Str, PyData.eqv (.list (ns.map PyData.str)) (.list []) = decide (ns = [])
  | [] => by
    simp [PyData.eqv, PyData.eqvAll]
  | n :: r => by
    simp [PyData.eqv, PyData.eqvAll]

end K12
set_option maxHeartbeats 8000000
namespace K12
open PySem PySem.Spec PyProof.Rows L2

/-! ### dict([(name, g(number)) for name, number in m.items() if c(number)]) -/
theorem rd_dcomp {K : PySem.W.Frag} {m : Nat} {a b : Nat} {tt : TT} {te : TE} {vs : List Nat} {σ : L2.St} {H : Hp} {Q : VK} {c : Int → Bool} {g : Int → Int} {d : Addr} {es : Es}
    (hm : σ[m]? = some (some (.ref d))) (hd : H d = some (.dK (kv es))) (hn : (es.map (·.1)).Nodup) (hl : es.length < 64)
    (ha : ∀ n v, (((wipe σ vs).set a (some (V.str n))).set b (some (V.int v)))[a]? = some (some (.str n)))
    (hw : ∀ n v, wipe (((wipe σ vs).set a (some (V.str n))).set b (some (V.int v))) vs = wipe σ vs)
    (ht : ∀ n v H2 (Q2 : Bool → Hp → Prop), Q2 (c v) H2 → tt (((wipe σ vs).set a (some (V.str n))).set b (some (V.int v))) H2 Q2)
    (he : ∀ n v H2 (Q2 : VK), -(2 ^ 64) < v ∧ v < 2 ^ 64 ∨ True → Q2 (.int (g v)) H2 → te (((wipe σ vs).set a (some (V.str n))).set b (some (V.int v))) H2 Q2)
    (k : ∀ H' D, Same H H' → H D = none → H' D = some (.dK (kv (fmE c g es))) → Q (.ref D) H') :
    tCB (fun xs H Q => ∃ (a : Addr) (ps : List Addr) (kvs : List (Key × V)), xs = [.ref a] ∧ SqL K H a (ps.map V.ref) ∧ Paired (fun p kv => SqT K H p [kV kv.1, kv.2]) ps kvs ∧ ∀ p, H p = none → Q (.ref p) (upd H p (.dK (mergeK [] kvs))))
      (tCons (tLockE (tLc (iItems (tVar m)) (gTup K 2 (gCons (gName a) (gCons (gName b) gNil))) tt (tTup (tCons (tVar a) (tCons te tNil))) vs)) tNil) σ H Q := by
  refine ⟨d, _, hd, trivial, fun od => ?_⟩
  refine ⟨_, hm, d, od, kv es, rfl, upd_same, fun D hD => ?_⟩
  have Dd : D ≠ d := fun z => by
    rw [z, upd_same] at hD
    cases hD
  have hD0 : H D = none := by
    rw [upd_ne Dd] at hD
    exact hD
  refine lc_it walk_items (fun i H2 => (∃ ps, H2 D = some (.lst (ps.map V.ref)) ∧ PsAt H2 ps (fmE c g (es.take i))) ∧ H2 d = some (.frz od (.dK (kv es))) ∧ ∀ b o, b ≠ d → H b = some o → H2 b = some o)
    ⟨⟨[], upd_same, .nil⟩, (upd_ne Dd.symm).trans upd_same, fun b o e1 e2 => ?_⟩ (fun i H2 _ p => p.2.1) ?_ ?_
  · rw [upd_ne (ne_of_none e2 hD0), upd_ne e1]
    exact e2
  · rintro i v H2 H3 hi ⟨⟨ps, hD2, hps⟩, hd2, S2⟩ ⟨T, x, y, rfl, nT, rfl, e1, e2⟩
    rw [kv_len] at hi
    have ei : (kv es)[i]? = some (ky es[i].1, V.int es[i].2) := by
      unfold kv
      rw [List.getElem?_map, List.getElem?_eq_getElem hi]
      rfl
    dsimp only at e1 e2
    rw [ei] at e1 e2
    cases e1
    cases e2
    have TD : D ≠ T := ne_of_none hD2 nT
    have Td : d ≠ T := ne_of_none hd2 nT
    have hpsT : PsAt (upd H2 T (.tup [kV (ky es[i].1), V.int es[i].2])) ps (fmE c g (es.take i)) := hps.same fun b xs e => (upd_ne (ne_of_none e nT)).trans e
    refine ⟨T, _, rfl, SqT.of upd_same, rfl, _, _, rfl, _, _, rfl, rfl, hw _ _, ?_⟩
    refine ht _ _ _ _ ?_
    by_cases hc : c es[i].2 = true
    · refine iteT' hc ?_
      refine ⟨_, ha _ _, ?_⟩
      refine he _ _ _ _ (.inr trivial) ⟨by rw [sizeLine_eq]; show 2 ≤ 16777216; decide, fun T2 nT2 => ?_⟩
      have hD3 : upd H2 T (.tup [kV (ky es[i].1), V.int es[i].2]) D = some (.lst (ps.map V.ref)) := (upd_ne TD).trans hD2
      have DT2 : D ≠ T2 := ne_of_none hD3 nT2
      have hd3 : upd H2 T (.tup [kV (ky es[i].1), V.int es[i].2]) d = some (.frz od (.dK (kv es))) := (upd_ne Td).trans hd2
      have dT2 : d ≠ T2 := ne_of_none hd3 nT2
      have hlp := hps.length
      refine ⟨ps.map V.ref, (upd_ne DT2).trans hD3, ?_, ⟨ps ++ [T2], ?_, ?_⟩, ?_, fun b o hb e => ?_⟩
      · rw [List.length_map, hlp, sizeLine_eq]
        have h1 := fm_len c g (es.take i)
        have h2 : (es.take i).length ≤ es.length := by rw [List.length_take]; exact Nat.min_le_right ..
        omega
      · rw [upd_same, List.map_append]
        rfl
      · rw [fm_step hi, if_pos hc]
        refine (hpsT.same fun b xs e => ?_).snoc ?_
        · have bT : b ≠ T2 := ne_of_none e nT2
          have bD : b ≠ D := fun z => by
            rw [z, hD3] at e
            cases e
          rw [upd_ne bD, upd_ne bT]
          exact e
        · rw [upd_ne DT2.symm]
          exact upd_same
      · rw [upd_ne Dd.symm, upd_ne dT2]
        exact hd3
      · have eb := S2 b o hb e
        have bT : b ≠ T := ne_of_none eb nT
        have bT2 : b ≠ T2 := ne_of_none ((upd_ne bT).trans eb) nT2
        rw [upd_ne (ne_of_none e hD0), upd_ne bT2, upd_ne bT]
        exact eb
    · refine iteFx hc ⟨⟨ps, (upd_ne TD).trans hD2, ?_⟩, (upd_ne Td).trans hd2, fun b o hb e => (upd_ne (ne_of_none (S2 b o hb e) nT)).trans (S2 b o hb e)⟩
      rw [fm_step hi, if_neg hc]
      exact hpsT
  · rintro H2 ⟨⟨ps, hD2, hps⟩, hd2, S2⟩
    rw [kv_len, List.take_length] at hps
    have S3 : Same H (upd H2 d (.dK (kv es))) := fun b o e => by
      by_cases hb : b = d
      · subst hb
        rw [upd_same]
        exact hd.symm.trans e
      · exact (upd_ne hb).trans (S2 b o hb e)
    have hnf : ((fmE c g es).map (·.1)).Nodup := List.Pairwise.sublist (fm_keys c g es) hn
    refine ⟨hd2, D, ps, _, rfl, SqL.of ((upd_ne Dd).trans hD2), PsAt.pairs (hps.same fun b xs e => ?_), fun R nR => ?_⟩
    · have bd : b ≠ d := fun z => by
        rw [z, hd2] at e
        cases e
      exact (upd_ne bd).trans e
    · have S4 := fresh_upd (o := .dK (mergeK [] (kv (fmE c g es)))) nR
      have nR0 : H R = none := by
        cases e : H R with
        | none => rfl
        | some o =>
          have z := S3 _ _ e
          rw [nR] at z
          cases z
      exact k _ R (S3.trans S4) nR0 (by rw [upd_same, merge_kv hnf])

/-- a model behind such a step -/
theorem fm_md {N : List Str} {b b' : Int} {f : Str → Int} {es : Es} {c : Int → Bool} {g : Int → Int} (h : Md N b f es) (c0 : c 0 = false ∨ g 0 = 0) (hg : ∀ v, v ≠ 0 → c v = true → g v ≠ 0)
    (hb : ∀ n, -b' ≤ (if c (f n) = true then g (f n) else 0) ∧ (if c (f n) = true then g (f n) else 0) ≤ b') : Md N b' (fun n => if c (f n) = true then g (f n) else 0) (fmE c g es) := by
  have nd : ((fmE c g es).map (·.1)).Nodup := List.Pairwise.sublist (fm_keys c g es) h.sd.nodup
  have z0 : (if c 0 = true then g 0 else 0) = 0 := by
    rcases c0 with q | q
    · rw [q]
      rfl
    · rw [q]
      split <;> rfl
  refine ⟨List.Pairwise.sublist (fm_keys c g es) h.sd, fun n => ?_, fun n hn => ?_, hb⟩
  · cases e : (fmE c g es).lookup n with
    | none =>
      unfold cz
      rw [if_pos]
      by_cases hc : c (f n) = true
      · rw [if_pos hc]
        by_cases h0 : f n = 0
        · rw [h0] at hc ⊢
          rw [if_pos hc] at z0
          exact z0
        · have hl := h.lk n
          unfold cz at hl
          rw [if_neg h0] at hl
          have hin := look_mem.mp (show (es.lookup n).isSome = true by rw [hl]; rfl)
          obtain ⟨q, hq, eq⟩ := List.mem_map.mp hin
          have hq2 := (h.at hq).1
          rw [eq] at hq2
          have hm : (n, g (f n)) ∈ fmE c g es := by
            unfold fmE
            refine List.mem_filterMap.mpr ⟨q, hq, ?_⟩
            rw [hq2, if_pos hc, eq]
          have z := look_get nd hm
          rw [e] at z
          cases z
      · rw [if_neg hc]
    | some u =>
      have hin := look_mem.mp (show ((fmE c g es).lookup n).isSome = true by rw [e]; rfl)
      obtain ⟨q, hq, eq⟩ := List.mem_map.mp hin
      have z := look_get (n := q.1) (v := q.2) nd hq
      rw [eq, e] at z
      have hqu : u = q.2 := Option.some.inj z
      unfold fmE at hq
      obtain ⟨p, hp, ep⟩ := List.mem_filterMap.mp hq
      by_cases hc : c p.2 = true
      · rw [if_pos hc] at ep
        have ep' := Option.some.inj ep
        have hp2 := h.at hp
        have e1 : p.1 = n := by rw [← eq, ← ep']
        rw [e1] at hp2
        have hu : u = g (f n) := by rw [hqu, ← ep', hp2.1]
        rw [hp2.1] at hc
        unfold cz
        rw [if_pos hc, if_neg (hg _ hp2.2 hc), hu]
      · rw [if_neg hc] at ep
        cases ep
  · rw [h.sup n hn]
    exact z0

end K12
set_option maxHeartbeats 8000000
namespace K12
open PySem PySem.Spec PyProof.Rows L2

/-! ### list(d.values()) -/
def tListVals (te : TE) : TE := fun σ H Q => te σ H fun x H1 => ∃ (d : Addr) (kvs : List (Key × V)), x = .ref d ∧ H1 d = some (.dK kvs) ∧ ∀ p, H1 p = none → Q (.ref p) (upd H1 p (.lst (kvs.map (·.2))))
theorem vals_ix : ∀ {kvs : List (Key × V)} {vs : List (Key × Value)} {acc : List Value}, KV kvs vs → acc.length = vs.length → (∀ (j : Nat) (v : Value), acc[j]? = some v → ∃ k, vs[j]? = some (k, v)) → Vals (kvs.map (·.2)) acc
  | _, _, [], .nil, _, _ => .nil
  | _, _, a :: r, .nil, h, _ => by cases h
  | _, _, [], .cons _ _, h, _ => by cases h
  | _, q :: qs, a :: r, .cons h t, hl, hv => by
    obtain ⟨k, e⟩ := hv 0 a rfl
    have e' : q = (k, a) := Option.some.inj e
    have h2 := h.2
    rw [e'] at h2
    exact .cons h2 (vals_ix t (by simpa using hl) fun j v hj => hv (j + 1) v hj)
section
variable {X : Cx} {e : Expr} {te : TE} {p apos cpos pos : Pos}
theorem pe_listVals (hc : X.calm = true) (he : PE X e te) (hg : Gl X "list") (hm : X.mg "list" = none) (hv : bootBuiltins "list" = some (.type "list")) (hbase : attributeBase e "values" X.env (eval e X.env) = eval e X.env := by rfl) (hline : (apos.endLine == cpos.line) = true := by rfl)
    (hs : starEach [.Call (.Attribute e "values" apos) [] [] cpos] X.env = (false, eval (.Call (.Attribute e "values" apos) [] [] cpos) X.env) :: starEach [] X.env := by rfl) :
    PE X (.Call (.Name "list" p) [.Call (.Attribute e "values" apos) [] [] cpos] [] pos) (tListVals te) := by
  refine ⟨fun pins s σ H Q I hq => ?_⟩
  refine wpAny_Call_Name_kw (ld_blt I hg hm hv ?_)
  refine PyProof.Rows.callWith_type1 ?_ hs rfl
  rw [hs]
  show wpAny _ _ (spliced ((false, eval (.Call (.Attribute e "values" apos) [] [] cpos) X.env) :: backTo pos (starEach [] X.env))) _ _ s
  refine Calls.spliced_cons ?_
  refine wpAny_Call_method (T := "dict") (id := "dict.values") hbase rfl hline F.plainAttrs_dict F.slot_dict_values F.type_dict_values (thn (he.run pins s σ H _ I hq) fun u s1 ⟨x, H1, I1, rx, d, kvs, ex, hd, q⟩ => ?_)
  subst ex
  obtain rfl : u = Value.ref d := rx
  obtain ⟨hz, hs0, vs, kv, hdo⟩ := I1.hok d _ hd
  obtain ⟨ep, hat⟩ := hdo.dictAt
  have lk : kvs.length = vs.length := Paired.length kv
  have I2 : Inv X pins σ H1 { s1 with heap := s1.heap.push { cls := .type "dict_values", data := .fields #[.ref d] } } := I1.kept (t' := s1.toks) fun b ob q => Heap.get?_push_of_some _ q
  refine ⟨hdo.typeIs, hdo.mapOf.noDict, ?_⟩
  show wpAny _ _ (callWith cpos (.builtin "dict.values") [.ref d] [] []) _ X.xe s1
  refine method_meetsIn F.slot_dict_values F.entry_dict_values rfl (PySem.evalArgs_none ⟨rfl, hdo.typeIs, F.args_dict_values_1 _, _, meets_dict_values (mixKind X.prog X.w) d hs0, ⟨vs, hdo⟩, ?_⟩)
  refine Calls.spliced_nil ?_
  refine PySem.W.kdl_call (PySem.W.kdl_values (knd := mixKind X.prog X.w) (kvs := vs) (ep := ep)) (I1.ok.hd hc) ⟨⟨_, Heap.get?_push_size _ rfl, rfl, rfl⟩, hat.push _⟩ (by omega) fun h' tk acc c hk hS hacc => ?_
  have hvv : Vals (kvs.map (·.2)) acc.toList := vals_ix kv (by rw [Array.length_toList]; exact hacc.1) fun j v e => hacc.2 j v (by rw [← Array.getElem?_toList]; exact e)
  refine ⟨.ref _, _, I2.laid (t' := tk) hk (Nat.le_refl _) (show ObjOk X.prog X.w _ _ _ (.lst (kvs.map (·.2))) from ⟨by rw [List.length_map]; exact hz, acc.toList, c, hvv, by rw [Array.toArray_toList]; exact hS⟩), rfl, q _ (I2.hok.fresh (Nat.le_refl _))⟩
end

/-! ### len(o), o an instance with an own __len__ -/
def rLenO (C : Addr) (sp : Sp) (E : XK) : List V → Hp → VK → Prop := fun xs H Q => ∃ (a dx : Addr) (fs : List (Str × V)), xs = [.ref a] ∧ H a = some (.ins C dx fs) ∧
  sp [.ref a] H (fun v H' => ∃ i : Int, v = .int i ∧ 0 ≤ i ∧ i < 2 ^ 63 ∧ Q (.int i) H') E
section
variable {X : Cx} {CX : CXT} {C f : Addr} {fd : FuncData} {ps : List Str} {sp : Sp} {E : XK} {n : Nat}
theorem call_lenO (F : FnOk X.prog X.w X.K X.mg X.base CX n f fd ps sp) (hr : Room (n + 1) X.A) (hs : PySem.W.findIn X.K (.ref C) "__len__" = some (some (.ref f))) (hf : PySem.W.isFn X.K (.ref f) = true)
    (hb : Binds X.K fd ps []) (hx : Passes CX X E) : CallR X (.builtin "len") (rLenO C sp E) := by
  intro pins s σ H xs us Q I r h
  obtain ⟨a, dx, fs, rfl, ha, hsp⟩ := h
  obtain ⟨u, rfl, ru⟩ := vals1 r
  cases (show u = Value.ref a from ru)
  obtain ⟨mA, J, _⟩ := ins_get I.hok ha
  obtain ⟨od, J, _⟩ := J.look
  obtain ⟨m, hF⟩ := I.fr
  refine PySem.W.len_K hF I.ok.mod.kin J hs hf ?_
  have e0 : Env0 X.prog X.w X.K X.mg X.base X.A.in1 X.stack s H := by
    have e := I.env0
    exact ⟨e.frames, e.mod, e.bs, e.bsz, e.funs, e.frf, e.hok, e.bare⟩
  have hl := F.len _ _ _ _ hsp
  have r2 : Vals [V.ref a] [Value.ref a] := .cons rfl .nil
  refine wpAny_call (codeAny_mono (F.run X.A.in1 X.stack s H ⟨[.ref a], []⟩ [.ref a] [.ref a] _ E hr.in1 e0 (by
    have := hb s [.ref a] I.kIn (by simpa using hl)
    simpa using this) r2 hsp) fun r s' hq => ?_)
  cases r with
  | error e => exact hx pins σ H s e s' I hq
  | ok fl =>
    cases fl with
    | ret w =>
      obtain ⟨z, H', I', rz, i, ez, i0, i1, ex⟩ := I.after hq
      subst ez
      obtain ⟨t, rfl⟩ := (show ∃ t, w = Value.int i t from rz)
      exact ⟨⟨i0, i1⟩, .int i, H', I'.tok _, ⟨_, rfl⟩, ex⟩
    | next => exact False.elim hq
    | brk => exact False.elim hq
    | cont => exact False.elim hq
end
end K12
set_option maxHeartbeats 8000000
namespace K12
open PySem PySem.Spec PyProof.Rows L2

/-! ### what is told of data -/
theorem from_len : ∀ (ts : List Str) (k : Nat) (acc : Str) (B : Nat), (∀ t ∈ ts, t.length ≤ B) →
    (textFrom k acc ts).length ≤ acc.length + ts.length * (B + 2)
  | [], k, acc, B, _ => by
    show acc.length ≤ _
    omega
  | t :: r, k, acc, B, h => by
    have h1 := from_len r (k + 1) (acc ++ (if k > 0 then ", " else "" : String) ++ t) B fun u hu => h u (List.mem_cons_of_mem _ hu)
    have h2 := h t (List.mem_cons_self ..)
    have e : (acc ++ (if k > 0 then ", " else "" : String) ++ t).length = acc.length + (if k > 0 then 2 else 0) + t.length := by
      rw [strLen_append, strLen_append]
      split <;> rfl
    rw [e] at h1
    show (textFrom (k + 1) _ r).length ≤ _
    have h3 : (if k > 0 then 2 else 0 : Nat) ≤ 2 := by split <;> omega
    have h4 : (r.length + 1) * (B + 2) = r.length * (B + 2) + (B + 2) := Nat.succ_mul _ _
    rw [List.length_cons, h4]
    omega
theorem shownAll_map : ∀ xs : List PyData, PyData.shownAll xs = xs.map PyData.shown
  | [] => by simp only [PyData.shownAll, List.map_nil]
  | x :: xs => by simp only [PyData.shownAll, List.map_cons, shownAll_map xs]
theorem shown_list {xs : List PyData} {B : Nat} (h : ∀ x ∈ xs, x.shown.length ≤ B) : (PyData.list xs).shown.length ≤ 2 + xs.length * (B + 2) := by
  have e : (PyData.list xs).shown = textFrom 0 "[" (xs.map PyData.shown) ++ "]" := by
    simp only [PyData.shown, shownAll_map]
    rfl
  rw [e, strLen_append]
  have h1 := from_len (xs.map PyData.shown) 0 "[" B fun t ht => by
    obtain ⟨x, hx, rfl⟩ := List.mem_map.mp ht
    exact h x hx
  rw [List.length_map] at h1
  have e1 : (("[" : String) : Str).length = 1 := rfl
  have e2 : (("]" : String) : Str).length = 1 := rfl
  rw [e1] at h1
  rw [e2]
  omega
theorem showable_all : ∀ {xs : List PyData}, (∀ x ∈ xs, x.showable = true) → PyData.showableAll xs = true
  | [], _ => by simp only [PyData.showableAll]
  | x :: xs, h => by
    simp only [PyData.showableAll, h x (List.mem_cons_self ..), showable_all fun y hy => h y (List.mem_cons_of_mem _ hy), Bool.and_self]
theorem depth_all : ∀ {xs : List PyData} {n : Nat}, (∀ x ∈ xs, x.depth ≤ n) → PyData.depthAll xs ≤ n
  | [], n, _ => by
    simp only [PyData.depthAll]
    exact Nat.zero_le _
  | x :: xs, n, h => by
    simp only [PyData.depthAll]
    exact Nat.max_le.mpr ⟨h x (List.mem_cons_self ..), depth_all fun y hy => h y (List.mem_cons_of_mem _ hy)⟩
/-- small data -/
structure Sm (d : PyData) (B n : Nat) : Prop where
  sh : d.showable = true
  dp : d.depth ≤ n
  ln : d.shown.length ≤ B
theorem Sm.list {xs : List PyData} {B n : Nat} (h : ∀ x ∈ xs, Sm x B n) : Sm (.list xs) (2 + xs.length * (B + 2)) (n + 1) := by
  refine ⟨?_, ?_, shown_list fun x hx => (h x hx).ln⟩
  · simp only [PyData.showable]
    exact showable_all fun x hx => (h x hx).sh
  · simp only [PyData.depth]
    exact Nat.succ_le_succ (depth_all fun x hx => (h x hx).dp)
theorem Sm.mono {d : PyData} {B C n m : Nat} (h : Sm d B n) (h1 : B ≤ C) (h2 : n ≤ m) : Sm d C m :=
  ⟨h.sh, Nat.le_trans h.dp h2, Nat.le_trans h.ln h1⟩

theorem shownKv_len : ∀ {kvs : List (PyData × PyData)} {B : Nat}, (∀ p ∈ kvs, p.1.shown.length ≤ B ∧ p.2.shown.length ≤ B) → ∀ t ∈ PyData.shownKv kvs, t.length ≤ 2 * B + 2
  | [], _, _, t, ht => by
    simp only [PyData.shownKv] at ht
    cases ht
  | (k, v) :: r, B, h, t, ht => by
    simp only [PyData.shownKv] at ht
    rcases List.mem_cons.mp ht with rfl | ht
    · obtain ⟨h1, h2⟩ := h _ (List.mem_cons_self ..)
      dsimp only at h1 h2
      rw [strLen_append, strLen_append]
      have e : ((": " : String) : Str).length = 2 := rfl
      rw [e]
      omega
    · exact shownKv_len (fun p hp => h p (List.mem_cons_of_mem _ hp)) t ht
theorem shownKv_count : ∀ kvs : List (PyData × PyData), (PyData.shownKv kvs).length = kvs.length
  | [] => by simp only [PyData.shownKv, List.length_nil]
  | (k, v) :: r => by simp only [PyData.shownKv, List.length_cons, shownKv_count r]
theorem shown_dict {kvs : List (PyData × PyData)} {B : Nat} (h : ∀ p ∈ kvs, p.1.shown.length ≤ B ∧ p.2.shown.length ≤ B) : (PyData.dict kvs).shown.length ≤ 2 + kvs.length * (2 * B + 4) := by
  have e : (PyData.dict kvs).shown = ("{" : Str) ++ Txt.join ", " (PyData.shownKv kvs) ++ "}" := by
    simp only [PyData.shown]
    rw [TL.join_eq]
    rfl
  rw [e, strLen_append, strLen_append]
  have z := len_join ", " (PyData.shownKv kvs) (shownKv_len h)
  rw [shownKv_count] at z
  have e1 : ((", " : String) : Str).length = 2 := rfl
  have e2 : (("{" : String) : Str).length = 1 := rfl
  have e3 : (("}" : String) : Str).length = 1 := rfl
  rw [e1] at z
  rw [e2, e3]
  have e4 : kvs.length * (2 * B + 4) = kvs.length * (2 * B + 2) + kvs.length * 2 := by rw [← Nat.mul_add]
  omega
theorem showable_kv : ∀ {kvs : List (PyData × PyData)}, (∀ p ∈ kvs, p.1.showable = true ∧ p.2.showable = true) → PyData.showableKv kvs = true
  | [], _ => by simp only [PyData.showableKv]
  | (k, v) :: r, h => by
    obtain ⟨h1, h2⟩ := h _ (List.mem_cons_self ..)
    dsimp only at h1 h2
    simp only [PyData.showableKv, h1, h2, showable_kv fun p hp => h p (List.mem_cons_of_mem _ hp), Bool.and_self]
theorem depth_kv : ∀ {kvs : List (PyData × PyData)} {n : Nat}, (∀ p ∈ kvs, p.1.depth ≤ n ∧ p.2.depth ≤ n) → PyData.depthKv kvs ≤ n
  | [], n, _ => by
    simp only [PyData.depthKv]
    exact Nat.zero_le _
  | (k, v) :: r, n, h => by
    obtain ⟨h1, h2⟩ := h _ (List.mem_cons_self ..)
    simp only [PyData.depthKv]
    exact Nat.max_le.mpr ⟨Nat.max_le.mpr ⟨h1, h2⟩, depth_kv fun p hp => h p (List.mem_cons_of_mem _ hp)⟩
theorem Sm.dict {kvs : List (PyData × PyData)} {B n : Nat} (h : ∀ p ∈ kvs, Sm p.1 B n ∧ Sm p.2 B n) : Sm (.dict kvs) (2 + kvs.length * (2 * B + 4)) (n + 1) := by
  refine ⟨?_, ?_, shown_dict fun p hp => ⟨(h p hp).1.ln, (h p hp).2.ln⟩⟩
  · simp only [PyData.showable]
    exact showable_kv fun p hp => ⟨(h p hp).1.sh, (h p hp).2.sh⟩
  · simp only [PyData.depth]
    exact Nat.succ_le_succ (depth_kv fun p hp => ⟨(h p hp).1.dp, (h p hp).2.dp⟩)
theorem Sm.nm {n : Str} (h : isNm n = true) : Sm (.str n) 82 0 := by
  refine ⟨by simp only [PyData.showable], by simp only [PyData.depth]; exact Nat.le_refl _, ?_⟩
  have h8 := nm_len h
  unfold isNm at h
  rw [Bool.and_eq_true, Bool.and_eq_true, decide_eq_true_eq, decide_eq_true_eq, List.all_eq_true] at h
  obtain ⟨_, h2, h3⟩ := h
  simp only [PyData.shown]
  have z := StrLaws.reprText_len n fun c hc => Nat.lt_trans (abc_small c (of_decide_eq_true (h3 c hc))) (by decide)
  omega
theorem Sm.int {v : Int} (h : Big v) : Sm (.int v) 61 0 := by
  refine ⟨?_, by simp only [PyData.depth]; exact Nat.le_refl _, ?_⟩
  · simp only [PyData.showable]
    exact decide_eq_true (log_of h)
  · simp only [PyData.shown]
    exact dec_len h
theorem Sm.bl (b : Bool) : Sm (.bool b) 10 0 := by
  cases b
  · exact ⟨by simp only [PyData.showable], by simp only [PyData.depth]; exact Nat.le_refl _, by decide +kernel⟩
  · exact ⟨by simp only [PyData.showable], by simp only [PyData.depth]; exact Nat.le_refl _, by decide +kernel⟩
/-- fit for what is told -/
structure Tel (es : Es) : Prop where
  nm : ∀ q ∈ es, isNm q.1 = true
  bg : ∀ q ∈ es, Big q.2
  ln : es.length < 64
def dN (es : Es) : PyData := .list (es.map fun q => .str q.1)
def dV (es : Es) : PyData := .list (es.map fun q => .int q.2)
def dX (es : Es) : PyData := .dict (((kv es).map fun p => kD p.1).zip (es.map fun q => .int q.2))
def dI (es : Es) (b : Bool) : PyData := .list [dN es, dX es, .int es.length, .bool b, dV es]
theorem dN_sm {es : Es} (h : Tel es) : Sm (dN es) 20000 1 := by
  refine (Sm.list (B := 82) (n := 0) fun x hx => ?_).mono (by rw [List.length_map]; have := h.ln; omega) (Nat.le_refl _)
  obtain ⟨q, hq, rfl⟩ := List.mem_map.mp hx
  exact Sm.nm (h.nm q hq)
theorem dV_sm {es : Es} (h : Tel es) : Sm (dV es) 20000 1 := by
  refine (Sm.list (B := 82) (n := 0) fun x hx => ?_).mono (by rw [List.length_map]; have := h.ln; omega) (Nat.le_refl _)
  obtain ⟨q, hq, rfl⟩ := List.mem_map.mp hx
  exact (Sm.int (h.bg q hq)).mono (by omega) (Nat.le_refl _)
theorem dX_sm {es : Es} (h : Tel es) : Sm (dX es) 20000 1 := by
  refine (Sm.dict (B := 82) (n := 0) fun p hp => ?_).mono (by
    rw [List.length_zip, List.length_map, List.length_map, kv_len]
    have := h.ln
    omega) (Nat.le_refl _)
  obtain ⟨h1, h2⟩ := List.of_mem_zip (a := p.1) (b := p.2) hp
  obtain ⟨k, hk, e1⟩ := List.mem_map.mp h1
  obtain ⟨q, hq, e2⟩ := List.mem_map.mp h2
  unfold kv at hk
  obtain ⟨r, hr, e3⟩ := List.mem_map.mp hk
  rw [← e1, ← e2, ← e3]
  exact ⟨Sm.nm (h.nm r hr), (Sm.int (h.bg q hq)).mono (by omega) (Nat.le_refl _)⟩
theorem dI_sm {es : Es} (h : Tel es) (b : Bool) : Sm (dI es b) 200000 2 := by
  refine (Sm.list (B := 20000) (n := 1) fun x hx => ?_).mono (by simp) (Nat.le_refl _)
  rcases List.mem_cons.mp hx with rfl | hx
  · exact dN_sm h
  rcases List.mem_cons.mp hx with rfl | hx
  · exact dX_sm h
  rcases List.mem_cons.mp hx with rfl | hx
  · refine (Sm.int ⟨?_, ?_⟩).mono (by omega) (by omega)
    · omega
    · have := h.ln
      omega
  rcases List.mem_cons.mp hx with rfl | hx
  · exact (Sm.bl b).mono (by omega) (by omega)
  rcases List.mem_cons.mp hx with rfl | hx
  · exact dV_sm h
  cases hx
theorem dw_strs {H : Hp} : ∀ es : Es, DwAll H (es.map fun q => V.str q.1) (es.map fun q => PyData.str q.1)
  | [] => .nil
  | q :: r => .cons (.str q.1) (dw_strs r)
theorem dw_ints {H : Hp} : ∀ es : Es, DwAll H (es.map fun q => V.int q.2) (es.map fun q => PyData.int q.2)
  | [] => .nil
  | q :: r => .cons (.int q.2) (dw_ints r)
theorem kv_vals (es : Es) : (kv es).map (·.2) = es.map fun q => V.int q.2 := by
  unfold kv
  rw [List.map_map]
  rfl
theorem dw_dict {H : Hp} {a : Addr} {es : Es} (e : H a = some (.dK (kv es))) : Dw H (.ref a) (dX es) := .dct e (by rw [kv_vals]; exact dw_ints es)

/-! ### exponent, of a Size whose dict may be locked -/
def SizeRd (C : Addr) (H : Hp) (p : Addr) (es : Es) : Prop := ∃ dx D, H p = some (.ins C dx [("_exponents", .ref D)]) ∧ Rd H D (.dK (kv es))
def spExpR (C : Addr) : Sp := fun vs H Q _ => ∃ (p : Addr) (es : Es) (n : Str), vs = [.ref p, .str n] ∧ SizeRd C H p es ∧ isNm n = true ∧ ∀ H', Same H H' → Q (.int (g0 es n)) H'
section
variable {P : Program} {w : World} {K : PySem.W.Frag} {mg : Str → Option Value} {base : Heap} {C : Addr}
theorem Rd.same {H H' : Hp} {a : Addr} {u : HO} (h : Rd H a u) (S : Same H H') : Rd H' a u := by
  rcases h with h | ⟨o, h⟩
  · exact .inl (S _ _ h)
  · exact .inr ⟨o, S _ _ h⟩
theorem ok_expR {f fN : Addr} {fd fdN : FuncData} (F : Fun K "exponent" "Size.exponent" sExp1 f fd) (Tc : Ck K mg C)
    (GN : FnOk P w K mg base CX0 1 fN fdN ["value"] (spIsName K)) (kN : PySem.W.keepIn K (.ref fN) = true) (bN : Binds K fdN ["value"] []) (gN : mg "is_name" = some (.ref fN)) :
    FnOk P w K mg base CX0 2 f fd ["self", "name"] (spExpR C) := by
  refine F.ok scExp1 (fun vs H Q E h => ?_) (fun cdv A outer s H vs Q E hr h => ?_)
  · obtain ⟨p, es, n, rfl, _⟩ := h
    rfl
  · obtain ⟨p, es, n, rfl, ⟨dx, D, p1, p2⟩, hn, k⟩ := h
    have hu : (A.deeper (envOfC "Size.exponent" (defScope sExp1) s.heap.objs.size f cdv)).units + 1 < cLine := by have := hr.units; omega
    refine ⟨_, pss_cons (ps_if (pt_not (pt_val (pe_call GN hr rfl gN kN bN .nil pass0 (pa_cons (pv 1) pa_nil)))) (pss_one ps_no) pss_nil)
      (pss_one (ps_ret (pe_dget2 hu (pe_fld (pv 0) rfl) (pv 1) pe_int ⟨rfl, rfl, rfl, rfl⟩))), ?_⟩
    refine ⟨_, rfl, .inl ⟨n, rfl, by have := nm_len hn; omega, fun H2 S2 => ?_⟩⟩
    rw [hn]
    refine ⟨_, rfl, iteF ?_⟩
    have p2' := Rd.same p2 S2
    refine ⟨_, rfl, p, C, dx, _, _, rfl, S2 _ _ p1, Tc.cl, Tc.nE, rfl, D, rfl, .inl ⟨_, p2'⟩, _, rfl, _, .inl ⟨_, ky n, p2', rfl, rfl⟩, ?_⟩
    rw [get_int]
    exact k H2 S2
end
end K12
set_option maxHeartbeats 8000000
namespace K12
open PySem PySem.Spec PyProof.Rows L2

theorem _root_.L2.FnG.mono {P : Program} {w : World} {K : PySem.W.Frag} {mg : Str → Option Value} {base : Heap} {j k : Nat} {f : Addr} {fd : FuncData} {ps : List Str} {sp : Sp}
    (F : FnG P w K mg base j f fd ps sp) (h : j ≤ k) : FnG P w K mg base k f fd ps sp :=
  ⟨F.len, fun A outer s H args us vs Q hg hr => F.run A outer s H args us vs Q hg (hr.mono h)⟩

/-! ### x in o, o an instance with an own __contains__ -/
def rInO (C : Addr) (sp : Sp) (E : XK) : R2 := fun x y H Q => ∃ (a dx : Addr) (fs : List (Str × V)), y = .ref a ∧ H a = some (.ins C dx fs) ∧ sp [.ref a, x] H (fun v H' => ∃ b, v = .bl b ∧ Q (.bl b) H') E
section
variable {X : Cx} {CX : CXT} {C f : Addr} {fd : FuncData} {ps : List Str} {sp : Sp} {E : XK} {n : Nat}
theorem op_inO (F : FnOk X.prog X.w X.K X.mg X.base CX n f fd ps sp) (hr : Room n X.A) (hs : PySem.W.findIn X.K (.ref C) "__contains__" = some (some (.ref f))) (hf : PySem.W.isFn X.K (.ref f) = true)
    (hb : Binds X.K fd ps []) (hx : Passes CX X E) (hsq : ∀ vs H (Q Q' : VK), (∀ v H', Q v H' → Q' v H') → sp vs H Q E → sp vs H Q' E) : OpR X (compareOp .In) (rInO C sp E) := by
  intro pins s σ H x y v u Q I rx ry h
  obtain ⟨a, dx, fs, rfl, ha, hsp⟩ := h
  cases ry
  obtain ⟨mA, J, _⟩ := ins_get I.hok ha
  obtain ⟨od, J, _⟩ := J.look
  obtain ⟨m, hF⟩ := I.fr
  refine PySem.W.in_K hF I.ok.mod.kin J hs hf ?_
  refine wpAny_mono (run_own F hr rfl hb hx I rx (Q := fun b s' => EP X pins σ Q (.bool b) s') (hsq _ _ _ _ (fun v H' q => ?_) hsp)) (fun r s' z => ?_) fun _ _ e => e
  · obtain ⟨b, e, q⟩ := q
    exact ⟨b, e, fun s' I' => ⟨.bl b, H', I', rfl, q⟩⟩
  · obtain ⟨b, rfl, q⟩ := z
    exact wpAny_truthy_bool q
end
theorem spHas_mono {K : PySem.W.Frag} {C : Addr} {E : XK} : ∀ vs H (Q Q' : VK), (∀ v H', Q v H' → Q' v H') → spHas K C vs H Q E → spHas K C vs H Q' E := by
  rintro vs H Q Q' h ⟨p, es, v, e, h1, h2⟩
  refine ⟨p, es, v, e, h1, ?_⟩
  rcases h2 with ⟨n, e, hl, k⟩ | ⟨t, h3, h4, k⟩
  · exact .inl ⟨n, e, hl, fun H' S => h _ _ (k H' S)⟩
  · exact .inr ⟨t, h3, h4, h _ _ k⟩

/-! ### a Size that is made, its dict new -/
theorem rd_make2 {C G : Addr} {R : Es} {H : Hp} {Q : VK} (hG : H G = some (.dK (kv R))) (hn : (R.map (·.1)).Nodup) (hl : R.length < 64) (nmR : ∀ q ∈ R, isNm q.1 = true)
    (k : ∀ H' r rs dx D, Same H H' → SizeAt C H' r rs → (∀ n, rs.lookup n = cz (g0 R n)) → H r = none → H D = none → H' r = some (.ins C dx [("_exponents", .ref D)]) → Q (.ref r) H') :
    ∀ x dx, H x = none → H dx = none → dx ≠ x → spInit C (.ref x :: ([.ref G] ++ [])) (upd (upd H dx (.own x)) x (.ins C dx [])) (fun v H2 => v = .non ∧ Q (.ref x) H2) E0 := by
  intro x ex nx ndx nex
  have Gx : G ≠ x := ne_of_none hG nx
  have Sx : Same H (upd (upd H ex (.own x)) x (.ins C ex [])) := fun b o e => by
    rw [upd_ne (ne_of_none e nx), upd_ne (ne_of_none e ndx)]
    exact e
  refine ⟨x, ex, .ref G, R, rfl, upd_same, .inr ⟨G, rfl, Gx, Sx _ _ hG⟩, hn, hl, nmR, fun H4 D4 R4 S4 hx4 nD4 hD4 sR4 lR4 zR4 => ⟨rfl, ?_⟩⟩
  have nD : H D4 = none := by
    cases e : H D4 with
    | none => rfl
    | some o =>
      have z := Sx _ _ e
      rw [nD4] at z
      cases z
  exact k H4 x R4 ex D4 (fun b o e => S4 b o (ne_of_none e nx) (Sx _ _ e)) (size_of hx4 hD4 sR4 lR4 zR4 hl nmR) (fun n => by rw [lR4, nz_cz]) nx nD hx4
/-- Size(None), Size() -/
theorem rd_none {C : Addr} {H : Hp} {Q : VK} (k : ∀ H' r, Same H H' → SizeAt C H' r [] → Q (.ref r) H') :
    ∀ x dx, H x = none → H dx = none → dx ≠ x → spInit C (.ref x :: [.non]) (upd (upd H dx (.own x)) x (.ins C dx [])) (fun v H2 => v = .non ∧ Q (.ref x) H2) E0 := by
  intro x ex nx ndx nex
  have Sx : Same H (upd (upd H ex (.own x)) x (.ins C ex [])) := fun b o e => by
    rw [upd_ne (ne_of_none e nx), upd_ne (ne_of_none e ndx)]
    exact e
  refine ⟨x, ex, .non, [], rfl, upd_same, .inl ⟨rfl, rfl⟩, List.Pairwise.nil, by decide, (fun q h => nomatch h), fun H4 D4 R4 S4 hx4 nD4 hD4 sR4 lR4 zR4 => ⟨rfl, ?_⟩⟩
  have e : R4 = [] := List.length_eq_zero_iff.mp (by simpa using zR4)
  subst e
  exact k H4 x (fun b o e => S4 b o (ne_of_none e nx) (Sx _ _ e)) (size_of hx4 hD4 sR4 lR4 zR4 (by decide) (fun q h => nomatch h))
/-- all else stays: so does a Size that does not hold what is changed -/
theorem SizeAt.at {C p k dx D : Addr} {es : Es} {H H' : Hp} (h : SizeAt C H p es) (e : H p = some (.ins C dx [("_exponents", .ref D)])) (pk : p ≠ k) (Dk : D ≠ k) (S : ∀ b o, b ≠ k → H b = some o → H' b = some o) : SizeAt C H' p es := by
  obtain ⟨dy, D', h1, h2, h3⟩ := h
  rw [e] at h1
  cases h1
  exact ⟨dx, D, S _ _ pk e, S _ _ Dk h2, h3⟩
/-- a new Size of drawn numbers -/
theorem md_new {ns : List Str} {es rs : Es} (h : PsE ns es) (sd : SdE rs) (lk : ∀ n, rs.lookup n = cz (g0 es n)) : Md ns B0 (g0 es) rs := by
  refine ⟨sd, lk, fun n hn => ?_, fun n => ?_⟩
  · unfold g0
    rw [g0_none fun z => ?_]
    · rfl
    · obtain ⟨q, hq, e⟩ := List.mem_map.mp z
      exact hn (by rw [← e]; exact h.sub q hq)
  · unfold g0
    cases e : es.lookup n with
    | none =>
      show -B0 ≤ 0 ∧ 0 ≤ B0
      rw [B0_eq]
      decide
    | some v =>
      obtain ⟨q, hq, e2⟩ := List.mem_map.mp (look_mem.mp (show (es.lookup n).isSome = true by rw [e]; rfl))
      have z := look_get h.nd (n := q.1) (v := q.2) hq
      rw [e2, e] at z
      show -B0 ≤ v ∧ v ≤ B0
      rw [Option.some.inj z]
      exact h.bd q hq
theorem SizeAt.sd {C p : Addr} {es : Es} {H : Hp} (h : SizeAt C H p es) : SdE es := by
  obtain ⟨_, _, _, _, z, _⟩ := h
  exact z
theorem Md.big {N : List Str} {b : Int} {f : Str → Int} {es : Es} (h : Md N b f es) (hb : b < 10 ^ 60) : ∀ q ∈ es, Big q.2 := fun q hq => by
  have := h.bq hq
  exact ⟨by omega, by omega⟩
theorem Paired.rev {α β : Type} {F : α → β → Prop} : ∀ {l₁ : List α} {l₂ : List β}, Paired F l₁ l₂ → Paired F l₁.reverse l₂.reverse
  | _, _, .nil => .nil
  | _, _, .cons h t => by
    rw [List.reverse_cons, List.reverse_cons]
    exact (Paired.rev t).snoc h
theorem kv_rev (es : Es) : (kv es).reverse = kv es.reverse := by
  unfold kv
  rw [List.map_reverse]
theorem nod_rev {es : Es} (h : (es.map (·.1)).Nodup) : (es.reverse.map (·.1)).Nodup := by
  rw [List.map_reverse]
  exact List.pairwise_reverse.mpr (List.Pairwise.imp (fun {a b} q z => q z.symm) h)
theorem g0_rev {es : Es} (h : (es.map (·.1)).Nodup) (n : Str) : g0 es.reverse n = g0 es n := by
  unfold g0
  by_cases hin : n ∈ es.map (·.1)
  · obtain ⟨q, hq, e⟩ := List.mem_map.mp hin
    have z1 := look_get h (n := q.1) (v := q.2) hq
    have z2 := look_get (nod_rev h) (n := q.1) (v := q.2) (List.mem_reverse.mpr hq)
    rw [e] at z1 z2
    rw [z1, z2]
  · rw [g0_none hin, g0_none fun z => hin (by rw [List.map_reverse] at z; exact List.mem_reverse.mp z)]

end K12
set_option maxHeartbeats 8000000
namespace K12
open PySem PySem.Spec PyProof.Rows L2
theorem tel_of {ns : List Str} {es : Es} (h : PsE ns es) (hP : Pool ns) : Tel es :=
  ⟨fun q hq => hP.nm _ (h.sub q hq), fun q hq => by
    have z := h.bd q hq
    rw [B0_eq] at z
    exact ⟨by omega, by omega⟩, by have := h.len hP; omega⟩
theorem rd_mk {C G : Addr} {R : Es} {H : Hp} {Qx : Addr → VK} (hG : H G = some (.dK (kv R))) (hn : (R.map (·.1)).Nodup) (hl : R.length < 64) (nmR : ∀ q ∈ R, isNm q.1 = true)
    (k : ∀ H' r rs dx D, Same H H' → SizeAt C H' r rs → (∀ n, rs.lookup n = cz (g0 R n)) → H r = none → H D = none → H' r = some (.ins C dx [("_exponents", .ref D)]) → Qx r .non H') :
    ∀ x dx, H x = none → H dx = none → dx ≠ x → spInit C (.ref x :: ([.ref G] ++ [])) (upd (upd H dx (.own x)) x (.ins C dx [])) (Qx x) E0 := by
  intro x ex nx ndx nex
  have Gx : G ≠ x := ne_of_none hG nx
  have Sx : Same H (upd (upd H ex (.own x)) x (.ins C ex [])) := fun b o e => by
    rw [upd_ne (ne_of_none e nx), upd_ne (ne_of_none e ndx)]
    exact e
  refine ⟨x, ex, .ref G, R, rfl, upd_same, .inr ⟨G, rfl, Gx, Sx _ _ hG⟩, hn, hl, nmR, fun H4 D4 R4 S4 hx4 nD4 hD4 sR4 lR4 zR4 => ?_⟩
  have nD : H D4 = none := by
    cases e : H D4 with
    | none => rfl
    | some o =>
      have z := Sx _ _ e
      rw [nD4] at z
      cases z
  exact k H4 x R4 ex D4 (fun b o e => S4 b o (ne_of_none e nx) (Sx _ _ e)) (size_of hx4 hD4 sR4 lR4 zR4 hl nmR) (fun n => by rw [lR4, nz_cz]) nx nD hx4
theorem rd_mk0 {C : Addr} {H : Hp} {Qx : Addr → VK} (k : ∀ H' r, Same H H' → SizeAt C H' r [] → Nw C H H' r → Qx r .non H') :
    ∀ x dx, H x = none → H dx = none → dx ≠ x → spInit C (.ref x :: [.non]) (upd (upd H dx (.own x)) x (.ins C dx [])) (Qx x) E0 := by
  intro x ex nx ndx nex
  have Sx : Same H (upd (upd H ex (.own x)) x (.ins C ex [])) := fun b o e => by
    rw [upd_ne (ne_of_none e nx), upd_ne (ne_of_none e ndx)]
    exact e
  refine ⟨x, ex, .non, [], rfl, upd_same, .inl ⟨rfl, rfl⟩, List.Pairwise.nil, by decide, (fun q h => nomatch h), fun H4 D4 R4 S4 hx4 nD4 hD4 sR4 lR4 zR4 => ?_⟩
  have e : R4 = [] := List.length_eq_zero_iff.mp (by simpa using zR4)
  subst e
  exact k H4 x (fun b o e => S4 b o (ne_of_none e nx) (Sx _ _ e)) (size_of hx4 hD4 sR4 lR4 zR4 (by decide) (fun q h => nomatch h)) ⟨ex, D4, hx4, nx, none_pre Sx nD4⟩
end K12
set_option maxHeartbeats 8000000
namespace K12
open PySem PySem.Spec PyProof.Rows L2

/-! ### a * b, both instances of a class with an own def for it -/
def rOwnB (C : Addr) (sp : Sp) (E : XK) : R2 := fun x y H Q => ∃ (a dx : Addr) (fs : List (Str × V)) (b dy : Addr) (gs : List (Str × V)), x = .ref a ∧ H a = some (.ins C dx fs) ∧ y = .ref b ∧ H b = some (.ins C dy gs) ∧
  sp [.ref a, .ref b] H (fun v H' => ∃ r, v = .ref r ∧ Q (.ref r) H') E
section
variable {X : Cx} {CX : CXT} {C f : Addr} {fd : FuncData} {ps : List Str} {sp : Sp} {E : XK} {n : Nat}
theorem op_ownBin {op : Operator} (F : FnOk X.prog X.w X.K X.mg X.base CX n f fd ps sp) (hr : Room n X.A) (hc : PySem.W.selfFirst X.K C = true) (hs : PySem.W.findIn X.K (.ref C) (PySem.dunder op.info.2) = some (some (.ref f))) (hf : PySem.W.isFn X.K (.ref f) = true)
    (hb : Binds X.K fd ps []) (hx : Passes CX X E) : OpR X (binaryOp op) (rOwnB C sp E) := by
  intro pins s σ H x y v u Q I rx ry h
  obtain ⟨a, dx, fs, b, dy, gs, rfl, ha, rfl, hb', hsp⟩ := h
  cases rx
  cases ry
  obtain ⟨mA, J, _⟩ := ins_get I.hok ha
  obtain ⟨od, J, _⟩ := J.look
  obtain ⟨m, hF⟩ := I.fr
  refine PySem.W.binop_K (h₀ := X.base) hF I.ok.mod.kin J ((Oth.ins hb').looks I (show RelV (.ref b) (.ref b) from rfl)) hc hs hf ?_
  have hl := F.len _ _ _ _ hsp
  have r2 : Vals [V.ref a, V.ref b] [Value.ref a, .ref b] := .cons rfl (.cons rfl .nil)
  refine wpAny_call (codeAny_mono (F.run X.A X.stack s H ⟨[.ref a, .ref b], []⟩ [.ref a, .ref b] [.ref a, .ref b] _ E hr I.env0 (by
    have := hb s [.ref a, .ref b] I.kIn (by simpa using hl)
    simpa using this) r2 hsp) fun r s' hq => ?_)
  cases r with
  | error e => exact hx pins σ H s e s' I hq
  | ok fl =>
    cases fl with
    | ret w =>
      obtain ⟨z, H', I', rz, r, ez, ex⟩ := I.after hq
      subst ez
      cases rz
      exact ⟨.ref r, H', I', rfl, ex⟩
    | next => exact False.elim hq
    | brk => exact False.elim hq
    | cont => exact False.elim hq
end

/-! ### C.m(), m a classmethod with a star -/
section
variable {X : Cx} {CX : CXT} {k : Nat} {C p g : Addr} {mc : Value} {sp : Sp} {E : XK} {o : Expr} {m : Str} {pos apos : Pos} {ta : TE} {pl : Sem Bool}
theorem pe_cmeth0 (he : PE X o ta) (r : ClX.CRead X.K C mc) (c : ClX.CMet X.K C mc m p g) (F : FnR X.prog X.w X.K X.mg X.base CX k g sp) (hr : Room k X.A) (hx : Passes CX X E)
    (ht : eval (.Call (.Attribute o m apos) [] [] pos) X.env = (do
      let ov ← eval o X.env
      standAt apos.atName
      let (f, first) ← holding [ov] (getMethod ov m pl)
      callWith pos f first (backTo pos (starEach [] X.env)) (backToKw pos (keywordEach [] X.env))) := by rfl) :
    PE X (.Call (.Attribute o m apos) [] [] pos) (ClX.tCMeth C sp E ta tNil) := by
  refine ⟨fun pins s σ H Q I h => ?_⟩
  refine PySem.W.methodCall_KW (pl := pl) (thn (he.run pins s σ H _ I h) fun u s1 ⟨x, H1, I1, rx, ex, q⟩ => ?_) ht
  subst ex
  obtain rfl : u = Value.ref C := rx
  refine ClX.getmethcm_ok I1 r c fun s2 I2 => ?_
  refine PySem.W.callWith_of (P := PySem.W.MethP X.K s1.heap.objs.size g (.ref C)) rfl (PySem.W.keeps_M c.fi) (evalArgs_kw2_nil (kws := []) rfl (kwAll_nil ⟨⟨ClX.pin_at I2, I2.kIn⟩, ?_⟩))
  exact ClX.run_cm (us := []) F hr hx I2 .nil q
end

end K12
set_option maxHeartbeats 8000000
namespace K12
open PySem PySem.Spec PyProof.Rows L2

/-! ### _law_drawn -/
theorem SizeAt.but {C r p : Addr} {es : Es} {H H' : Hp} (h : SizeAt C H p es) (hR : Rg H r) (B : But r H H') : SizeAt C H' p es := by
  obtain ⟨dx, D, h1, h2, h3⟩ := h
  obtain ⟨x, y, e, _⟩ := hR
  refine ⟨dx, D, B _ _ (fun z => ?_) h1, B _ _ (fun z => ?_) h2, h3⟩
  · rw [z, e] at h1
    cases h1
  · rw [z, e] at h2
    cases h2
theorem rg_ne {H : Hp} {r d : Addr} {kvs : List (Key × V)} (hR : Rg H r) (e : H d = some (.dK kvs)) : d ≠ r := fun z => by
  obtain ⟨x, y, e2, _⟩ := hR
  rw [z, e2] at e
  cases e
theorem none_of {H H' : Hp} {r a : Addr} (hR : Rg H r) (B : But r H H') (hR' : Rg H' r) (n : H' a = none) : H a = none := by
  cases e : H a with
  | none => rfl
  | some o =>
    by_cases h : a = r
    · obtain ⟨x, y, e2, _⟩ := hR'
      rw [h, e2] at n
      cases n
    · have z := B _ _ h e
      rw [n] at z
      cases z
structure PsB (ns : List Str) (b : Int) (es : Es) : Prop where
  nd : (es.map (·.1)).Nodup
  sub : ∀ q ∈ es, q.1 ∈ ns
  bd : ∀ q ∈ es, -b ≤ q.2 ∧ q.2 ≤ b
theorem PsB.put {ns : List Str} {b : Int} {es : Es} (h : PsB ns b es) {n : Str} {v : Int} (hn : n ∈ ns) (hv : -b ≤ v ∧ v ≤ b) : PsB ns b (putE es n v) := by
  refine ⟨nod_put h.nd n v, fun q hq => ?_, fun q hq => ?_⟩
  · rcases mem_put hq with z | z
    · exact h.sub q z
    · rw [z]; exact hn
  · rcases mem_put hq with z | z
    · exact h.bd q z
    · rw [z]; exact hv
theorem PsB.nil (ns : List Str) (b : Int) : PsB ns b [] := ⟨List.Pairwise.nil, (fun q h => nomatch h), (fun q h => nomatch h)⟩
theorem PsB.len {ns : List Str} {b : Int} {es : Es} (h : PsB ns b es) (P : Pool ns) : es.length ≤ 10 := by
  have z := sub_len (es.map (·.1)) ns h.nd fun x hx => by
    obtain ⟨q, hq, rfl⟩ := List.mem_map.mp hx
    exact h.sub q hq
  rw [List.length_map] at z
  have := P.ln
  omega
theorem md_newB {ns : List Str} {b : Int} {es rs : Es} (h : PsB ns b es) (b0 : 0 ≤ b) (sd : SdE rs) (lk : ∀ n, rs.lookup n = cz (g0 es n)) : Md ns b (g0 es) rs := by
  refine ⟨sd, lk, fun n hn => ?_, fun n => ?_⟩
  · unfold g0
    rw [g0_none fun z => ?_]
    · rfl
    · obtain ⟨q, hq, e⟩ := List.mem_map.mp z
      exact hn (by rw [← e]; exact h.sub q hq)
  · unfold g0
    cases e : es.lookup n with
    | none =>
      show -b ≤ 0 ∧ 0 ≤ b
      omega
    | some v =>
      obtain ⟨q, hq, e2⟩ := List.mem_map.mp (look_mem.mp (show (es.lookup n).isSome = true by rw [e]; rfl))
      have z := look_get h.nd (n := q.1) (v := q.2) hq
      rw [e2, e] at z
      show -b ≤ v ∧ v ≤ b
      rw [Option.some.inj z]
      exact h.bd q hq
abbrev sDrawn : Stmt := top 55
def spDrawn : Sp := fun vs H Q _ => ∃ (r l : Addr) (ns : List Str), vs = [.ref r, .ref l] ∧ Rg H r ∧ l ≠ r ∧ H l = some (.lst (ns.map V.str)) ∧ Pool ns ∧
  ∀ (H' : Hp) (D : Addr) (rs : Es) (f : Str → Int), But r H H' → Rg H' r → H D = none → H' D = some (.dK (kv rs)) → Md ns 3 f rs → Q (.ref D) H'
def NDr : List Str := ["_law_rng_here", "_law_names_here", "_law_found", "_law_name"]
def ways : List V := [V.int 0, V.int 1, V.int 1, V.int 2, V.int (-1), V.int (-1), V.int (-2), V.int 3, V.int (-3)]
theorem ways_ok : ∀ v ∈ ways, ∃ i : Int, v = .int i ∧ -3 ≤ i ∧ i ≤ 3 := by
  intro v hv
  unfold ways at hv
  simp only [List.mem_cons, List.not_mem_nil, or_false] at hv
  rcases hv with rfl | rfl | rfl | rfl | rfl | rfl | rfl | rfl | rfl
  all_goals exact ⟨_, rfl, by decide, by decide⟩
section
variable {P : Program} {w : World} {K : PySem.W.Frag} {mg : Str → Option Value} {base : Heap}
theorem scDrawn : FnScope NDr ["_law_rng_here", "_law_names_here"] (defScope sDrawn) :=
  ⟨rfl, rfl, rfl, by decide +kernel, rfl, by decide +kernel, by decide +kernel⟩
theorem ok_drawn {f fC fT : Addr} {fd fdC fdT : FuncData} (F : Fun K "_law_drawn" "_law_drawn" sDrawn f fd)
    (GC : FnOk P w K mg base CX0 2 fC fdC ["_law_rng_here", "_law_some"] spChoice) (kC : PySem.W.keepIn K (.ref fC) = true) (bC : Binds K fdC ["_law_rng_here", "_law_some"] []) (gC : mg "_law_choice" = some (.ref fC))
    (GT : FnOk P w K mg base CX0 1 fT fdT ["_law_one", "_law_other"] spTimesL) (kT : PySem.W.keepIn K (.ref fT) = true) (bT : Binds K fdT ["_law_one", "_law_other"] []) (gT : mg "_law_times" = some (.ref fT)) :
    FnOk P w K mg base CX0 3 f fd ["_law_rng_here", "_law_names_here"] spDrawn := by
  have GT2 := GT.mono (k := 2) (by decide)
  refine F.ok scDrawn (fun vs H Q E h => ?_) (fun cdv A outer s H vs Q E hr h => ?_)
  · obtain ⟨r, l, ns, rfl, _⟩ := h
    rfl
  · obtain ⟨r, l, ns, rfl, hR, lr, hl, hP, q⟩ := h
    have hu : (A.deeper (envOfC "_law_drawn" (defScope sDrawn) s.heap.objs.size f cdv)).units + 1 < cLine := by have := hr.units; omega
    refine ⟨_, pss_cons (ps_set (i := 2) scDrawn.nd rfl (.inl rfl) pe_dnewK)
      (pss_cons (ps_for PassesOwn.never rfl (pi_list (pv 1)) (pg_name (i := 3) scDrawn.nd rfl (Or.inl rfl))
        (pss_one (ps_dput hu (pv 2) (pv 3) (pe_call GC hr rfl gC kC bC .nil pass0 (pa_cons (pv 0) (pa_cons
          (pe_lst (pa_cons pe_int (pa_cons pe_int (pa_cons pe_int (pa_cons pe_int (pa_cons (pe_un un_neg pe_int) (pa_cons (pe_un un_neg pe_int) (pa_cons (pe_un un_neg pe_int) (pa_cons pe_int (pa_cons (pe_un un_neg pe_int) pa_nil)))))))))) pa_nil))) rfl)))
      (pss_one (ps_ret (pe_call GT2 hr rfl gT kT bT .nil pass0 (pa_cons (pv 2) (pa_cons pe_dnewK pa_nil)))))), ?_⟩
    intro p np
    have S0 := fresh_upd (o := .dK []) np
    have rp := hR.ne np
    refine ⟨_, rfl, l, rfl, ⟨_, SqL.of (S0 _ _ hl)⟩, for_it (walk_list (K := K) (a := l) (xs := ns.map V.str)) (fun i σ H2 => (∃ o3, σ = [some (.ref r), some (.ref l), some (.ref p), o3]) ∧ Rg H2 r ∧ But r H H2 ∧
      ∃ es, H2 p = some (.dK (kv es)) ∧ PsB ns 3 es)
      ⟨⟨none, rfl⟩, hR.same S0, But.of S0, [], upd_same, PsB.nil ns 3⟩ (fun i σ H2 _ h => SqL.of (h.2.2.1 _ _ lr hl)) ?_ ?_⟩
    · rintro i x σ H2 H2' hi ⟨⟨o3, rfl⟩, hR2, B2, es, hp2, hE⟩ ⟨rfl, hx⟩
      obtain ⟨n, hn, rfl⟩ := List.mem_map.mp (List.mem_of_getElem? hx)
      have hel := hE.len hP
      refine ⟨_, rfl, 1, rfl, 1, rfl, 2, rfl, 3, rfl, by rw [sizeLine_eq]; show 9 ≤ 16777216; decide, fun t nt => ?_⟩
      have S3 := fresh_upd (o := .lst ways) nt
      have rt := hR2.ne nt
      refine ⟨r, t, ways, rfl, hR2.same S3, rt.symm, upd_same, by decide, by decide, fun H3 v hv hR3 B3 => ?_⟩
      obtain ⟨i', rfl, i0, i1⟩ := ways_ok v hv
      have B23 := (But.of S3).trans B3
      have hp3 := B23 _ _ rp.symm hp2
      refine ⟨_, rfl, _, rfl, p, _, rfl, .inl ⟨_, ky n, hp3, rfl, by rw [kv_len, sizeLine_eq]; omega, rfl⟩, ⟨_, rfl⟩, hR3.upd rp.symm, But.upd (B2.trans B23) np, putE es n i', by rw [upd_same, kv_put], hE.put hn ⟨i0, i1⟩⟩
    · rintro σ H2 ⟨⟨o3, rfl⟩, hR2, B2, es, hp2, hE⟩
      have hel := hE.len hP
      refine ⟨_, rfl, fun e0 n0 => ?_⟩
      have S3 := fresh_upd (o := .dK []) n0
      refine ⟨p, e0, es, [], rfl, S3 _ _ hp2, upd_same, hE.nd, List.Pairwise.nil, by show es.length + 0 < 64; omega, fun H4 D rs S4 nD hD sd lk => ?_⟩
      have S24 := S3.trans S4
      have hRn := hR2.same S3
      have B3 := B2.trans (But.of S3)
      refine q _ D rs (g0 es) (B2.trans (But.of S24)) (hR2.same S24) (none_of hR B3 hRn nD) hD (md_newB hE (by decide) sd fun n => ?_)
      rw [lk]
      show cz (g0 es n + 0) = _
      rw [Int.add_zero]
end
end K12
set_option maxHeartbeats 8000000
namespace K12
open PySem PySem.Spec PyProof.Rows L2

/-! ### _law_numbers -/
/-- numbers for the names ns, up to b, in m places at most -/
structure NuE (ns : List Str) (b : Int) (m : Nat) (es : Es) : Prop where
  nd : (es.map (·.1)).Nodup
  nm : ∀ q ∈ es, isNm q.1 = true
  bd : ∀ q ∈ es, 1 ≤ q.2 ∧ q.2 ≤ b
  has : ∀ n ∈ ns, n ∈ es.map (·.1)
  ln : es.length ≤ m
theorem key_put {t : Es} {n x : Str} {v : Int} (h : x ∈ t.map (·.1)) : x ∈ (putE t n v).map (·.1) := by
  unfold putE
  split
  · rw [List.map_map]
    obtain ⟨q, hq, rfl⟩ := List.mem_map.mp h
    refine List.mem_map.mpr ⟨q, hq, ?_⟩
    show (if q.1 = n then (q.1, v) else q).1 = q.1
    split <;> rfl
  · rw [List.map_append]
    exact List.mem_append_left _ h
theorem NuE.put {ns : List Str} {b c : Int} {m : Nat} {es : Es} (h : NuE ns b m es) (hbc : b ≤ c) {n : Str} {v : Int} (hn : isNm n = true) (hv : 1 ≤ v ∧ v ≤ c) : NuE ns c (m + 1) (putE es n v) := by
  refine ⟨nod_put h.nd n v, fun q hq => ?_, fun q hq => ?_, fun x hx => key_put (h.has x hx), ?_⟩
  · rcases mem_put hq with z | z
    · exact h.nm q z
    · rw [z]; exact hn
  · rcases mem_put hq with z | z
    · have := h.bd q z
      omega
    · rw [z]; exact hv
  · have z := len_put es n v
    have := h.ln
    omega
theorem NuE.mono {ns : List Str} {b c : Int} {m k : Nat} {es : Es} (h : NuE ns b m es) (hbc : b ≤ c) (hmk : m ≤ k) : NuE ns c k es :=
  ⟨h.nd, h.nm, fun q hq => by have := h.bd q hq; omega, h.has, by have := h.ln; omega⟩
theorem NuE.look {ns : List Str} {b : Int} {m : Nat} {es : Es} (h : NuE ns b m es) {n : Str} (hn : n ∈ ns) : ∃ v, es.lookup n = some v ∧ 1 ≤ v ∧ v ≤ b := by
  obtain ⟨q, hq, rfl⟩ := List.mem_map.mp (h.has n hn)
  exact ⟨q.2, lookG h.nd hq, h.bd q hq⟩
theorem NuE.get {H : Hp} {d : Addr} {ns : List Str} {b : Int} {m : Nat} {es : Es} (h : NuE ns b m es) (hd : H d = some (.dK (kv es))) {n : Str} (hn : n ∈ ns) : ∃ v : Int, DGet H d (.str n) (some (.int v)) ∧ 1 ≤ v ∧ v ≤ b := by
  obtain ⟨v, e, k⟩ := h.look hn
  exact ⟨v, .inl ⟨_, ky n, .inl hd, rfl, by rw [val_kv, e]; rfl⟩, k⟩
abbrev sNum : Stmt := top 56
def spNum : Sp := fun vs H Q _ => ∃ (r l : Addr) (ns : List Str), vs = [.ref r, .ref l] ∧ Rg H r ∧ l ≠ r ∧ H l = some (.lst (ns.map V.str)) ∧ Pool ns ∧
  ∀ (H' : Hp) (D : Addr) (es : Es), But r H H' → Rg H' r → H D = none → H' D = some (.dK (kv es)) → NuE ns 1000000 13 es → Q (.ref D) H'
def NNu : List Str := ["_law_rng_here", "_law_names_here", "_law_found", "_law_name"]
section
variable {P : Program} {w : World} {K : PySem.W.Frag} {mg : Str → Option Value} {base : Heap}
theorem scNum : FnScope NNu ["_law_rng_here", "_law_names_here"] (defScope sNum) :=
  ⟨rfl, rfl, rfl, by decide +kernel, rfl, by decide +kernel, by decide +kernel⟩
/-- where one stands between the statements -/
structure NuSt (H : Hp) (r l p : Addr) (ns : List Str) (b : Int) (m : Nat) : Prop where
  hR : Rg H r
  lr : l ≠ r
  pr : p ≠ r
  hl : H l = some (.lst (ns.map V.str))
  hP : Pool ns
  hd : ∃ es, H p = some (.dK (kv es)) ∧ NuE ns b m es
theorem NuSt.but {H H' : Hp} {r l p : Addr} {ns : List Str} {b : Int} {m : Nat} (h : NuSt H r l p ns b m) (B : But r H H') (hR : Rg H' r) : NuSt H' r l p ns b m := by
  obtain ⟨_, lr, pr, hl, hP, es, e, k⟩ := h
  exact ⟨hR, lr, pr, B _ _ lr hl, hP, es, B _ _ pr e, k⟩
theorem NuSt.put {H : Hp} {r l p : Addr} {ns : List Str} {b c : Int} {m : Nat} {es : Es} (h : NuSt H r l p ns b m) (e : H p = some (.dK (kv es))) (k : NuE ns b m es) (hbc : b ≤ c) {n : Str} {v : Int} (hn : isNm n = true) (hv : 1 ≤ v ∧ v ≤ c) :
    NuSt (upd H p (.dK (putK (kv es) (ky n) (.int v)))) r l p ns c (m + 1) := by
  obtain ⟨hR, lr, pr, hl, hP, _⟩ := h
  refine ⟨hR.upd pr, lr, pr, (upd_ne (fun z => ?_)).trans hl, hP, putE es n v, by rw [upd_same, kv_put], k.put hbc hn hv⟩
  rw [z, e] at hl
  cases hl
variable {f : Addr} {cdv : Value} {A : Around} {outer : List Env} {s : Shared} {H0 : Hp} {E : XK}
theorem num_t3 {fD : Addr} {fdD : FuncData} (GD : FnOk P w K mg base CX0 1 fD fdD ["_law_rng_here", "_law_many"] spDraw) (kD : PySem.W.keepIn K (.ref fD) = true) (bD : Binds K fdD ["_law_rng_here", "_law_many"] []) (gD : mg "_law_draw" = some (.ref fD))
    (hr : Room 1 (A.deeper (envOfC "_law_numbers" (defScope sNum) s.heap.objs.size f cdv))) :
    ∃ t, PSs (cxOf CX0 P w K mg base NNu "_law_numbers" (defScope sNum) f cdv A outer s H0 E).nox ((defBody sNum).drop 3) t ∧
      ∀ (D : Ends) (H : Hp) (r l p : Addr) (ns : List Str) (o : Option V), NuSt H r l p ns 1000000 12 → (∀ (H' : Hp) (es : Es), (∀ b u, b ≠ r → b ≠ p → H b = some u → H' b = some u) → Rg H' r → H' p = some (.dK (kv es)) → NuE ns 1000000 13 es → D.rt (.ref p) H') →
        t D [some (.ref r), some (.ref l), some (.ref p), o] H := by
  have hu : (A.deeper (envOfC "_law_numbers" (defScope sNum) s.heap.objs.size f cdv)).units + 1 < cLine := by have := hr.units; omega
  refine ⟨_, pss_cons (ps_dput hu (pv 2) pe_str (pe_op op_add pe_int (pe_call GD hr rfl gD kD bD .nil pass0 (pa_cons (pv 0) (pa_cons pe_int pa_nil)))) rfl)
    (pss_one (ps_ret (pv 2))), ?_⟩
  intro D H r l p ns o h k
  refine ⟨_, rfl, r, 5, rfl, h.hR, by decide, by decide, fun H1 d d0 d1 hR1 B1 => ?_⟩
  have h1 := h.but B1 hR1
  obtain ⟨es, e1, k1⟩ := h1.hd
  have := k1.ln
  refine ⟨_, _, rfl, rfl, _, rfl, p, _, rfl, .inl ⟨_, ky "zzzzz", e1, rfl, by rw [kv_len, sizeLine_eq]; omega, rfl⟩, ?_⟩
  have h2 := h1.put e1 k1 (c := 1000000) (Int.le_refl _) (n := "zzzzz") (v := 1 + d) (by decide +kernel) ⟨by omega, by omega⟩
  exact ⟨_, rfl, k _ _ (fun b u hb hp e => by rw [upd_ne hp]; exact B1 b u hb e) h2.hR (by rw [upd_same, kv_put]) (k1.put (Int.le_refl _) (by decide +kernel) ⟨by omega, by omega⟩)⟩
theorem num_t2 {fD : Addr} {fdD : FuncData} (T : Nb mg) (GD : FnOk P w K mg base CX0 1 fD fdD ["_law_rng_here", "_law_many"] spDraw) (kD : PySem.W.keepIn K (.ref fD) = true) (bD : Binds K fdD ["_law_rng_here", "_law_many"] []) (gD : mg "_law_draw" = some (.ref fD))
    (hr : Room 1 (A.deeper (envOfC "_law_numbers" (defScope sNum) s.heap.objs.size f cdv))) :
    ∃ t, PSs (cxOf CX0 P w K mg base NNu "_law_numbers" (defScope sNum) f cdv A outer s H0 E).nox ((defBody sNum).drop 2) t ∧
      ∀ (D : Ends) (H : Hp) (r l p : Addr) (ns : List Str) (o : Option V), NuSt H r l p ns 144 11 → (∀ (H' : Hp) (es : Es), (∀ b u, b ≠ r → b ≠ p → H b = some u → H' b = some u) → Rg H' r → H' p = some (.dK (kv es)) → NuE ns 1000000 13 es → D.rt (.ref p) H') →
        t D [some (.ref r), some (.ref l), some (.ref p), o] H := by
  have hu : (A.deeper (envOfC "_law_numbers" (defScope sNum) s.heap.objs.size f cdv)).units + 1 < cLine := by have := hr.units; omega
  obtain ⟨t, ht, hq⟩ := num_t3 (P := P) (w := w) (base := base) (f := f) (cdv := cdv) (A := A) (outer := outer) (s := s) (H0 := H0) (E := E) GD kD bD gD hr
  refine ⟨_, pss_cons (ps_if (PW.pt (pw_and (pt_cmpR (op_neD hr.units) (pv 1) (pe_lst pa_nil) (nomark _)) (pw_and1 (pt_cmpR op_eq (pe_call GD hr rfl gD kD bD .nil pass0 (pa_cons (pv 0) (pa_cons pe_int pa_nil))) pe_int (nomark _)))))
      (pss_one (ps_dput hu (pv 2) (pe_ix ix_list (pv 1) (pe_un un_neg pe_int) (fun _ _ => rfl)) (pe_op op_add pe_int (pe_call GD hr rfl gD kD bD .nil pass0 (pa_cons (pv 0) (pa_cons (pe_op op_pow pe_int pe_int) pa_nil)))) rfl)) pss_nil) ht, ?_⟩
  intro D H r l p ns o h k
  have mono : ∀ {H : Hp}, NuSt H r l p ns 144 11 → NuSt H r l p ns 1000000 12 := fun {H} h => by
    obtain ⟨hR, lr, pr, hl, hP, es, e, z⟩ := h
    exact ⟨hR, lr, pr, hl, hP, es, e, z.mono (by decide) (by decide)⟩
  refine ⟨_, rfl, Nat.zero_le _, fun t0 nt => ?_⟩
  have S3 := fresh_upd (o := .lst []) nt
  have h3 := h.but (But.of S3) (h.hR.same S3)
  have k3 : ∀ H' : Hp, (∀ b u, b ≠ r → b ≠ p → upd H t0 (.lst []) b = some u → H' b = some u) → (∀ b u, b ≠ r → b ≠ p → H b = some u → H' b = some u) := fun H' z b u hb hp e => z b u hb hp (S3 _ _ e)
  refine ⟨_, _, .lst (SqL.of h3.hl) (dp_strs ns), .lst (SqL.of upd_same) .nil, shaped_strs h.hP.nm, rfl, _, rfl, ?_⟩
  rw [eqv_nil]
  by_cases hns : ns = []
  · rw [decide_eq_true hns]
    refine iteF (iteF (next_ ?_))
    exact hq _ _ r l p ns o (mono h3) fun H' es z => k H' es (k3 H' z)
  · rw [decide_eq_false hns]
    refine iteT' rfl ?_
    obtain ⟨rest, n, en⟩ : ∃ rest n, ns = rest ++ [n] := by
      refine ⟨ns.dropLast, ns.getLast hns, (List.dropLast_concat_getLast hns).symm⟩
    have hn : n ∈ ns := by
      rw [en]
      simp
    generalize upd H t0 (.lst []) = H3 at h3 k3
    refine ⟨_, rfl, r, 6, rfl, h3.hR, by decide, by decide, fun H4 d d0 d1 hR4 B4 => ?_⟩
    have h4 := h3.but B4 hR4
    refine ⟨rfl, _, rfl, ?_⟩
    by_cases h0 : d = 0
    · subst h0
      refine iteT' (decide_eq_true rfl) ?_
      refine ⟨_, rfl, _, _, rfl, rfl, ⟨by decide, by decide, by decide⟩, r, _, rfl, h4.hR, by decide, by decide, fun H5 c c0 c1 hR5 B5 => ?_⟩
      have h5 := h4.but B5 hR5
      obtain ⟨es, e5, k5⟩ := h5.hd
      have hln := k5.ln
      have e6 : (10 : Int) ^ Int.toNat 6 = 1000000 := by decide
      rw [e6] at c1
      refine ⟨_, _, rfl, rfl, _, rfl, _, rfl, 1, rfl, l, _, -1, .str n, rfl, rfl, SqL.of h5.hl, ?_, p, _, rfl, .inl ⟨_, ky n, e5, rfl, by rw [kv_len, sizeLine_eq]; omega, rfl⟩, ?_⟩
      · rw [en, List.map_append]
        exact atI_last _ _
      · have h6 := h5.put e5 k5 (c := 1000000) (by decide) (n := n) (v := 1 + c) (h.hP.nm n hn) ⟨by omega, by omega⟩
        refine hq _ _ r l p ns o h6 fun H' es' z => k H' es' (k3 H' fun b u hb hp e => z b u hb hp ?_)
        rw [upd_ne hp]
        exact B5 _ _ hb (B4 _ _ hb e)
    · refine iteN' (fun z => h0 (V.int.inj z)) (next_ ?_)
      exact hq _ _ r l p ns o (mono h4) fun H' es z => k H' es (k3 H' fun b u hb hp e => z b u hb hp (B4 _ _ hb e))
theorem num_t1 {fD : Addr} {fdD : FuncData} (T : Nb mg) (GD : FnOk P w K mg base CX0 1 fD fdD ["_law_rng_here", "_law_many"] spDraw) (kD : PySem.W.keepIn K (.ref fD) = true) (bD : Binds K fdD ["_law_rng_here", "_law_many"] []) (gD : mg "_law_draw" = some (.ref fD))
    (hr : Room 1 (A.deeper (envOfC "_law_numbers" (defScope sNum) s.heap.objs.size f cdv))) :
    ∃ t, PSs (cxOf CX0 P w K mg base NNu "_law_numbers" (defScope sNum) f cdv A outer s H0 E).nox ((defBody sNum).drop 1) t ∧
      ∀ (D : Ends) (H : Hp) (r l p : Addr) (ns : List Str) (o : Option V), NuSt H r l p ns 12 10 → (∀ (H' : Hp) (es : Es), (∀ b u, b ≠ r → b ≠ p → H b = some u → H' b = some u) → Rg H' r → H' p = some (.dK (kv es)) → NuE ns 1000000 13 es → D.rt (.ref p) H') →
        t D [some (.ref r), some (.ref l), some (.ref p), o] H := by
  have hu : (A.deeper (envOfC "_law_numbers" (defScope sNum) s.heap.objs.size f cdv)).units + 1 < cLine := by have := hr.units; omega
  obtain ⟨t, ht, hq⟩ := num_t2 (P := P) (w := w) (base := base) (f := f) (cdv := cdv) (A := A) (outer := outer) (s := s) (H0 := H0) (E := E) T GD kD bD gD hr
  refine ⟨_, pss_cons (ps_if (pt_cmpR op_gt (pe_callB call_len_seq (by rfl) T.len PySem.boot_len (pa_cons (pv 1) pa_nil)) pe_int (nomark _))
      (pss_one (ps_dput hu (pv 2) (pe_ix ix_list (pv 1) pe_int (fun _ _ => rfl)) (pe_op op_mul (pe_dget hu (pv 2) (pe_ix ix_list (pv 1) pe_int (fun _ _ => rfl)) (fun _ _ => rfl)) (pe_dget hu (pv 2) (pe_ix ix_list (pv 1) pe_int (fun _ _ => rfl)) (fun _ _ => rfl))) rfl)) pss_nil) ht, ?_⟩
  intro D H r l p ns o h k
  refine ⟨_, rfl, l, _, rfl, .inl (SqL.of h.hl), _, _, rfl, rfl, _, rfl, ?_⟩
  rw [List.length_map]
  refine ite2 (fun h2 => ?_) fun h2 => next_ ?_
  · have h2' := of_decide_eq_true h2
    obtain ⟨n0, n1, n2, rest, en⟩ : ∃ n0 n1 n2 rest, ns = n0 :: n1 :: n2 :: rest := by
      match ns, h2' with
      | n0 :: n1 :: n2 :: rest, _ => exact ⟨n0, n1, n2, rest, rfl⟩
      | [], z => simp at z
      | [_], z => simp at z
      | [_, _], z => simp at z
    obtain ⟨es, e1, k1⟩ := h.hd
    obtain ⟨v1, g1, b1, c1⟩ := k1.get e1 (n := n1) (by rw [en]; simp)
    obtain ⟨v2, g2, b2, c2⟩ := k1.get e1 (n := n2) (by rw [en]; simp)
    have hln := k1.ln
    have a0 : atI (ns.map V.str) ((0 : Nat) : Int) = some (V.str n0) := by
      rw [en]
      exact atI_nat rfl
    have a1 : atI (ns.map V.str) ((1 : Nat) : Int) = some (V.str n1) := by
      rw [en]
      exact atI_nat rfl
    have a2 : atI (ns.map V.str) ((2 : Nat) : Int) = some (V.str n2) := by
      rw [en]
      exact atI_nat rfl
    refine ⟨_, rfl, _, rfl, l, _, 1, _, rfl, rfl, SqL.of h.hl, a1, p, _, rfl, g1, _, rfl, _, rfl, l, _, 2, _, rfl, rfl, SqL.of h.hl, a2, p, _, rfl, g2, _, _, rfl, rfl, .inl ⟨by omega, by omega⟩, ?_⟩
    refine ⟨_, rfl, _, rfl, l, _, 0, _, rfl, rfl, SqL.of h.hl, a0, p, _, rfl, .inl ⟨_, ky n0, e1, rfl, by rw [kv_len, sizeLine_eq]; omega, rfl⟩, ?_⟩
    have hv : 1 ≤ v1 * v2 ∧ v1 * v2 ≤ 144 := by
      have h3 : v1 * v2 ≤ 12 * 12 := Int.mul_le_mul c1 c2 (by omega) (by omega)
      have h4 : 1 * 1 ≤ v1 * v2 := Int.mul_le_mul b1 b2 (by omega) (by omega)
      omega
    have h6 := h.put e1 k1 (c := 144) (by decide) (n := n0) (v := v1 * v2) (h.hP.nm n0 (by rw [en]; simp)) hv
    refine hq _ _ r l p ns o h6 fun H' es' z => k H' es' fun b u hb hp e => z b u hb hp ?_
    rw [upd_ne hp]
    exact e
  · obtain ⟨hR, lr, pr, hl, hP, es, e, z⟩ := h
    exact hq _ _ r l p ns o ⟨hR, lr, pr, hl, hP, es, e, z.mono (by decide) (by decide)⟩ k
theorem ok_num {f fD : Addr} {fd fdD : FuncData} (F : Fun K "_law_numbers" "_law_numbers" sNum f fd) (T : Nb mg) (T2 : Nt mg)
    (GD : FnOk P w K mg base CX0 1 fD fdD ["_law_rng_here", "_law_many"] spDraw) (kD : PySem.W.keepIn K (.ref fD) = true) (bD : Binds K fdD ["_law_rng_here", "_law_many"] []) (gD : mg "_law_draw" = some (.ref fD)) :
    FnOk P w K mg base CX0 2 f fd ["_law_rng_here", "_law_names_here"] spNum := by
  refine F.ok scNum (fun vs H Q E h => ?_) (fun cdv A outer s H vs Q E hr h => ?_)
  · obtain ⟨r, l, ns, rfl, _⟩ := h
    rfl
  · obtain ⟨r, l, ns, rfl, hR, lr, hl, hP, q⟩ := h
    obtain ⟨t, ht, hq⟩ := num_t1 (P := P) (w := w) (base := base) (f := f) (cdv := cdv) (A := A) (outer := outer) (s := s) (H0 := H) (E := E) T GD kD bD gD hr
    refine ⟨_, pss_cons (ps_set (i := 2) scNum.nd rfl (by first | exact .inl rfl | exact .inr rfl) (pe_callTy (call_dictP rfl) (by rfl) T2.dict (by decide +kernel) (pa_cons
        (pe_lc (own := [("_law_name", 3)]) (g := gName 3) (tt := tYes) (te := tTup (tCons (tVar 3) (tCons (tOp (rI0 fun i j => V.int (i + j)) (tC (.int 1)) (tCall spDraw [] E0 (tCons (tVar 0) (tCons (tC (.int 12)) tNil)))) tNil))) rfl scNum.nd
        (pi_list (pe_revL (pv 1)))
        (blkOk_by (own := [("_law_name", 3)]) (N := NNu) (sc := defScope sNum) (by decide +kernel)) (fun _ _ _ _ _ => pg_name (i := 3) scNum.nd rfl (Or.inl rfl))
        (fun _ _ _ _ _ => pts_nil)
        (fun _ _ _ _ _ => by exact pe_tup (pa_cons (pv 3) (pa_cons (pe_op op_add pe_int (pe_call GD hr rfl gD kD bD .nil pass0 (pa_cons (pv 0) (pa_cons pe_int pa_nil)))) pa_nil)))) pa_nil))) ht, ?_⟩
    refine ⟨_, rfl, l, _, rfl, SqL.of hl, fun q0 nq => ?_⟩
    have S1 := fresh_upd (o := .lst (ns.map V.str).reverse) nq
    have rq := hR.ne nq
    have e0 : upd H q0 (.lst (ns.map V.str).reverse) q0 = some (.lst (ns.map V.str).reverse) := upd_same
    generalize upd H q0 (.lst (ns.map V.str).reverse) = H1 at S1 e0
    have hR1 := hR.same S1
    refine ⟨q0, rfl, ⟨_, SqL.of e0⟩, fun D hD => ?_⟩
    have rD := hR1.ne hD
    refine lc_it (walk_list (K := K) (a := q0) (xs := (ns.map V.str).reverse)) (fun i H2 => Rg H2 r ∧ But r H1 H2 ∧ ∃ ps es, H2 D = some (.lst (ps.map V.ref)) ∧ PsAt H2 ps es ∧ es.map (·.1) = ns.reverse.take i ∧ ∀ q ∈ es, 1 ≤ q.2 ∧ q.2 ≤ 12)
      ⟨hR1.same (fresh_upd hD), But.of (fresh_upd hD), [], [], upd_same, .nil, rfl, fun q hq => by cases hq⟩ (fun i H2 _ h => SqL.of (h.2.1 _ _ rq.symm e0)) ?_ ?_
    · rintro i x H2 H2' hi ⟨hR2, B2, ps, es, hD2, hps, hk, hb⟩ ⟨rfl, hx⟩
      rw [List.length_reverse, List.length_map] at hi
      have hi' : i < ns.reverse.length := by rw [List.length_reverse]; exact hi
      have ex : x = .str ns.reverse[i] := by
        rw [← List.map_reverse, List.getElem?_map, List.getElem?_eq_getElem hi'] at hx
        exact (Option.some.inj hx).symm
      subst ex
      have hlen : ps.length = i := by
        rw [Paired.length hps]
        have z := congrArg List.length hk
        rw [List.length_map, List.length_take, List.length_reverse] at z
        omega
      have hPl := hP.ln
      refine ⟨rfl, ?_⟩
      unfold tYes
      dsimp only
      rw [if_pos rfl]
      refine ⟨_, rfl, _, rfl, r, 12, rfl, hR2, by decide, by decide, fun H3 d d0 d1 hR3 B3 => ⟨_, _, rfl, rfl, by rw [sizeLine_eq]; show 2 ≤ 16777216; decide, fun T' nT => ?_⟩⟩
      have hD3 := B3 _ _ rD.symm hD2
      have DT : D ≠ T' := ne_of_none hD3 nT
      refine ⟨ps.map V.ref, (upd_ne DT).trans hD3, by rw [List.length_map, sizeLine_eq]; omega, ?_⟩
      have S4 := fresh_upd (o := .tup [V.str ns.reverse[i], V.int (1 + d)]) nT
      have hps3 : PsAt H3 ps es := hps.same fun c xs e => B3 _ _ (fun z => by
        obtain ⟨x, y, e2, _⟩ := hR2
        rw [z, e2] at e
        cases e) e
      refine ⟨(hR3.same S4).upd rD.symm, ?_, ps ++ [T'], es ++ [(ns.reverse[i], 1 + d)], ?_, ?_, ?_, fun q hq => ?_⟩
      · exact But.upd ((B2.trans B3).trans (But.of S4)) hD
      · rw [upd_same, List.map_append]
        rfl
      · refine (hps3.same fun c xs e => ?_).snoc ?_
        · have cT : c ≠ T' := ne_of_none e nT
          have cD : c ≠ D := fun z => by
            rw [z, hD3] at e
            cases e
          rw [upd_ne cD, upd_ne cT]
          exact e
        · rw [upd_ne DT.symm]
          exact upd_same
      · rw [List.map_append, hk, List.take_add_one, List.getElem?_eq_getElem hi']
        rfl
      · rcases List.mem_append.mp hq with z | z
        · exact hb q z
        · rw [List.mem_singleton.mp z]
          exact ⟨by show 1 ≤ 1 + d; omega, by show 1 + d ≤ 12; omega⟩
    · rintro H2 ⟨hR2, B2, ps, es, hD2, hps, hk, hb⟩
      have hk' : es.map (·.1) = ns.reverse := by
        rw [hk, List.length_reverse, List.length_map]
        exact List.take_of_length_le (by rw [List.length_reverse]; exact Nat.le_refl _)
      have hnd : (es.map (·.1)).Nodup := by
        rw [hk']
        exact (List.reverse_perm ns).nodup_iff.mpr hP.nd
      refine ⟨D, ps, _, rfl, SqL.of hD2, hps.pairs, fun R nR => ?_⟩
      have S7 : Same H2 (upd H2 R (.dK (mergeK [] (kv es)))) := fresh_upd nR
      have e7 : upd H2 R (.dK (mergeK [] (kv es))) R = some (.dK (kv es)) := by rw [upd_same, merge_kv hnd]
      generalize upd H2 R (.dK (mergeK [] (kv es))) = H3 at S7 e7
      have hR3 := hR2.same S7
      have B13 : But r H H3 := ((But.of S1).trans B2).trans (But.of S7)
      have nR0 : H R = none := none_of hR ((But.of S1).trans B2) hR2 nR
      have rR := hR.ne nR0
      have k0 : NuE ns 12 10 es := by
        refine ⟨hnd, fun q hq => hP.nm _ ?_, hb, fun n hn => by rw [hk']; exact List.mem_reverse.mpr hn, ?_⟩
        · have z : q.1 ∈ es.map (·.1) := List.mem_map.mpr ⟨q, hq, rfl⟩
          rw [hk'] at z
          exact List.mem_reverse.mp z
        · have z := congrArg List.length hk'
          rw [List.length_map, List.length_reverse] at z
          have := hP.ln
          omega
      refine hq _ H3 r l R ns _ ⟨hR3, lr, rR.symm, B13 _ _ lr hl, hP, es, e7, k0⟩ fun H' es' z hR' e' k' => q H' R es' (fun b u hb e => ?_) hR' nR0 e' k'
      exact z b u hb (ne_of_none e nR0) (B13 _ _ hb e)
end
end K12
set_option maxHeartbeats 8000000
namespace K12
open PySem PySem.Spec PyProof.Rows L2

/-! ### _law_point -/
structure PtE (m : Nat) (es : Es) : Prop where
  nd : (es.map (·.1)).Nodup
  nm : ∀ q ∈ es, isNm q.1 = true
  bd : ∀ q ∈ es, 0 ≤ q.2 ∧ q.2 ≤ 20000000000000000000000000 + m
  ln : es.length ≤ m
theorem PtE.put {m : Nat} {es : Es} (h : PtE m es) {n : Str} {v : Int} (hn : isNm n = true) (hv : 0 ≤ v ∧ v ≤ 20000000000000000000000000 + m + 1) : PtE (m + 1) (putE es n v) := by
  refine ⟨nod_put h.nd n v, fun q hq => ?_, fun q hq => ?_, ?_⟩
  · rcases mem_put hq with z | z
    · exact h.nm q z
    · rw [z]; exact hn
  · rcases mem_put hq with z | z
    · have := h.bd q z
      omega
    · rw [z]
      show 0 ≤ v ∧ v ≤ _
      omega
  · have z := len_put es n v
    have := h.ln
    omega
theorem PtE.mono {m k : Nat} {es : Es} (h : PtE m es) (hk : m ≤ k) : PtE k es := ⟨h.nd, h.nm, fun q hq => by have := h.bd q hq; omega, Nat.le_trans h.ln hk⟩
abbrev sPnt : Stmt := top 57
def spPnt : Sp := fun vs H Q _ => ∃ (r l : Addr) (ns : List Str), vs = [.ref r, .ref l] ∧ Rg H r ∧ l ≠ r ∧ H l = some (.lst (ns.map V.str)) ∧ Pool ns ∧
  ∀ (H' : Hp) (D : Addr) (es : Es), But r H H' → Rg H' r → H D = none → H' D = some (.dK (kv es)) → PtE 11 es → Q (.ref D) H'
def NPn : List Str := ["_law_rng_here", "_law_names_here", "_law_found", "_law_name", "_law_way"]
section
variable {P : Program} {w : World} {K : PySem.W.Frag} {mg : Str → Option Value} {base : Heap}
theorem scPnt : FnScope NPn ["_law_rng_here", "_law_names_here"] (defScope sPnt) :=
  ⟨rfl, rfl, rfl, by decide +kernel, rfl, by decide +kernel, by decide +kernel⟩
theorem ok_pnt {f fD : Addr} {fd fdD : FuncData} (F : Fun K "_law_point" "_law_point" sPnt f fd)
    (GD : FnOk P w K mg base CX0 1 fD fdD ["_law_rng_here", "_law_many"] spDraw) (kD : PySem.W.keepIn K (.ref fD) = true) (bD : Binds K fdD ["_law_rng_here", "_law_many"] []) (gD : mg "_law_draw" = some (.ref fD)) :
    FnOk P w K mg base CX0 2 f fd ["_law_rng_here", "_law_names_here"] spPnt := by
  refine F.ok scPnt (fun vs H Q E h => ?_) (fun cdv A outer s H vs Q E hr h => ?_)
  · obtain ⟨r, l, ns, rfl, _⟩ := h
    rfl
  · obtain ⟨r, l, ns, rfl, hR, lr, hl, hP, q⟩ := h
    have hu : (A.deeper (envOfC "_law_point" (defScope sPnt) s.heap.objs.size f cdv)).units + 1 < cLine := by have := hr.units; omega
    refine ⟨_, pss_cons (ps_set (i := 2) scPnt.nd rfl (.inl rfl) pe_dnewK)
      (pss_cons (ps_for PassesOwn.never rfl (pi_list (pe_op op_cat (pv 1) (pe_lst (pa_cons pe_str pa_nil)))) (pg_name (i := 3) scPnt.nd rfl (Or.inl rfl))
        (pss_cons (ps_set (i := 4) scPnt.nd rfl (.inl rfl) (pe_call GD hr rfl gD kD bD .nil pass0 (pa_cons (pv 0) (pa_cons pe_int pa_nil))))
        (pss_one (ps_if (pt_cmpR op_gt (pv 4) pe_int (nomark _))
          (pss_one (ps_dput hu (pv 2) (pv 3) (pe_ix ix_list (pe_lst (pa_cons pe_int (pa_cons (pe_call GD hr rfl gD kD bD .nil pass0 (pa_cons (pv 0) (pa_cons pe_int pa_nil)))
            (pa_cons (pe_op op_add (pe_op op_pow pe_int pe_int) (pe_call GD hr rfl gD kD bD .nil pass0 (pa_cons (pv 0) (pa_cons (pe_op op_pow pe_int pe_int) pa_nil)))) pa_nil)))) (pe_op op_sub (pv 4) pe_int) (fun _ _ => rfl)) rfl)) pss_nil))))
      (pss_one (ps_ret (pv 2)))), ?_⟩
    intro p np
    have S0 := fresh_upd (o := .dK []) np
    have rp := hR.ne np
    have ep : upd H p (.dK []) p = some (.dK (kv [])) := upd_same
    generalize upd H p (.dK []) = H1 at S0 ep
    have hR1 := hR.same S0
    refine ⟨_, rfl, by rw [sizeLine_eq]; show 1 ≤ 16777216; decide, fun l1 n1 => ?_⟩
    have S1 := fresh_upd (o := .lst [V.str "zzzzz"]) n1
    have e1 : upd H1 l1 (.lst [V.str "zzzzz"]) l1 = some (.lst [V.str "zzzzz"]) := upd_same
    generalize upd H1 l1 (.lst [V.str "zzzzz"]) = H2 at S1 e1
    have hPl := hP.ln
    refine ⟨l, l1, _, _, rfl, rfl, S1 _ _ (S0 _ _ hl), e1, by rw [List.length_map, sizeLine_eq]; show _ + 1 ≤ _; omega, fun L nL => ?_⟩
    have S2 := fresh_upd (o := .lst (ns.map V.str ++ [V.str "zzzzz"])) nL
    have e2 : upd H2 L (.lst (ns.map V.str ++ [V.str "zzzzz"])) L = some (.lst ((ns ++ [("zzzzz" : Str)]).map V.str)) := by
      rw [upd_same, List.map_append]
      rfl
    generalize upd H2 L (.lst (ns.map V.str ++ [V.str "zzzzz"])) = H3 at S2 e2
    have S13 := S1.trans S2
    have S03 := S0.trans S13
    have hR3 := hR1.same S13
    have Lr : L ≠ r := fun z => by
      obtain ⟨x, y, e, _⟩ := hR1.same S1
      rw [z, e] at nL
      cases nL
    have hxs : (ns.map V.str ++ [V.str "zzzzz"]) = (ns ++ [("zzzzz" : Str)]).map V.str := by
      rw [List.map_append]
      rfl
    have hnm : ∀ n ∈ ns ++ [("zzzzz" : Str)], isNm n = true := fun n hn => by
      rcases List.mem_append.mp hn with z | z
      · exact hP.nm n z
      · rw [List.mem_singleton.mp z]
        decide +kernel
    have hlen : (ns ++ [("zzzzz" : Str)]).length ≤ 11 := by
      rw [List.length_append]
      show _ + 1 ≤ _
      omega
    generalize ns ++ [("zzzzz" : Str)] = N at e2 hnm hlen
    refine ⟨L, rfl, ⟨_, SqL.of e2⟩, for_it (walk_list (K := K) (a := L) (xs := N.map V.str)) (fun i σ H4 => (∃ o3 o4, σ = [some (.ref r), some (.ref l), some (.ref p), o3, o4]) ∧ Rg H4 r ∧ But r H H4 ∧ H4 L = some (.lst (N.map V.str)) ∧
      ∃ es, H4 p = some (.dK (kv es)) ∧ PtE i es)
      ⟨⟨none, none, rfl⟩, hR3, But.of S03, e2, [], S13 _ _ ep, List.Pairwise.nil, (fun q h => nomatch h), (fun q h => nomatch h), Nat.le_refl _⟩ (fun i σ H4 _ h => SqL.of h.2.2.2.1) ?_ ?_⟩
    · rintro i x σ H4 H5 hi ⟨⟨o3, o4, rfl⟩, hR4, B4, hL4, es, hp4, hE⟩ ⟨rfl, hx⟩
      obtain ⟨n, hn, rfl⟩ := List.mem_map.mp (List.mem_of_getElem? hx)
      rw [List.length_map] at hi
      have hel := hE.ln
      refine ⟨_, rfl, r, 4, rfl, hR4, by decide, by decide, fun H6 d d0 d1 hR6 B6 => ?_⟩
      have hp6 := B6 _ _ rp.symm hp4
      have hL6 := B6 _ _ Lr hL4
      refine ⟨_, rfl, _, _, rfl, rfl, _, rfl, ?_⟩
      refine ite2 (fun h0 => ?_) fun h0 => next_ ?_
      · have h0' := of_decide_eq_true h0
        refine ⟨_, rfl, r, 6, rfl, hR6, by decide, by decide, fun H7 a a0 a1 hR7 B7 => ?_⟩
        refine ⟨_, _, rfl, rfl, ⟨by decide, by decide, by decide⟩, _, rfl, _, _, rfl, rfl, ⟨by decide, by decide, by decide⟩, r, _, rfl, hR7, by decide, by decide, fun H8 c c0 c1 hR8 B8 => ?_⟩
        have e6 : (10 : Int) ^ Int.toNat 6 = 1000000 := by decide
        have e25 : (10 : Int) ^ Int.toNat 25 = 10000000000000000000000000 := by decide
        rw [e6] at c1
        refine ⟨_, _, rfl, rfl, by rw [sizeLine_eq]; show 3 ≤ 16777216; decide, fun t nt => ?_⟩
        have S9 := fresh_upd (o := .lst [V.int 0, V.int a, V.int (10 ^ Int.toNat 25 + c)]) nt
        have e9 : upd H8 t (.lst [V.int 0, V.int a, V.int (10 ^ Int.toNat 25 + c)]) t = some (.lst [V.int 0, V.int a, V.int (10 ^ Int.toNat 25 + c)]) := upd_same
        generalize upd H8 t (.lst [V.int 0, V.int a, V.int (10 ^ Int.toNat 25 + c)]) = H9 at S9 e9
        have hR9 := hR8.same S9
        have B69 := (B7.trans B8).trans (But.of S9)
        have hp9 := B69 _ _ rp.symm hp6
        have hL9 := B69 _ _ Lr hL6
        obtain ⟨v, hv, v0, v1⟩ : ∃ v : Int, atI [V.int 0, V.int a, V.int (10 ^ Int.toNat 25 + c)] (d - 1) = some (.int v) ∧ 0 ≤ v ∧ v ≤ 20000000000000000000000000 := by
          rw [e25]
          obtain rfl | rfl | rfl : d = 1 ∨ d = 2 ∨ d = 3 := by omega
          · exact ⟨0, rfl, by decide, by decide⟩
          · exact ⟨a, rfl, by omega, by omega⟩
          · exact ⟨_, rfl, by omega, by omega⟩
        refine ⟨_, rfl, _, _, rfl, rfl, t, _, d - 1, .int v, rfl, rfl, SqL.of e9, hv, ?_⟩
        refine ⟨_, rfl, _, rfl, p, _, rfl, .inl ⟨_, ky n, hp9, rfl, by rw [kv_len, sizeLine_eq]; omega, rfl⟩, ⟨_, _, rfl⟩, hR9.upd rp.symm, ?_, ?_, putE es n v, by rw [upd_same, kv_put], hE.put (hnm n hn) ⟨v0, by omega⟩⟩
        · exact But.upd ((B4.trans B6).trans B69) np
        · exact (upd_ne (fun z => by rw [z, hp9] at hL9; cases hL9)).trans hL9
      · exact ⟨⟨_, _, rfl⟩, hR6, B4.trans B6, hL6, es, hp6, hE.mono (Nat.le_succ _)⟩
    · rintro σ H4 ⟨⟨o3, o4, rfl⟩, hR4, B4, hL4, es, hp4, hE⟩
      rw [List.length_map] at hE
      exact ⟨_, rfl, q _ p es B4 hR4 np hp4 (hE.mono hlen)⟩
end
end K12
set_option maxHeartbeats 8000000
namespace K12
open PySem PySem.Spec PyProof.Rows L2

/-! ### _law_value -/
theorem upV_snoc (N : Str → Nat) (q : Str × Int) : ∀ es : Es, upV (es ++ [q]) N = upV es N * (if 0 < q.2 then N q.1 ^ q.2.toNat else 1)
  | [] => by
    show (if 0 < q.2 then N q.1 ^ q.2.toNat else 1) * 1 = 1 * _
    rw [Nat.mul_one, Nat.one_mul]
  | p :: r => by
    show (if 0 < p.2 then N p.1 ^ p.2.toNat else 1) * upV (r ++ [q]) N = (if 0 < p.2 then N p.1 ^ p.2.toNat else 1) * upV r N * _
    rw [upV_snoc N q r, Nat.mul_assoc]
theorem dnV_snoc (N : Str → Nat) (q : Str × Int) : ∀ es : Es, dnV (es ++ [q]) N = dnV es N * (if q.2 < 0 then N q.1 ^ (-q.2).toNat else 1)
  | [] => by
    show (if q.2 < 0 then N q.1 ^ (-q.2).toNat else 1) * 1 = 1 * _
    rw [Nat.mul_one, Nat.one_mul]
  | p :: r => by
    show (if p.2 < 0 then N p.1 ^ (-p.2).toNat else 1) * dnV (r ++ [q]) N = (if p.2 < 0 then N p.1 ^ (-p.2).toNat else 1) * dnV r N * _
    rw [dnV_snoc N q r, Nat.mul_assoc]
theorem bnd_take (L : Str → Nat) : ∀ (es : Es) (i : Nat), bnd (es.take i) L ≤ bnd es L
  | [], i => by simp
  | p :: r, 0 => Nat.zero_le _
  | p :: r, i + 1 => by
    have := bnd_take L r i
    show p.2.natAbs * L p.1 + bnd (r.take i) L ≤ p.2.natAbs * L p.1 + bnd r L
    omega
/-- what the law reckons -/
def vV (es : Es) (N : Str → Nat) : V := if dnV es N ∣ upV es N then .int ((upV es N / dnV es N : Nat) : Int) else .non
abbrev sVal : Stmt := top 58
abbrev sExpL : Stmt := top 59
def spVal : Sp := fun vs H Q _ => ∃ (m d : Addr) (es ms : Es) (L : Str → Nat), vs = [.ref m, .ref d] ∧ H m = some (.dK (kv es)) ∧ NumD H d ms ∧ d ≠ m ∧ (∀ q ∈ es, q.1 ∈ ms.map (·.1)) ∧ (∀ q ∈ es, q.2.natAbs ≤ 1000) ∧
  bnd es L ≤ 1900 ∧ (∀ q ∈ es, nOf ms q.1 < 2 ^ L q.1) ∧ es.length < 64 ∧ ∀ H', Same H H' → Q (vV es (nOf ms)) H'
def NVa : List Str := ["_law_model", "_law_numbers_here", "_law_above", "_law_below", "_law_name", "_law_power", "_law_turn"]
theorem wm2 {x z : Nat} (hx : x ≤ 2 ^ 1900) (hz : z ≤ 2 ^ 1900) : CMulW (z : Int) (x : Int) := by
  have h : (2 : Nat) ^ 1900 < 2 ^ 2000 := Nat.pow_lt_pow_right (by decide) (by decide)
  exact wide_mul (a := 2000) (b := 2000) (by rw [Int.natAbs_natCast]; omega) (by rw [Int.natAbs_natCast]; omega) (by decide) (by decide) (by decide)
theorem wd2 {x z : Nat} (x0 : 0 < x) (hx : x ≤ 2 ^ 1900) : CDivW (z : Int) (x : Int) := by
  have h : (2 : Nat) ^ 1900 < 2 ^ 2000 := Nat.pow_lt_pow_right (by decide) (by decide)
  exact wide_div (b := 2000) (by omega) (by rw [Int.natAbs_natCast]; omega) (by decide) (by decide)
section
variable {P : Program} {w : World} {K : PySem.W.Frag} {mg : Str → Option Value} {base : Heap}
theorem scVal : FnScope NVa ["_law_model", "_law_numbers_here"] (defScope sVal) :=
  ⟨rfl, rfl, rfl, by decide +kernel, rfl, by decide +kernel, by decide +kernel⟩
theorem ok_val {f : Addr} {fd : FuncData} (F : Fun K "_law_value" "_law_value" sVal f fd) (T : Nb mg) :
    FnOk P w K mg base CX0 1 f fd ["_law_model", "_law_numbers_here"] spVal := by
  refine F.ok scVal (fun vs H Q E h => ?_) (fun cdv A outer s H vs Q E hr h => ?_)
  · obtain ⟨m, d, es, ms, L, rfl, _⟩ := h
    rfl
  · obtain ⟨m, d, es, ms, L, rfl, hm, hD, dm, hin, hbig, hb, hL, hz, q⟩ := h
    have hu : (A.deeper (envOfC "_law_value" (defScope sVal) s.heap.objs.size f cdv)).units + 1 < cLine := by have := hr.units; omega
    refine ⟨_, pss_cons (ps_asg (pe_tup (pa_cons pe_int (pa_cons pe_int pa_nil))) (pg_tup rfl (pgs_cons (pg_name (i := 2) scVal.nd rfl (Or.inl rfl)) (pgs_cons (pg_name (i := 3) scVal.nd rfl (Or.inl rfl)) pgs_nil))))
      (pss_cons (ps_lock (ps_for PassesOwn.never rfl (pi_items (pv 0)) (pg_tup rfl (pgs_cons (pg_name (i := 4) scVal.nd rfl (Or.inl rfl)) (pgs_cons (pg_name (i := 5) scVal.nd rfl (Or.inl rfl)) pgs_nil)))
        (pss_one (ps_for PassesOwn.never rfl (pi_range1 (by rfl) T.range (pa_cons (pe_callB call_abs (by rfl) T.abs (by decide +kernel) (pa_cons (pv 5) pa_nil)) pa_nil)) (pg_name (i := 6) scVal.nd rfl (Or.inl rfl))
          (pss_one (ps_if (pt_cmpR op_gt (pv 5) pe_int (nomark _))
            (pss_one (ps_set (i := 2) scVal.nd rfl (.inl rfl) (pe_op op_mulW (pv 2) (pe_dget hu (pv 1) (pv 4) (fun _ _ => rfl)))))
            (pss_one (ps_set (i := 3) scVal.nd rfl (.inl rfl) (pe_op op_mulW (pv 3) (pe_dget hu (pv 1) (pv 4) (fun _ _ => rfl)))))))))))
      (pss_one (ps_ret (pe_ifExp (pt_cmpR op_eq (pe_op op_sub (pv 2) (pe_op op_mulW (pe_op op_fdivW (pv 2) (pv 3)) (pv 3))) pe_int (nomark _)) (pe_op op_fdivW (pv 2) (pv 3)) pe_non)))), ?_⟩
    have hlook := fun q (hq : q ∈ es) => hD.look (hin q hq)
    have hpos : ∀ q ∈ es, 0 < nOf ms q.1 := fun q hq => (hlook q hq).2.1
    have hd0 := hD.at_
    generalize nOf ms = N at hlook hpos hL q
    have up_le : ∀ i, upV (es.take i) N ≤ 2 ^ 1900 := fun i =>
      Nat.le_trans (upV_lt (L := L) fun q hq => hL q (List.mem_of_mem_take hq)) (Nat.pow_le_pow_right (by decide) (Nat.le_trans (bnd_take L es i) hb))
    have dn_le : ∀ i, dnV (es.take i) N ≤ 2 ^ 1900 := fun i =>
      Nat.le_trans (dnV_lt (L := L) fun q hq => hL q (List.mem_of_mem_take hq)) (Nat.pow_le_pow_right (by decide) (Nat.le_trans (bnd_take L es i) hb))
    have up_pos : ∀ i, 0 < upV (es.take i) N := fun i => upV_pos fun q hq => hpos q (List.mem_of_mem_take hq)
    have dn_pos : ∀ i, 0 < dnV (es.take i) N := fun i => dnV_pos fun q hq => hpos q (List.mem_of_mem_take hq)
    refine ⟨by rw [sizeLine_eq]; show 2 ≤ 16777216; decide, fun t0 nt0 => ⟨t0, _, rfl, SqT.of upd_same, rfl, _, _, rfl, _, _, rfl, rfl, ?_⟩⟩
    have S00 := fresh_upd (o := .tup [V.int 1, V.int 1]) nt0
    have hm' := S00 _ _ hm
    have hd' := S00 _ _ hd0
    generalize upd H t0 (.tup [V.int 1, V.int 1]) = H1 at S00 hm' hd'
    refine ⟨m, _, hm', trivial, fun od => ?_⟩
    refine ⟨_, rfl, m, od, kv es, rfl, upd_same, for_it walk_items (fun i σ H2 => (∃ o4 o5 o6, σ = [some (.ref m), some (.ref d), some (.int ((upV (es.take i) N : Nat) : Int)), some (.int ((dnV (es.take i) N : Nat) : Int)), o4, o5, o6]) ∧
      H2 m = some (.frz od (.dK (kv es))) ∧ ∀ c o, c ≠ m → H1 c = some o → H2 c = some o)
      ⟨⟨none, none, none, rfl⟩, upd_same, fun c o hc e => (upd_ne hc).trans e⟩ (fun i σ H2 _ h => h.2.1) ?_ ?_⟩
    · rintro i v σ H2 H3 hi ⟨⟨o4, o5, o6, rfl⟩, hm2, S2⟩ ⟨T', y, z, rfl, nT, rfl, e1, e2⟩
      rw [kv_len] at hi
      have ei : (kv es)[i]? = some (ky es[i].1, V.int es[i].2) := by
        unfold kv
        rw [List.getElem?_map, List.getElem?_eq_getElem hi]
        rfl
      dsimp only at e1 e2
      rw [ei] at e1 e2
      cases e1
      cases e2
      have hq := List.getElem_mem hi
      have mT : m ≠ T' := ne_of_none hm2 nT
      have S3 : ∀ c o, c ≠ m → H1 c = some o → (upd H2 T' (.tup [kV (ky es[i].1), V.int es[i].2])) c = some o := fun c o hc e => (upd_ne (ne_of_none (S2 c o hc e) nT)).trans (S2 c o hc e)
      have hm3 : (upd H2 T' (.tup [kV (ky es[i].1), V.int es[i].2])) m = some (.frz od (.dK (kv es))) := (upd_ne mT).trans hm2
      have hsq : SqT K (upd H2 T' (.tup [kV (ky es[i].1), V.int es[i].2])) T' [kV (ky es[i].1), V.int es[i].2] := SqT.of upd_same
      have et : es.take (i + 1) = es.take i ++ [es[i]] := by
        rw [List.take_add_one, List.getElem?_eq_getElem hi]
        rfl
      have hu1 := up_le (i + 1)
      have hd1 := dn_le (i + 1)
      rw [et, upV_snoc] at hu1
      rw [et, dnV_snoc] at hd1
      rw [et, upV_snoc, dnV_snoc]
      have hu0 := up_pos i
      have hdd0 := dn_pos i
      obtain ⟨lk, np, _⟩ := hlook _ hq
      have hbg := hbig _ hq
      have dg : DGet (upd H2 T' (.tup [kV (ky es[i].1), V.int es[i].2])) d (.str es[i].1) (some (.int (N es[i].1 : Int))) :=
        .inl ⟨_, ky es[i].1, .inl (S3 _ _ dm hd'), rfl, by rw [val_kv, lk]; rfl⟩
      generalize upd H2 T' (.tup [kV (ky es[i].1), V.int es[i].2]) = H3 at S3 hm3 dg hsq
      refine ⟨T', _, rfl, hsq, rfl, _, _, rfl, _, _, rfl, rfl, ?_⟩
      clear hbg
      have hbg := hbig _ hq
      generalize N es[i].1 = n at hu1 hd1 np dg
      generalize upV (es.take i) N = a at hu1 hu0
      generalize dnV (es.take i) N = b at hd1 hdd0
      generalize es[i].2 = e at hu1 hd1 hbg
      have pw_le : ∀ {x j : Nat}, 0 < x → j ≤ e.natAbs → x * n ^ e.natAbs ≤ 2 ^ 1900 → x * n ^ j ≤ 2 ^ 1900 := fun {x j} hx hj h => Nat.le_trans (Nat.mul_le_mul_left _ (Nat.pow_le_pow_right np hj)) h
      refine ⟨_, rfl, _, rfl, _, rfl, by split <;> omega, by split <;> omega, ?_⟩
      refine for_it (walk_range (lo := 0) (n := Int.toNat (if e < 0 then -e else e))) (fun j σ H4 => (∃ o6, σ = [some (.ref m), some (.ref d), some (.int ((a * (if 0 < e then n ^ j else 1) : Nat) : Int)), some (.int ((b * (if e < 0 then n ^ j else 1) : Nat) : Int)), some (.str es[i].1), some (.int e), o6]) ∧
        H4 = H3) ⟨⟨o6, ?_⟩, rfl⟩ (fun _ _ _ _ _ => trivial) ?_ ?_
      · rw [Nat.pow_zero, ite_self, ite_self, Nat.mul_one, Nat.mul_one]
        rfl
      · rintro j x σ H4 H5 hj ⟨⟨o6', rfl⟩, rfl⟩ ⟨rfl, rfl⟩
        have hj' : j + 1 ≤ e.natAbs := by
          have : Int.toNat (if e < 0 then -e else e) = e.natAbs := by split <;> omega
          omega
        refine ⟨_, rfl, _, _, rfl, rfl, _, rfl, ?_⟩
        by_cases h0 : 0 < e
        · have h1 : ¬ e < 0 := by omega
          rw [if_pos h0] at hu1
          have en : e.toNat = e.natAbs := by omega
          rw [en] at hu1
          refine iteT' (decide_eq_true h0) ?_
          simp only [if_pos h0, if_neg h1]
          refine ⟨_, rfl, _, rfl, _, rfl, d, _, rfl, dg, _, _, rfl, rfl, ?_, ⟨some (.int (0 + (j : Int))), ?_⟩, rfl⟩
          · refine wm2 ?_ (pw_le hu0 (by omega) hu1)
            have z := pw_le hu0 (show 1 ≤ e.natAbs by omega) hu1
            rw [Nat.pow_one] at z
            exact Nat.le_trans (Nat.le_mul_of_pos_left _ hu0) z
          · rw [Nat.pow_succ, ← Nat.mul_assoc, Int.natCast_mul]
            rfl
        · refine iteN' h0 ?_
          have h1 : e < 0 := by omega
          rw [if_pos h1] at hd1
          have en : (-e).toNat = e.natAbs := by omega
          rw [en] at hd1
          simp only [if_neg h0, if_pos h1]
          refine ⟨_, rfl, _, rfl, _, rfl, d, _, rfl, dg, _, _, rfl, rfl, ?_, ⟨some (.int (0 + (j : Int))), ?_⟩, rfl⟩
          · refine wm2 ?_ (pw_le hdd0 (by omega) hd1)
            have z := pw_le hdd0 (show 1 ≤ e.natAbs by omega) hd1
            rw [Nat.pow_one] at z
            exact Nat.le_trans (Nat.le_mul_of_pos_left _ hdd0) z
          · rw [Nat.pow_succ, ← Nat.mul_assoc, Int.natCast_mul]
            rfl
      · rintro σ H4 ⟨⟨o6', rfl⟩, rfl⟩
        refine ⟨⟨some (.str es[i].1), some (.int e), o6', ?_⟩, hm3, S3⟩
        have e1 : (if 0 < e then n ^ Int.toNat (if e < 0 then -e else e) else 1) = if 0 < e then n ^ e.toNat else 1 := by
          by_cases h0 : 0 < e
          · rw [if_pos h0, if_pos h0, if_neg (show ¬ e < 0 by omega)]
          · rw [if_neg h0, if_neg h0]
        have e2 : (if e < 0 then n ^ Int.toNat (if e < 0 then -e else e) else 1) = if e < 0 then n ^ (-e).toNat else 1 := by
          by_cases h0 : e < 0
          · rw [if_pos h0, if_pos h0, if_pos h0]
          · rw [if_neg h0, if_neg h0]
        rw [e1, e2]
    · rintro σ H2 ⟨⟨o4, o5, o6, rfl⟩, hm2, S2⟩
      rw [kv_len, List.take_length]
      have hu := up_le es.length
      have hdn := dn_le es.length
      have hdp := dn_pos es.length
      rw [List.take_length] at hu hdn hdp
      refine ⟨hm2, ?_⟩
      have S4 : Same H (upd H2 m (.dK (kv es))) := fun c o e => by
        by_cases hc : c = m
        · subst hc
          rw [upd_same]
          exact hm.symm.trans e
        · exact (upd_ne hc).trans (S2 c o hc (S00 _ _ e))
      have hq := q _ S4
      unfold vV at hq
      generalize upV es N = a at hu hq
      generalize dnV es N = b at hdn hdp hq
      have hdiv : a / b ≤ 2 ^ 1900 := Nat.le_trans (Nat.div_le_self ..) hu
      refine ⟨_, rfl, _, rfl, _, rfl, _, _, rfl, rfl, wd2 hdp hdn, _, rfl, _, _, rfl, rfl, wm2 hdn hdiv, _, _, rfl, rfl, rfl, _, rfl, ?_⟩
      have key : ((a : Int) - (a : Int) / (b : Int) * (b : Int) = 0) ↔ b ∣ a := by
        have e1 : (a : Int) - (a : Int) / (b : Int) * (b : Int) = ((a % b : Nat) : Int) := by
          have z := Nat.div_add_mod a b
          have z2 : ((b * (a / b) + a % b : Nat) : Int) = (a : Int) := by rw [z]
          rw [Int.natCast_add, Int.natCast_mul] at z2
          have z3 : ((a / b : Nat) : Int) = (a : Int) / (b : Int) := rfl
          rw [z3, Int.mul_comm] at z2
          omega
        rw [e1]
        constructor
        · intro h
          exact Nat.dvd_of_mod_eq_zero (by omega)
        · intro h
          rw [Nat.mod_eq_zero_of_dvd h]
          rfl
      by_cases hdv : b ∣ a
      · rw [if_pos hdv] at hq
        refine iteT' (decide_eq_true (congrArg V.int (key.mpr hdv))) ?_
        exact ⟨_, rfl, _, rfl, _, _, rfl, rfl, wd2 hdp hdn, hq⟩
      · rw [if_neg hdv] at hq
        refine iteN' (fun z => hdv (key.mp (V.int.inj z))) hq
end
end K12
set_option maxHeartbeats 8000000
namespace K12
open PySem PySem.Spec PyProof.Rows L2

/-! ### _law_exponent -/
def spExpL : Sp := fun vs H Q _ => ∃ (m d : Addr) (es ms : Es), vs = [.ref m, .ref d] ∧ H m = some (.dK (kv es)) ∧ H d = some (.dK (kv ms)) ∧ d ≠ m ∧ es.length < 64 ∧ (∀ q ∈ es, -(2 ^ 64) < q.2 ∧ q.2 < 2 ^ 64) ∧
  ∀ H', Same H H' → Q (.int (ptV es ms)) H'
def NEx : List Str := ["_law_model", "_law_point_here", "_law_name", "_law_power"]
section
variable {P : Program} {w : World} {K : PySem.W.Frag} {mg : Str → Option Value} {base : Heap}
theorem scExpL : FnScope NEx ["_law_model", "_law_point_here"] (defScope sExpL) :=
  ⟨rfl, rfl, rfl, by decide +kernel, rfl, by decide +kernel, by decide +kernel⟩
theorem ok_expL {f : Addr} {fd : FuncData} (F : Fun K "_law_exponent" "_law_exponent" sExpL f fd) (sN : mg "sum" = none) :
    FnOk P w K mg base CX0 1 f fd ["_law_model", "_law_point_here"] spExpL := by
  refine F.ok scExpL (fun vs H Q E h => ?_) (fun cdv A outer s H vs Q E hr h => ?_)
  · obtain ⟨m, d, es, ms, rfl, _⟩ := h
    rfl
  · obtain ⟨m, d, es, ms, rfl, hm, hd, dm, hz, hb, k⟩ := h
    have hu : (A.deeper (envOfC "_law_exponent" (defScope sExpL) s.heap.objs.size f cdv)).units + 1 < cLine := by have := hr.units; omega
    refine ⟨_, pss_one (ps_ret (pe_lock (pe_callB (cr_sum rfl) (by rfl) sN (by decide +kernel) (pa_cons
        (pe_lc (own := [("_law_name", 2), ("_law_power", 3)]) (g := gTup K 2 (gCons (gName 2) (gCons (gName 3) gNil))) (tt := tYes)
          (te := tOp (rI CMul fun i j => V.int (i * j)) (tVar 3) (tDGet2 (tVar 1) (tVar 2) (tC (.int 0)))) rfl scExpL.nd (pi_items (pv 0))
          (blkOk_by (own := [("_law_name", 2), ("_law_power", 3)]) (N := NEx) (sc := defScope sExpL) (by decide +kernel))
          (fun _ _ _ _ _ => pg_tup rfl (pgs_cons (pg_name (i := 2) scExpL.nd rfl (Or.inl rfl)) (pgs_cons (pg_name (i := 3) scExpL.nd rfl (Or.inl rfl)) pgs_nil)))
          (fun _ _ _ _ _ => pts_nil) (fun _ _ _ _ _ => by exact pe_op op_mul (pv 3) (pe_dget2 hu (pv 1) (pv 2) pe_int ⟨rfl, rfl, rfl, rfl⟩))) pa_nil)))), ?_⟩
    refine ⟨m, _, hm, trivial, fun od => ?_⟩
    refine ⟨_, rfl, m, od, kv es, rfl, upd_same, fun L hL => ?_⟩
    have Lm : L ≠ m := fun z => by
      rw [z, upd_same] at hL
      cases hL
    have hL0 : H L = none := by
      rw [upd_ne Lm] at hL
      exact hL
    refine lc_it walk_items (fun i H3 => H3 L = some (.lst (((es.take i).map fun q => q.2 * g0 ms q.1).map V.int)) ∧ H3 m = some (.frz od (.dK (kv es))) ∧ ∀ b o, b ≠ m → H b = some o → H3 b = some o)
      ⟨upd_same, (upd_ne Lm.symm).trans upd_same, fun b o e1 e2 => ?_⟩ (fun i H3 _ q => q.2.1) ?_ ?_
    · rw [upd_ne (ne_of_none e2 hL0), upd_ne e1]
      exact e2
    · rintro i v H3 H4 hi ⟨hL3, hm3, S3⟩ ⟨T, x, y, rfl, nT, rfl, e1, e2⟩
      rw [kv_len] at hi
      have ei : (kv es)[i]? = some (ky es[i].1, V.int es[i].2) := by
        unfold kv
        rw [List.getElem?_map, List.getElem?_eq_getElem hi]
        rfl
      dsimp only at e1 e2
      rw [ei] at e1 e2
      cases e1
      cases e2
      have LT : L ≠ T := ne_of_none hL3 nT
      have mT : m ≠ T := ne_of_none hm3 nT
      have hbi := hb es[i] (List.getElem_mem hi)
      have hd3 := S3 _ _ dm hd
      have g4 : (upd H3 T (.tup [kV (ky es[i].1), V.int es[i].2])) d = some (.dK (kv ms)) := (upd_ne (ne_of_none hd3 nT)).trans hd3
      refine ⟨T, _, rfl, SqT.of upd_same, rfl, _, _, rfl, _, _, rfl, rfl, rfl, ?_⟩
      unfold tYes
      dsimp only
      rw [if_pos rfl]
      refine ⟨_, rfl, _, rfl, d, rfl, .inl ⟨_, .inl g4⟩, _, rfl, _, DGet.k (k := ky es[i].1) g4, ?_⟩
      rw [get_int]
      refine ⟨_, _, rfl, rfl, .inl hbi, ?_⟩
      refine ⟨_, (upd_ne LT).trans hL3, by rw [List.length_map, List.length_map, List.length_take, sizeLine_eq]; omega, ?_, ?_, fun b o hb' e => ?_⟩
      · rw [upd_same, List.take_add_one, List.getElem?_eq_getElem hi, List.map_append, List.map_append]
        rfl
      · rw [upd_ne Lm.symm, upd_ne mT]
        exact hm3
      · rw [upd_ne (ne_of_none e hL0), upd_ne (ne_of_none (S3 b o hb' e) nT)]
        exact S3 b o hb' e
    · rintro H3 ⟨hL3, hm3, S3⟩
      rw [kv_len, List.take_length] at hL3
      refine ⟨L, _, rfl, SqL.of hL3, hm3, ?_⟩
      refine k _ fun b o e => ?_
      by_cases hbD : b = m
      · subst hbD
        rw [upd_same]
        exact hm.symm.trans e
      · exact (upd_ne hbD).trans (S3 b o hbD e)
end
end K12
set_option maxHeartbeats 8000000
namespace K12
open PySem PySem.Spec PyProof.Rows L2

/-! ### == while an exception is handled -/
section
variable {P : Program} {w : World} {K : PySem.W.Frag} {mg : Str → Option Value} {base : Heap} {C : Addr}
theorem ok_eqW {f : Addr} {fd : FuncData} (F : Fun K "__eq__" "Size.__eq__" sEq f fd) (T : Nk mg) (Tc : Ck K mg C) :
    FnW P w K mg base 1 f fd ["self", "other"] (spEqS K C) := by
  refine F.okW scEq (fun vs H Q h => ?_) (fun cdv A outer s H vs Q hr h => ?_)
  · obtain ⟨p, es, y, rfl, _⟩ := h
    rfl
  · obtain ⟨p, es, y, rfl, h1, h2⟩ := h
    have hu : (A.deeper (envOfC "Size.__eq__" (defScope sEq) s.heap.objs.size f cdv)).units < cLine := by have := hr.un; omega
    refine ⟨_, pss_one (ps_ret (pe_and (pe_callB call_isi (by rfl) T.isi (by decide +kernel) (pa_cons (pv 1) (pa_cons (pe_glob (v := .ref C) (by rfl) Tc.gC rfl) pa_nil)))
      (pe_one (pe_cmpR (op_eqI hu) (pe_fld (pv 0) rfl) (pe_fld (pv 1) rfl) (nomark _))))), ?_⟩
    obtain ⟨dx, D, p1, p2, p3, p4⟩ := h1
    rcases h2 with ⟨q, fs, rfl, ⟨dy, D', q1, q2, q3, q4⟩, k⟩ | ⟨t, ht, hk, k⟩
    · refine ⟨_, rfl, _, _, _, _, true, rfl, .own _, .base (.ins q1 Tc.cl Tc.cc Tc.cn Tc.ct Tc.co), ?_, _, rfl, ?_⟩
      · unfold PySem.W.kitOne
        rw [if_pos (by simp)]
      refine iteT' rfl ?_
      exact ⟨_, rfl, p, C, dx, _, _, rfl, p1, Tc.cl, Tc.nE, rfl, _, rfl, q, C, dy, _, _, rfl, q1, Tc.cl, Tc.nE, rfl, D, D', es, fs, rfl, rfl, p2, q2, p3, q3, k⟩
    · exact ⟨_, rfl, _, _, _, _, false, rfl, .own _, ht, hk, _, rfl, iteF k⟩
end
section
variable {X : Cx} {C f : Addr} {fd : FuncData} {ps : List Str} {sp : Sp} {n : Nat}
theorem op_ownW (F : FnW X.prog X.w X.K X.mg X.base n f fd ps sp) (hr : RoomW n X.A) (hs : PySem.W.findIn X.K (.ref C) "__eq__" = some (some (.ref f))) (hf : PySem.W.isFn X.K (.ref f) = true)
    (hb : Binds X.K fd ps []) (hsq : ∀ vs H (Q Q' : VK), (∀ v H', Q v H' → Q' v H') → sp vs H Q E0 → sp vs H Q' E0) : OpR X (compareOp .Eq) (rOwn C sp E0 id) := by
  intro pins s σ H x y v u Q I rx ry h
  obtain ⟨a, dx, fs, t, rfl, ha, ho, hsp⟩ := h
  cases rx
  obtain ⟨mA, J, _⟩ := ins_get I.hok ha
  obtain ⟨od, J, _⟩ := J.look
  obtain ⟨m, hF⟩ := I.fr
  refine PySem.W.cmp_K (op := .Eq) (tb := t) (by have := hr.un; omega) hF I.ok.mod.kin J (ho.looks I ry) ho.first hs hf ?_
  have hsp' : sp [.ref a, y] H (fun v H' => ∃ b, v = .bl b ∧ ∀ s', Inv X pins σ H' s' → EP X pins σ Q (.bool b) s') E0 := hsq _ _ _ _ (fun v H' q => by
    obtain ⟨b, e, q⟩ := q
    exact ⟨b, e, fun s' I' => ⟨.bl b, H', I', rfl, q⟩⟩) hsp
  have hl := F.len _ _ _ hsp'
  have r2 : Vals [V.ref a, y] [Value.ref a, u] := .cons rfl (.cons ry .nil)
  refine wpAny_call (codeAny_mono (F.run X.A X.stack s H ⟨[.ref a, u], []⟩ [.ref a, u] [.ref a, y] _ hr I.env0 (by
    have := hb s [.ref a, u] I.kIn (by simpa using hl)
    simpa using this) r2 hsp') fun r s' hq => ?_)
  cases r with
  | error e => exact pass0 pins σ H s e s' I hq
  | ok fl =>
    cases fl with
    | ret w =>
      obtain ⟨z, H', I', rz, b, ez, ex⟩ := I.after hq
      subst ez
      cases rz
      exact ex _ I'
    | next => exact False.elim hq
    | brk => exact False.elim hq
    | cont => exact False.elim hq
end

/-! ### what is told of great ints -/
theorem pow_1900 : (2 : Nat) ^ 1900 < 10 ^ 600 := by
  have h1 : (2 : Nat) ^ 1900 = (2 ^ 19) ^ 100 := by rw [← Nat.pow_mul]
  have h2 : (10 : Nat) ^ 600 = (10 ^ 6) ^ 100 := by rw [← Nat.pow_mul]
  rw [h1, h2]
  exact Nat.pow_lt_pow_left (by decide) (by decide)
theorem Sm.wide {v : Nat} (h : v ≤ 2 ^ 1900) : Sm (.int (v : Int)) 600 0 := by
  refine ⟨?_, by simp only [PyData.depth]; exact Nat.le_refl _, ?_⟩
  · simp only [PyData.showable]
    refine decide_eq_true ?_
    rw [Int.natAbs_natCast]
    exact PySem.Flt.log2_lt_of (by decide) (Nat.lt_of_le_of_lt h (Nat.pow_lt_pow_right (by decide) (by decide)))
  · simp only [PyData.shown]
    refine toString_length_le (by omega) (by decide) ?_
    have z := Nat.lt_of_le_of_lt h pow_1900
    have e : ((10 : Int) ^ 600) = ((10 ^ 600 : Nat) : Int) := (Int.natCast_pow 10 600).symm
    rw [e]
    exact Int.ofNat_lt.mpr z
theorem Sm.non : Sm .none 4 0 := ⟨by simp only [PyData.showable], by simp only [PyData.depth]; exact Nat.le_refl _, by decide +kernel⟩

/-! ### _law_is_at -/
abbrev sIsAt : Stmt := top 60
structure AtOk (es ms : Es) (L : Str → Nat) : Prop where
  has : ∀ q ∈ es, q.1 ∈ ms.map (·.1)
  big : ∀ q ∈ es, q.2.natAbs ≤ 1000
  bnd : bnd es L ≤ 1900
  lt : ∀ q ∈ es, nOf ms q.1 < 2 ^ L q.1
def spIsAt (C : Addr) : Sp := fun vs H Q _ => ∃ (p m d : Addr) (es ms : Es) (L : Str → Nat), vs = [.ref p, .ref m, .ref d] ∧ SizeAt C H p es ∧ H m = some (.dK (kv es)) ∧ NumD H d ms ∧ d ≠ m ∧ AtOk es ms L ∧
  ∀ H', Same H H' → Q (.bl true) H'
def NIa : List Str := ["_law_made", "_law_model", "_law_numbers_here", "_law_due", "e"]
/-- the classes of the errors -/
structure Xk (K : PySem.W.Frag) (mg : Str → Option Value) (CW CS : Addr) : Prop where
  gW : mg "NotWhole" = some (.ref CW)
  gS : mg "StateError" = some (.ref CS)
  ex : PySem.W.exmOne K (.ref CW) (.ref CW) = some true
  ki : PySem.W.kitOne K (.ref CW) (.ref CS) = some true
  no : PySem.W.findIn K (.ref CW) "size" = some none
  xg : XG K CW
section
variable {P : Program} {w : World} {K : PySem.W.Frag} {mg : Str → Option Value} {base : Heap} {C CW CS : Addr}
theorem scIsAt : FnScope NIa ["_law_made", "_law_model", "_law_numbers_here"] (defScope sIsAt) :=
  ⟨rfl, rfl, rfl, by decide +kernel, rfl, by decide +kernel, by decide +kernel⟩
theorem ok_isAt {f fV fA fE : Addr} {fd fdV fdA fdE : FuncData} (F : Fun K "_law_is_at" "_law_is_at" sIsAt f fd) (T : Nb mg) (Tk : Nk mg) (Tc : Ck K mg C) (hsys : (K.lookup sysModules).isSome = true) (Tx : Xk K mg CW CS)
    (GV : FnOk P w K mg base CX0 1 fV fdV ["_law_model", "_law_numbers_here"] spVal) (kV : PySem.W.keepIn K (.ref fV) = true) (bV : Binds K fdV ["_law_model", "_law_numbers_here"] []) (gV : mg "_law_value" = some (.ref fV))
    (GA : FnOk P w K mg base (L2.CX P w) 5 fA fdA ["self", "numbers"] (spAt C CW)) (mA : Meth K C "at" fA) (bA : Binds K fdA ["self", "numbers"] [])
    (GE : FnW P w K mg base 1 fE fdE ["self", "other"] (spEqS K C)) (mE : PySem.W.findIn K (.ref C) "__eq__" = some (some (.ref fE))) (iE : PySem.W.isFn K (.ref fE) = true) (bE : Binds K fdE ["self", "other"] []) :
    FnG P w K mg base 6 f fd ["_law_made", "_law_model", "_law_numbers_here"] (spIsAt C) := by
  have GV5 := GV.mono (k := 5) (by decide)
  refine F.okG scIsAt (fun vs H Q h => ?_) (fun cdv A outer s H vs Q hgu hr h => ?_)
  · obtain ⟨p, m, d, es, ms, L, rfl, _⟩ := h
    rfl
  · obtain ⟨p, m, d, es, ms, L, rfl, hz, hm, hD, dm, hA, k⟩ := h
    have hgu' : (A.deeper (envOfC "_law_is_at" (defScope sIsAt) s.heap.objs.size f cdv)).guards = some [] := hgu
    have hrw : ∀ v, RoomW 1 ((A.deeper (envOfC "_law_is_at" (defScope sIsAt) s.heap.objs.size f cdv)).mark v) := fun v => (RoomW.mark hr v).mono (by decide)
    refine ⟨_, pss_cons (ps_set (i := 3) scIsAt.nd rfl (.inl rfl) (pe_call GV5 hr rfl gV kV bV .nil pass0 (pa_cons (pv 1) (pa_cons (pv 2) pa_nil))))
      (pss_one (ps_try_as (i := 4) rfl rfl scIsAt.nd rfl rfl ⟨rfl, by decide, .inl Tx.gW⟩ takes0
        (fun W pn xe tk _ => pss_one (ps_ret (pe_cmpR op_eq
          (pe_callB (call_reprD hgu' hr.units hsys) (by rfl) T.repr (by decide +kernel) (pa_cons (pe_lst (pa_cons (pe_methE (pv 0) Tc.cl mA GA hr bA (fun σ => passAt tk σ) (pa_cons (pv 2) pa_nil)) pa_nil)) pa_nil))
          (pe_callB (call_reprD hgu' hr.units hsys) (by rfl) T.repr (by decide +kernel) (pa_cons (pe_lst (pa_cons (pv 3) pa_nil)) pa_nil)) (nomark _))))
        (fun a oe cls d pn hz hf => pss_one (ps_ret (pe_and (pe_cmpR op_isN (pv 3) pe_non (nomark _))
          (pe_and (pe_cmpR (op_ownW GE (hrw _) mE iE bE spEq_mono) (pe_xb Tx.xg Tx.no hz hf (pv 4)) (pv 0) (nomark _))
          (pe_one (pe_callB (call_xb Tx.xg hz hf) (by rfl) Tk.isi (by decide +kernel) (pa_cons (pv 4) (pa_cons (pe_glob (v := .ref CS) (by rfl) Tx.gS rfl) pa_nil)))))))))), ?_⟩
    obtain ⟨dx, D0, z1, z2, z3, z4, z5, z6⟩ := id hz
    refine ⟨_, rfl, _, rfl, m, d, es, ms, L, rfl, hm, hD, dm, hA.has, hA.big, hA.bnd, hA.lt, z6, fun H1 S1 => ?_⟩
    have hz1 := hz.same S1
    refine ⟨_, rfl, p, dx, _, rfl, S1 _ _ z1, rfl, _, rfl, p, d, es, ms, L, rfl, hz1, hD.same S1, hA.has, Nat.le_trans hA.bnd (by decide), hA.lt, fun hdv H2 S2 => ?_, fun hdv H2 dd S2 n2 e2 => ?_⟩
    · have hup := upV_lt hA.lt
      have hle : upV es (nOf ms) / dnV es (nOf ms) ≤ 2 ^ 1900 := Nat.le_trans (Nat.div_le_self ..) (Nat.le_trans hup (Nat.pow_le_pow_right (by decide) hA.bnd))
      have ev : vV es (nOf ms) = .int ((upV es (nOf ms) / dnV es (nOf ms) : Nat) : Int) := if_pos hdv
      rw [ev]
      generalize upV es (nOf ms) / dnV es (nOf ms) = v at hle
      have sm := Sm.list (xs := [PyData.int (v : Int)]) (B := 600) (n := 0) fun x hx => by
        rw [List.mem_singleton.mp hx]
        exact Sm.wide hle
      refine ⟨by rw [sizeLine_eq]; show 1 ≤ 16777216; decide, fun l nl => ?_⟩
      refine ⟨l, .list [.int (v : Int)], rfl, .lst upd_same (.cons (.int _) .nil), sm.sh, Nat.le_trans sm.dp (by decide), Nat.le_trans sm.ln (by rw [sizeLine_eq]; show 2 + 1 * (600 + 2) ≤ 16777216; decide), ?_⟩
      refine ⟨_, rfl, by rw [sizeLine_eq]; show 1 ≤ 16777216; decide, fun l2 nl2 => ?_⟩
      refine ⟨l2, .list [.int (v : Int)], rfl, .lst upd_same (.cons (.int _) .nil), sm.sh, Nat.le_trans sm.dp (by decide), Nat.le_trans sm.ln (by rw [sizeLine_eq]; show 2 + 1 * (600 + 2) ≤ 16777216; decide), ?_⟩
      refine ⟨rfl, ?_⟩
      rw [decide_eq_true rfl]
      exact k _ (S1.trans (S2.trans ((fresh_upd nl).trans (fresh_upd nl2))))
    · have ev : vV es (nOf ms) = .non := if_neg hdv
      rw [ev]
      refine ⟨true, Tx.ex, (fun _ a ha => ?_), (fun q => nomatch q)⟩
      have S02 := S1.trans S2
      refine ⟨_, rfl, rfl, _, rfl, ?_⟩
      rw [decide_eq_true rfl]
      refine iteT' rfl ?_
      have hz2 := hz.same S02
      refine ⟨_, rfl, rfl, rfl, dd, _, .ref p, rfl, e2, rfl, _, rfl, p, dx, _, _, rfl, S02 _ _ z1, .ins (S02 _ _ z1), p, es, _, rfl, hz2, .inl ⟨p, es, rfl, hz2, ?_⟩⟩
      rw [decide_eq_true rfl]
      refine ⟨_, rfl, _, rfl, iteT' rfl ?_⟩
      exact ⟨_, rfl, _, _, true, dd, _, rfl, rfl, rfl, e2, .own CS, Tx.ki, k _ S02⟩
end
end K12
set_option maxHeartbeats 8000000
namespace K12
open PySem PySem.Spec PyProof.Rows L2

/-! ### _law_both_right -/
abbrev sBoth : Stmt := top 61
def NBo : List Str := ["_law_made", "_law_model", "_law_numbers_here", "_law_point_here"]
theorem PtE.g0 {k : Nat} {ps : Es} (h : PtE k ps) (n : Str) : 0 ≤ K12.g0 ps n ∧ K12.g0 ps n ≤ 20000000000000000000000000 + k := by
  unfold K12.g0
  cases e : ps.lookup n with
  | none =>
    show (0 : Int) ≤ 0 ∧ (0 : Int) ≤ _
    omega
  | some v =>
    obtain ⟨q, hq, e2⟩ := List.mem_map.mp (look_mem.mp (show (ps.lookup n).isSome = true by rw [e]; rfl))
    have z := look_get h.nd (n := q.1) (v := q.2) hq
    rw [e2, e] at z
    show 0 ≤ v ∧ v ≤ _
    rw [Option.some.inj z]
    exact h.bd q hq
theorem ptV_le {k : Nat} {ps : Es} (h : PtE k ps) (hk : k ≤ 1000) : ∀ {es : Es}, (∀ q ∈ es, q.2.natAbs ≤ 1000) → (ptV es ps).natAbs ≤ es.length * (1000 * 10 ^ 26)
  | [], _ => Nat.zero_le _
  | q :: r, hb => by
    have ih := ptV_le h hk (es := r) fun p hp => hb p (List.mem_cons_of_mem _ hp)
    have hq := hb q (List.mem_cons_self ..)
    obtain ⟨g1, g2⟩ := h.g0 q.1
    have e : ptV (q :: r) ps = q.2 * K12.g0 ps q.1 + ptV r ps := rfl
    have h1 : (q.2 * K12.g0 ps q.1).natAbs ≤ 1000 * 10 ^ 26 := by
      rw [Int.natAbs_mul]
      refine Nat.mul_le_mul hq ?_
      have e27 : (10 : Nat) ^ 26 = 100000000000000000000000000 := by decide
      rw [e27]
      omega
    have h2 := Int.natAbs_add_le (q.2 * K12.g0 ps q.1) (ptV r ps)
    rw [e, List.length_cons, Nat.succ_mul]
    omega
theorem ptV_log {k : Nat} {ps es : Es} (h : PtE k ps) (hk : k ≤ 1000) (hb : ∀ q ∈ es, q.2.natAbs ≤ 1000) (hl : es.length < 64) : (ptV es ps).natAbs.log2 < 1920 := by
  have z := ptV_le h hk hb
  have e : 64 * (1000 * 10 ^ 26) < 2 ^ 200 := by decide
  have z2 : es.length * (1000 * 10 ^ 26) ≤ 64 * (1000 * 10 ^ 26) := Nat.mul_le_mul_right _ (by omega)
  have z3 : (ptV es ps).natAbs < 2 ^ 200 := by omega
  exact Nat.lt_of_lt_of_le (PySem.Flt.log2_lt_of (by decide) z3) (by decide)
structure PtD (H : Hp) (d : Addr) (ps : Es) : Prop where
  at_ : H d = some (.dK (kv ps))
  ok : PtE 20 ps
theorem PtD.same {H H' : Hp} {d : Addr} {ps : Es} (h : PtD H d ps) (S : Same H H') : PtD H' d ps := ⟨S _ _ h.at_, h.ok⟩
def spBoth (C : Addr) : Sp := fun vs H Q _ => ∃ (p m d e : Addr) (es ms ps : Es) (L : Str → Nat), vs = [.ref p, .ref m, .ref d, .ref e] ∧ SizeAt C H p es ∧ H m = some (.dK (kv es)) ∧ NumD H d ms ∧ d ≠ m ∧ AtOk es ms L ∧ PtD H e ps ∧ e ≠ m ∧
  ∀ H', Same H H' → Q (.bl true) H'
section
variable {P : Program} {w : World} {K : PySem.W.Frag} {mg : Str → Option Value} {base : Heap} {C : Addr}
theorem scBoth : FnScope NBo NBo (defScope sBoth) :=
  ⟨rfl, rfl, rfl, by decide +kernel, rfl, by decide +kernel, by decide +kernel⟩
theorem ok_both {f fI fP fX : Addr} {fd fdI fdP fdX : FuncData} (F : Fun K "_law_both_right" "_law_both_right" sBoth f fd) (T : Nb mg) (Tc : Ck K mg C)
    (GI : FnG P w K mg base 6 fI fdI ["_law_made", "_law_model", "_law_numbers_here"] (spIsAt C)) (kI : PySem.W.keepIn K (.ref fI) = true) (bI : Binds K fdI ["_law_made", "_law_model", "_law_numbers_here"] []) (gI : mg "_law_is_at" = some (.ref fI))
    (GP : FnOk P w K mg base CX0 5 fP fdP ["self", "point"] (spAtP C)) (mP : Meth K C "at_point" fP) (bP : Binds K fdP ["self", "point"] [])
    (GX : FnOk P w K mg base CX0 1 fX fdX ["_law_model", "_law_point_here"] spExpL) (kX : PySem.W.keepIn K (.ref fX) = true) (bX : Binds K fdX ["_law_model", "_law_point_here"] []) (gX : mg "_law_exponent" = some (.ref fX)) :
    FnG P w K mg base 7 f fd NBo (spBoth C) := by
  have GP6 := GP.mono (k := 6) (by decide)
  have GX6 := GX.mono (k := 6) (by decide)
  refine F.okG scBoth (fun vs H Q h => ?_) (fun cdv A outer s H vs Q hgu hr h => ?_)
  · obtain ⟨p, m, d, e, es, ms, ps, L, rfl, _⟩ := h
    rfl
  · obtain ⟨p, m, d, e, es, ms, ps, L, rfl, hz, hm, hD, dm, hA, hE, em, k⟩ := h
    have hgu' : (A.deeper (envOfC "_law_both_right" (defScope sBoth) s.heap.objs.size f cdv)).guards = some [] := hgu
    refine ⟨_, pss_one (ps_ret (pe_and (pe_callG GI hgu' hr rfl gI kI bI (pa_cons (pv 0) (pa_cons (pv 1) (pa_cons (pv 2) pa_nil))))
      (pe_one (pe_cmpR op_eq (pe_callB SkE.call_repr_int (by rfl) T.repr (by decide +kernel) (pa_cons (pe_meth (pv 0) Tc.cl mP GP6 hr bP .nil pass0 (pa_cons (pv 3) pa_nil)) pa_nil))
        (pe_callB SkE.call_repr_int (by rfl) T.repr (by decide +kernel) (pa_cons (pe_call GX6 hr rfl gX kX bX .nil pass0 (pa_cons (pv 1) (pa_cons (pv 3) pa_nil))) pa_nil)) (nomark _))))), ?_⟩
    obtain ⟨dx, D0, z1, z2, z3, z4, z5, z6⟩ := id hz
    refine ⟨_, rfl, _, rfl, _, rfl, p, m, d, es, ms, L, rfl, hz, hm, hD, dm, hA, fun H1 S1 => ⟨_, rfl, iteT' rfl ?_⟩⟩
    have hbb : ∀ q ∈ es, -(2 ^ 64) < q.2 ∧ q.2 < 2 ^ 64 := fun q hq => by
      have := hA.big q hq
      omega
    have hlog := ptV_log hE.ok (by decide) hA.big z6
    refine ⟨_, rfl, p, dx, _, rfl, S1 _ _ z1, rfl, _, rfl, p, e, es, ps, rfl, hz.same S1, hbb, S1 _ _ hE.at_, Nat.le_trans hE.ok.ln (by decide), hE.ok.nd, hE.ok.nm, fun q hq => (hE.ok.bd q hq).1, fun H2 S2 => ?_⟩
    have S02 := S1.trans S2
    refine ⟨_, rfl, hlog, _, rfl, _, rfl, m, e, es, ps, rfl, S02 _ _ hm, S02 _ _ hE.at_, em, z6, hbb, fun H3 S3 => ?_⟩
    refine ⟨_, rfl, hlog, rfl, ?_⟩
    rw [decide_eq_true rfl]
    exact k _ (S02.trans S3)
end
end K12
set_option maxHeartbeats 8000000
namespace K12
open PySem PySem.Spec PyProof.Rows L2

/-! ### _law_pair_right: rows -/
abbrev sPair : Stmt := top 62
def NPr : List Str := ["_law_rng_here", "_law_names_here", "_law_first", "_law_second", "_law_one", "_law_two", "_law_numbers_here", "_law_more", "_law_point_here", "_law_shown", "_law_under", "_law_name", "_law_power", "_law_rows", "_law_made", "_law_model", "_law_some"]
/-- a row: a Size and its model, away from what is changed -/
def RwOk (C : Addr) (H : Hp) (ns : List Str) (Av : List Addr) (t : Addr) : Prop := ∃ (p m dx D : Addr) (es : Es) (f : Str → Int), H t = some (.tup [.ref p, .ref m]) ∧ H p = some (.ins C dx [("_exponents", .ref D)]) ∧ SizeAt C H p es ∧
  H m = some (.dK (kv es)) ∧ Md ns 6 f es ∧ ∀ a ∈ Av, m ≠ a ∧ D ≠ a
theorem RwOk.step {C r t : Addr} {H H' : Hp} {ns : List Str} {Av : List Addr} (h : RwOk C H ns Av t) (hR : Rg H r) (hAv : ∀ a ∈ Av, ∃ kvs, H a = some (.dK kvs))
    (S : ∀ b o, b ≠ r → b ∉ Av → H b = some o → H' b = some o) : RwOk C H' ns Av t := by
  obtain ⟨p, m, dx, D, es, f, h1, h2, h3, h4, h5, h6⟩ := h
  obtain ⟨x, y, er, _⟩ := hR
  obtain ⟨dy, D', g1, g2, g3⟩ := id h3
  have e := h2.symm.trans g1
  have eD : D = D' := by
    injection e with e
    injection e with e1 e2 e3
    injection e3 with e3 _
    injection e3 with _ e3
    injection e3
  subst eD
  have k1 := S t _ (fun z => by rw [z, er] at h1; cases h1) (fun z => by obtain ⟨kvs, e⟩ := hAv _ z; rw [e] at h1; cases h1) h1
  have k2 := S p _ (fun z => by rw [z, er] at h2; cases h2) (fun z => by obtain ⟨kvs, e⟩ := hAv _ z; rw [e] at h2; cases h2) h2
  have k3 := S D _ (fun z => by rw [z, er] at g2; cases g2) (fun z => (h6 _ z).2 rfl) g2
  have k4 := S m _ (fun z => by rw [z, er] at h4; cases h4) (fun z => (h6 _ z).1 rfl) h4
  exact ⟨p, m, dx, D, es, f, k1, k2, ⟨dx, D, k2, k3, g3⟩, k4, h5, h6⟩
theorem RwOk.same {C t : Addr} {H H' : Hp} {ns : List Str} {Av : List Addr} (h : RwOk C H ns Av t) (S : Same H H') : RwOk C H' ns Av t := by
  obtain ⟨p, m, dx, D, es, f, h1, h2, h3, h4, h5, h6⟩ := h
  exact ⟨p, m, dx, D, es, f, S _ _ h1, S _ _ h2, h3.same S, S _ _ h4, h5, h6⟩
/-- the numbers of a drawn dict are right for a model -/
def L21 (_ : Str) : Nat := 21
theorem bnd_const (b c : Nat) : ∀ {es : Es}, (∀ q ∈ es, q.2.natAbs ≤ b) → bnd es (fun _ => c) ≤ es.length * (b * c)
  | [], _ => Nat.zero_le _
  | q :: r, h => by
    have ih := bnd_const b c (es := r) fun p hp => h p (List.mem_cons_of_mem _ hp)
    have hq := h q (List.mem_cons_self ..)
    have h1 : q.2.natAbs * c ≤ b * c := Nat.mul_le_mul_right _ hq
    show q.2.natAbs * c + bnd r (fun _ => c) ≤ (r.length + 1) * (b * c)
    rw [Nat.succ_mul]
    omega
theorem NuE.numD {H : Hp} {d : Addr} {ns : List Str} {b : Int} {m : Nat} {ms : Es} (h : NuE ns b m ms) (hd : H d = some (.dK (kv ms))) (hm : m ≤ 1000) (hb : b < 1073741824) : NumD H d ms :=
  ⟨hd, Nat.le_trans h.ln hm, h.nd, h.nm, fun p hp => (h.bd p hp).1, fun p hp => Int.lt_of_le_of_lt (h.bd p hp).2 hb⟩
theorem NuE.nOf {ns : List Str} {b : Int} {m : Nat} {ms : Es} (h : NuE ns b m ms) {n : Str} (hn : n ∈ ns) : (K12.nOf ms n : Int) ≤ b := by
  obtain ⟨v, e, h1, h2⟩ := h.look hn
  unfold K12.nOf K12.g0
  rw [e]
  show ((v.toNat : Nat) : Int) ≤ b
  omega
theorem atOk_of {ns : List Str} {m : Nat} {ms es : Es} {f : Str → Int} (hP : Pool ns) (hN : NuE ns 2000000 m ms) (hM : Md ns 6 f es) : AtOk es ms (fun _ => 21) := by
  have hab : ∀ q ∈ es, q.2.natAbs ≤ 6 := fun q hq => by
    have := hM.bq hq
    omega
  refine ⟨fun q hq => hN.has _ (hM.key hq), fun q hq => by have := hab q hq; omega, ?_, fun q hq => ?_⟩
  · have z := bnd_const 6 21 hab
    have z2 := hM.len hP
    have z3 : es.length * (6 * 21) ≤ 10 * (6 * 21) := Nat.mul_le_mul_right _ z2
    omega
  · have z := hN.nOf (hM.key hq)
    have e : (2 : Nat) ^ 21 = 2097152 := by decide
    show K12.nOf ms q.1 < 2 ^ 21
    omega
section
variable {P : Program} {w : World} {K : PySem.W.Frag} {mg : Str → Option Value} {base : Heap} {C : Addr}
theorem scPair : FnScope NPr ["_law_rng_here", "_law_names_here", "_law_first", "_law_second"] (defScope sPair) :=
  ⟨rfl, rfl, rfl, by decide +kernel, rfl, by decide +kernel, by decide +kernel⟩
variable {f : Addr} {cdv : Value} {A : Around} {outer : List Env} {s : Shared} {H0 : Hp}
/-- the end: all of them once more -/
theorem pr_t10 {fB : Addr} {fdB : FuncData} (T : Nb mg) (GB : FnG P w K mg base 7 fB fdB NBo (spBoth C)) (kB : PySem.W.keepIn K (.ref fB) = true) (bB : Binds K fdB NBo []) (gB : mg "_law_both_right" = some (.ref fB))
    (hgu : (A.deeper (envOfC "_law_pair_right" (defScope sPair) s.heap.objs.size f cdv)).guards = some [])
    (hr : Room 7 (A.deeper (envOfC "_law_pair_right" (defScope sPair) s.heap.objs.size f cdv))) :
    ∃ t, PSs (cxOf CX0 P w K mg base NPr "_law_pair_right" (defScope sPair) f cdv A outer s H0 E0).nox ((defBody sPair).drop 10) t ∧
      ∀ (D : Ends) (H : Hp) (r l a b o1 o2 d1 d2 e u R : Addr) (sh : Str) (x1 x2 x3 x4 x5 : Option V) (ns : List Str) (ts : List Addr) (ms ps : Es), Pool ns → H R = some (.lst (ts.map V.ref)) → ts.length ≤ 10 → (∀ t ∈ ts, RwOk C H ns [d1, d2, e] t) →
        H d1 = some (.dK (kv ms)) → NuE ns 2000000 20 ms → PtD H e ps → (∀ H', Same H H' → D.rt (.bl true) H') →
        t D [some (.ref r), some (.ref l), some (.ref a), some (.ref b), some (.ref o1), some (.ref o2), some (.ref d1), some (.ref d2), some (.ref e), some (.str sh), some (.ref u), x1, x2, some (.ref R), x3, x4, x5] H := by
  refine ⟨_, pss_one (ps_ret (pe_callB (cr_all rfl) (by rfl) T.all (by decide +kernel) (pa_cons
      (pe_lc (own := [("_law_made", 14), ("_law_model", 15)]) (g := gTup K 2 (gCons (gName 14) (gCons (gName 15) gNil))) (tt := tYes)
        (te := tCall (spBoth C) [] E0 (tCons (tVar 14) (tCons (tVar 15) (tCons (tVar 6) (tCons (tVar 8) tNil))))) rfl scPair.nd (pi_list (pv 13))
        (blkOk_by (own := [("_law_made", 14), ("_law_model", 15)]) (N := NPr) (sc := defScope sPair) (by decide +kernel))
        (fun _ _ _ _ _ => pg_tup rfl (pgs_cons (pg_name (i := 14) scPair.nd rfl (by first | exact Or.inl rfl | exact Or.inr rfl)) (pgs_cons (pg_name (i := 15) scPair.nd rfl (by first | exact Or.inl rfl | exact Or.inr rfl)) pgs_nil)))
        (fun _ _ _ _ _ => pts_nil) (fun _ _ _ _ _ => by exact pe_callG GB hgu hr rfl gB kB bB (pa_cons (pv 14) (pa_cons (pv 15) (pa_cons (pv 6) (pa_cons (pv 8) pa_nil)))))) pa_nil))), ?_⟩
  intro D H r l a b o1 o2 d1 d2 e u R sh x1 x2 x3 x4 x5 ns ts ms ps hP hR hz hts hd hN hE k
  refine ⟨_, rfl, R, rfl, ⟨_, SqL.of hR⟩, fun D' hD' => ?_⟩
  refine lc_it (walk_list (K := K) (a := R) (xs := ts.map V.ref)) (fun i H3 => Same H H3 ∧ H3 D' = some (.lst (List.replicate i (V.bl true)))) ⟨fresh_upd hD', upd_same⟩ (fun i H3 _ h => SqL.of (h.1 _ _ hR)) ?_ ?_
  · rintro i x H3 H4 hi ⟨S3, h3⟩ ⟨rfl, hx⟩
    rw [List.length_map] at hi
    obtain ⟨t, ht, rfl⟩ := List.mem_map.mp (List.mem_of_getElem? hx)
    obtain ⟨p, m, dx, Dd, es, f', k1, k2, k3, k4, k5, k6⟩ := (hts t ht).same S3
    refine ⟨t, _, rfl, SqT.of k1, rfl, _, _, rfl, _, _, rfl, rfl, rfl, ?_⟩
    unfold tYes
    dsimp only
    rw [if_pos rfl]
    have q1 := (k6 d1 (List.mem_cons_self ..)).1
    have q2 := (k6 e (by simp)).1
    refine ⟨_, rfl, _, rfl, _, rfl, _, rfl, p, m, d1, e, es, ms, ps, _, rfl, k3, k4, hN.numD (S3 _ _ hd) (by decide) (by decide), q1.symm, atOk_of hP hN k5, hE.same S3, q2.symm, fun H5 S5 => ?_⟩
    refine ⟨_, S5 _ _ h3, by rw [List.length_replicate, sizeLine_eq]; omega, fun b' o eb => ?_, ?_⟩
    · rw [upd_ne (ne_of_none eb hD')]
      exact S5 _ _ (S3 _ _ eb)
    · rw [upd_same, List.replicate_succ']
  rintro H3 ⟨S3, h3⟩
  rw [List.length_map] at h3
  refine ⟨D', List.replicate ts.length true, rfl, SqL.of (by rw [List.map_replicate]; exact h3), ?_⟩
  have e1 : (List.replicate ts.length true).all id = true := by
    rw [List.all_eq_true]
    intro x hx
    exact List.eq_of_mem_replicate hx
  rw [e1]
  exact k _ S3
/-- numbers and point are changed -/
theorem pr_t8 {fB : Addr} {fdB : FuncData} (T : Nb mg) (GB : FnG P w K mg base 7 fB fdB NBo (spBoth C)) (kB : PySem.W.keepIn K (.ref fB) = true) (bB : Binds K fdB NBo []) (gB : mg "_law_both_right" = some (.ref fB))
    (hgu : (A.deeper (envOfC "_law_pair_right" (defScope sPair) s.heap.objs.size f cdv)).guards = some [])
    (hr : Room 7 (A.deeper (envOfC "_law_pair_right" (defScope sPair) s.heap.objs.size f cdv))) :
    ∃ t, PSs (cxOf CX0 P w K mg base NPr "_law_pair_right" (defScope sPair) f cdv A outer s H0 E0).nox ((defBody sPair).drop 8) t ∧
      ∀ (D : Ends) (H : Hp) (r l a b o1 o2 d1 d2 e u R : Addr) (sh : Str) (x1 x2 x3 x4 x5 : Option V) (ns : List Str) (ts : List Addr) (ms ps : Es), Pool ns → Rg H r → H l = some (.lst (ns.map V.str)) → H R = some (.lst (ts.map V.ref)) → ts.length ≤ 10 → (∀ t ∈ ts, RwOk C H ns [d1, d2, e] t) →
        H d1 = some (.dK (kv ms)) → NuE ns 1000000 18 ms → H e = some (.dK (kv ps)) → PtE 15 ps → (∃ kvs, H d2 = some (.dK kvs)) → d1 ≠ e → (∀ H', (∀ b' o, b' ≠ r → b' ≠ d1 → b' ≠ e → H b' = some o → H' b' = some o) → Rg H' r → D.rt (.bl true) H') →
        t D [some (.ref r), some (.ref l), some (.ref a), some (.ref b), some (.ref o1), some (.ref o2), some (.ref d1), some (.ref d2), some (.ref e), some (.str sh), some (.ref u), x1, x2, some (.ref R), x3, x4, x5] H := by
  have hu : (A.deeper (envOfC "_law_pair_right" (defScope sPair) s.heap.objs.size f cdv)).units + 1 < cLine := by have := hr.units; omega
  obtain ⟨t, ht, hq⟩ := pr_t10 (P := P) (w := w) (base := base) (C := C) (f := f) (cdv := cdv) (A := A) (outer := outer) (s := s) (H0 := H0) T GB kB bB gB hgu hr
  refine ⟨_, pss_cons (ps_dput hu (pv 6) pe_str pe_int rfl)
    (pss_cons (ps_if (pt_cmpR (op_neD hr.units) (pv 1) (pe_lst pa_nil) (nomark _))
      (pss_cons (ps_dput hu (pv 6) (pe_ix ix_list (pv 1) pe_int (fun _ _ => rfl)) (pe_op op_mul pe_int (pe_dget hu (pv 6) (pe_ix ix_list (pv 1) pe_int (fun _ _ => rfl)) (fun _ _ => rfl))) rfl)
      (pss_one (ps_dput hu (pv 8) (pe_ix ix_list (pv 1) pe_int (fun _ _ => rfl)) (pe_op op_add (pe_dget2 hu (pv 8) (pe_ix ix_list (pv 1) pe_int (fun _ _ => rfl)) pe_int ⟨rfl, rfl, rfl, rfl⟩) pe_int) rfl))) pss_nil) ht), ?_⟩
  intro D H r l a b o1 o2 d1 d2 e u R sh x1 x2 x3 x4 x5 ns ts ms ps hP hRg hl hR hz hts hd hN he hE hd2 de k
  have hAv : ∀ {H' : Hp} {ms' ps' : Es}, H' d1 = some (.dK (kv ms')) → H' e = some (.dK (kv ps')) → (∃ kvs, H' d2 = some (.dK kvs)) → ∀ a' ∈ [d1, d2, e], ∃ kvs, H' a' = some (.dK kvs) := fun h1 h2 h3 a' ha => by
    simp only [List.mem_cons, List.not_mem_nil, or_false] at ha
    rcases ha with rfl | rfl | rfl
    · exact ⟨_, h1⟩
    · exact h3
    · exact ⟨_, h2⟩
  have hln := hN.ln
  refine ⟨_, rfl, d1, _, rfl, .inl ⟨_, ky "zzzzz", hd, rfl, by rw [kv_len, sizeLine_eq]; omega, rfl⟩, ?_⟩
  have N1 := hN.put (c := 1000000) (Int.le_refl _) (n := "zzzzz") (v := 77) (by decide +kernel) ⟨by decide, by decide⟩
  have r1 : d1 ≠ r := rg_ne hRg hd
  have r2 : e ≠ r := rg_ne hRg he
  have ld : l ≠ d1 := fun z => by rw [z, hd] at hl; cases hl
  have le : l ≠ e := fun z => by rw [z, he] at hl; cases hl
  have Rd1 : R ≠ d1 := fun z => by rw [z, hd] at hR; cases hR
  have Re : R ≠ e := fun z => by rw [z, he] at hR; cases hR
  have S1 : ∀ b' o, b' ≠ r → b' ∉ [d1, d2, e] → H b' = some o → upd H d1 (.dK (putK (kv ms) (ky "zzzzz") (.int 77))) b' = some o := fun b' o _ hb ee => by
    rw [upd_ne (fun z => hb (by rw [z]; exact List.mem_cons_self ..))]
    exact ee
  have S1' : ∀ b' o, b' ≠ r → b' ≠ d1 → b' ≠ e → H b' = some o → upd H d1 (.dK (putK (kv ms) (ky "zzzzz") (.int 77))) b' = some o := fun b' o _ hb _ ee => by
    rw [upd_ne hb]
    exact ee
  have hts1 := fun t ht => (hts t ht).step hRg (hAv hd he hd2) S1
  have hd1 : upd H d1 (.dK (putK (kv ms) (ky "zzzzz") (.int 77))) d1 = some (.dK (kv (putE ms "zzzzz" 77))) := by rw [upd_same, kv_put]
  have he1 : upd H d1 (.dK (putK (kv ms) (ky "zzzzz") (.int 77))) e = some (.dK (kv ps)) := (upd_ne de.symm).trans he
  have hl1 : upd H d1 (.dK (putK (kv ms) (ky "zzzzz") (.int 77))) l = some (.lst (ns.map V.str)) := (upd_ne ld).trans hl
  have hR1 : upd H d1 (.dK (putK (kv ms) (ky "zzzzz") (.int 77))) R = some (.lst (ts.map V.ref)) := (upd_ne Rd1).trans hR
  have hRg1 := hRg.upd (o := .dK (putK (kv ms) (ky "zzzzz") (.int 77))) r1
  have hd21 : ∃ kvs, upd H d1 (.dK (putK (kv ms) (ky "zzzzz") (.int 77))) d2 = some (.dK kvs) := by
    by_cases h : d2 = d1
    · rw [h, upd_same]
      exact ⟨_, rfl⟩
    · rw [upd_ne h]
      exact hd2
  generalize upd H d1 (.dK (putK (kv ms) (ky "zzzzz") (.int 77))) = H1 at S1 S1' hts1 hd1 he1 hl1 hR1 hRg1 hd21
  generalize putE ms "zzzzz" 77 = ms1 at N1 hd1
  refine ⟨_, rfl, Nat.zero_le _, fun t0 nt => ?_⟩
  have S2 := fresh_upd (o := .lst []) nt
  have hd2' := S2 _ _ hd1
  have he2 := S2 _ _ he1
  have hl2 := S2 _ _ hl1
  have hR2 := S2 _ _ hR1
  have hRg2 := hRg1.same S2
  have hts2 := fun t ht => (hts1 t ht).same S2
  have hd22 : ∃ kvs, upd H1 t0 (.lst []) d2 = some (.dK kvs) := by
    obtain ⟨kvs, e'⟩ := hd21
    exact ⟨kvs, S2 _ _ e'⟩
  refine ⟨_, _, .lst (SqL.of hl2) (dp_strs ns), .lst (SqL.of upd_same) .nil, shaped_strs hP.nm, rfl, _, rfl, ?_⟩
  rw [eqv_nil]
  have S02 : ∀ b' o, b' ≠ r → b' ≠ d1 → b' ≠ e → H b' = some o → upd H1 t0 (.lst []) b' = some o := fun b' o h1 h2 h3 ee => S2 _ _ (S1' b' o h1 h2 h3 ee)
  generalize upd H1 t0 (.lst []) = H2 at S2 hd2' he2 hl2 hR2 hRg2 hts2 hd22 S02
  by_cases hns : ns = []
  · rw [decide_eq_true hns]
    refine iteF (next_ ?_)
    exact hq _ _ r l a b o1 o2 d1 d2 e u R sh x1 x2 x3 x4 x5 ns ts ms1 ps hP hR2 hz hts2 hd2' (N1.mono (by decide) (by decide)) ⟨he2, hE.mono (by decide)⟩ fun H' S => k H' (fun b' o h1 h2 h3 ee => S _ _ (S02 b' o h1 h2 h3 ee)) (hRg2.same S)
  · rw [decide_eq_false hns]
    refine iteT' rfl ?_
    obtain ⟨n, rest, en⟩ : ∃ n rest, ns = n :: rest := by
      cases ns with
      | nil => exact absurd rfl hns
      | cons n rest => exact ⟨n, rest, rfl⟩
    have hn : n ∈ ns := by rw [en]; exact List.mem_cons_self ..
    have a0 : atI (ns.map V.str) ((0 : Nat) : Int) = some (V.str n) := by
      rw [en]
      exact atI_nat rfl
    obtain ⟨v, gv, v0, v1⟩ := N1.get hd2' hn
    have hln1 := N1.ln
    refine ⟨_, rfl, _, rfl, l, _, 0, _, rfl, rfl, SqL.of hl2, a0, d1, _, rfl, gv, _, _, rfl, rfl, .inl ⟨by decide, by decide⟩, ?_⟩
    refine ⟨_, rfl, _, rfl, l, _, 0, _, rfl, rfl, SqL.of hl2, a0, d1, _, rfl, .inl ⟨_, ky n, hd2', rfl, by rw [kv_len, sizeLine_eq]; omega, rfl⟩, ?_⟩
    have N3 := N1.put (c := 2000000) (by decide) (n := n) (v := 2 * v) (hP.nm n hn) ⟨by omega, by omega⟩
    have S3 : ∀ b' o, b' ≠ r → b' ∉ [d1, d2, e] → H2 b' = some o → upd H2 d1 (.dK (putK (kv ms1) (ky n) (.int (2 * v)))) b' = some o := fun b' o _ hb ee => by
      rw [upd_ne (fun z => hb (by rw [z]; exact List.mem_cons_self ..))]
      exact ee
    have hts3 := fun t ht => (hts2 t ht).step hRg2 (hAv hd2' he2 hd22) S3
    have S03 : ∀ b' o, b' ≠ r → b' ≠ d1 → b' ≠ e → H b' = some o → upd H2 d1 (.dK (putK (kv ms1) (ky n) (.int (2 * v)))) b' = some o := fun b' o h1 h2 h3 ee => by
      rw [upd_ne h2]
      exact S02 b' o h1 h2 h3 ee
    have hd3 : upd H2 d1 (.dK (putK (kv ms1) (ky n) (.int (2 * v)))) d1 = some (.dK (kv (putE ms1 n (2 * v)))) := by rw [upd_same, kv_put]
    have he3 : upd H2 d1 (.dK (putK (kv ms1) (ky n) (.int (2 * v)))) e = some (.dK (kv ps)) := (upd_ne de.symm).trans he2
    have hl3 : upd H2 d1 (.dK (putK (kv ms1) (ky n) (.int (2 * v)))) l = some (.lst (ns.map V.str)) := (upd_ne ld).trans hl2
    have hR3 : upd H2 d1 (.dK (putK (kv ms1) (ky n) (.int (2 * v)))) R = some (.lst (ts.map V.ref)) := (upd_ne Rd1).trans hR2
    have hRg3 := hRg2.upd (o := .dK (putK (kv ms1) (ky n) (.int (2 * v)))) r1
    have hd23 : ∃ kvs, upd H2 d1 (.dK (putK (kv ms1) (ky n) (.int (2 * v)))) d2 = some (.dK kvs) := by
      by_cases h : d2 = d1
      · rw [h, upd_same]
        exact ⟨_, rfl⟩
      · rw [upd_ne h]
        exact hd22
    generalize upd H2 d1 (.dK (putK (kv ms1) (ky n) (.int (2 * v)))) = H3 at S3 hts3 S03 hd3 he3 hl3 hR3 hRg3 hd23
    generalize putE ms1 n (2 * v) = ms3 at N3 hd3
    obtain ⟨g1, g2⟩ := hE.g0 n
    have hle := hE.ln
    refine ⟨_, rfl, e, rfl, .inl ⟨_, .inl he3⟩, _, rfl, l, _, 0, _, rfl, rfl, SqL.of hl3, a0, _, DGet.k (k := ky n) he3, _, _, get_int _ _, rfl, ?_⟩
    refine ⟨_, rfl, _, rfl, l, _, 0, _, rfl, rfl, SqL.of hl3, a0, e, _, rfl, .inl ⟨_, ky n, he3, rfl, by rw [kv_len, sizeLine_eq]; omega, rfl⟩, ?_⟩
    have E4 := hE.put (n := n) (v := g0 ps n + 1) (hP.nm n hn) ⟨by omega, by omega⟩
    have S4 : ∀ b' o, b' ≠ r → b' ∉ [d1, d2, e] → H3 b' = some o → upd H3 e (.dK (putK (kv ps) (ky n) (.int (g0 ps n + 1)))) b' = some o := fun b' o _ hb ee => by
      rw [upd_ne (fun z => hb (by rw [z]; simp))]
      exact ee
    have hts4 := fun t ht => (hts3 t ht).step hRg3 (hAv hd3 he3 hd23) S4
    have hd4 : upd H3 e (.dK (putK (kv ps) (ky n) (.int (g0 ps n + 1)))) d1 = some (.dK (kv ms3)) := (upd_ne de).trans hd3
    have he4 : upd H3 e (.dK (putK (kv ps) (ky n) (.int (g0 ps n + 1)))) e = some (.dK (kv (putE ps n (g0 ps n + 1)))) := by rw [upd_same, kv_put]
    refine hq _ _ r l a b o1 o2 d1 d2 e u R sh x1 x2 x3 x4 x5 ns ts ms3 _ hP ((upd_ne Re).trans hR3) hz hts4 hd4 N3 ⟨he4, E4.mono (by decide)⟩ fun H' S => k H' (fun b' o h1 h2 h3 ee => S _ _ ((upd_ne h3).trans (S03 b' o h1 h2 h3 ee))) ((hRg3.upd r2).same S)
end
end K12
set_option maxHeartbeats 8000000
namespace K12
open PySem PySem.Spec PyProof.Rows L2

/-! ### _law_pair_right: the rows are asked -/
theorem md_add2 {N : List Str} {b c : Int} {f g : Str → Int} {es fs rs : Es} (h : Md N b f es) (k : Md N c g fs) (sd : SdE rs) (lk : ∀ n, rs.lookup n = cz (g0 es n + g0 fs n)) : Md N (b + c) (fun n => f n + g n) rs :=
  ⟨sd, fun n => by rw [lk, h.g, k.g], fun n hn => by rw [h.sup n hn, k.sup n hn]; rfl, fun n => by have := h.bd n; have := k.bd n; omega⟩
theorem md_sub2 {N : List Str} {b c : Int} {f g : Str → Int} {es fs rs : Es} (h : Md N b f es) (k : Md N c g fs) (sd : SdE rs) (lk : ∀ n, rs.lookup n = cz (g0 es n - g0 fs n)) : Md N (b + c) (fun n => f n - g n) rs :=
  ⟨sd, fun n => by rw [lk, h.g, k.g], fun n hn => by rw [h.sup n hn, k.sup n hn]; rfl, fun n => by have := h.bd n; have := k.bd n; omega⟩
theorem md_less {N : List Str} {b : Int} {f : Str → Int} {es : Es} (h : Md N b f es) : Md N b (fun n => -f n) (fmE (fun _ => true) (fun v => -v) es) :=
  (fm_md (c := fun _ => true) (g := fun v => -v) h (.inr (by decide)) (fun v h0 _ => by omega) (b' := b) (fun n => by
    have := h.bd n
    rw [if_pos rfl]
    omega)).congr (fun n => if_pos rfl) (Int.le_refl _)
theorem NuE.tel {ns : List Str} {m : Nat} {ms : Es} (h : NuE ns 1000000 m ms) (hm : m < 64) : Tel ms := by
  refine ⟨h.nm, fun q hq => ?_, by have := h.ln; omega⟩
  have := h.bd q hq
  have e : (1000000 : Int) < 10 ^ 60 := by decide
  unfold Big
  omega
/-- the slots behind the names of the rows -/
abbrev slots (r l a b o1 o2 d1 d2 e u R : Addr) (sh : Str) (x1 x2 x3 x4 x5 : Option V) : L2.St :=
  [some (.ref r), some (.ref l), some (.ref a), some (.ref b), some (.ref o1), some (.ref o2), some (.ref d1), some (.ref d2), some (.ref e), some (.str sh), some (.ref u), x1, x2, some (.ref R), x3, x4, x5]
/-- what holds while the rows are asked -/
structure PqSt (C : Addr) (H : Hp) (r l d1 d2 e : Addr) (ns : List Str) (ms ms2 ps : Es) : Prop where
  hP : Pool ns
  hR : Rg H r
  hl : H l = some (.lst (ns.map V.str))
  h1 : H d1 = some (.dK (kv ms))
  n1 : NuE ns 1000000 13 ms
  h2 : H d2 = some (.dK (kv ms2))
  n2 : NuE ns 1000000 13 ms2
  he : H e = some (.dK (kv ps))
  e1 : PtE 11 ps
  de : d1 ≠ e
theorem PqSt.same {C : Addr} {H H' : Hp} {r l d1 d2 e : Addr} {ns : List Str} {ms ms2 ps : Es} (h : PqSt C H r l d1 d2 e ns ms ms2 ps) (S : Same H H') : PqSt C H' r l d1 d2 e ns ms ms2 ps :=
  ⟨h.hP, h.hR.same S, S _ _ h.hl, S _ _ h.h1, h.n1, S _ _ h.h2, h.n2, S _ _ h.he, h.e1, h.de⟩
section
variable {P : Program} {w : World} {K : PySem.W.Frag} {mg : Str → Option Value} {base : Heap} {C : Addr}
variable {f : Addr} {cdv : Value} {A : Around} {outer : List Env} {s : Shared} {H0 : Hp}
theorem pr_t7 {fB : Addr} {fdB : FuncData} (T : Nb mg) (hsys : (K.lookup sysModules).isSome = true) (GB : FnG P w K mg base 7 fB fdB NBo (spBoth C)) (kB : PySem.W.keepIn K (.ref fB) = true) (bB : Binds K fdB NBo []) (gB : mg "_law_both_right" = some (.ref fB))
    (hgu : (A.deeper (envOfC "_law_pair_right" (defScope sPair) s.heap.objs.size f cdv)).guards = some [])
    (hr : Room 7 (A.deeper (envOfC "_law_pair_right" (defScope sPair) s.heap.objs.size f cdv))) :
    ∃ t, PSs (cxOf CX0 P w K mg base NPr "_law_pair_right" (defScope sPair) f cdv A outer s H0 E0).nox ((defBody sPair).drop 7) t ∧
      ∀ (D : Ends) (H : Hp) (r l a b o1 o2 d1 d2 e u R : Addr) (x1 x2 x3 x4 x5 : Option V) (ns : List Str) (ts : List Addr) (ms ms2 ps : Es), PqSt C H r l d1 d2 e ns ms ms2 ps → H R = some (.lst (ts.map V.ref)) → ts.length ≤ 10 → (∀ t ∈ ts, RwOk C H ns [d1, d2, e] t) →
        (∀ H', (∀ b' o, b' ≠ r → b' ≠ d1 → b' ≠ e → H b' = some o → H' b' = some o) → Rg H' r → D.rt (.bl true) H') →
        t D (slots r l a b o1 o2 d1 d2 e u R (dX ms).shown x1 x2 x3 x4 x5) H := by
  obtain ⟨t, ht, hq⟩ := pr_t8 (P := P) (w := w) (base := base) (C := C) (f := f) (cdv := cdv) (A := A) (outer := outer) (s := s) (H0 := H0) T GB kB bB gB hgu hr
  refine ⟨_, pss_cons (ps_if (pt_cmpR op_ne (pe_callB (call_reprD hgu hr.units hsys) (by rfl) T.repr (by decide +kernel) (pa_cons (pv 6) pa_nil)) (pv 9) (nomark _)) (pss_one (ps_ret pe_bl)) pss_nil) ht, ?_⟩
  intro D H r l a b o1 o2 d1 d2 e u R x1 x2 x3 x4 x5 ns ts ms ms2 ps h hR hz hts k
  have sm := dX_sm (h.n1.tel (by decide))
  refine ⟨_, rfl, d1, dX ms, rfl, dw_dict h.h1, sm.sh, Nat.le_trans sm.dp (by decide), Nat.le_trans sm.ln (by rw [sizeLine_eq]; decide), _, rfl, rfl, _, rfl, ?_⟩
  rw [decide_eq_true rfl]
  refine iteF (next_ ?_)
  exact hq _ _ r l a b o1 o2 d1 d2 e u R _ x1 x2 x3 x4 x5 ns ts ms ps h.hP h.hR h.hl hR hz hts h.h1 (h.n1.mono (by decide) (by decide)) h.he (h.e1.mono (by decide)) ⟨_, h.h2⟩ h.de k
theorem pr_t6 {fB : Addr} {fdB : FuncData} (T : Nb mg) (hsys : (K.lookup sysModules).isSome = true) (GB : FnG P w K mg base 7 fB fdB NBo (spBoth C)) (kB : PySem.W.keepIn K (.ref fB) = true) (bB : Binds K fdB NBo []) (gB : mg "_law_both_right" = some (.ref fB))
    (hgu : (A.deeper (envOfC "_law_pair_right" (defScope sPair) s.heap.objs.size f cdv)).guards = some [])
    (hr : Room 7 (A.deeper (envOfC "_law_pair_right" (defScope sPair) s.heap.objs.size f cdv))) :
    ∃ t, PSs (cxOf CX0 P w K mg base NPr "_law_pair_right" (defScope sPair) f cdv A outer s H0 E0).nox ((defBody sPair).drop 6) t ∧
      ∀ (D : Ends) (H : Hp) (r l a b o1 o2 d1 d2 e u R : Addr) (x1 x2 x3 x4 x5 : Option V) (ns : List Str) (ts : List Addr) (ms ms2 ps : Es), PqSt C H r l d1 d2 e ns ms ms2 ps → H R = some (.lst (ts.map V.ref)) → ts.length ≤ 10 → (∀ t ∈ ts, RwOk C H ns [d1, d2, e] t) →
        (∀ H', (∀ b' o, b' ≠ r → b' ≠ d1 → b' ≠ e → H b' = some o → H' b' = some o) → Rg H' r → D.rt (.bl true) H') →
        t D (slots r l a b o1 o2 d1 d2 e u R (dX ms).shown x1 x2 x3 x4 x5) H := by
  obtain ⟨t, ht, hq⟩ := pr_t7 (P := P) (w := w) (base := base) (C := C) (f := f) (cdv := cdv) (A := A) (outer := outer) (s := s) (H0 := H0) T hsys GB kB bB gB hgu hr
  refine ⟨_, pss_cons (ps_for PassesOwn.never rfl (pi_list (pv 13)) (pg_tup rfl (pgs_cons (pg_name (i := 14) scPair.nd rfl (by first | exact Or.inl rfl | exact Or.inr rfl)) (pgs_cons (pg_name (i := 15) scPair.nd rfl (by first | exact Or.inl rfl | exact Or.inr rfl)) pgs_nil)))
      (pss_one (ps_if (pt_not (pt_val (pe_callB (cr_all rfl) (by rfl) T.all (by decide +kernel) (pa_cons
        (pe_lc (own := [("_law_some", 16)]) (g := gName 16) (tt := tYes) (te := tCall (spBoth C) [] E0 (tCons (tVar 14) (tCons (tVar 15) (tCons (tVar 16) (tCons (tVar 8) tNil))))) rfl scPair.nd (pi_list (pe_lst (pa_cons (pv 6) (pa_cons (pv 7) (pa_cons (pv 6) pa_nil)))))
        (blkOk_by (own := [("_law_some", 16)]) (N := NPr) (sc := defScope sPair) (by decide +kernel)) (fun _ _ _ _ _ => pg_name (i := 16) scPair.nd rfl (Or.inl rfl))
        (fun _ _ _ _ _ => pts_nil) (fun _ _ _ _ _ => by exact pe_callG GB hgu hr rfl gB kB bB (pa_cons (pv 14) (pa_cons (pv 15) (pa_cons (pv 16) (pa_cons (pv 8) pa_nil)))))) pa_nil))))
        (pss_one (ps_ret pe_bl)) pss_nil))) ht, ?_⟩
  intro D H r l a b o1 o2 d1 d2 e u R x1 x2 x3 x4 x5 ns ts ms ms2 ps h hR hz hts k
  refine ⟨_, rfl, R, rfl, ⟨_, SqL.of hR⟩, for_it (walk_list (K := K) (a := R) (xs := ts.map V.ref)) (fun i σ H2 => (∃ x3 x4 x5, σ = slots r l a b o1 o2 d1 d2 e u R (dX ms).shown x1 x2 x3 x4 x5) ∧ Same H H2)
    ⟨⟨x3, x4, x5, rfl⟩, fun b o e => e⟩ (fun i σ H2 _ h => SqL.of (h.2 _ _ hR)) ?_ ?_⟩
  · rintro i x σ H2 H3 hi ⟨⟨y3, y4, y5, rfl⟩, S2⟩ ⟨rfl, hx⟩
    obtain ⟨t', ht', rfl⟩ := List.mem_map.mp (List.mem_of_getElem? hx)
    obtain ⟨p, m, dx, Dd, es, f', k1, k2, k3, k4, k5, k6⟩ := (hts t' ht').same S2
    have h2 := h.same S2
    refine ⟨t', _, rfl, SqT.of k1, rfl, _, _, rfl, _, _, rfl, rfl, ?_⟩
    have q1 := (k6 d1 (List.mem_cons_self ..)).1
    have q2 := (k6 d2 (by simp)).1
    have q3 := (k6 e (by simp)).1
    refine ⟨_, rfl, _, rfl, _, rfl, by rw [sizeLine_eq]; show 3 ≤ 16777216; decide, fun L nL => ?_⟩
    have S3 := fresh_upd (o := .lst [V.ref d1, V.ref d2, V.ref d1]) nL
    have hL := upd_same (H := H3) (a := L) (o := .lst [V.ref d1, V.ref d2, V.ref d1])
    generalize upd H3 L (.lst [V.ref d1, V.ref d2, V.ref d1]) = H4 at S3 hL
    refine ⟨L, rfl, ⟨_, SqL.of hL⟩, fun D2 hD2 => ?_⟩
    refine lc_it (walk_list (K := K) (a := L) (xs := [V.ref d1, V.ref d2, V.ref d1])) (fun j H5 => Same H4 H5 ∧ H5 D2 = some (.lst (List.replicate j (V.bl true)))) ⟨fresh_upd hD2, upd_same⟩ (fun j H5 _ h => SqL.of (h.1 _ _ hL)) ?_ ?_
    · rintro j x H5 H6 hj ⟨S5, h5⟩ ⟨rfl, hx'⟩
      have hj3 : j < 3 := hj
      have S35 := S3.trans S5
      have h5' := h2.same S35
      refine ⟨rfl, ?_⟩
      unfold tYes
      dsimp only
      rw [if_pos rfl]
      obtain ⟨d, ms', rfl, hd, hn, dm⟩ : ∃ (d : Addr) (ms' : Es), x = .ref d ∧ H6 d = some (.dK (kv ms')) ∧ NuE ns 2000000 20 ms' ∧ d ≠ m := by
        have hm := List.mem_of_getElem? hx'
        simp only [List.mem_cons, List.not_mem_nil, or_false] at hm
        rcases hm with rfl | rfl | rfl
        · exact ⟨d1, ms, rfl, h5'.h1, h5'.n1.mono (by decide) (by decide), q1.symm⟩
        · exact ⟨d2, ms2, rfl, h5'.h2, h5'.n2.mono (by decide) (by decide), q2.symm⟩
        · exact ⟨d1, ms, rfl, h5'.h1, h5'.n1.mono (by decide) (by decide), q1.symm⟩
      refine ⟨_, rfl, _, rfl, _, rfl, _, rfl, p, m, d, e, es, ms', ps, _, rfl, k3.same S35, S35 _ _ k4, hn.numD hd (by decide) (by decide), dm, atOk_of h.hP hn k5, ⟨h5'.he, h5'.e1.mono (by decide)⟩, q3.symm, fun H7 S7 => ?_⟩
      refine ⟨_, S7 _ _ h5, by rw [List.length_replicate, sizeLine_eq]; omega, fun b' o eb => ?_, ?_⟩
      · rw [upd_ne (ne_of_none eb hD2)]
        exact S7 _ _ (S5 _ _ eb)
      · rw [upd_same, List.replicate_succ']
    · rintro H5 ⟨S5, h5⟩
      refine ⟨D2, List.replicate 3 true, rfl, SqL.of (by rw [List.map_replicate]; exact h5), _, rfl, iteF (next_ ?_)⟩
      exact ⟨⟨_, _, _, rfl⟩, S2.trans (S3.trans S5)⟩
  · rintro σ H2 ⟨⟨y3, y4, y5, rfl⟩, S2⟩
    exact hq _ _ r l a b o1 o2 d1 d2 e u R x1 x2 y3 y4 y5 ns ts ms ms2 ps (h.same S2) (S2 _ _ hR) hz (fun t ht => (hts t ht).same S2) fun H' S => k H' fun b' o h1 h2 h3 ee => S b' o h1 h2 h3 (S2 _ _ ee)
end
end K12
set_option maxHeartbeats 8000000
namespace K12
open PySem PySem.Spec PyProof.Rows L2

/-! ### _law_pair_right: the rows are made -/
/-- what the law asks of Size -/
structure Kf (P : Program) (w : World) (K : PySem.W.Frag) (mg : Str → Option Value) (base : Heap) (C : Addr) : Prop where
  ck : Ck K mg C
  init : ∃ f fd, Mk K C f ∧ FnOk P w K mg base CX0 3 f fd ["self", "exponents"] (spInit C) ∧ Binds K fd ["self", "exponents"] [] ∧ Binds K fd ["self", "exponents"] [.none]
  power : ∃ f fd, Meth K C "power" f ∧ FnOk P w K mg base CX0 5 f fd ["self", "count"] (spPower C) ∧ Binds K fd ["self", "count"] []
  over : ∃ f fd, Meth K C "over" f ∧ FnOk P w K mg base CX0 5 f fd ["self", "other"] (spOver C) ∧ Binds K fd ["self", "other"] []
  mul : ∃ f fd, PySem.W.findIn K (.ref C) "__mul__" = some (some (.ref f)) ∧ PySem.W.isFn K (.ref f) = true ∧ FnOk P w K mg base CX0 5 f fd ["self", "other"] (spMul C) ∧ Binds K fd ["self", "other"] []
  self1 : PySem.W.selfFirst K C = true
/-- a Size and its model -/
def PmOk (C : Addr) (H : Hp) (ns : List Str) (Av : List Addr) (p m : Addr) : Prop := ∃ (dx D : Addr) (es : Es) (f : Str → Int), H p = some (.ins C dx [("_exponents", .ref D)]) ∧ SizeAt C H p es ∧
  H m = some (.dK (kv es)) ∧ Md ns 6 f es ∧ ∀ a ∈ Av, m ≠ a ∧ D ≠ a
theorem PmOk.row {C : Addr} {H : Hp} {ns : List Str} {Av : List Addr} {p m t : Addr} (h : PmOk C H ns Av p m) (e : H t = some (.tup [.ref p, .ref m])) : RwOk C H ns Av t := by
  obtain ⟨dx, D, es, f, h2⟩ := h
  exact ⟨p, m, dx, D, es, f, e, h2⟩
theorem PmOk.same {C : Addr} {H H' : Hp} {ns : List Str} {Av : List Addr} {p m : Addr} (h : PmOk C H ns Av p m) (S : Same H H') : PmOk C H' ns Av p m := by
  obtain ⟨dx, D, es, f, h2, h3, h4, h5, h6⟩ := h
  exact ⟨dx, D, es, f, S _ _ h2, h3.same S, S _ _ h4, h5, h6⟩
theorem away {H : Hp} {Av : List Addr} (hAv : ∀ a ∈ Av, ∃ kvs, H a = some (.dK kvs)) {x : Addr} (n : H x = none) : ∀ a ∈ Av, x ≠ a := fun a ha z => by
  obtain ⟨kvs, e⟩ := hAv a ha
  rw [← z, n] at e
  cases e
theorem PqSt.av {C : Addr} {H : Hp} {r l d1 d2 e : Addr} {ns : List Str} {ms ms2 ps : Es} (h : PqSt C H r l d1 d2 e ns ms ms2 ps) : ∀ a' ∈ [d1, d2, e], ∃ kvs, H a' = some (.dK kvs) := fun a' ha => by
  simp only [List.mem_cons, List.not_mem_nil, or_false] at ha
  rcases ha with rfl | rfl | rfl
  · exact ⟨_, h.h1⟩
  · exact ⟨_, h.h2⟩
  · exact ⟨_, h.he⟩
/-- a new pair -/
theorem PmOk.new {C : Addr} {H H1 H2 H' : Hp} {ns : List Str} {Av : List Addr} {p m : Addr} {es : Es} {f : Str → Int} (hAv : ∀ a ∈ Av, ∃ kvs, H a = some (.dK kvs)) (nw : Nw C H H1 p) (z : SizeAt C H1 p es) (S : Same H1 H') (n : H2 m = none) (SH : Same H H2)
    (hm : H' m = some (.dK (kv es))) (hM : Md ns 6 f es) : PmOk C H' ns Av p m := by
  obtain ⟨dx, D, e, n1, n2⟩ := nw
  exact ⟨dx, D, es, f, S _ _ e, z.same S, hm, hM, fun a ha => ⟨away hAv (none_pre SH n) a ha, away hAv n2 a ha⟩⟩
/-- first and second, and their Sizes -/
structure PrSt (C : Addr) (H : Hp) (r l a b o1 o2 d1 d2 e : Addr) (ns : List Str) (es fs ms ms2 ps : Es) (f g : Str → Int) : Prop where
  q : PqSt C H r l d1 d2 e ns ms ms2 ps
  ha : H a = some (.dK (kv es))
  hM : Md ns 3 f es
  hb : H b = some (.dK (kv fs))
  hN : Md ns 3 g fs
  z1 : SizeAt C H o1 es
  z2 : SizeAt C H o2 fs
  p1 : PmOk C H ns [d1, d2, e] o1 a
  p2 : PmOk C H ns [d1, d2, e] o2 b
theorem PrSt.same {C : Addr} {H H' : Hp} {r l a b o1 o2 d1 d2 e : Addr} {ns : List Str} {es fs ms ms2 ps : Es} {f g : Str → Int} (h : PrSt C H r l a b o1 o2 d1 d2 e ns es fs ms ms2 ps f g) (S : Same H H') :
    PrSt C H' r l a b o1 o2 d1 d2 e ns es fs ms ms2 ps f g :=
  ⟨h.q.same S, S _ _ h.ha, h.hM, S _ _ h.hb, h.hN, h.z1.same S, h.z2.same S, h.p1.same S, h.p2.same S⟩
section
variable {P : Program} {w : World} {K : PySem.W.Frag} {mg : Str → Option Value} {base : Heap} {C : Addr}
variable {f : Addr} {cdv : Value} {A : Around} {outer : List Env} {s : Shared} {H0 : Hp}
theorem pr_t5 {fB fT : Addr} {fdB fdT : FuncData} (T : Nb mg) (hsys : (K.lookup sysModules).isSome = true) (Kk : Kf P w K mg base C) (GB : FnG P w K mg base 7 fB fdB NBo (spBoth C)) (kB : PySem.W.keepIn K (.ref fB) = true) (bB : Binds K fdB NBo []) (gB : mg "_law_both_right" = some (.ref fB))
    (GT : FnOk P w K mg base CX0 1 fT fdT ["_law_one", "_law_other"] spTimesL) (kT : PySem.W.keepIn K (.ref fT) = true) (bT : Binds K fdT ["_law_one", "_law_other"] []) (gT : mg "_law_times" = some (.ref fT))
    (hgu : (A.deeper (envOfC "_law_pair_right" (defScope sPair) s.heap.objs.size f cdv)).guards = some [])
    (hr : Room 7 (A.deeper (envOfC "_law_pair_right" (defScope sPair) s.heap.objs.size f cdv))) :
    ∃ t, PSs (cxOf CX0 P w K mg base NPr "_law_pair_right" (defScope sPair) f cdv A outer s H0 E0).nox ((defBody sPair).drop 5) t ∧
      ∀ (D : Ends) (H : Hp) (r l a b o1 o2 d1 d2 e u R : Addr) (x1 x2 x3 x4 x5 : Option V) (ns : List Str) (ts : List Addr) (es fs ms ms2 ps : Es) (f' g : Str → Int), PrSt C H r l a b o1 o2 d1 d2 e ns es fs ms ms2 ps f' g → H R = some (.lst (ts.map V.ref)) → ts.length ≤ 4 → (∀ t ∈ ts, RwOk C H ns [d1, d2, e] t) →
        (∀ H', (∀ b' o, b' ≠ r → b' ≠ d1 → b' ≠ e → H b' = some o → H' b' = some o) → Rg H' r → D.rt (.bl true) H') →
        t D (slots r l a b o1 o2 d1 d2 e u R (dX ms).shown x1 x2 x3 x4 x5) H := by
  obtain ⟨Tc, ⟨fi, fdi, M, gi, bi, bi0⟩, ⟨fp, fdp, mp, gp, bp⟩, _, _, _⟩ := Kk
  obtain ⟨t, ht, hq⟩ := pr_t6 (P := P) (w := w) (base := base) (C := C) (f := f) (cdv := cdv) (A := A) (outer := outer) (s := s) (H0 := H0) T hsys GB kB bB gB hgu hr
  have gp7 := gp.mono (k := 7) (by decide)
  have GT7 := GT.mono (k := 7) (by decide)
  have gi6 := gi.mono (k := 6) (by decide)
  refine ⟨_, pss_cons (ps_set (i := 13) scPair.nd rfl (by first | exact .inl rfl | exact .inr rfl) (pe_op op_cat (pv 13) (pe_lst (pa_cons (pe_tup (pa_cons (pe_meth (pv 4) Tc.cl mp gp7 hr bp .nil pass0 (pa_cons pe_int pa_nil))
        (pa_cons (pe_call GT7 hr rfl gT kT bT .nil pass0 (pa_cons (pv 2) (pa_cons (pv 2) pa_nil))) pa_nil)))
      (pa_cons (pe_tup (pa_cons (pe_make0 M gi6 hr rfl Tc.gC bi0 (.cons (show RelV .non .none from rfl) .nil) pass0) (pa_cons pe_dnewK pa_nil))) pa_nil))))) ht, ?_⟩
  intro D H r l a b o1 o2 d1 d2 e u R x1 x2 x3 x4 x5 ns ts es fs ms ms2 ps f' g h hR hz hts k
  have av := h.q.av
  have hP := h.q.hP
  have le := h.hM.len hP
  obtain ⟨dx, D0, z1, z1'⟩ := id h.z1
  refine ⟨_, rfl, _, rfl, o1, dx, _, rfl, z1, rfl, o1, es, 2, rfl, h.z1, by decide, by decide, fun H1 p rs S1 zp nw lp => ?_⟩
  have h1 := h.same S1
  refine ⟨_, rfl, _, rfl, a, a, es, es, rfl, h1.ha, h1.ha, h.hM.sd.nodup, h.hM.sd.nodup, by omega, fun H2 m qs S2 nm hm sq lq => ?_⟩
  have hQ := md_add2 h.hM h.hM sq lq
  have eq : rs = qs := zp.sd.one sq fun n => by
    rw [lp, lq]
    congr 1
    omega
  subst eq
  have S12 := S1.trans S2
  have P1 : PmOk C H2 ns [d1, d2, e] p m := PmOk.new av nw zp S2 nm S1 hm hQ
  refine ⟨by rw [sizeLine_eq]; show 2 ≤ 16777216; decide, fun T1 n1 => ?_⟩
  have S3 := fresh_upd (o := .tup [V.ref p, V.ref m]) n1
  have e3 := upd_same (H := H2) (a := T1) (o := .tup [V.ref p, V.ref m])
  generalize upd H2 T1 (.tup [V.ref p, V.ref m]) = H3 at S3 e3
  have S13 := S12.trans S3
  refine rd_mk0 fun H4 p2 S4 zp2 nw2 => ⟨rfl, fun m2 nm2 => ?_⟩
  have S5 := fresh_upd (o := .dK []) nm2
  have em2 : upd H4 m2 (.dK []) m2 = some (.dK (kv [])) := upd_same
  generalize upd H4 m2 (.dK []) = H5 at S5 em2
  have av3 := (h.same S13).q.av
  have P2 : PmOk C H5 ns [d1, d2, e] p2 m2 := PmOk.new av3 nw2 zp2 S5 nm2 S4 em2 ((Md.nil ns).congr (fun _ => rfl) (by decide))
  refine ⟨by rw [sizeLine_eq]; show 2 ≤ 16777216; decide, fun T2 n2 => ?_⟩
  have S6 := fresh_upd (o := .tup [V.ref p2, V.ref m2]) n2
  have e6 := upd_same (H := H5) (a := T2) (o := .tup [V.ref p2, V.ref m2])
  generalize upd H5 T2 (.tup [V.ref p2, V.ref m2]) = H6 at S6 e6
  refine ⟨by rw [sizeLine_eq]; show 2 ≤ 16777216; decide, fun L1 nL1 => ?_⟩
  have S7 := fresh_upd (o := .lst [V.ref T1, V.ref T2]) nL1
  have e7 := upd_same (H := H6) (a := L1) (o := .lst [V.ref T1, V.ref T2])
  generalize upd H6 L1 (.lst [V.ref T1, V.ref T2]) = H7 at S7 e7
  have S36 := S4.trans (S5.trans S6)
  have S37 := S36.trans S7
  have S07 := S13.trans S37
  refine ⟨R, L1, _, _, rfl, rfl, S07 _ _ hR, e7, by rw [List.length_map, sizeLine_eq]; show _ + 2 ≤ _; omega, fun R' nR' => ?_⟩
  have S8 := fresh_upd (o := .lst (ts.map V.ref ++ [V.ref T1, V.ref T2])) nR'
  have e8 : upd H7 R' (.lst (ts.map V.ref ++ [V.ref T1, V.ref T2])) R' = some (.lst ((ts ++ [T1, T2]).map V.ref)) := by
    rw [upd_same, List.map_append]
    rfl
  generalize upd H7 R' (.lst (ts.map V.ref ++ [V.ref T1, V.ref T2])) = H8 at S8 e8
  have S08 := S07.trans S8
  refine hq _ H8 r l a b o1 o2 d1 d2 e u R' x1 x2 x3 x4 x5 ns (ts ++ [T1, T2]) ms ms2 ps (h.q.same S08) e8 ?_ (fun t ht => ?_) fun H' S => k H' fun b' o h1 h2 h3 ee => S b' o h1 h2 h3 (S08 _ _ ee)
  · rw [List.length_append]
    show _ + 2 ≤ _
    omega
  · rcases List.mem_append.mp ht with z | z
    · exact (hts t z).same S08
    · simp only [List.mem_cons, List.not_mem_nil, or_false] at z
      rcases z with rfl | rfl
      · exact ((P1.same S3).row e3).same (S37.trans S8)
      · exact ((P2.same S6).row e6).same (S7.trans S8)
end
end K12
set_option maxHeartbeats 8000000
namespace K12
open PySem PySem.Spec PyProof.Rows L2

section
variable {P : Program} {w : World} {K : PySem.W.Frag} {mg : Str → Option Value} {base : Heap} {C : Addr}
variable {f : Addr} {cdv : Value} {A : Around} {outer : List Env} {s : Shared} {H0 : Hp}
theorem pr_t4 {fB fT : Addr} {fdB fdT : FuncData} (T : Nb mg) (hsys : (K.lookup sysModules).isSome = true) (Kk : Kf P w K mg base C) (GB : FnG P w K mg base 7 fB fdB NBo (spBoth C)) (kB : PySem.W.keepIn K (.ref fB) = true) (bB : Binds K fdB NBo []) (gB : mg "_law_both_right" = some (.ref fB))
    (GT : FnOk P w K mg base CX0 1 fT fdT ["_law_one", "_law_other"] spTimesL) (kT : PySem.W.keepIn K (.ref fT) = true) (bT : Binds K fdT ["_law_one", "_law_other"] []) (gT : mg "_law_times" = some (.ref fT))
    (hgu : (A.deeper (envOfC "_law_pair_right" (defScope sPair) s.heap.objs.size f cdv)).guards = some [])
    (hr : Room 7 (A.deeper (envOfC "_law_pair_right" (defScope sPair) s.heap.objs.size f cdv))) :
    ∃ t, PSs (cxOf CX0 P w K mg base NPr "_law_pair_right" (defScope sPair) f cdv A outer s H0 E0).nox ((defBody sPair).drop 4) t ∧
      ∀ (D : Ends) (H : Hp) (r l a b o1 o2 d1 d2 e u : Addr) (x0 x1 x2 x3 x4 x5 : Option V) (ns : List Str) (es fs us ms ms2 ps : Es) (f' g : Str → Int), PrSt C H r l a b o1 o2 d1 d2 e ns es fs ms ms2 ps f' g →
        H u = some (.dK (kv us)) → Md ns 6 (fun n => f' n - g n) us → (∀ a' ∈ [d1, d2, e], u ≠ a') →
        (∀ H', (∀ b' o, b' ≠ r → b' ≠ d1 → b' ≠ e → H b' = some o → H' b' = some o) → Rg H' r → D.rt (.bl true) H') →
        t D [some (.ref r), some (.ref l), some (.ref a), some (.ref b), some (.ref o1), some (.ref o2), some (.ref d1), some (.ref d2), some (.ref e), some (.str (dX ms).shown), some (.ref u), x1, x2, x0, x3, x4, x5] H := by
  obtain ⟨t, ht, hq⟩ := pr_t5 (P := P) (w := w) (base := base) (C := C) (f := f) (cdv := cdv) (A := A) (outer := outer) (s := s) (H0 := H0) T hsys Kk GB kB bB gB GT kT bT gT hgu hr
  obtain ⟨Tc, ⟨fi, fdi, M, gi, bi, bi0⟩, _, ⟨fo, fdo, mo, go, bo⟩, ⟨fm, fdm, mm, im, gm, bm⟩, s1⟩ := Kk
  have go7 := go.mono (k := 7) (by decide)
  have gm7 := gm.mono (k := 7) (by decide)
  have GT7 := GT.mono (k := 7) (by decide)
  refine ⟨_, pss_cons (ps_set (i := 13) scPair.nd rfl (by first | exact .inl rfl | exact .inr rfl) (pe_lst (pa_cons (pe_tup (pa_cons (pv 4) (pa_cons (pv 2) pa_nil))) (pa_cons (pe_tup (pa_cons (pv 5) (pa_cons (pv 3) pa_nil)))
      (pa_cons (pe_tup (pa_cons (pe_op (op_ownBin gm7 hr s1 mm im bm pass0) (pv 4) (pv 5)) (pa_cons (pe_call GT7 hr rfl gT kT bT .nil pass0 (pa_cons (pv 2) (pa_cons (pv 3) pa_nil))) pa_nil)))
      (pa_cons (pe_tup (pa_cons (pe_meth (pv 4) Tc.cl mo go7 hr bo .nil pass0 (pa_cons (pv 5) pa_nil)) (pa_cons (pv 10) pa_nil))) pa_nil)))))) ht, ?_⟩
  intro D H r l a b o1 o2 d1 d2 e u x0 x1 x2 x3 x4 x5 ns es fs us ms ms2 ps f' g h hu hU uav k
  have av := h.q.av
  have hP := h.q.hP
  have le := h.hM.len hP
  have lf := h.hN.len hP
  refine ⟨_, rfl, _, rfl, by rw [sizeLine_eq]; show 2 ≤ 16777216; decide, fun T1 n1 => ?_⟩
  have S1 := fresh_upd (o := .tup [V.ref o1, V.ref a]) n1
  have e1 := upd_same (H := H) (a := T1) (o := .tup [V.ref o1, V.ref a])
  generalize upd H T1 (.tup [V.ref o1, V.ref a]) = H1 at S1 e1
  refine ⟨_, rfl, _, rfl, by rw [sizeLine_eq]; show 2 ≤ 16777216; decide, fun T2 n2 => ?_⟩
  have S2 := fresh_upd (o := .tup [V.ref o2, V.ref b]) n2
  have e2 := upd_same (H := H1) (a := T2) (o := .tup [V.ref o2, V.ref b])
  generalize upd H1 T2 (.tup [V.ref o2, V.ref b]) = H2 at S2 e2
  have S02 := S1.trans S2
  have h2 := h.same S02
  obtain ⟨dx, D0, z1, z1'⟩ := id h2.z1
  obtain ⟨dy, D1, y1, y1'⟩ := id h2.z2
  refine ⟨_, rfl, _, rfl, o1, dx, _, o2, dy, _, rfl, z1, rfl, y1, o1, o2, es, fs, rfl, h2.z1, h2.z2, by omega, fun H3 p rs S3 zp nw lp => ⟨p, rfl, ?_⟩⟩
  have h3 := h2.same S3
  refine ⟨_, rfl, _, rfl, a, b, es, fs, rfl, h3.ha, h3.hb, h.hM.sd.nodup, h.hN.sd.nodup, by omega, fun H4 m qs S4 nm hm sq lq => ?_⟩
  have hQ := md_add2 h.hM h.hN sq lq
  have eq : rs = qs := zp.sd.one sq fun n => by rw [lp, lq]
  subst eq
  have P3 : PmOk C H4 ns [d1, d2, e] p m := PmOk.new h2.q.av nw zp S4 nm S3 hm hQ
  refine ⟨by rw [sizeLine_eq]; show 2 ≤ 16777216; decide, fun T3 n3 => ?_⟩
  have S5 := fresh_upd (o := .tup [V.ref p, V.ref m]) n3
  have e3 := upd_same (H := H4) (a := T3) (o := .tup [V.ref p, V.ref m])
  generalize upd H4 T3 (.tup [V.ref p, V.ref m]) = H5 at S5 e3
  have S25 := S3.trans (S4.trans S5)
  have h5 := h2.same S25
  obtain ⟨dx', D0', z5, _⟩ := id h5.z1
  refine ⟨_, rfl, o1, dx', _, rfl, z5, rfl, _, rfl, o1, o2, es, fs, rfl, h5.z1, h5.z2, by omega, fun H6 q ws S6 zq nq lq' => ?_⟩
  have S06 := S02.trans (S25.trans S6)
  have hW := md_sub2 h.hM h.hN zq.sd lq'
  have ew : ws = us := hW.one hU fun n => rfl
  subst ew
  have P4 : PmOk C H6 ns [d1, d2, e] q u := by
    obtain ⟨dz, Dz, ez, nz1, nz2⟩ := nq
    exact ⟨dz, Dz, ws, _, ez, zq, S06 _ _ hu, hU, fun a' ha' => ⟨uav a' ha', away h5.q.av nz2 a' ha'⟩⟩
  refine ⟨_, rfl, by rw [sizeLine_eq]; show 2 ≤ 16777216; decide, fun T4 n4 => ?_⟩
  have S7 := fresh_upd (o := .tup [V.ref q, V.ref u]) n4
  have e4 := upd_same (H := H6) (a := T4) (o := .tup [V.ref q, V.ref u])
  generalize upd H6 T4 (.tup [V.ref q, V.ref u]) = H7 at S7 e4
  refine ⟨by rw [sizeLine_eq]; show 4 ≤ 16777216; decide, fun R nR => ?_⟩
  have S8 := fresh_upd (o := .lst [V.ref T1, V.ref T2, V.ref T3, V.ref T4]) nR
  have e8 : upd H7 R (.lst [V.ref T1, V.ref T2, V.ref T3, V.ref T4]) R = some (.lst ([T1, T2, T3, T4].map V.ref)) := upd_same
  generalize upd H7 R (.lst [V.ref T1, V.ref T2, V.ref T3, V.ref T4]) = H8 at S8 e8
  have S68 := S7.trans S8
  have S08 := S06.trans S68
  have S58 := S6.trans S68
  have S28 := S25.trans S58
  refine hq _ H8 r l a b o1 o2 d1 d2 e u R x1 x2 x3 x4 x5 ns [T1, T2, T3, T4] es fs ms ms2 ps f' g (h.same S08) e8 (Nat.le_refl _) (fun t ht => ?_) fun H' S => k H' fun b' o h1 h2 h3 ee => S b' o h1 h2 h3 (S08 _ _ ee)
  simp only [List.mem_cons, List.not_mem_nil, or_false] at ht
  rcases ht with rfl | rfl | rfl | rfl
  · exact ((h.p1.same S1).row e1).same (S2.trans S28)
  · exact ((h.p2.same S02).row e2).same S28
  · exact ((P3.same S5).row e3).same S58
  · exact ((P4.same S7).row e4).same S8
theorem pr_t3 {fB fT : Addr} {fdB fdT : FuncData} (T : Nb mg) (T2 : Nt mg) (hsys : (K.lookup sysModules).isSome = true) (Kk : Kf P w K mg base C) (GB : FnG P w K mg base 7 fB fdB NBo (spBoth C)) (kB : PySem.W.keepIn K (.ref fB) = true) (bB : Binds K fdB NBo []) (gB : mg "_law_both_right" = some (.ref fB))
    (GT : FnOk P w K mg base CX0 1 fT fdT ["_law_one", "_law_other"] spTimesL) (kT : PySem.W.keepIn K (.ref fT) = true) (bT : Binds K fdT ["_law_one", "_law_other"] []) (gT : mg "_law_times" = some (.ref fT))
    (hgu : (A.deeper (envOfC "_law_pair_right" (defScope sPair) s.heap.objs.size f cdv)).guards = some [])
    (hr : Room 7 (A.deeper (envOfC "_law_pair_right" (defScope sPair) s.heap.objs.size f cdv))) :
    ∃ t, PSs (cxOf CX0 P w K mg base NPr "_law_pair_right" (defScope sPair) f cdv A outer s H0 E0).nox ((defBody sPair).drop 3) t ∧
      ∀ (D : Ends) (H : Hp) (r l a b o1 o2 d1 d2 e : Addr) (ns : List Str) (es fs ms ms2 ps : Es) (f' g : Str → Int), PrSt C H r l a b o1 o2 d1 d2 e ns es fs ms ms2 ps f' g →
        (∀ H', (∀ b' o, b' ≠ r → b' ≠ d1 → b' ≠ e → H b' = some o → H' b' = some o) → Rg H' r → D.rt (.bl true) H') →
        t D [some (.ref r), some (.ref l), some (.ref a), some (.ref b), some (.ref o1), some (.ref o2), some (.ref d1), some (.ref d2), some (.ref e), some (.str (dX ms).shown), none, none, none, none, none, none, none] H := by
  obtain ⟨t, ht, hq⟩ := pr_t4 (P := P) (w := w) (base := base) (C := C) (f := f) (cdv := cdv) (A := A) (outer := outer) (s := s) (H0 := H0) T hsys Kk GB kB bB gB GT kT bT gT hgu hr
  have GT7 := GT.mono (k := 7) (by decide)
  refine ⟨_, pss_cons (ps_set (i := 10) scPair.nd rfl (by first | exact .inl rfl | exact .inr rfl) (pe_call GT7 hr rfl gT kT bT .nil pass0 (pa_cons (pv 2) (pa_cons (pe_callTy (call_dictP rfl) (by rfl) T2.dict (by decide +kernel) (pa_cons (pe_lock (pe_lc (own := [("_law_name", 11), ("_law_power", 12)]) (g := gTup K 2 (gCons (gName 11) (gCons (gName 12) gNil)))
      (tt := tYes) (te := tTup (tCons (tVar 11) (tCons (tUn (rU fun i => .int (-i)) (tVar 12)) tNil))) rfl scPair.nd (pi_items (pv 3))
      (blkOk_by (own := [("_law_name", 11), ("_law_power", 12)]) (N := NPr) (sc := defScope sPair) (by decide +kernel))
      (fun _ _ _ _ _ => pg_tup rfl (pgs_cons (pg_name (i := 11) scPair.nd rfl (Or.inl rfl)) (pgs_cons (pg_name (i := 12) scPair.nd rfl (Or.inl rfl)) pgs_nil)))
      (fun _ _ _ _ _ => pts_nil) (fun _ _ _ _ _ => by exact pe_tup (pa_cons (pv 11) (pa_cons (pe_un un_neg (pv 12)) pa_nil))))) pa_nil)) pa_nil)))) ht, ?_⟩
  intro D H r l a b o1 o2 d1 d2 e ns es fs ms ms2 ps f' g h k
  have hP := h.q.hP
  have le := h.hM.len hP
  have lf := h.hN.len hP
  refine ⟨_, rfl, rd_dcomp (c := fun _ => true) (g := fun v => -v) rfl h.hb h.hN.sd.nodup (by omega) (fun _ _ => rfl) (fun _ _ => rfl) (fun _ _ _ _ q => by exact q) (fun _ v _ _ _ q => ⟨_, rfl, v, rfl, q⟩) fun H1 D1 S1 nD1 hD1 => ?_⟩
  have Ml := md_less h.hN
  have ll := Ml.len hP
  refine ⟨a, D1, es, _, rfl, S1 _ _ h.ha, hD1, h.hM.sd.nodup, Ml.sd.nodup, by omega, fun H2 u us S2 nu hu sdu lku => ?_⟩
  have hU : Md ns 6 (fun n => f' n - g n) us := (md_add2 h.hM Ml sdu lku).congr (fun n => by omega) (by decide)
  have S02 := S1.trans S2
  exact hq _ _ r l a b o1 o2 d1 d2 e u none none none none none none ns es fs us ms ms2 ps f' g (h.same S02) hu hU (away h.q.av (none_pre S1 nu)) fun H' S => k H' fun b' o h1 h2 h3 ee => S b' o h1 h2 h3 (S02 _ _ ee)
def spPairR (C : Addr) : Sp := fun vs H Q _ => ∃ (r l a b : Addr) (ns : List Str) (es fs : Es) (f g : Str → Int), vs = [.ref r, .ref l, .ref a, .ref b] ∧ Rg H r ∧ l ≠ r ∧ H l = some (.lst (ns.map V.str)) ∧ Pool ns ∧ H a = some (.dK (kv es)) ∧ H b = some (.dK (kv fs)) ∧ Md ns 3 f es ∧ Md ns 3 g fs ∧
  ∀ H', But r H H' → Rg H' r → Q (.bl true) H'
theorem ok_pair {fB fT fN fP : Addr} {fd fdB fdT fdN fdP : FuncData} (F : Fun K "_law_pair_right" "_law_pair_right" sPair f fd) (T : Nb mg) (T2 : Nt mg) (hsys : (K.lookup sysModules).isSome = true) (Kk : Kf P w K mg base C)
    (GB : FnG P w K mg base 7 fB fdB NBo (spBoth C)) (kB : PySem.W.keepIn K (.ref fB) = true) (bB : Binds K fdB NBo []) (gB : mg "_law_both_right" = some (.ref fB))
    (GT : FnOk P w K mg base CX0 1 fT fdT ["_law_one", "_law_other"] spTimesL) (kT : PySem.W.keepIn K (.ref fT) = true) (bT : Binds K fdT ["_law_one", "_law_other"] []) (gT : mg "_law_times" = some (.ref fT))
    (GN : FnOk P w K mg base CX0 2 fN fdN ["_law_rng_here", "_law_names_here"] spNum) (kN : PySem.W.keepIn K (.ref fN) = true) (bN : Binds K fdN ["_law_rng_here", "_law_names_here"] []) (gN : mg "_law_numbers" = some (.ref fN))
    (GP : FnOk P w K mg base CX0 2 fP fdP ["_law_rng_here", "_law_names_here"] spPnt) (kP : PySem.W.keepIn K (.ref fP) = true) (bP : Binds K fdP ["_law_rng_here", "_law_names_here"] []) (gP : mg "_law_point" = some (.ref fP)) :
    FnG P w K mg base 8 f fd ["_law_rng_here", "_law_names_here", "_law_first", "_law_second"] (spPairR C) := by
  refine F.okG scPair (fun vs H Q h => ?_) (fun cdv A outer s H vs Q hgu hr h => ?_)
  · obtain ⟨r, l, a, b, ns, es, fs, f', g, rfl, _⟩ := h
    rfl
  · obtain ⟨r, l, a, b, ns, es, fs, f', g, rfl, hR, lr, hl, hP, ha, hb, hM, hN, k⟩ := h
    have hgu' : (A.deeper (envOfC "_law_pair_right" (defScope sPair) s.heap.objs.size f cdv)).guards = some [] := hgu
    obtain ⟨t, ht, hq⟩ := pr_t3 (P := P) (w := w) (base := base) (C := C) (f := f) (cdv := cdv) (A := A) (outer := outer) (s := s) (H0 := H) T T2 hsys Kk GB kB bB gB GT kT bT gT hgu' hr
    obtain ⟨Tc, ⟨fi, fdi, M, gi, bi, bi0⟩, _⟩ := Kk
    have gi6 := gi.mono (k := 6) (by decide)
    have GN7 := GN.mono (k := 7) (by decide)
    have GP7 := GP.mono (k := 7) (by decide)
    refine ⟨_, pss_cons (ps_par (i := 4) (j := 5) rfl scPair.nd rfl rfl (by decide) rfl rfl (pa_cons (pe_make M gi6 hr rfl Tc.gC bi .nil pass0 (pa_cons (pv 2) pa_nil)) (pa_cons (pe_make M gi6 hr rfl Tc.gC bi .nil pass0 (pa_cons (pv 3) pa_nil)) pa_nil)) rfl)
      (pss_cons (ps_asg (pe_tup (pa_cons (pe_call GN7 hr rfl gN kN bN .nil pass0 (pa_cons (pv 0) (pa_cons (pv 1) pa_nil))) (pa_cons (pe_call GN7 hr rfl gN kN bN .nil pass0 (pa_cons (pv 0) (pa_cons (pv 1) pa_nil))) pa_nil)))
        (pg_tup rfl (pgs_cons (pg_name (i := 6) scPair.nd rfl (Or.inr rfl)) (pgs_cons (pg_name (i := 7) scPair.nd rfl (Or.inl rfl)) pgs_nil))))
      (pss_cons (ps_asg (pe_tup (pa_cons (pe_call GP7 hr rfl gP kP bP .nil pass0 (pa_cons (pv 0) (pa_cons (pv 1) pa_nil))) (pa_cons (pe_callB (call_reprD hgu' hr.units hsys) (by rfl) T.repr (by decide +kernel) (pa_cons (pv 6) pa_nil)) pa_nil)))
        (pg_tup rfl (pgs_cons (pg_name (i := 8) scPair.nd rfl (Or.inr rfl)) (pgs_cons (pg_name (i := 9) scPair.nd rfl (Or.inl rfl)) pgs_nil)))) ht)), ?_⟩
    have le := hM.len hP
    have lf := hN.len hP
    refine ⟨_, rfl, rd_mk ha hM.sd.nodup (by omega) (hM.nm hP) fun H1 o1 rs1 dx1 D1 S1 z1 l1 np1 nD1 q1 => ⟨rfl, ?_⟩⟩
    have e1 : rs1 = es := z1.sd.one hM.sd fun n => by rw [l1, hM.lk, hM.g]
    subst e1
    refine ⟨_, rfl, rd_mk (S1 _ _ hb) hN.sd.nodup (by omega) (hN.nm hP) fun H2 o2 rs2 dx2 D2 S2 z2 l2 np2 nD2 q2 => ⟨rfl, ?_⟩⟩
    have e2 : rs2 = fs := z2.sd.one hN.sd fun n => by rw [l2, hN.lk, hN.g]
    subst e2
    have S02 := S1.trans S2
    have hR2 := hR.same S02
    refine ⟨_, _, rfl, ?_⟩
    refine ⟨_, rfl, _, rfl, r, l, ns, rfl, hR2, lr, S02 _ _ hl, hP, fun H3 d1 ms B3 hR3 nd1 hd1 hN1 => ?_⟩
    refine ⟨_, rfl, _, rfl, r, l, ns, rfl, hR3, lr, B3 _ _ lr (S02 _ _ hl), hP, fun H4 d2 ms2 B4 hR4 nd2 hd2 hN2 => ?_⟩
    refine ⟨by rw [sizeLine_eq]; show 2 ≤ 16777216; decide, fun T1 n1 => ⟨T1, _, rfl, SqT.of upd_same, rfl, _, _, rfl, _, _, rfl, rfl, ?_⟩⟩
    have S5 := fresh_upd (o := .tup [V.ref d1, V.ref d2]) n1
    generalize upd H4 T1 (.tup [V.ref d1, V.ref d2]) = H5 at S5
    have hR5 := hR4.same S5
    have B25 := (B3.trans B4).trans (But.of S5)
    have dr1 : d1 ≠ r := rg_ne hR3 hd1
    have dr2 : d2 ≠ r := rg_ne hR4 hd2
    have hd1' := S5 _ _ (B4 _ _ dr1 hd1)
    have hd2' := S5 _ _ hd2
    refine ⟨_, rfl, _, rfl, r, l, ns, rfl, hR5, lr, B25 _ _ lr (S02 _ _ hl), hP, fun H6 e ps B6 hR6 ne he hE => ?_⟩
    have sm := dX_sm (hN1.tel (by decide))
    have hd16 := B6 _ _ dr1 hd1'
    have hd26 := B6 _ _ dr2 hd2'
    refine ⟨_, rfl, d1, dX ms, rfl, dw_dict hd16, sm.sh, Nat.le_trans sm.dp (by decide), Nat.le_trans sm.ln (by rw [sizeLine_eq]; decide), ?_⟩
    refine ⟨by rw [sizeLine_eq]; show 2 ≤ 16777216; decide, fun T2' n2 => ⟨T2', _, rfl, SqT.of upd_same, rfl, _, _, rfl, _, _, rfl, rfl, ?_⟩⟩
    have S7 := fresh_upd (o := .tup [V.ref e, V.str (dX ms).shown]) n2
    generalize upd H6 T2' (.tup [V.ref e, V.str (dX ms).shown]) = H7 at S7
    have B27 := (B25.trans B6).trans (But.of S7)
    have hR7 := hR6.same S7
    -- nothing that was there is among what is new
    have old : ∀ {x : Addr} {o : HO}, H2 x = some o → x ≠ r → x ≠ d1 ∧ x ≠ d2 ∧ x ≠ e := fun {x o} ex xr => by
      refine ⟨ne_of_none ex nd1, fun z => ?_, fun z => ?_⟩
      · have z2 := B3 _ _ xr ex
        rw [z, nd2] at z2
        cases z2
      · have z2 := B25 _ _ xr ex
        rw [z, ne] at z2
        cases z2
    have ar : a ≠ r := rg_ne hR ha
    have br : b ≠ r := rg_ne hR hb
    have a2 := S02 _ _ ha
    have b2 := S02 _ _ hb
    have insr : ∀ {x dx : Addr} {gs : List (Str × V)}, H2 x = some (.ins C dx gs) → x ≠ r := fun {x dx gs} ex z => by
      obtain ⟨u, v, er, _⟩ := hR2
      rw [z, er] at ex
      cases ex
    obtain ⟨dz1, Dz1, w1, w2, w3⟩ := id z1
    have pm : ∀ {o m dx D : Addr} {es' : Es} {h : Str → Int}, SizeAt C H2 o es' → H2 o = some (.ins C dx [("_exponents", .ref D)]) → H2 m = some (.dK (kv es')) → Md ns 3 h es' → PmOk C H7 ns [d1, d2, e] o m := fun {o m dx D es' h} hz ho hm hM' => by
      obtain ⟨dy, D', g1, g2, g3⟩ := id hz
      have ee := ho.symm.trans g1
      have eD : D = D' := by
        injection ee with ee
        injection ee with e1 e2 e3
        injection e3 with e3 _
        injection e3 with _ e3
        injection e3
      subst eD
      obtain ⟨m1, m2, m3⟩ := old hm (rg_ne hR2 hm)
      obtain ⟨D1', D2', D3'⟩ := old g2 (rg_ne hR2 g2)
      refine ⟨dx, D, es', h, B27 _ _ (insr ho) ho, hz.but hR2 B27, B27 _ _ (rg_ne hR2 hm) hm, hM'.congr (fun _ => rfl) (by decide), fun a' ha' => ?_⟩
      simp only [List.mem_cons, List.not_mem_nil, or_false] at ha'
      rcases ha' with rfl | rfl | rfl
      · exact ⟨m1, D1'⟩
      · exact ⟨m2, D2'⟩
      · exact ⟨m3, D3'⟩
    have de : d1 ≠ e := fun z => by
      rw [z, ne] at hd1'
      cases hd1'
    have st : PrSt C H7 r l a b o1 o2 d1 d2 e ns rs1 rs2 ms ms2 ps f' g := by
      refine ⟨⟨hP, hR7, B27 _ _ lr (S02 _ _ hl), S7 _ _ hd16, hN1, S7 _ _ hd26, hN2, S7 _ _ he, hE, de⟩, B27 _ _ ar a2, hM, B27 _ _ br b2, hN, (z1.same S2).but hR2 B27, z2.but hR2 B27, ?_, ?_⟩
      · exact pm (z1.same S2) (S2 _ _ q1) a2 hM
      · exact pm z2 q2 b2 hN
    refine hq _ _ r l a b o1 o2 d1 d2 e ns rs1 rs2 ms ms2 ps f' g st fun H' S hR' => k H' (fun b' o hb' ee => ?_) hR'
    obtain ⟨n1', n2', n3'⟩ := old (S02 _ _ ee) hb'
    exact S b' o hb' n1' n3' (B27 _ _ hb' (S02 _ _ ee))
end
end K12
set_option maxHeartbeats 8000000
namespace K12
open PySem PySem.Spec PyProof.Rows L2

/-! ### _law_great_right -/
abbrev sGreat : Stmt := top 63
def NGr : List Str := ["_law_rng_here", "_law_names_here", "_law_model", "_law_name", "_law_made", "_law_numbers_here"]
def spGreat : Sp := fun vs H Q _ => ∃ (r l : Addr) (ns : List Str), vs = [.ref r, .ref l] ∧ Rg H r ∧ l ≠ r ∧ H l = some (.lst (ns.map V.str)) ∧ Pool ns ∧ ∀ H', But r H H' → Rg H' r → Q (.bl true) H'
/-- a drawn model of sorted names -/
theorem md_drawn {ns ys : List Str} {es : Es} {b : Int} (hP : Pool ns) (perm : ∀ n, n ∈ ys → n ∈ ns) (hsd : List.Pairwise lt ys) (hk : es.map (·.1) = ys) (hb : ∀ q ∈ es, 1 ≤ q.2 ∧ q.2 ≤ b) (b1 : 1 ≤ b) : Md ns b (g0 es) es := by
  have hs : SdE es := by
    show List.Pairwise lt (es.map (·.1))
    rw [hk]
    exact hsd
  have lk : ∀ n, es.lookup n = cz (g0 es n) ∧ (-b ≤ g0 es n ∧ g0 es n ≤ b) := fun n => by
    unfold g0
    cases e : es.lookup n with
    | none =>
      refine ⟨rfl, ?_⟩
      show -b ≤ 0 ∧ 0 ≤ b
      omega
    | some v =>
      obtain ⟨q, hq, e2⟩ := List.mem_map.mp (look_mem.mp (show (es.lookup n).isSome = true by rw [e]; rfl))
      have z := look_get hs.nodup (n := q.1) (v := q.2) hq
      rw [e2, e] at z
      have hv := hb q hq
      rw [← Option.some.inj z] at hv
      show some v = cz v ∧ -b ≤ v ∧ v ≤ b
      unfold cz
      rw [if_neg (by omega)]
      exact ⟨rfl, by omega, by omega⟩
  refine ⟨hs, fun n => (lk n).1, fun n hn => ?_, fun n => (lk n).2⟩
  unfold g0
  rw [g0_none fun z => ?_]
  · rfl
  · rw [hk] at z
    exact hn (perm n z)
section
variable {P : Program} {w : World} {K : PySem.W.Frag} {mg : Str → Option Value} {base : Heap} {C : Addr}
theorem scGreat : FnScope NGr ["_law_rng_here", "_law_names_here"] (defScope sGreat) :=
  ⟨rfl, rfl, rfl, by decide +kernel, rfl, by decide +kernel, by decide +kernel⟩
theorem ok_great {f fB fD fP : Addr} {fd fdB fdD fdP : FuncData} (F : Fun K "_law_great_right" "_law_great_right" sGreat f fd) (Ta : Na mg) (T2 : Nt mg) (Kk : Kf P w K mg base C)
    (GB : FnG P w K mg base 7 fB fdB NBo (spBoth C)) (kB : PySem.W.keepIn K (.ref fB) = true) (bB : Binds K fdB NBo []) (gB : mg "_law_both_right" = some (.ref fB))
    (GD : FnOk P w K mg base CX0 1 fD fdD ["_law_rng_here", "_law_many"] spDraw) (kD : PySem.W.keepIn K (.ref fD) = true) (bD : Binds K fdD ["_law_rng_here", "_law_many"] []) (gD : mg "_law_draw" = some (.ref fD))
    (GP : FnOk P w K mg base CX0 2 fP fdP ["_law_rng_here", "_law_names_here"] spPnt) (kP : PySem.W.keepIn K (.ref fP) = true) (bP : Binds K fdP ["_law_rng_here", "_law_names_here"] []) (gP : mg "_law_point" = some (.ref fP)) :
    FnG P w K mg base 8 f fd ["_law_rng_here", "_law_names_here"] spGreat := by
  obtain ⟨Tc, ⟨fi, fdi, M, gi, bi, bi0⟩, _⟩ := Kk
  have GD7 := GD.mono (k := 7) (by decide)
  have GP7 := GP.mono (k := 7) (by decide)
  have gi6 := gi.mono (k := 6) (by decide)
  refine F.okG scGreat (fun vs H Q h => ?_) (fun cdv A outer s H vs Q hgu hr h => ?_)
  · obtain ⟨r, l, ns, rfl, _⟩ := h
    rfl
  · obtain ⟨r, l, ns, rfl, hR, lr, hl, hP, k⟩ := h
    have hgu' : (A.deeper (envOfC "_law_great_right" (defScope sGreat) s.heap.objs.size f cdv)).guards = some [] := hgu
    refine ⟨_, pss_cons (ps_set (i := 2) scGreat.nd rfl (by first | exact .inl rfl | exact .inr rfl) (pe_callTy (call_dictP rfl) (by rfl) T2.dict (by decide +kernel) (pa_cons
        (pe_lc (own := [("_law_name", 3)]) (g := gName 3) (tt := tYes) (te := tTup (tCons (tVar 3) (tCons (tOp (rI0 fun i j => V.int (i + j)) (tC (.int 1)) (tCall spDraw [] E0 (tCons (tVar 0) (tCons (tC (.int 40)) tNil)))) tNil))) rfl scGreat.nd
        (pi_list (pe_callB cr_sortedS (by rfl) Ta.sorted (by decide +kernel) (pa_cons (pv 1) pa_nil)))
        (blkOk_by (own := [("_law_name", 3)]) (N := NGr) (sc := defScope sGreat) (by decide +kernel)) (fun _ _ _ _ _ => pg_name (i := 3) scGreat.nd rfl (Or.inl rfl))
        (fun _ _ _ _ _ => pts_nil)
        (fun _ _ _ _ _ => by exact pe_tup (pa_cons (pv 3) (pa_cons (pe_op op_add pe_int (pe_call GD7 hr rfl gD kD bD .nil pass0 (pa_cons (pv 0) (pa_cons pe_int pa_nil)))) pa_nil)))) pa_nil)))
      (pss_cons (ps_par (i := 4) (j := 5) rfl scGreat.nd rfl rfl (by decide) rfl rfl (pa_cons (pe_make M gi6 hr rfl Tc.gC bi .nil pass0 (pa_cons (pv 2) pa_nil)) (pa_cons (pe_callTy (call_dictP rfl) (by rfl) T2.dict (by decide +kernel) (pa_cons
        (pe_lc (own := [("_law_name", 3)]) (g := gName 3) (tt := tYes) (te := tTup (tCons (tVar 3) (tCons (tOp (rI0 fun i j => V.int (i + j)) (tC (.int 1)) (tCall spDraw [] E0 (tCons (tVar 0) (tCons (tC (.int 3)) tNil)))) tNil))) rfl scGreat.nd
        (pi_list (pv 1))
        (blkOk_by (own := [("_law_name", 3)]) (N := NGr) (sc := defScope sGreat) (by decide +kernel)) (fun _ _ _ _ _ => pg_name (i := 3) scGreat.nd rfl (Or.inl rfl))
        (fun _ _ _ _ _ => pts_nil)
        (fun _ _ _ _ _ => by exact pe_tup (pa_cons (pv 3) (pa_cons (pe_op op_add pe_int (pe_call GD7 hr rfl gD kD bD .nil pass0 (pa_cons (pv 0) (pa_cons pe_int pa_nil)))) pa_nil)))) pa_nil)) pa_nil)) rfl)
      (pss_one (ps_ret (pe_callG GB hgu' hr rfl gB kB bB (pa_cons (pv 4) (pa_cons (pv 2) (pa_cons (pv 5) (pa_cons (pe_call GP7 hr rfl gP kP bP .nil pass0 (pa_cons (pv 0) (pa_cons (pv 1) pa_nil))) pa_nil)))))))), ?_⟩
    have hPl := hP.ln
    refine ⟨_, rfl, l, ns, rfl, SqL.of hl, by omega, fun ys q0 perm srt nq => ?_⟩
    have hyn : ys.Nodup := perm.nodup_iff.mpr hP.nd
    have hyl : ys.length ≤ 10 := by
      have z := perm.length_eq
      omega
    have S1 := fresh_upd (o := .lst (ys.map V.str)) nq
    have rq := hR.ne nq
    have e0 : upd H q0 (.lst (ys.map V.str)) q0 = some (.lst (ys.map V.str)) := upd_same
    generalize upd H q0 (.lst (ys.map V.str)) = H1 at S1 e0
    have hR1 := hR.same S1
    refine ⟨q0, rfl, ⟨_, SqL.of e0⟩, fun D hD => ?_⟩
    have rD := hR1.ne hD
    refine lc_it (walk_list (K := K) (a := q0) (xs := ys.map V.str)) (fun i H2 => Rg H2 r ∧ But r H1 H2 ∧ ∃ ps es, H2 D = some (.lst (ps.map V.ref)) ∧ PsAt H2 ps es ∧ es.map (·.1) = ys.take i ∧ ∀ q ∈ es, 1 ≤ q.2 ∧ q.2 ≤ 40)
      ⟨hR1.same (fresh_upd hD), But.of (fresh_upd hD), [], [], upd_same, .nil, rfl, fun q hq => by cases hq⟩ (fun i H2 _ h => SqL.of (h.2.1 _ _ rq.symm e0)) ?_ ?_
    · rintro i x H2 H2' hi ⟨hR2, B2, ps, es, hD2, hps, hk, hb⟩ ⟨rfl, hx⟩
      rw [List.length_map] at hi
      have ex : x = .str ys[i] := by
        rw [List.getElem?_map, List.getElem?_eq_getElem hi] at hx
        exact (Option.some.inj hx).symm
      subst ex
      have hlen : ps.length = i := by
        rw [Paired.length hps]
        have z := congrArg List.length hk
        rw [List.length_map, List.length_take] at z
        omega
      refine ⟨rfl, ?_⟩
      unfold tYes
      dsimp only
      rw [if_pos rfl]
      refine ⟨_, rfl, _, rfl, r, 40, rfl, hR2, by decide, by decide, fun H3 d d0 d1 hR3 B3 => ⟨_, _, rfl, rfl, by rw [sizeLine_eq]; show 2 ≤ 16777216; decide, fun T' nT => ?_⟩⟩
      have hD3 := B3 _ _ rD.symm hD2
      have DT : D ≠ T' := ne_of_none hD3 nT
      refine ⟨ps.map V.ref, (upd_ne DT).trans hD3, by rw [List.length_map, sizeLine_eq]; omega, ?_⟩
      have S4 := fresh_upd (o := .tup [V.str ys[i], V.int (1 + d)]) nT
      have hps3 : PsAt H3 ps es := hps.same fun c xs e => B3 _ _ (fun z => by
        obtain ⟨x, y, e2, _⟩ := hR2
        rw [z, e2] at e
        cases e) e
      refine ⟨(hR3.same S4).upd rD.symm, ?_, ps ++ [T'], es ++ [(ys[i], 1 + d)], ?_, ?_, ?_, fun q hq => ?_⟩
      · exact But.upd ((B2.trans B3).trans (But.of S4)) hD
      · rw [upd_same, List.map_append]
        rfl
      · refine (hps3.same fun c xs e => ?_).snoc ?_
        · have cT : c ≠ T' := ne_of_none e nT
          have cD : c ≠ D := fun z => by
            rw [z, hD3] at e
            cases e
          rw [upd_ne cD, upd_ne cT]
          exact e
        · rw [upd_ne DT.symm]
          exact upd_same
      · rw [List.map_append, hk, List.take_add_one, List.getElem?_eq_getElem hi]
        rfl
      · rcases List.mem_append.mp hq with z | z
        · exact hb q z
        · rw [List.mem_singleton.mp z]
          exact ⟨by show 1 ≤ 1 + d; omega, by show 1 + d ≤ 40; omega⟩
    rintro H2 ⟨hR2, B2, ps, es, hD2, hps, hk, hb⟩
    rw [List.length_map, List.take_length] at hk
    have hnd : (es.map (·.1)).Nodup := by
      rw [hk]
      exact hyn
    refine ⟨D, ps, _, rfl, SqL.of hD2, hps.pairs, fun m nm => ?_⟩
    have S7 : Same H2 (upd H2 m (.dK (mergeK [] (kv es)))) := fresh_upd nm
    have em : upd H2 m (.dK (mergeK [] (kv es))) m = some (.dK (kv es)) := by rw [upd_same, merge_kv hnd]
    generalize upd H2 m (.dK (mergeK [] (kv es))) = H3 at S7 em
    have hM := md_drawn hP (fun n hn => perm.mem_iff.mp hn) (sd_of srt hyn) hk hb (by decide)
    have hR3 := hR2.same S7
    have B13 : But r H H3 := ((But.of S1).trans B2).trans (But.of S7)
    have le := hM.len hP
    refine ⟨_, rfl, rd_mk em hM.sd.nodup (by omega) (hM.nm hP) fun H4 p rs dx D4 S4 zp lp np nD4 hp => ⟨rfl, ?_⟩⟩
    have er : rs = es := zp.sd.one hM.sd fun n => by rw [lp, hM.lk, hM.g]
    subst er
    have hR4 := hR3.same S4
    have em4 := S4 _ _ em
    have B14 : But r H H4 := B13.trans (But.of S4)
    have hl4 := B14 _ _ lr hl
    refine ⟨_, rfl, l, rfl, ⟨_, SqL.of hl4⟩, fun D hD => ?_⟩
    have rD := hR4.ne hD
    refine lc_it (walk_list (K := K) (a := l) (xs := ns.map V.str)) (fun i H2 => Rg H2 r ∧ But r H4 H2 ∧ ∃ ps es, H2 D = some (.lst (ps.map V.ref)) ∧ PsAt H2 ps es ∧ es.map (·.1) = ns.take i ∧ ∀ q ∈ es, 1 ≤ q.2 ∧ q.2 ≤ 3)
      ⟨hR4.same (fresh_upd hD), But.of (fresh_upd hD), [], [], upd_same, .nil, rfl, fun q hq => by cases hq⟩ (fun i H2 _ h => SqL.of (h.2.1 _ _ lr hl4)) ?_ ?_
    · rintro i x H2 H2' hi ⟨hR2, B2, ps, es, hD2, hps, hk, hb⟩ ⟨rfl, hx⟩
      rw [List.length_map] at hi
      have ex : x = .str ns[i] := by
        rw [List.getElem?_map, List.getElem?_eq_getElem hi] at hx
        exact (Option.some.inj hx).symm
      subst ex
      have hlen : ps.length = i := by
        rw [Paired.length hps]
        have z := congrArg List.length hk
        rw [List.length_map, List.length_take] at z
        omega
      refine ⟨rfl, ?_⟩
      unfold tYes
      dsimp only
      rw [if_pos rfl]
      refine ⟨_, rfl, _, rfl, r, 3, rfl, hR2, by decide, by decide, fun H3 d d0 d1 hR3 B3 => ⟨_, _, rfl, rfl, by rw [sizeLine_eq]; show 2 ≤ 16777216; decide, fun T' nT => ?_⟩⟩
      have hD3 := B3 _ _ rD.symm hD2
      have DT : D ≠ T' := ne_of_none hD3 nT
      refine ⟨ps.map V.ref, (upd_ne DT).trans hD3, by rw [List.length_map, sizeLine_eq]; omega, ?_⟩
      have S4 := fresh_upd (o := .tup [V.str ns[i], V.int (1 + d)]) nT
      have hps3 : PsAt H3 ps es := hps.same fun c xs e => B3 _ _ (fun z => by
        obtain ⟨x, y, e2, _⟩ := hR2
        rw [z, e2] at e
        cases e) e
      refine ⟨(hR3.same S4).upd rD.symm, ?_, ps ++ [T'], es ++ [(ns[i], 1 + d)], ?_, ?_, ?_, fun q hq => ?_⟩
      · exact But.upd ((B2.trans B3).trans (But.of S4)) hD
      · rw [upd_same, List.map_append]
        rfl
      · refine (hps3.same fun c xs e => ?_).snoc ?_
        · have cT : c ≠ T' := ne_of_none e nT
          have cD : c ≠ D := fun z => by
            rw [z, hD3] at e
            cases e
          rw [upd_ne cD, upd_ne cT]
          exact e
        · rw [upd_ne DT.symm]
          exact upd_same
      · rw [List.map_append, hk, List.take_add_one, List.getElem?_eq_getElem hi]
        rfl
      · rcases List.mem_append.mp hq with z | z
        · exact hb q z
        · rw [List.mem_singleton.mp z]
          exact ⟨by show 1 ≤ 1 + d; omega, by show 1 + d ≤ 3; omega⟩
    rintro H2 ⟨hR2, B2, ps, es, hD2, hps, hk, hb⟩
    rw [List.length_map, List.take_length] at hk
    have hnd : (es.map (·.1)).Nodup := by
      rw [hk]
      exact hP.nd
    refine ⟨D, ps, _, rfl, SqL.of hD2, hps.pairs, fun d nd => ?_⟩
    have S7 : Same H2 (upd H2 d (.dK (mergeK [] (kv es)))) := fresh_upd nd
    have ed : upd H2 d (.dK (mergeK [] (kv es))) d = some (.dK (kv es)) := by rw [upd_same, merge_kv hnd]
    generalize upd H2 d (.dK (mergeK [] (kv es))) = H5 at S7 ed
    have hR5 := hR2.same S7
    have B45 := B2.trans (But.of S7)
    have nd4 : H4 d = none := none_of hR4 B2 hR2 nd
    have N5 : NuE ns 3 10 es := by
      refine ⟨hnd, fun q hq => hP.nm _ ?_, hb, fun n hn => by rw [hk]; exact hn, ?_⟩
      · have z : q.1 ∈ es.map (·.1) := List.mem_map.mpr ⟨q, hq, rfl⟩
        rw [hk] at z
        exact z
      · have z := congrArg List.length hk
        rw [List.length_map] at z
        omega
    have dm : d ≠ m := fun z => by
      rw [← z, nd4] at em4
      cases em4
    have mr : m ≠ r := rg_ne hR4 em4
    have dr : d ≠ r := rg_ne hR5 ed
    refine ⟨_, _, rfl, ?_⟩
    refine ⟨_, rfl, _, rfl, _, rfl, _, rfl, _, rfl, r, l, ns, rfl, hR5, lr, B45 _ _ lr hl4, hP, fun H6 e pts B6 hR6 ne he hE => ?_⟩
    have B46 := B45.trans B6
    have em6 := B46 _ _ mr em4
    have ed6 := B6 _ _ dr ed
    have hA : AtOk rs es (fun _ => 2) := by
      have hab : ∀ q ∈ rs, q.2.natAbs ≤ 40 := fun q hq => by
        have := hM.bq hq
        omega
      refine ⟨fun q hq => N5.has _ (hM.key hq), fun q hq => by have := hab q hq; omega, ?_, fun q hq => ?_⟩
      · have z := bnd_const 40 2 hab
        have z3 : rs.length * (40 * 2) ≤ 10 * (40 * 2) := Nat.mul_le_mul_right _ le
        omega
      · have z := N5.nOf (hM.key hq)
        show nOf es q.1 < 2 ^ 2
        omega
    refine ⟨p, m, d, e, rs, es, pts, _, rfl, zp.but hR4 B46, em6, N5.numD ed6 (by decide) (by decide), dm, hA, ⟨he, hE.mono (by decide)⟩, fun z => ?_, fun H7 S7' => ?_⟩
    · have z2 := B45 _ _ mr em4
      rw [← z, ne] at z2
      cases z2
    · exact k H7 ((B14.trans B46).trans (But.of S7')) (hR6.same S7')
end
end K12
set_option maxHeartbeats 8000000
namespace K12
open PySem PySem.Spec PyProof.Rows L2

/-! ### _law_right -/
abbrev sRi : Stmt := top 64
def NRi : List Str := ["_law_rng_here", "_law_names_here", "_law_first", "_law_second"]
def spRight : Sp := fun vs H Q _ => ∃ r : Addr, vs = [.ref r] ∧ Rg H r ∧ ∀ H', But r H H' → Rg H' r → Q (.bl true) H'
def Md3 (H : Hp) (ns : List Str) (d : Addr) : Prop := ∃ (es : Es) (f : Str → Int), H d = some (.dK (kv es)) ∧ Md ns 3 f es
theorem Md3.but {H H' : Hp} {ns : List Str} {r d : Addr} (h : Md3 H ns d) (hR : Rg H r) (B : But r H H') : Md3 H' ns d := by
  obtain ⟨es, f, e, k⟩ := h
  exact ⟨es, f, B _ _ (rg_ne hR e) e, k⟩
section
variable {P : Program} {w : World} {K : PySem.W.Frag} {mg : Str → Option Value} {base : Heap} {C : Addr}
theorem scRi : FnScope NRi ["_law_rng_here"] (defScope sRi) :=
  ⟨rfl, rfl, rfl, by decide +kernel, rfl, by decide +kernel, by decide +kernel⟩
theorem ok_right {f fN fD fW fP fG : Addr} {fd fdN fdD fdW fdP fdG : FuncData} (F : Fun K "_law_right" "_law_right" sRi f fd)
    (GN : FnOk P w K mg base CX0 3 fN fdN ["_law_rng_here", "_law_many", "_law_taken"] spNm) (kN : PySem.W.keepIn K (.ref fN) = true) (bN : Binds K fdN ["_law_rng_here", "_law_many", "_law_taken"] []) (gN : mg "_law_names" = some (.ref fN))
    (GD : FnOk P w K mg base CX0 1 fD fdD ["_law_rng_here", "_law_many"] spDraw) (kD : PySem.W.keepIn K (.ref fD) = true) (bD : Binds K fdD ["_law_rng_here", "_law_many"] []) (gD : mg "_law_draw" = some (.ref fD))
    (GW : FnOk P w K mg base CX0 3 fW fdW ["_law_rng_here", "_law_names_here"] spDrawn) (kW : PySem.W.keepIn K (.ref fW) = true) (bW : Binds K fdW ["_law_rng_here", "_law_names_here"] []) (gW : mg "_law_drawn" = some (.ref fW))
    (GP : FnG P w K mg base 8 fP fdP ["_law_rng_here", "_law_names_here", "_law_first", "_law_second"] (spPairR C)) (kP : PySem.W.keepIn K (.ref fP) = true) (bP : Binds K fdP ["_law_rng_here", "_law_names_here", "_law_first", "_law_second"] []) (gP : mg "_law_pair_right" = some (.ref fP))
    (GG : FnG P w K mg base 8 fG fdG ["_law_rng_here", "_law_names_here"] spGreat) (kG : PySem.W.keepIn K (.ref fG) = true) (bG : Binds K fdG ["_law_rng_here", "_law_names_here"] []) (gG : mg "_law_great_right" = some (.ref fG)) :
    FnG P w K mg base 9 f fd ["_law_rng_here"] spRight := by
  have GN8 := GN.mono (k := 8) (by decide)
  have GD8 := GD.mono (k := 8) (by decide)
  have GW8 := GW.mono (k := 8) (by decide)
  refine F.okG scRi (fun vs H Q h => ?_) (fun cdv A outer s H vs Q hgu hr h => ?_)
  · obtain ⟨r, rfl, _⟩ := h
    rfl
  · obtain ⟨r, rfl, hR, k⟩ := h
    have hgu' : (A.deeper (envOfC "_law_right" (defScope sRi) s.heap.objs.size f cdv)).guards = some [] := hgu
    refine ⟨_, pss_cons (ps_set (i := 1) scRi.nd rfl (by first | exact .inl rfl | exact .inr rfl) (pe_call GN8 hr rfl gN kN bN .nil pass0 (pa_cons (pv 0) (pa_cons (pe_call GD8 hr rfl gD kD bD .nil pass0 (pa_cons (pv 0) (pa_cons pe_int pa_nil))) (pa_cons (pe_lst pa_nil) pa_nil)))))
      (pss_cons (ps_set (i := 2) scRi.nd rfl (by first | exact .inl rfl | exact .inr rfl) (pe_call GW8 hr rfl gW kW bW .nil pass0 (pa_cons (pv 0) (pa_cons (pv 1) pa_nil))))
      (pss_cons (ps_for PassesOwn.never rfl (pi_list (pe_lst (pa_cons (pe_call GW8 hr rfl gW kW bW .nil pass0 (pa_cons (pv 0) (pa_cons (pv 1) pa_nil))) (pa_cons (pe_call GW8 hr rfl gW kW bW .nil pass0 (pa_cons (pv 0) (pa_cons (pv 1) pa_nil))) (pa_cons (pv 2) pa_nil))))) (pg_name (i := 3) scRi.nd rfl (Or.inl rfl))
        (pss_one (ps_if (pt_not (pt_val (pe_callG GP hgu' hr rfl gP kP bP (pa_cons (pv 0) (pa_cons (pv 1) (pa_cons (pv 2) (pa_cons (pv 3) pa_nil))))))) (pss_one (ps_ret pe_bl)) pss_nil)))
      (pss_one (ps_ret (pe_callG GG hgu' hr rfl gG kG bG (pa_cons (pv 0) (pa_cons (pv 1) pa_nil))))))), ?_⟩
    refine ⟨_, rfl, _, rfl, r, 10, rfl, hR, by decide, by decide, fun H1 d d0 d1 hR1 B1 => ⟨Nat.zero_le _, fun t nt => ?_⟩⟩
    have S2 := fresh_upd (o := .lst []) nt
    have rt := hR1.ne nt
    refine ⟨r, d, t, rfl, hR1.same S2, d0, by omega, rt.symm, upd_same, fun H3 l ns B3 hR3 nl hl hP => ?_⟩
    have B13 := (But.of S2).trans B3
    have nl0 := none_of (hR1.same S2) (But.refl r _) (hR1.same S2) nl
    have lr : l ≠ r := fun z => by
      obtain ⟨x, y, e, _⟩ := hR3
      rw [z, e] at hl
      cases hl' : ns with
      | nil =>
        rw [hl'] at hl
        cases hl
      | cons n rest =>
        rw [hl'] at hl
        cases hl
    refine ⟨_, rfl, _, rfl, r, l, ns, rfl, hR3, lr, hl, hP, fun H4 a es f1 B4 hR4 na ha hM => ?_⟩
    have hl4 := B4 _ _ lr hl
    have m4 : Md3 H4 ns a := ⟨es, f1, ha, hM⟩
    refine ⟨_, rfl, _, rfl, r, l, ns, rfl, hR4, lr, hl4, hP, fun H5 b fs f2 B5 hR5 nb hb hN => ?_⟩
    have hl5 := B5 _ _ lr hl4
    have m5 : Md3 H5 ns b := ⟨fs, f2, hb, hN⟩
    refine ⟨_, rfl, _, rfl, r, l, ns, rfl, hR5, lr, hl5, hP, fun H6 c gs f3 B6 hR6 nc hc hG => ?_⟩
    have hl6 := B6 _ _ lr hl5
    have m6 : Md3 H6 ns c := ⟨gs, f3, hc, hG⟩
    have ma := (m4.but hR4 B5).but hR5 B6
    have mb := m5.but hR5 B6
    refine ⟨_, rfl, by rw [sizeLine_eq]; show 3 ≤ 16777216; decide, fun L nL => ?_⟩
    have S7 := fresh_upd (o := .lst [V.ref b, V.ref c, V.ref a]) nL
    have e7 := upd_same (H := H6) (a := L) (o := .lst [V.ref b, V.ref c, V.ref a])
    have Lr := hR6.ne nL
    generalize upd H6 L (.lst [V.ref b, V.ref c, V.ref a]) = H7 at S7 e7
    have hR7 := hR6.same S7
    have hl7 := S7 _ _ hl6
    have B67 : But r H6 H7 := But.of S7
    have hall : ∀ x ∈ [V.ref b, V.ref c, V.ref a], ∃ d, x = .ref d ∧ Md3 H7 ns d := fun x hx => by
      simp only [List.mem_cons, List.not_mem_nil, or_false] at hx
      rcases hx with rfl | rfl | rfl
      · exact ⟨b, rfl, mb.but hR6 B67⟩
      · exact ⟨c, rfl, m6.but hR6 B67⟩
      · exact ⟨a, rfl, ma.but hR6 B67⟩
    have ma7 := ma.but hR6 B67
    have B07 : But r H H7 := (((B1.trans B13).trans B4).trans B5).trans (B6.trans B67)
    refine ⟨L, rfl, ⟨_, SqL.of e7⟩, for_it (walk_list (K := K) (a := L) (xs := [V.ref b, V.ref c, V.ref a])) (fun i σ H8 => (∃ o3, σ = [some (.ref r), some (.ref l), some (.ref a), o3]) ∧ Rg H8 r ∧ But r H7 H8)
      ⟨⟨none, rfl⟩, hR7, But.refl r _⟩ (fun i σ H8 _ h => SqL.of (h.2.2 _ _ Lr.symm e7)) ?_ ?_⟩
    · rintro i x σ H8 H9 hi ⟨⟨o3, rfl⟩, hR8, B8⟩ ⟨rfl, hx⟩
      obtain ⟨d', rfl, md⟩ := hall x (List.mem_of_getElem? hx)
      obtain ⟨es1, g1, k1, k2⟩ := ma7.but hR7 B8
      obtain ⟨es2, g2, k3, k4⟩ := md.but hR7 B8
      refine ⟨_, rfl, _, rfl, _, rfl, _, rfl, r, l, a, d', ns, es1, es2, g1, g2, rfl, hR8, lr, B8 _ _ lr hl7, hP, k1, k3, k2, k4, fun H10 B10 hR10 => ?_⟩
      exact ⟨_, rfl, iteF (next_ ⟨⟨_, rfl⟩, hR10, B8.trans B10⟩)⟩
    · rintro σ H8 ⟨⟨o3, rfl⟩, hR8, B8⟩
      refine ⟨_, rfl, _, rfl, r, l, ns, rfl, hR8, lr, B8 _ _ lr hl7, hP, fun H9 B9 hR9 => ?_⟩
      exact k H9 ((B07.trans B8).trans B9) hR9
end
end K12
set_option maxHeartbeats 8000000
namespace K12
open PySem PySem.Spec PyProof.Rows L2

/-! ### law -/
abbrev sLw : Stmt := top 65
def NLa : List Str := ["_law_script", "_law_k"]
def spLaw (K : PySem.W.Frag) : Sp := fun vs H Q _ => ∃ (a : Addr) (ns : List Int), vs = [.ref a] ∧ SqL K H a (ns.map V.int) ∧ ns.length ≤ 1000 ∧
  ∀ H', Q (.bl true) H'
theorem many_nat (n : Nat) : (if (if (n : Int) < 4 then (n : Int) else 4) > 1 then (if (n : Int) < 4 then (n : Int) else 4) else 1) = ((max 1 (min 4 n) : Nat) : Int) := by
  split <;> split <;> omega
theorem many_nat' (n : Nat) : (if (if (4 : Int) < (n : Int) then (4 : Int) else (n : Int)) > 1 then (if (4 : Int) < (n : Int) then (4 : Int) else (n : Int)) else 1) = ((max 1 (min 4 n) : Nat) : Int) := by
  split <;> split <;> omega
def a2 : Es := [("a", 2)]
theorem all_true (n : Nat) : (List.replicate n true).all id = true := by
  rw [List.all_eq_true]
  intro x hx
  exact List.eq_of_mem_replicate hx
section
variable {P : Program} {w : World} {K : PySem.W.Frag} {mg : Str → Option Value} {base : Heap} {C CW : Addr}
theorem scLw : FnScope NLa ["_law_script"] (defScope sLw) :=
  ⟨rfl, rfl, rfl, by decide +kernel, rfl, by decide +kernel, by decide +kernel⟩
theorem ok_law {f fA fP fG fR : Addr} {fd fdA fdP fdG fdR : FuncData} (F : Fun K "law" "law" sLw f fd) (Nn : Nb mg) (Kk : Kf P w K mg base C) (hsys : (K.lookup sysModules).isSome = true)
    (GA : FnOk P w K mg base (L2.CX P w) 5 fA fdA ["self", "numbers"] (spAt C CW)) (mA : Meth K C "at" fA) (bA : Binds K fdA ["self", "numbers"] [])
    (GP : FnOk P w K mg base CX0 5 fP fdP ["self", "point"] (spAtP C)) (mP : Meth K C "at_point" fP) (bP : Binds K fdP ["self", "point"] [])
    (GG : FnOk P w K mg base CX0 1 fG fdG ["_law_script", "_law_k"] (spRng K)) (kG : PySem.W.keepIn K (.ref fG) = true)
    (bG : Binds K fdG ["_law_script", "_law_k"] []) (gG : mg "_law_rng" = some (.ref fG))
    (GR : FnG P w K mg base 9 fR fdR ["_law_rng_here"] spRight) (kR : PySem.W.keepIn K (.ref fR) = true)
    (bR : Binds K fdR ["_law_rng_here"] []) (gR : mg "_law_right" = some (.ref fR)) :
    FnG P w K mg base 10 f fd ["_law_script"] (spLaw K) := by
  obtain ⟨Tc, ⟨fi, fdi, M, gi, bi, bi0⟩, _⟩ := Kk
  have GG9 := GG.mono (k := 9) (by decide)
  have GA9 := GA.mono (k := 9) (by decide)
  have GP9 := GP.mono (k := 9) (by decide)
  have gi8 := gi.mono (k := 8) (by decide)
  refine F.okG scLw (fun vs H Q h => ?_) (fun cdv A outer s H vs Q hgu hr h => ?_)
  · obtain ⟨a, ns, rfl, _⟩ := h
    rfl
  · obtain ⟨a, ns, rfl, hS, hn, q⟩ := h
    have hgu' : (A.deeper (envOfC "law" (defScope sLw) s.heap.objs.size f cdv)).guards = some [] := hgu
    have mk0 : ∀ {pos : Pos} {p : Pos}, PE (cxOf CX0 P w K mg base NLa "law" (defScope sLw) f cdv A outer s H E0).nox (.Call (.Name "Size" p) [] [] pos) (tMake C (spInit C) [.non] E0 tNil) := fun {_} {_} =>
      pe_make0 M gi8 hr rfl Tc.gC bi0 (.cons (show RelV .non .none from rfl) .nil) pass0
    refine ⟨_, pss_cons (ps_if (pt_cmpR op_ne (pe_callB (call_reprD hgu' hr.units hsys) (by rfl) Nn.repr (by decide +kernel) (pa_cons (pe_lst
        (pa_cons (pe_methE mk0 Tc.cl mA GA9 hr bA (fun σ => passAt takes0 σ) (pa_cons pe_dnewK pa_nil) (ht := mcall_of (abase_call rfl) fun _ => rfl))
        (pa_cons (pe_methE mk0 Tc.cl mA GA9 hr bA (fun σ => passAt takes0 σ) (pa_cons (pe_disp (pps_cons pe_str pe_int pps_nil) (by rfl) (by rfl) (fun z => by cases z) (by decide)) pa_nil) (ht := mcall_of (abase_call rfl) fun _ => rfl))
        (pa_cons (pe_meth mk0 Tc.cl mP GP9 hr bP .nil pass0 (pa_cons pe_dnewK pa_nil) (ht := mcall_of (abase_call rfl) fun _ => rfl))
        (pa_cons (pe_meth (pe_make M gi8 hr rfl Tc.gC bi .nil pass0 (pa_cons (pe_disp (pps_cons pe_str pe_int pps_nil) (by rfl) (by rfl) (fun z => by cases z) (by decide)) pa_nil)) Tc.cl mP GP9 hr bP .nil pass0 (pa_cons pe_dnewK pa_nil)) pa_nil))))) pa_nil)) pe_str (nomark _))
        (pss_one (ps_ret pe_bl)) pss_nil)
      (pss_one (ps_ret (pe_callB (cr_all rfl) (by rfl) Nn.all (by decide +kernel) (pa_cons
      (pe_lc (own := [("_law_k", 1)]) (g := gName 1) (tt := tYes)
        (te := tCall spRight [] E0 (tCons (tCall (spRng K) [] E0 (tCons (tVar 0) (tCons (tVar 1) tNil))) tNil)) rfl scLw.nd
        (pi_range1 (by rfl) Nn.range (pa_cons (pe_callB (call_max2 rfl) (by rfl) Nn.max (by decide +kernel) (pa_cons pe_int (pa_cons
          (pe_callB (call_min2 rfl) (by rfl) Nn.min (by decide +kernel) (pa_cons
            (pe_callB call_len_seq (by rfl) Nn.len PySem.boot_len (pa_cons (pv 0) pa_nil)) (pa_cons pe_int pa_nil))) pa_nil))) pa_nil))
        (blkOk_by (own := [("_law_k", 1)]) (N := NLa) (sc := defScope sLw) (by decide +kernel)) (fun _ _ _ _ _ => pg_name (i := 1) scLw.nd rfl (Or.inl rfl))
        (fun _ _ _ _ _ => pts_nil) (fun _ _ _ _ _ => by
          exact pe_callG GR hgu' hr rfl gR kR bR (pa_cons (pe_call GG9 hr rfl gG kG bG .nil pass0 (pa_cons (pv 0) (pa_cons (pv 1) pa_nil))) pa_nil))) pa_nil)))), ?_⟩
    have hnil : ∀ {H : Hp} {e : Addr}, H e = some (.dK []) → NumD H e [] := fun h => ⟨h, by decide, List.Pairwise.nil, (fun q h => nomatch h), (fun q h => nomatch h), fun q h => nomatch h⟩
    have at0 : ∀ {H : Hp} {p e : Addr} {ms : Es} {Q : VK} {E : XK}, SizeAt C H p [] → NumD H e ms → (∀ H', Same H H' → Q (.int 1) H') → spAt C CW [.ref p, .ref e] H Q E := fun {H p e ms Q E} z hN k =>
      ⟨p, e, [], ms, fun _ => 0, rfl, z, hN, (fun q h => nomatch h), Nat.zero_le _, (fun q h => nomatch h), fun _ H' S => by
        rw [show upV [] (nOf ms) / dnV [] (nOf ms) = 1 from (by decide : 1 / 1 = 1)]
        exact k H' S, fun hn => absurd (show 1 ∣ 1 from ⟨1, rfl⟩) hn⟩
    -- Size().at({})
    refine rd_mk0 fun H1 p1 S1 z1 nw1 => ⟨rfl, ?_⟩
    obtain ⟨x1, D1, q1, q1'⟩ := id z1
    refine ⟨p1, x1, _, rfl, q1, rfl, fun e1 n1 => ?_⟩
    have T1 := fresh_upd (o := .dK []) n1
    dsimp only [tNil]
    refine at0 (z1.same T1) (hnil upd_same) fun H2 S2 => ?_
    -- Size().at({'a': 3})
    refine rd_mk0 fun H3 p3 S3 z3 nw3 => ⟨rfl, ?_⟩
    obtain ⟨x3, D3, q3, q3'⟩ := id z3
    refine ⟨p3, x3, _, rfl, q3, rfl, fun e3 n3 => ⟨upd_same, [(ky "a", .int 3)], rfl, by decide, ?_⟩⟩
    have hm3 : mergeK [] [(ky "a", V.int 3)] = kv [("a", 3)] := merge_kv (es := [("a", 3)]) (by decide +kernel)
    rw [hm3]
    have U3 : Same H3 (upd (upd H3 e3 (.dK [])) e3 (.dK (kv [("a", 3)]))) := fun b o e => (upd_ne (ne_of_none e n3)).trans ((upd_ne (ne_of_none e n3)).trans e)
    dsimp only [tNil]
    refine at0 (ms := [("a", 3)]) (z3.same U3) ⟨upd_same, by decide, by decide +kernel, fun q hq => ?_, fun q hq => ?_, fun q hq => ?_⟩ fun H4 S4 => ?_
    · rw [List.mem_singleton.mp hq]
      decide +kernel
    · rw [List.mem_singleton.mp hq]
      decide
    · rw [List.mem_singleton.mp hq]
      decide
    -- Size().at_point({})
    refine rd_mk0 fun H5 p5 S5 z5 nw5 => ⟨rfl, ?_⟩
    obtain ⟨x5, D5, q5, q5'⟩ := id z5
    refine ⟨p5, x5, _, rfl, q5, rfl, fun e5 n5 => ?_⟩
    have T5 := fresh_upd (o := .dK []) n5
    refine ⟨p5, e5, [], [], rfl, z5.same T5, (fun q h => nomatch h), upd_same, by decide, List.Pairwise.nil, (fun q h => nomatch h), (fun q h => nomatch h), fun H6 S6 => ?_⟩
    -- Size({'a': 2}).at_point({})
    refine fun e7 n7 => ⟨upd_same, [(ky "a", .int 2)], rfl, by decide, ?_⟩
    have hm7 : mergeK [] [(ky "a", V.int 2)] = kv [("a", 2)] := merge_kv (es := [("a", 2)]) (by decide +kernel)
    rw [hm7]
    have U7 : Same H6 (upd (upd H6 e7 (.dK [])) e7 (.dK (kv [("a", 2)]))) := fun b o e => (upd_ne (ne_of_none e n7)).trans ((upd_ne (ne_of_none e n7)).trans e)
    have h7 : upd (upd H6 e7 (.dK [])) e7 (.dK (kv [("a", 2)])) e7 = some (.dK (kv [("a", 2)])) := upd_same
    generalize upd (upd H6 e7 (.dK [])) e7 (.dK (kv [("a", 2)])) = H7 at U7 h7
    refine rd_mk h7 (by decide +kernel) (by decide) (fun q hq => by rw [List.mem_singleton.mp hq]; decide +kernel) fun H8 p8 rs x8 D8 S8 z8 l8 np8 nD8 q8 => ⟨rfl, ?_⟩
    have sd2 : SdE a2 := List.pairwise_singleton ..
    have e8 : rs = a2 := z8.sd.one sd2 fun n => by
      rw [l8]
      by_cases h : n = "a"
      · subst h
        decide +kernel
      · have e : (n == ("a" : Str)) = false := by simpa using h
        unfold g0 a2
        simp only [List.lookup_cons, List.lookup_nil, e]
        rfl
    subst e8
    refine ⟨p8, x8, _, rfl, q8, rfl, fun e9 n9 => ?_⟩
    have T9 := fresh_upd (o := .dK []) n9
    refine ⟨p8, e9, a2, [], rfl, z8.same T9, (fun q hq => by rw [List.mem_singleton.mp hq]; decide), upd_same, by decide, List.Pairwise.nil, (fun q h => nomatch h), (fun q h => nomatch h), fun H10 S10 => ?_⟩
    have S : Same H H10 := S1.trans (T1.trans (S2.trans (S3.trans (U3.trans (S4.trans (S5.trans (T5.trans (S6.trans (U7.trans (S8.trans (T9.trans S10)))))))))))
    refine ⟨by rw [sizeLine_eq]; show 4 ≤ 16777216; decide, fun l nl => ?_⟩
    refine ⟨l, .list [.int 1, .int 1, .int 0, .int 0], rfl, .lst upd_same (.cons (.int 1) (.cons (.int 1) (.cons (.int 0) (.cons (.int 0) .nil)))), by decide +kernel, by decide +kernel, by decide +kernel, rfl, _, rfl, ?_⟩
    have T11 := fresh_upd (o := .lst [V.int 1, V.int 1, V.int (ptV [] []), V.int (ptV a2 [])]) nl
    rw [decide_eq_true (show V.str (PyData.list [.int 1, .int 1, .int 0, .int 0]).shown = V.str "[1, 1, 0, 0]" from congrArg V.str (by decide +kernel))]
    refine iteF (next_ ?_)
    have S := S.trans T11
    generalize upd H10 l (.lst [V.int 1, V.int 1, V.int (ptV [] []), V.int (ptV a2 [])]) = H11 at S
    -- the cells
    refine ⟨_, rfl, a, _, rfl, .inl (S.seq hS), _, _, rfl, _, _, rfl, ?_⟩
    first
      | rw [many_nat]
      | rw [many_nat']
    have hm4 : max 1 (min 4 (ns.map V.int).length) ≤ 4 := by omega
    generalize max 1 (min 4 (ns.map V.int).length) = m at hm4
    refine ⟨m, rfl, by omega, by omega, fun D hD => ?_⟩
    refine lc_range (lo := 0) (n := m) (fun i H2 => H2 D = some (.lst (List.replicate i (V.bl true))) ∧ Same H11 H2)
      ⟨upd_same, fresh_upd hD⟩ ?_ ?_
    · rintro i H2 hi ⟨hD2, S2'⟩
      refine ⟨rfl, ?_⟩
      unfold tYes
      dsimp only
      rw [if_pos rfl]
      refine ⟨_, rfl, _, rfl, a, ns, _, rfl, (S.trans S2').seq hS, by omega, by omega, hn, fun p x y hp h0 h1 h2 => ?_⟩
      refine ⟨p, rfl, ⟨x, y, upd_same, h0, h1, h2⟩, fun H3' hB _ => ?_⟩
      have S3' : Same H2 H3' := fun b o e => hB b o (ne_of_none e hp) ((upd_ne (ne_of_none e hp)).trans e)
      refine ⟨_, S3' _ _ hD2, by rw [List.length_replicate, sizeLine_eq]; omega, ?_, fun b o e => ?_⟩
      · rw [upd_same, List.replicate_succ']
      · rw [upd_ne (ne_of_none e hD)]
        exact S3' b o (S2' b o e)
    · rintro H2 ⟨hD2, S2'⟩
      refine ⟨D, List.replicate m true, rfl, SqL.of (by rw [List.map_replicate]; exact hD2), ?_⟩
      rw [all_true]
      exact q _
end
end K12
set_option maxHeartbeats 8000000
namespace K12
open PySem PySem.Spec PyProof.Rows L2 He

/-! ### what is looked at behind the top -/
/-- an object that a namespace names -/
def gNs (g : Addr → Option Obj) (ns : Addr) (x : Str) : Addr := match g ns with
  | some ⟨_, _, .dict es _, _⟩ => (match es.toList.find? (·.key.isStr x) with
    | some e => (match e.val with
      | .ref a => a
      | _ => 0)
    | none => 0)
  | _ => 0
/-- a function, its code, its defaults -/
def gFn (g : Addr → Option Obj) (f : Addr) : List Addr := f :: (match g f with
  | some ⟨_, _, .func fd, _⟩ => (match fd.code with
    | .ref c => [c]
    | _ => []) ++ (match fd.defaults with
    | .ref t => [t]
    | _ => []) ++ fd.closure.map (·.2)
  | _ => [])
/-- .., or a record over it -/
def gMb (g : Addr → Option Obj) (p : Addr) : List Addr := match g p with
  | some ⟨_, _, .fields vs, _⟩ => (match vs[0]? with
    | some (Value.ref f) => p :: gFn g f
    | _ => [p])
  | _ => gFn g p
def meths : List (Str × Nat) := [("names", 7), ("exponents", 8), ("over", 10), ("power", 11), ("at", 12), ("at_point", 13), ("__mul__", 14), ("__eq__", 17)]
def gCl (g : Addr → Option Obj) (C : Addr) : List Addr := C :: (match g C with
  | some ⟨_, _, .cls cd, _⟩ => cd.ns :: gMb g (gNs g cd.ns "__init__") ++ meths.flatMap fun p => gMb g (gNs g cd.ns p.1)
  | _ => [])
def xCl (g : Addr → Option Obj) (C : Addr) : List Addr := C :: (match g C with
  | some ⟨_, _, .cls cd, _⟩ => cd.ns :: gFn g (gNs g cd.ns "__init__")
  | _ => [])
def fns0 : List (Str × Nat) := [("added", 3), ("is_integer", 16), ("is_count", 17), ("raised", 19), ("orders", 20), ("coprime_bases", 21), ("order_in", 22), ("_refined", 23), ("_sharing", 24), ("is_name", 28), ("is_numbers", 29), ("is_point", 30), ("check_numbers", 31), ("check_point", 32), ("check_size", 45), ("_is_exponents", 47)]
def fns1 : List (Str × Nat) := [("_times", 48), ("_law_rng", 50), ("_law_draw", 51), ("_law_choice", 52), ("_law_names", 53), ("_law_times", 54), ("_law_drawn", 55), ("_law_numbers", 56), ("_law_point", 57), ("_law_value", 58), ("_law_exponent", 59), ("_law_is_at", 60), ("_law_both_right", 61), ("_law_pair_right", 62), ("_law_great_right", 63), ("_law_right", 64)]
def fns2 : List (Str × Nat) := [("law", 65)]
def fns : List (Str × Nat) := fns0 ++ fns1 ++ fns2
def xcs : List Str := ["StateError", "NotWhole"]
def addrs (g : Addr → Option Obj) : List Addr := [mainGlobals, sysModules, cStatics] ++ gCl g (gNs g mainGlobals "Size") ++ (xcs.flatMap fun x => xCl g (gNs g mainGlobals x)) ++ fns.flatMap fun p => gFn g (gNs g mainGlobals p.1)
def KX (g : Addr → Option Obj) : PySem.W.Frag := He.frG g (addrs g)

/-! ### the facts -/
abbrev FnX : Type := Option (Str × Str × Arguments × FuncBody × Scope × Addr × Addr)
def fnX (K : PySem.W.Frag) (f : Addr) : FnX := match K.lookup f with
  | some ⟨_, _, .func fd, _⟩ => some (fd.name, fd.qualname, fd.params, fd.body, fd.scope, fd.globals, fd.builtins)
  | _ => none
def fnT (x qual : Str) (st : Stmt) : FnX := some (x, qual, defArgs st, .stmts (defBody st), defScope st, mainGlobals, builtinsNs)
def fnB (K : PySem.W.Frag) (f : Addr) (qual : Str) : Bool := PySem.W.keepIn K (.ref f) && match K.lookup f with
  | some ⟨_, _, .func fd, _⟩ => (match fd.closure, fd.defaults with
    | [], .none => PySem.W.codeIn K fd.code qual
    | _, _ => false)
  | _ => false
theorem fun_of {K : PySem.W.Frag} {f : Addr} {x qual : Str} {st : Stmt} (e : fnX K f = fnT x qual st) (c : fnB K f qual = true) : ∃ fd, Fun K x qual st f fd := by
  unfold fnB at c
  obtain ⟨kp, c2⟩ := Bool.and_eq_true_iff.mp c
  unfold fnX at e
  cases q : K.lookup f with
  | none =>
    rw [q] at c2
    cases c2
  | some o =>
    obtain ⟨oc, od, dt, osl⟩ := o
    rw [q] at c2 e
    cases dt with
    | func fd =>
      obtain ⟨n1, n2, n3, n4, n5, n6, n7, n8, n9, n10, n11, n12, n13, n14, n15⟩ := fd
      have e2 : (some (n1, n2, n3, n4, n5, n6, n15) : FnX) = some (x, qual, defArgs st, .stmts (defBody st), defScope st, mainGlobals, builtinsNs) := e
      simp only [Option.some.injEq, Prod.mk.injEq] at e2
      obtain ⟨h1, h2, h3, h4, h5, h6, h7⟩ := e2
      subst h1 h2 h3 h4 h5 h6 h7
      dsimp only at c2
      split at c2
      · exact ⟨_, ⟨oc, od, n9, n10, n11, n12, n13, n14, osl, rfl, q, c2⟩, kp⟩
      · cases c2
    | _ => cases c2
/-- a def whose one default is None -/
def fnD (K : PySem.W.Frag) (f : Addr) (qual : Str) : Bool := PySem.W.keepIn K (.ref f) && match K.lookup f with
  | some ⟨_, _, .func fd, _⟩ => (match fd.closure, fd.defaults with
    | [], .ref T => PySem.W.codeIn K fd.code qual && (match K.lookup T with
      | some ⟨_, _, .seq its _, _⟩ => decide (its = #[Value.none])
      | _ => false)
    | _, _ => false)
  | _ => false
theorem fund_of {K : PySem.W.Frag} {f : Addr} {x qual : Str} {st : Stmt} (e : fnX K f = fnT x qual st) (c : fnD K f qual = true) : ∃ fd, FnD K x qual st [.non] f fd := by
  unfold fnD at c
  obtain ⟨kp, c2⟩ := Bool.and_eq_true_iff.mp c
  unfold fnX at e
  cases q : K.lookup f with
  | none =>
    rw [q] at c2
    cases c2
  | some o =>
    obtain ⟨oc, od, dt, osl⟩ := o
    rw [q] at c2 e
    cases dt with
    | func fd =>
      obtain ⟨n1, n2, n3, n4, n5, n6, n7, n8, n9, n10, n11, n12, n13, n14, n15⟩ := fd
      have e2 : (some (n1, n2, n3, n4, n5, n6, n15) : FnX) = some (x, qual, defArgs st, .stmts (defBody st), defScope st, mainGlobals, builtinsNs) := e
      simp only [Option.some.injEq, Prod.mk.injEq] at e2
      obtain ⟨h1, h2, h3, h4, h5, h6, h7⟩ := e2
      subst h1 h2 h3 h4 h5 h6 h7
      dsimp only at c2
      split at c2
      · rename_i T
        obtain ⟨c3, c4⟩ := Bool.and_eq_true_iff.mp c2
        split at c4
        · rename_i a1 a2 its n a4 q2
          have ei := of_decide_eq_true c4
          subst ei
          exact ⟨_, ⟨⟨oc, od, .ref T, _, _, _, _, _, _, osl, rfl, q, c3, .inr ⟨(fun z => nomatch z), T, _, [.none], n, rfl, q2, rfl, .cons rfl .nil⟩, .inl rfl⟩, kp⟩⟩
        · cases c4
      · cases c2
    | _ => cases c2
abbrev caK (K : PySem.W.Frag) : Addr := ga K "Size"
def eO (a b : Option (Option Value)) : Bool := decide (a = b)
def eB (a b : Option Bool) : Bool := decide (a = b)
/-- the function of a record -/
def rcF (K : PySem.W.Frag) (p : Addr) (T : String) : Addr := match PySem.W.recIn K p T with
  | some (.ref g :: _) => g
  | _ => 0
def rcB (K : PySem.W.Frag) (p : Addr) (T : String) : Bool := match PySem.W.recIn K p T with
  | some (.ref _ :: _) => true
  | _ => false
theorem rec_ok {K : PySem.W.Frag} {p : Addr} {T : String} (h : rcB K p T = true) : ∃ rest, PySem.W.recIn K p T = some (.ref (rcF K p T) :: rest) := by
  unfold rcB at h
  unfold rcF
  split at h
  · rename_i g r e
    rw [e]
    exact ⟨r, rfl⟩
  · cases h
def cmB (K : PySem.W.Frag) (m : Str) : Bool := match PySem.W.findCls K (.ref (caK K)) (.type "type") m with
  | some (.get g a o t) => decide (g = .builtin "classmethod.__get__") && (decide (a = .ref (ma K (caK K) m)) && (decide (o = .none) && decide (t = .ref (caK K))))
  | _ => false
theorem cm_ok {K : PySem.W.Frag} {m : Str} (h : cmB K m = true) : PySem.W.findCls K (.ref (caK K)) (.type "type") m = some (.get (.builtin "classmethod.__get__") (.ref (ma K (caK K) m)) .none (.ref (caK K))) := by
  unfold cmB at h
  split at h
  · rename_i g a o t e
    rw [Bool.and_eq_true, Bool.and_eq_true, Bool.and_eq_true] at h
    obtain ⟨h1, h2, h3, h4⟩ := h
    rw [e, of_decide_eq_true h1, of_decide_eq_true h2, of_decide_eq_true h3, of_decide_eq_true h4]
  · cases h
/-- a method's function -/
def meA (K : PySem.W.Frag) (m : Str) : Addr := ma K (caK K) m
def props : List Str := []
def cms : List Str := []
def plain : List Str := ["names", "exponents", "over", "power", "at", "at_point", "__mul__", "__eq__", "__init__"]
def faM (K : PySem.W.Frag) (m : Str) : Addr := if decide (m ∈ props) then rcF K (meA K m) "property" else if decide (m ∈ cms) then rcF K (meA K m) "classmethod" else meA K m
def quM (m : Str) : Str := ("Size." : Str) ++ m
def clB (K : PySem.W.Frag) : Bool :=
  eO (PySem.W.nsIn K mainGlobals "Size") (some (some (.ref (caK K)))) &&
  (PySem.W.plainGet K (caK K) Str.empty &&
  (PySem.W.hasDictIn K (caK K) &&
  (PySem.W.plainOver K (caK K) &&
  (eO (PySem.W.findIn K (.ref (caK K)) "__setattr__") (some (some (.builtin "object.__setattr__"))) &&
  (eO (PySem.W.findIn K (.ref (caK K)) "_exponents") (some none) &&
  (eO (PySem.W.findIn K (.ref (caK K)) "__class__") (some (some (.builtin "object.__class__"))) &&
  (eB (PySem.W.mroIn K (caK K) (.type "object")) (some true) &&
  (PySem.W.makesIn K (caK K) &&
  (PySem.W.keepIn K (.ref (caK K)) &&
  (PySem.W.selfFirst K (caK K) &&
  (eO (PySem.W.findIn K (.ref (caK K)) "__ne__") (some (some (.builtin "object.__ne__"))) &&
  (PySem.W.readsIn K (caK K) (.type "type") &&
  (eO (PySem.W.specialIn K (.ref (caK K)) "__getattribute__") (some (some (.builtin "type.__getattribute__"))) &&
  (eB (PySem.W.kitOne K (.ref (caK K)) (.type "str")) (some false) &&
  (eB (PySem.W.kitOne K (.type "int") (.ref (caK K))) (some false) &&
  (eB (PySem.W.kitOne K (.type "str") (.ref (caK K))) (some false) &&
  (eB (PySem.W.kitOne K (.type "dict") (.ref (caK K))) (some false))))))))))))))))))
def plB (K : PySem.W.Frag) (m : Str) : Bool := eO (PySem.W.findIn K (.ref (caK K)) m) (some (some (.ref (meA K m)))) && PySem.W.isFn K (.ref (meA K m))
def prB (K : PySem.W.Frag) (m : Str) : Bool := eO (PySem.W.findIn K (.ref (caK K)) m) (some (some (.ref (meA K m)))) && (eO (PySem.W.specialIn K (.ref (meA K m)) "__get__") (some (some (.builtin "property.__get__"))) &&
  (eB (PySem.W.takesIn K (.ref (meA K m))) (some true) && rcB K (meA K m) "property"))
def cmmB (K : PySem.W.Frag) (m : Str) : Bool := cmB K m && (rcB K (meA K m) "classmethod" && PySem.W.fnIn K (rcF K (meA K m) "classmethod"))
def bltN : List Str := ["len", "max", "min", "abs", "int", "divmod", "repr", "isinstance", "range", "enumerate", "all", "any", "bool", "str", "dict", "sorted", "list", "sum", "super"]
def conB (K : PySem.W.Frag) : Bool := (match PySem.W.nsIn K mainGlobals "LETTERS" with
  | some (some (.str x _)) => decide (x = abc)
  | _ => false) && ((match PySem.W.nsIn K mainGlobals "LONGEST_NAME" with
  | some (some (.int i _)) => decide (i = 8)
  | _ => false))

/-! ### own exceptions -/
def inB (K : PySem.W.Frag) (file : Str) (C f : Addr) (qual : Str) : Bool := match K.lookup f with
  | some ⟨_, _, .func fd, _⟩ => (match fd.closure, fd.defaults, fd.code with
    | [(x, cc)], .none, .ref cda => decide (x = "__class__") && (match K.lookup cc with
      | some ⟨_, _, .cell (some (.ref D)), _⟩ => decide (D = C)
      | _ => false) && PySem.W.codeIn K (.ref cda) qual && (match K.lookup cda with
      | some ⟨_, _, .fields vs, _⟩ => (match vs[2]? with
        | some (Value.str fl _) => file == fl
        | _ => false)
      | _ => false)
    | _, _, _ => false)
  | _ => false
/-- what stands of an own class' __init__ -/
structure InX (file : Str) (K : PySem.W.Frag) (C fI : Addr) (cc cda : Addr) (qual : Str) (params : Arguments) (body : List Stmt) (scope : Scope) : Prop where
  fn : ∃ (oc : Value) (od : Option Addr) (kV doc pm ct : Value) (an : Option Addr) (osl : Array (Option Value)), K.lookup fI = some ⟨oc, od,
      .func (PySem.W.ksFn "__init__" qual params body scope .none kV doc pm an (.ref cda) ct cc), osl⟩
  cod : PySem.W.codeIn K (.ref cda) qual = true
  code : ∃ ccl cdd vs ccs fl tf, K.lookup cda = some ⟨ccl, cdd, .fields vs, ccs⟩ ∧ vs[2]? = some (.str fl tf) ∧ (file == fl) = true
  cell : ∃ cl cld csl, K.lookup cc = some ⟨cl, cld, .cell (some (.ref C)), csl⟩
theorem in_of {file : Str} {K : PySem.W.Frag} {C f : Addr} {qual : Str} {st : Stmt} (e : fnX K f = fnT "__init__" qual st) (c : inB K file C f qual = true) :
    ∃ cc cda, InX file K C f cc cda qual (defArgs st) (defBody st) (defScope st) := by
  unfold inB at c
  unfold fnX at e
  cases q : K.lookup f with
  | none =>
    rw [q] at c
    cases c
  | some o =>
    obtain ⟨oc, od, dt, osl⟩ := o
    rw [q] at c e
    cases dt with
    | func fd =>
      obtain ⟨n1, n2, n3, n4, n5, n6, n7, n8, n9, n10, n11, n12, n13, n14, n15⟩ := fd
      have e2 : (some (n1, n2, n3, n4, n5, n6, n15) : FnX) = some (("__init__" : Str), qual, defArgs st, .stmts (defBody st), defScope st, mainGlobals, builtinsNs) := e
      simp only [Option.some.injEq, Prod.mk.injEq] at e2
      obtain ⟨h1, h2, h3, h4, h5, h6, h7⟩ := e2
      subst h1 h2 h3 h4 h5 h6 h7
      dsimp only at c
      split at c
      · rename_i x cc cda
        rw [Bool.and_eq_true, Bool.and_eq_true, Bool.and_eq_true] at c
        obtain ⟨⟨⟨c1, c2⟩, c3⟩, c4⟩ := c
        have ex := of_decide_eq_true c1
        subst ex
        refine ⟨cc, cda, ⟨oc, od, n9, n10, n11, n14, n12, osl, q⟩, c3, ?_, ?_⟩
        · split at c4
          · rename_i a1 a2 vs a4 q2
            split at c4
            · rename_i fl tf q3
              exact ⟨_, _, vs, _, fl, tf, q2, q3, c4⟩
            · cases c4
          · cases c4
        · split at c2
          · rename_i a1 a2 D a4 q2
            have eD := of_decide_eq_true c2
            subst eD
            exact ⟨_, _, _, q2⟩
          · cases c2
      · cases c
    | _ => cases c
def bmL (B : String) : List Value := [.type B, .type "Exception", .type "BaseException", .type "object"]
def fileK : Str := PySem.Challenge.pw_anyshape_k12_sizes_at_numbers_and_points.main.file
def xB (K : PySem.W.Frag) (nm qu : Str) (B nw it : String) (fs : List Str) : Bool :=
  eO (PySem.W.nsIn K mainGlobals nm) (some (some (.ref (ga K nm)))) &&
  (eO (PySem.W.findIn K (.ref (ga K nm)) "__init__") (some (some (.ref (ma K (ga K nm) "__init__")))) &&
  (decide (PySem.W.typeIn K (.ref (ma K (ga K nm) "__init__")) = some (.type "function")) &&
  (inB K fileK (ga K nm) (ma K (ga K nm) "__init__") qu &&
  (PySem.W.excInitIn K (ga K nm) (bmL B) nw &&
  (PySem.W.excOver K (ga K nm) (bmL B) &&
  (PySem.W.hasDictIn K (ga K nm) &&
  (eO (PySem.W.findIn K (.ref (ga K nm)) "__setattr__") (some (some (.builtin "object.__setattr__"))) &&
  (PySem.W.keepIn K (.ref (ga K nm)) &&
  ((PySem.W.clsIn K (ga K nm)).isSome &&
  (eB (PySem.W.mroIn K (ga K nm) (.ref (ga K nm))) (some true) &&
  (eB (PySem.W.subIn K (.ref (ga K nm)) (.type B)) (some true) &&
  (eO (PySem.W.ks_superIn K (ga K nm) (ga K nm) "__init__") (some (some (.builtin it))) &&
  (eO (PySem.W.findIn K (.ref (ga K nm)) "__getattribute__") (some (some (.builtin "BaseException.__getattribute__"))) &&
  (eO (PySem.W.findIn K (.ref (ga K nm)) "__getattr__") (some none) &&
  (eB (PySem.W.subIn K (.ref (ga K nm)) (.type "BaseException")) (some true) &&
  (eO (PySem.W.findIn K (.ref (ga K nm)) "__class__") (some (some (.builtin "object.__class__"))) &&
  (eB (PySem.W.mroIn K (ga K nm) (.type "object")) (some true) &&
  (decide (PySem.W.typeIn K (.ref (ga K nm)) = some (.type "type")) &&
  (fs.all fun f => decide (PySem.W.findIn K (.ref (ga K nm)) f = some none))))))))))))))))))))
def exB (K : PySem.W.Frag) : Bool := xB K "NotWhole" "NotWhole.__init__" "RuntimeError" "RuntimeError.__new__" "RuntimeError.__init__" ["size"] && (eO (PySem.W.nsIn K mainGlobals "StateError") (some (some (.ref (ga K "StateError")))) && (eB (PySem.W.exmOne K (.ref (ga K "NotWhole")) (.ref (ga K "NotWhole"))) (some true) && (eB (PySem.W.kitOne K (.ref (ga K "NotWhole")) (.ref (ga K "StateError"))) (some true) && (eO (PySem.W.nsIn K mainGlobals "gcd") (some (some (.builtin "math.gcd"))) && (eO (PySem.W.nsIn K cStatics "thirdparty.any") (some none))))))
def gloB (K : PySem.W.Frag) : Bool :=
  bltN.all (fun x => eO (PySem.W.nsIn K mainGlobals x) (some none)) &&
  (fns.all (fun p => eO (PySem.W.nsIn K mainGlobals p.1) (some (some (.ref (ga K p.1)))) && fnB K (ga K p.1) p.1) &&
  ((K.lookup sysModules).isSome &&
  (eO (PySem.W.specialIn K (.builtin "object.__class__") "__get__") (some (some (.builtin "getset_descriptor.__get__"))) &&
  (eB (PySem.W.takesIn K (.builtin "object.__class__")) (some true) &&
  (conB K &&
  (fnD K (meA K "__init__") "Size.__init__" &&
  (meths.all (fun p => fnB K (faM K p.1) (quM p.1)) &&
  (plain.all (plB K) &&
  (props.all (prB K) &&
  (cms.all (cmmB K)))))))))))
def allB (K : PySem.W.Frag) : Bool := gloB K && (clB K && exB K)
def obF (K : PySem.W.Frag) : List FnX := fnX K (meA K "__init__") :: fnX K (ma K (ga K "NotWhole") "__init__") :: meths.foldr (fun p r => fnX K (faM K p.1) :: r) (fns.foldr (fun p r => fnX K (ga K p.1) :: r) [])
abbrev sXNotWhole : Stmt := inClass (top 14) 0
def vaF : List FnX := fnT "__init__" "Size.__init__" sInit :: fnT "__init__" "NotWhole.__init__" sXNotWhole :: ((meths.map fun p => fnT p.1 (quM p.1) (inClass sSize p.2)) ++ fns.map fun p => fnT p.1 p.1 (top p.2))
abbrev AlX : Type := Bool × List FnX
def obK (K : PySem.W.Frag) : AlX := (allB K, obF K)
def vaX : AlX := (true, vaF)
def hk : PySem.W.Hook where
  α := AlX
  obs := fun s => obK (KX s.heap.get?)
  val := fun _ => vaX
  says := fun _ h => ∃ K : PySem.W.Frag, K.In h ∧ obK K = vaX
  of := fun _ _ e => ⟨_, frG_in, e⟩
  keeps := fun _ _ _ ⟨K, hK, c⟩ k => ⟨K, PySem.W.Frag.In.keeps hK k, c⟩
def ob (s : PySem.W.SharedT) : AlX := obK (KX (HandSHeadRun.getT s))
theorem ob_eq (s : PySem.W.SharedT) : ob s = hk.obs s.abs := by
  have e : HandSHeadRun.getT s = s.abs.heap.get? := funext (HandSHeadRun.getT_eq s)
  show obK (KX (HandSHeadRun.getT s)) = obK (KX s.abs.heap.get?)
  rw [e]
end K12
set_option maxHeartbeats 0
namespace K12
open PySem PySem.W PySem.Calls PyProof.Rows
abbrev R : OpenRow := OpenLaw.row PySem.Challenge.rw_anyshape_k12_sizes_at_numbers_and_points
abbrev qv : Program := view R.prog [0, 65]
def names1 : List PySem.Str := ["_wall", "added", "AnyshapeError", "InvalidName", "InvalidSize", "InvalidCount", "InvalidNumbers", "InvalidPoint", "InvalidText", "StateError", "NotWhole", "is_integer", "is_count", "raised", "orders", "coprime_bases", "order_in", "_refined", "_sharing", "LETTERS", "LONGEST_NAME", "is_name", "is_numbers", "is_point"]
def names2 : List PySem.Str := ["check_numbers", "check_point", "DIGITS", "CHUNK_DIGITS", "CHUNK", "decimal_text", "read_decimal", "exponents_text", "read_exponents", "_power_text", "Size", "check_size", "check_sizes", "_is_exponents", "_times", "_law_rng", "_law_draw", "_law_choice", "_law_names", "_law_times", "_law_drawn", "_law_numbers", "_law_point", "_law_value"]
def names3 : List PySem.Str := ["_law_exponent", "_law_is_at", "_law_both_right", "_law_pair_right", "_law_great_right", "_law_right"]
def names : List PySem.Str := names1 ++ names2 ++ names3
theorem run (w : World) : HandSHeadRun.RunEqI R qv hk ob 12500 names w := by
  show _ = _
  kernel_rfl
end K12
set_option maxHeartbeats 8000000
namespace K12
open PySem PySem.Spec PyProof.Rows L2 He

/-! ### what the facts say -/
theorem foldr_map {α β : Type} (f : α → β) (t : List β) : ∀ l : List α, l.foldr (fun a r => f a :: r) t = l.map f ++ t
  | [] => rfl
  | a :: l => congrArg (f a :: ·) (foldr_map f t l)
theorem facts_of {K : PySem.W.Frag} (c : obK K = vaX) : allB K = true ∧ fnX K (meA K "__init__") = fnT "__init__" "Size.__init__" sInit ∧ fnX K (ma K (ga K "NotWhole") "__init__") = fnT "__init__" "NotWhole.__init__" sXNotWhole ∧ (∀ p ∈ meths, fnX K (faM K p.1) = fnT p.1 (quM p.1) (inClass sSize p.2)) ∧
    ∀ p ∈ fns, fnX K (ga K p.1) = fnT p.1 p.1 (top p.2) := by
  have c1 : allB K = true := congrArg (fun z : AlX => z.1) c
  have c2 : obF K = vaF := congrArg (fun z : AlX => z.2) c
  unfold obF vaF at c2
  rw [foldr_map, foldr_map, List.append_nil] at c2
  obtain ⟨h0, h⟩ := List.cons.inj c2
  obtain ⟨x0, h⟩ := List.cons.inj h
  obtain ⟨h1, h2⟩ := List.append_inj h (by rw [List.length_map, List.length_map])
  exact ⟨c1, h0, x0, List.map_inj_left.mp h1, List.map_inj_left.mp h2⟩
theorem eO_ok {a b : Option (Option Value)} (h : eO a b = true) : a = b := of_decide_eq_true h
theorem eB_ok {a b : Option Bool} (h : eB a b = true) : a = b := of_decide_eq_true h
theorem ba2 {a b : Bool} (h : (a && b) = true) : a = true ∧ b = true := Bool.and_eq_true_iff.mp h
structure CF (K : PySem.W.Frag) : Prop where
  glo : PySem.W.nsIn K mainGlobals "Size" = some (some (.ref (caK K)))
  pg : PySem.W.plainGet K (caK K) Str.empty = true
  hd : PySem.W.hasDictIn K (caK K) = true
  po : PySem.W.plainOver K (caK K) = true
  sa : PySem.W.findIn K (.ref (caK K)) "__setattr__" = some (some (.builtin "object.__setattr__"))
  nE : PySem.W.findIn K (.ref (caK K)) "_exponents" = some none
  cc : PySem.W.findIn K (.ref (caK K)) "__class__" = some (some (.builtin "object.__class__"))
  co : PySem.W.mroIn K (caK K) (.type "object") = some true
  mkI : PySem.W.makesIn K (caK K) = true
  kp : PySem.W.keepIn K (.ref (caK K)) = true
  s1 : PySem.W.selfFirst K (caK K) = true
  ne : PySem.W.findIn K (.ref (caK K)) "__ne__" = some (some (.builtin "object.__ne__"))
  rd : PySem.W.readsIn K (caK K) (.type "type") = true
  ga : PySem.W.specialIn K (.ref (caK K)) "__getattribute__" = some (some (.builtin "type.__getattribute__"))
  k1 : PySem.W.kitOne K (.ref (caK K)) (.type "str") = some false
  k2 : PySem.W.kitOne K (.type "int") (.ref (caK K)) = some false
  k3 : PySem.W.kitOne K (.type "str") (.ref (caK K)) = some false
  k4 : PySem.W.kitOne K (.type "dict") (.ref (caK K)) = some false
theorem cf_of {K : PySem.W.Frag} (h : clB K = true) : CF K := by
  unfold clB at h
  obtain ⟨h1, h⟩ := ba2 h
  obtain ⟨h2, h⟩ := ba2 h
  obtain ⟨h3, h⟩ := ba2 h
  obtain ⟨h4, h⟩ := ba2 h
  obtain ⟨h5, h⟩ := ba2 h
  obtain ⟨h6, h⟩ := ba2 h
  obtain ⟨h7, h⟩ := ba2 h
  obtain ⟨h8, h⟩ := ba2 h
  obtain ⟨h9, h⟩ := ba2 h
  obtain ⟨h10, h⟩ := ba2 h
  obtain ⟨h11, h⟩ := ba2 h
  obtain ⟨h12, h⟩ := ba2 h
  obtain ⟨h13, h⟩ := ba2 h
  obtain ⟨h14, h⟩ := ba2 h
  obtain ⟨h15, h⟩ := ba2 h
  obtain ⟨h16, h⟩ := ba2 h
  obtain ⟨h17, h⟩ := ba2 h
  exact ⟨eO_ok h1, h2, h3, h4, eO_ok h5, eO_ok h6, eO_ok h7, eB_ok h8, h9, h10, h11, eO_ok h12, h13, eO_ok h14, eB_ok h15, eB_ok h16, eB_ok h17, eB_ok h⟩
structure XF (K : PySem.W.Frag) (nm qu : Str) (B nw it : String) (fs : List Str) : Prop where
  glo : PySem.W.nsIn K mainGlobals nm = some (some (.ref (ga K nm)))
  ini : PySem.W.findIn K (.ref (ga K nm)) "__init__" = some (some (.ref (ma K (ga K nm) "__init__")))
  tyI : PySem.W.typeIn K (.ref (ma K (ga K nm) "__init__")) = some (.type "function")
  inb : inB K fileK (ga K nm) (ma K (ga K nm) "__init__") qu = true
  exI : PySem.W.excInitIn K (ga K nm) (bmL B) nw = true
  exO : PySem.W.excOver K (ga K nm) (bmL B) = true
  hd : PySem.W.hasDictIn K (ga K nm) = true
  sa : PySem.W.findIn K (.ref (ga K nm)) "__setattr__" = some (some (.builtin "object.__setattr__"))
  kp : PySem.W.keepIn K (.ref (ga K nm)) = true
  cls : (PySem.W.clsIn K (ga K nm)).isSome = true
  slf : PySem.W.mroIn K (ga K nm) (.ref (ga K nm)) = some true
  isB : PySem.W.subIn K (.ref (ga K nm)) (.type B) = some true
  sup : PySem.W.ks_superIn K (ga K nm) (ga K nm) "__init__" = some (some (.builtin it))
  gat : PySem.W.findIn K (.ref (ga K nm)) "__getattribute__" = some (some (.builtin "BaseException.__getattribute__"))
  gga : PySem.W.findIn K (.ref (ga K nm)) "__getattr__" = some none
  exb : PySem.W.subIn K (.ref (ga K nm)) (.type "BaseException") = some true
  cc : PySem.W.findIn K (.ref (ga K nm)) "__class__" = some (some (.builtin "object.__class__"))
  co : PySem.W.mroIn K (ga K nm) (.type "object") = some true
  tyC : PySem.W.typeIn K (.ref (ga K nm)) = some (.type "type")
  nf : ∀ f ∈ fs, PySem.W.findIn K (.ref (ga K nm)) f = some none
theorem xf_of {K : PySem.W.Frag} {nm qu : Str} {B nw it : String} {fs : List Str} (h : xB K nm qu B nw it fs = true) : XF K nm qu B nw it fs := by
  unfold xB at h
  obtain ⟨h1, h⟩ := ba2 h
  obtain ⟨h2, h⟩ := ba2 h
  obtain ⟨h3, h⟩ := ba2 h
  obtain ⟨h4, h⟩ := ba2 h
  obtain ⟨h5, h⟩ := ba2 h
  obtain ⟨h6, h⟩ := ba2 h
  obtain ⟨h7, h⟩ := ba2 h
  obtain ⟨h8, h⟩ := ba2 h
  obtain ⟨h9, h⟩ := ba2 h
  obtain ⟨h10, h⟩ := ba2 h
  obtain ⟨h11, h⟩ := ba2 h
  obtain ⟨h12, h⟩ := ba2 h
  obtain ⟨h13, h⟩ := ba2 h
  obtain ⟨h14, h⟩ := ba2 h
  obtain ⟨h15, h⟩ := ba2 h
  obtain ⟨h16, h⟩ := ba2 h
  obtain ⟨h17, h⟩ := ba2 h
  obtain ⟨h18, h⟩ := ba2 h
  obtain ⟨h19, h⟩ := ba2 h
  exact ⟨eO_ok h1, eO_ok h2, of_decide_eq_true h3, h4, h5, h6, h7, eO_ok h8, h9, h10, eB_ok h11, eB_ok h12, eO_ok h13, eO_ok h14, eO_ok h15, eB_ok h16, eO_ok h17, eB_ok h18, of_decide_eq_true h19, fun f hf => of_decide_eq_true (List.all_eq_true.mp h f hf)⟩
structure GF (K : PySem.W.Frag) : Prop where
  blt : ∀ x ∈ bltN, PySem.W.nsIn K mainGlobals x = some none
  fng : ∀ p ∈ fns, PySem.W.nsIn K mainGlobals p.1 = some (some (.ref (ga K p.1)))
  fnb : ∀ p ∈ fns, fnB K (ga K p.1) p.1 = true
  sys : (K.lookup sysModules).isSome = true
  cn : PySem.W.specialIn K (.builtin "object.__class__") "__get__" = some (some (.builtin "getset_descriptor.__get__"))
  ct : PySem.W.takesIn K (.builtin "object.__class__") = some true
  con : conB K = true
  ini : fnD K (meA K "__init__") "Size.__init__" = true
  mes : ∀ p ∈ meths, fnB K (faM K p.1) (quM p.1) = true
  pl : ∀ m ∈ plain, plB K m = true
  pr : ∀ m ∈ props, prB K m = true
  cm : ∀ m ∈ cms, cmmB K m = true
theorem gf_of {K : PySem.W.Frag} (h : gloB K = true) : GF K := by
  unfold gloB at h
  obtain ⟨h1, h⟩ := ba2 h
  obtain ⟨h2, h⟩ := ba2 h
  obtain ⟨h3, h⟩ := ba2 h
  obtain ⟨h4, h⟩ := ba2 h
  obtain ⟨h5, h⟩ := ba2 h
  obtain ⟨h6, h⟩ := ba2 h
  obtain ⟨h7, h⟩ := ba2 h
  obtain ⟨h8, h⟩ := ba2 h
  obtain ⟨h9, h⟩ := ba2 h
  obtain ⟨h10, h⟩ := ba2 h
  exact ⟨fun x hx => eO_ok (List.all_eq_true.mp h1 x hx), fun p hp => eO_ok (ba2 (List.all_eq_true.mp h2 p hp)).1, fun p hp => (ba2 (List.all_eq_true.mp h2 p hp)).2, h3, eO_ok h4, eB_ok h5, h6, h7,
    List.all_eq_true.mp h8, List.all_eq_true.mp h9, List.all_eq_true.mp h10, List.all_eq_true.mp h⟩
theorem con_ok {K : PySem.W.Frag} (h : conB K = true) : (∃ t, PySem.W.nsIn K mainGlobals "LETTERS" = some (some (.str abc t))) ∧ (∃ t, PySem.W.nsIn K mainGlobals "LONGEST_NAME" = some (some (.int (8) t))) := by
  unfold conB at h
  obtain ⟨h1, h⟩ := ba2 h
  refine ⟨?_, ?_⟩
  · split at h1
    · rename_i x t e
      exact ⟨t, by rw [e, of_decide_eq_true h1]⟩
    · cases h1
  · split at h
    · rename_i x t e
      exact ⟨t, by rw [e, of_decide_eq_true h]⟩
    · cases h
abbrev PG : Program := PySem.Challenge.pw_anyshape_k12_sizes_at_numbers_and_points
section
variable {w : World} {K : PySem.W.Frag} {mg : Str → Option Value} {h : Heap}
theorem pl_ok {m : Str} (h : plB K m = true) : PySem.W.findIn K (.ref (caK K)) m = some (some (.ref (meA K m))) ∧ PySem.W.isFn K (.ref (meA K m)) = true := ⟨eO_ok (ba2 h).1, (ba2 h).2⟩
theorem pr_ok {m : Str} (h : prB K m = true) : PropOf K (caK K) m (meA K m) (rcF K (meA K m) "property") := by
  unfold prB at h
  obtain ⟨h1, h⟩ := ba2 h
  obtain ⟨h2, h⟩ := ba2 h
  obtain ⟨h3, h4⟩ := ba2 h
  exact ⟨eO_ok h1, eO_ok h2, eB_ok h3, rec_ok h4⟩
theorem cmm_ok {m : Str} (h : cmmB K m = true) : ClX.CMet K (caK K) (.type "type") m (meA K m) (rcF K (meA K m) "classmethod") := by
  unfold cmmB at h
  obtain ⟨h1, h⟩ := ba2 h
  obtain ⟨h2, h3⟩ := ba2 h
  exact ⟨cm_ok h1, rec_ok h2, h3⟩
theorem init_b {f : Addr} {fd : FuncData} (F : FnD K "__init__" "Size.__init__" sInit [.non] f fd) : Binds K fd ["self", "exponents"] [] ∧ Binds K fd ["self", "exponents"] [.none] := by
  obtain ⟨ds, r, b⟩ := FunD.binds1 (ps := ["self", "exponents"]) F 2 1 (fun z => nomatch z) rfl (fun T kV doc pm an cdv ct us its h1 h2 => match us, its, h1, h2 with
    | [_, _], [_], _, _ => ⟨_, rfl, rfl⟩)
  obtain ⟨ds2, r2, b2⟩ := FunD.binds1 (ps := ["self", "exponents"]) F 1 0 (fun z => nomatch z) rfl (fun T kV doc pm an cdv ct us its h1 h2 => match us, its, h1, h2 with
    | [_], [_], _, _ => ⟨_, rfl, rfl⟩)
  have e1 : ds = [] := by
    have := r.length
    exact List.length_eq_zero_iff.mp this.symm
  have r2' : Vals [V.non] ds2 := r2
  obtain ⟨u, e2, ru⟩ := vals1 r2'
  have e3 : u = Value.none := ru
  subst e1
  rw [e2, e3] at b2
  exact ⟨b, b2⟩
end
theorem tk_of {K : PySem.W.Frag} {C : Addr} {f : Str} (h : PySem.W.findIn K (.ref C) f = some none) : PySem.W.takerIn K C f = some none := by
  unfold PySem.W.takerIn
  rw [h]
  rfl
section
open Xc
variable {w : World} {K : PySem.W.Frag} {mg : Str → Option Value} {C fI cc cda : Addr} {B newId initId : String} {bmB : List Value}
variable {qual msg f1 f2 f3 : Str} {j : Nat} {p0 p1 p2 p3 p4 p5 a0 a1 a2 a3 q1 q2 q3 q4 r1 r2 r3 r4 u1 u2 u3 u4 : Pos} {ar : Arguments} {bo : List Stmt} {sc : Scope}
theorem fs1 {fs : List (Str × Value)} (h : fs.map (·.1) = [f1]) : ∃ v, fs = [(f1, v)] := by
  match fs, h with
  | [(a, v)], h =>
    injection h with h1 _
    exact ⟨v, by rw [show a = f1 from h1]⟩
theorem fs2 {fs : List (Str × Value)} (h : fs.map (·.1) = [f2, f1]) : ∃ v1 v2, fs = [(f2, v2), (f1, v1)] := by
  match fs, h with
  | [(a, v), (b, u)], h =>
    injection h with h1 h
    injection h with h2 _
    exact ⟨u, v, by rw [show a = f2 from h1, show b = f1 from h2]⟩
theorem fs3 {fs : List (Str × Value)} (h : fs.map (·.1) = [f3, f2, f1]) : ∃ v1 v2 v3, fs = [(f3, v3), (f2, v2), (f1, v1)] := by
  match fs, h with
  | [(a, v), (b, u), (c, t)], h =>
    injection h with h1 h
    injection h with h2 h
    injection h with h3 _
    exact ⟨t, u, v, by rw [show a = f3 from h1, show b = f2 from h2, show c = f1 from h3]⟩
theorem mkAll0 (hA : ar = iArgs [("self", a0)]) (hB : bo = [supS msg j p0 p1 p2 p3 p4 p5]) (hS : sc = iScope ["self"]) (hln : (p2.endLine == p4.line) = true)
    (T : XC K C B newId initId bmB) (iC : PySem.W.findIn K (.ref C) "__init__" = some (some (.ref fI))) (tI : PySem.W.typeIn K (.ref fI) = some (.type "function"))
    (S : XI PG K mg C fI cc cda qual ar bo sc B initId) (kp : PySem.W.keepIn K (.ref C) = true) : MkAll PG w K mg C [] := by
  subst hA hB hS
  refine ⟨fun fs h => ?_, fun fs h => ?_, kp⟩
  · rw [List.map_eq_nil_iff.mp h]
    exact mk0 T iC tI S hln
  · rw [List.map_eq_nil_iff.mp h]
    exact mk0 T iC tI S hln
theorem mkAll1 (hA : ar = iArgs [("self", a0), (f1, a1)]) (hB : bo = [supS msg j p0 p1 p2 p3 p4 p5, stS f1 q1 q2 q3 q4]) (hS : sc = iScope ["self", f1])
    (hln : (p2.endLine == p4.line) = true) (n1 : Nm f1)
    (T : XC K C B newId initId bmB) (iC : PySem.W.findIn K (.ref C) "__init__" = some (some (.ref fI))) (tI : PySem.W.typeIn K (.ref fI) = some (.type "function"))
    (S : XI PG K mg C fI cc cda qual ar bo sc B initId) (kp : PySem.W.keepIn K (.ref C) = true) (t1 : PySem.W.takerIn K C f1 = some none)
    (hp : ∀ v s x kV doc pm ct an, BindsTo s (PySem.W.ksFn "__init__" qual ar bo sc .none kV doc pm an (.ref cda) ct cc) ⟨[.ref x, v], []⟩ [("self", .ref x), (f1, v)])
    (hk : ∀ v s x kV doc pm ct an, BindsTo s (PySem.W.ksFn "__init__" qual ar bo sc .none kV doc pm an (.ref cda) ct cc) ⟨[.ref x], [(f1, v)]⟩ [("self", .ref x), (f1, v)]) :
    MkAll PG w K mg C [f1] := by
  subst hA hB hS
  refine ⟨fun fs h => ?_, fun fs h => ?_, kp⟩
  · obtain ⟨v, rfl⟩ := fs1 h
    exact mk1 n1 T iC tI S hln t1 (by show 1 ≤ sizeLine; decide) (hp v)
  · obtain ⟨v, rfl⟩ := fs1 h
    exact mk1 n1 T iC tI S hln t1 (Nat.zero_le _) (hk v)
theorem mkAll2 (hA : ar = iArgs [("self", a0), (f1, a1), (f2, a2)]) (hB : bo = [supS msg j p0 p1 p2 p3 p4 p5, stS f1 q1 q2 q3 q4, stS f2 r1 r2 r3 r4])
    (hS : sc = iScope ["self", f1, f2]) (hln : (p2.endLine == p4.line) = true) (n1 : Nm f1) (n2 : Nm f2) (n12 : f1 ≠ f2)
    (T : XC K C B newId initId bmB) (iC : PySem.W.findIn K (.ref C) "__init__" = some (some (.ref fI))) (tI : PySem.W.typeIn K (.ref fI) = some (.type "function"))
    (S : XI PG K mg C fI cc cda qual ar bo sc B initId) (kp : PySem.W.keepIn K (.ref C) = true) (t1 : PySem.W.takerIn K C f1 = some none) (t2 : PySem.W.takerIn K C f2 = some none)
    (hp : ∀ v1 v2 s x kV doc pm ct an, BindsTo s (PySem.W.ksFn "__init__" qual ar bo sc .none kV doc pm an (.ref cda) ct cc) ⟨[.ref x, v1, v2], []⟩ [("self", .ref x), (f1, v1), (f2, v2)])
    (hk : ∀ v1 v2 s x kV doc pm ct an, BindsTo s (PySem.W.ksFn "__init__" qual ar bo sc .none kV doc pm an (.ref cda) ct cc) ⟨[.ref x], [(f2, v2), (f1, v1)]⟩ [("self", .ref x), (f1, v1), (f2, v2)]) :
    MkAll PG w K mg C [f2, f1] := by
  subst hA hB hS
  refine ⟨fun fs h => ?_, fun fs h => ?_, kp⟩
  · obtain ⟨v1, v2, rfl⟩ := fs2 h
    exact mk2 n1 n2 n12 T iC tI S hln t1 t2 (by show 2 ≤ sizeLine; decide) (hp v1 v2)
  · obtain ⟨v1, v2, rfl⟩ := fs2 h
    exact mk2 n1 n2 n12 T iC tI S hln t1 t2 (Nat.zero_le _) (hk v1 v2)
theorem mkAll3 (hA : ar = iArgs [("self", a0), (f1, a1), (f2, a2), (f3, a3)]) (hB : bo = [supS msg j p0 p1 p2 p3 p4 p5, stS f1 q1 q2 q3 q4, stS f2 r1 r2 r3 r4, stS f3 u1 u2 u3 u4])
    (hS : sc = iScope ["self", f1, f2, f3]) (hln : (p2.endLine == p4.line) = true) (n1 : Nm f1) (n2 : Nm f2) (n3 : Nm f3) (n12 : f1 ≠ f2) (n13 : f1 ≠ f3) (n23 : f2 ≠ f3)
    (T : XC K C B newId initId bmB) (iC : PySem.W.findIn K (.ref C) "__init__" = some (some (.ref fI))) (tI : PySem.W.typeIn K (.ref fI) = some (.type "function"))
    (S : XI PG K mg C fI cc cda qual ar bo sc B initId) (kp : PySem.W.keepIn K (.ref C) = true) (t1 : PySem.W.takerIn K C f1 = some none) (t2 : PySem.W.takerIn K C f2 = some none) (t3 : PySem.W.takerIn K C f3 = some none)
    (hp : ∀ v1 v2 v3 s x kV doc pm ct an, BindsTo s (PySem.W.ksFn "__init__" qual ar bo sc .none kV doc pm an (.ref cda) ct cc) ⟨[.ref x, v1, v2, v3], []⟩ [("self", .ref x), (f1, v1), (f2, v2), (f3, v3)])
    (hk : ∀ v1 v2 v3 s x kV doc pm ct an, BindsTo s (PySem.W.ksFn "__init__" qual ar bo sc .none kV doc pm an (.ref cda) ct cc) ⟨[.ref x], [(f3, v3), (f2, v2), (f1, v1)]⟩ [("self", .ref x), (f1, v1), (f2, v2), (f3, v3)]) :
    MkAll PG w K mg C [f3, f2, f1] := by
  subst hA hB hS
  refine ⟨fun fs h => ?_, fun fs h => ?_, kp⟩
  · obtain ⟨v1, v2, v3, rfl⟩ := fs3 h
    exact mk3 n1 n2 n3 n12 n13 n23 T iC tI S hln t1 t2 t3 (by show 3 ≤ sizeLine; decide) (hp v1 v2 v3)
  · obtain ⟨v1, v2, v3, rfl⟩ := fs3 h
    exact mk3 n1 n2 n3 n12 n13 n23 T iC tI S hln t1 t2 t3 (Nat.zero_le _) (hk v1 v2 v3)
end
theorem nmy {p : Str} (h1 : (p == ("self" : Str)) = false) (h2 : (p == ("super" : Str)) = false) (h3 : (p == ("__class__" : Str)) = false) (h4 : (p == ("__debug__" : Str)) = false) : Xc.Nm p :=
  ⟨Xc.ns_of _ _ h1, Xc.ns_of _ _ h2, Xc.ns_of _ _ h3, Xc.ns_of _ _ h4⟩
section
variable {w : World} {K : PySem.W.Frag} {mg : Str → Option Value}
theorem mk_NotWhole (c : XF K "NotWhole" "NotWhole.__init__" "RuntimeError" "RuntimeError.__new__" "RuntimeError.__init__" ["size"]) (ox : PySem.W.nsIn K cStatics "thirdparty.any" = some none) (ns : mg "super" = none) (e : fnX K (ma K (ga K "NotWhole") "__init__") = fnT "__init__" "NotWhole.__init__" sXNotWhole) : MkAll PG w K mg (ga K "NotWhole") ["size"] := by
  obtain ⟨cc, cda, Z⟩ := in_of e c.inb
  exact mkAll1 rfl rfl rfl rfl (nmy (by decide) (by decide) (by decide) (by decide)) ⟨F.excBase_RuntimeError, F.store_RuntimeError, PySem.W.kxs_RuntimeError, c.exI, c.exO, c.hd, c.sa⟩ c.ini c.tyI ⟨Z.fn, Z.cod, Z.code, Z.cell, c.cls, c.slf, c.isB, c.sup, ox, ns, by decide +kernel⟩ c.kp (tk_of (c.nf "size" (by decide))) (fun _ _ _ _ _ _ _ _ => .of_eq rfl) (fun _ _ _ _ _ _ _ _ => .of_eq rfl)
end
section
variable {w : World} {K : PySem.W.Frag} {mg : Str → Option Value} {h : Heap}
theorem law_mk {fa : Addr} (X : K.In h) (G : h.Ns mainGlobals mg) (c : obK K = vaX) (hfa : mg "law" = some (.ref fa)) :
    ∃ fd : FuncData, (∀ (s : Shared) (u : Value), BindsTo s fd ⟨[u], []⟩ [("_law_script", u)]) ∧
      ∀ base : Heap, K.In base → base.Ns mainGlobals mg → FnG PG w K mg base 10 fa fd ["_law_script"] (spLaw K) := by
  obtain ⟨hB, hI, hX0, hM, hT⟩ := facts_of c
  unfold allB at hB
  obtain ⟨h1, hB⟩ := ba2 hB
  obtain ⟨h2, h3⟩ := ba2 hB
  have g := gf_of h1
  have cf := cf_of h2
  unfold exB at h3
  obtain ⟨z0, h3⟩ := ba2 h3
  obtain ⟨z1, h3⟩ := ba2 h3
  obtain ⟨z2, h3⟩ := ba2 h3
  obtain ⟨z3, h3⟩ := ba2 h3
  obtain ⟨z4, h3⟩ := ba2 h3
  have ox := eO_ok h3
  have xf0 := xf_of z0
  have zx0 := eO_ok z1
  have zx1 := eB_ok z2
  have zx2 := eB_ok z3
  have zx3 := eO_ok z4
  have bn : ∀ x ∈ bltN, mg x = none := fun x hx => PySem.W.mg_none_of X G (g.blt x hx)
  obtain ⟨⟨t0, con0⟩, ⟨t1, con1⟩⟩ := con_ok g.con
  have ns : mg "super" = none := bn "super" (by simp [bltN])
  have MX0 := mk_NotWhole (w := w) xf0 ox ns hX0
  have gX0 : mg "NotWhole" = some (.ref (ga K "NotWhole")) := PySem.W.mg_of X G xf0.glo
  have xg0 : XG K (ga K "NotWhole") := ⟨xf0.gat, xf0.gga, xf0.exb, xf0.hd, xf0.cls, xf0.cc, g.cn, g.ct, xf0.co⟩
  have NB : Nb mg := ⟨bn "len" (by simp [bltN]), bn "max" (by simp [bltN]), bn "min" (by simp [bltN]), bn "abs" (by simp [bltN]), bn "int" (by simp [bltN]), bn "divmod" (by simp [bltN]), bn "repr" (by simp [bltN]), bn "isinstance" (by simp [bltN]), bn "range" (by simp [bltN]), bn "enumerate" (by simp [bltN]), bn "all" (by simp [bltN])⟩
  have NK : Nk mg := ⟨bn "isinstance" (by simp [bltN]), bn "int" (by simp [bltN]), bn "bool" (by simp [bltN]), bn "str" (by simp [bltN]), bn "dict" (by simp [bltN]), bn "len" (by simp [bltN]), bn "all" (by simp [bltN])⟩
  have NA : Na mg := ⟨bn "sorted" (by simp [bltN])⟩
  have NT : Nt mg := ⟨bn "list" (by simp [bltN]), bn "dict" (by simp [bltN]), bn "len" (by simp [bltN])⟩
  have NN : Nn2 mg := ⟨⟨t1, PySem.W.mg_of X G con1⟩, ⟨t0, PySem.W.mg_of X G con0⟩⟩
  have gS : mg "StateError" = some (.ref (ga K "StateError")) := PySem.W.mg_of X G zx0
  have gG : mg "gcd" = some (.builtin "math.gcd") := PySem.W.mg_of X G zx3
  obtain ⟨d0, F0⟩ := fun_of (K := K) (f := ga K "added") (x := "added") (qual := "added") (st := top 3) (hT ("added", 3) (by simp [fns, fns0, fns1, fns2])) (g.fnb ("added", 3) (by simp [fns, fns0, fns1, fns2]))
  have m0 : mg "added" = some (.ref (ga K "added")) := PySem.W.mg_of X G (g.fng ("added", 3) (by simp [fns, fns0, fns1, fns2]))
  have b0 := F0.binds (ps := ["tables"]) fun _ _ _ _ _ _ us hl => match us, hl with | [_], _ => rfl
  obtain ⟨d1, F1⟩ := fun_of (K := K) (f := ga K "is_integer") (x := "is_integer") (qual := "is_integer") (st := top 16) (hT ("is_integer", 16) (by simp [fns, fns0, fns1, fns2])) (g.fnb ("is_integer", 16) (by simp [fns, fns0, fns1, fns2]))
  have m1 : mg "is_integer" = some (.ref (ga K "is_integer")) := PySem.W.mg_of X G (g.fng ("is_integer", 16) (by simp [fns, fns0, fns1, fns2]))
  have b1 := F1.binds (ps := ["value"]) fun _ _ _ _ _ _ us hl => match us, hl with | [_], _ => rfl
  obtain ⟨d2, F2⟩ := fun_of (K := K) (f := ga K "is_count") (x := "is_count") (qual := "is_count") (st := top 17) (hT ("is_count", 17) (by simp [fns, fns0, fns1, fns2])) (g.fnb ("is_count", 17) (by simp [fns, fns0, fns1, fns2]))
  have m2 : mg "is_count" = some (.ref (ga K "is_count")) := PySem.W.mg_of X G (g.fng ("is_count", 17) (by simp [fns, fns0, fns1, fns2]))
  have b2 := F2.binds (ps := ["value"]) fun _ _ _ _ _ _ us hl => match us, hl with | [_], _ => rfl
  obtain ⟨d3, F3⟩ := fun_of (K := K) (f := ga K "raised") (x := "raised") (qual := "raised") (st := top 19) (hT ("raised", 19) (by simp [fns, fns0, fns1, fns2])) (g.fnb ("raised", 19) (by simp [fns, fns0, fns1, fns2]))
  have m3 : mg "raised" = some (.ref (ga K "raised")) := PySem.W.mg_of X G (g.fng ("raised", 19) (by simp [fns, fns0, fns1, fns2]))
  have b3 := F3.binds (ps := ["base", "count"]) fun _ _ _ _ _ _ us hl => match us, hl with | [_, _], _ => rfl
  obtain ⟨d4, F4⟩ := fun_of (K := K) (f := ga K "orders") (x := "orders") (qual := "orders") (st := top 20) (hT ("orders", 20) (by simp [fns, fns0, fns1, fns2])) (g.fnb ("orders", 20) (by simp [fns, fns0, fns1, fns2]))
  have m4 : mg "orders" = some (.ref (ga K "orders")) := PySem.W.mg_of X G (g.fng ("orders", 20) (by simp [fns, fns0, fns1, fns2]))
  have b4 := F4.binds (ps := ["exponents", "numbers"]) fun _ _ _ _ _ _ us hl => match us, hl with | [_, _], _ => rfl
  obtain ⟨d5, F5⟩ := fun_of (K := K) (f := ga K "coprime_bases") (x := "coprime_bases") (qual := "coprime_bases") (st := top 21) (hT ("coprime_bases", 21) (by simp [fns, fns0, fns1, fns2])) (g.fnb ("coprime_bases", 21) (by simp [fns, fns0, fns1, fns2]))
  have m5 : mg "coprime_bases" = some (.ref (ga K "coprime_bases")) := PySem.W.mg_of X G (g.fng ("coprime_bases", 21) (by simp [fns, fns0, fns1, fns2]))
  have b5 := F5.binds (ps := ["numbers"]) fun _ _ _ _ _ _ us hl => match us, hl with | [_], _ => rfl
  obtain ⟨d6, F6⟩ := fun_of (K := K) (f := ga K "order_in") (x := "order_in") (qual := "order_in") (st := top 22) (hT ("order_in", 22) (by simp [fns, fns0, fns1, fns2])) (g.fnb ("order_in", 22) (by simp [fns, fns0, fns1, fns2]))
  have m6 : mg "order_in" = some (.ref (ga K "order_in")) := PySem.W.mg_of X G (g.fng ("order_in", 22) (by simp [fns, fns0, fns1, fns2]))
  have b6 := F6.binds (ps := ["number", "base"]) fun _ _ _ _ _ _ us hl => match us, hl with | [_, _], _ => rfl
  obtain ⟨d7, F7⟩ := fun_of (K := K) (f := ga K "_refined") (x := "_refined") (qual := "_refined") (st := top 23) (hT ("_refined", 23) (by simp [fns, fns0, fns1, fns2])) (g.fnb ("_refined", 23) (by simp [fns, fns0, fns1, fns2]))
  have m7 : mg "_refined" = some (.ref (ga K "_refined")) := PySem.W.mg_of X G (g.fng ("_refined", 23) (by simp [fns, fns0, fns1, fns2]))
  have b7 := F7.binds (ps := ["bases", "number"]) fun _ _ _ _ _ _ us hl => match us, hl with | [_, _], _ => rfl
  obtain ⟨d8, F8⟩ := fun_of (K := K) (f := ga K "_sharing") (x := "_sharing") (qual := "_sharing") (st := top 24) (hT ("_sharing", 24) (by simp [fns, fns0, fns1, fns2])) (g.fnb ("_sharing", 24) (by simp [fns, fns0, fns1, fns2]))
  have m8 : mg "_sharing" = some (.ref (ga K "_sharing")) := PySem.W.mg_of X G (g.fng ("_sharing", 24) (by simp [fns, fns0, fns1, fns2]))
  have b8 := F8.binds (ps := ["bases", "number"]) fun _ _ _ _ _ _ us hl => match us, hl with | [_, _], _ => rfl
  obtain ⟨d9, F9⟩ := fun_of (K := K) (f := ga K "is_name") (x := "is_name") (qual := "is_name") (st := top 28) (hT ("is_name", 28) (by simp [fns, fns0, fns1, fns2])) (g.fnb ("is_name", 28) (by simp [fns, fns0, fns1, fns2]))
  have m9 : mg "is_name" = some (.ref (ga K "is_name")) := PySem.W.mg_of X G (g.fng ("is_name", 28) (by simp [fns, fns0, fns1, fns2]))
  have b9 := F9.binds (ps := ["value"]) fun _ _ _ _ _ _ us hl => match us, hl with | [_], _ => rfl
  obtain ⟨d10, F10⟩ := fun_of (K := K) (f := ga K "is_numbers") (x := "is_numbers") (qual := "is_numbers") (st := top 29) (hT ("is_numbers", 29) (by simp [fns, fns0, fns1, fns2])) (g.fnb ("is_numbers", 29) (by simp [fns, fns0, fns1, fns2]))
  have m10 : mg "is_numbers" = some (.ref (ga K "is_numbers")) := PySem.W.mg_of X G (g.fng ("is_numbers", 29) (by simp [fns, fns0, fns1, fns2]))
  have b10 := F10.binds (ps := ["value"]) fun _ _ _ _ _ _ us hl => match us, hl with | [_], _ => rfl
  obtain ⟨d11, F11⟩ := fun_of (K := K) (f := ga K "is_point") (x := "is_point") (qual := "is_point") (st := top 30) (hT ("is_point", 30) (by simp [fns, fns0, fns1, fns2])) (g.fnb ("is_point", 30) (by simp [fns, fns0, fns1, fns2]))
  have m11 : mg "is_point" = some (.ref (ga K "is_point")) := PySem.W.mg_of X G (g.fng ("is_point", 30) (by simp [fns, fns0, fns1, fns2]))
  have b11 := F11.binds (ps := ["value"]) fun _ _ _ _ _ _ us hl => match us, hl with | [_], _ => rfl
  obtain ⟨d12, F12⟩ := fun_of (K := K) (f := ga K "check_numbers") (x := "check_numbers") (qual := "check_numbers") (st := top 31) (hT ("check_numbers", 31) (by simp [fns, fns0, fns1, fns2])) (g.fnb ("check_numbers", 31) (by simp [fns, fns0, fns1, fns2]))
  have m12 : mg "check_numbers" = some (.ref (ga K "check_numbers")) := PySem.W.mg_of X G (g.fng ("check_numbers", 31) (by simp [fns, fns0, fns1, fns2]))
  have b12 := F12.binds (ps := ["value", "names"]) fun _ _ _ _ _ _ us hl => match us, hl with | [_, _], _ => rfl
  obtain ⟨d13, F13⟩ := fun_of (K := K) (f := ga K "check_point") (x := "check_point") (qual := "check_point") (st := top 32) (hT ("check_point", 32) (by simp [fns, fns0, fns1, fns2])) (g.fnb ("check_point", 32) (by simp [fns, fns0, fns1, fns2]))
  have m13 : mg "check_point" = some (.ref (ga K "check_point")) := PySem.W.mg_of X G (g.fng ("check_point", 32) (by simp [fns, fns0, fns1, fns2]))
  have b13 := F13.binds (ps := ["value"]) fun _ _ _ _ _ _ us hl => match us, hl with | [_], _ => rfl
  obtain ⟨d14, F14⟩ := fun_of (K := K) (f := ga K "check_size") (x := "check_size") (qual := "check_size") (st := top 45) (hT ("check_size", 45) (by simp [fns, fns0, fns1, fns2])) (g.fnb ("check_size", 45) (by simp [fns, fns0, fns1, fns2]))
  have m14 : mg "check_size" = some (.ref (ga K "check_size")) := PySem.W.mg_of X G (g.fng ("check_size", 45) (by simp [fns, fns0, fns1, fns2]))
  have b14 := F14.binds (ps := ["value"]) fun _ _ _ _ _ _ us hl => match us, hl with | [_], _ => rfl
  obtain ⟨d15, F15⟩ := fun_of (K := K) (f := ga K "_is_exponents") (x := "_is_exponents") (qual := "_is_exponents") (st := top 47) (hT ("_is_exponents", 47) (by simp [fns, fns0, fns1, fns2])) (g.fnb ("_is_exponents", 47) (by simp [fns, fns0, fns1, fns2]))
  have m15 : mg "_is_exponents" = some (.ref (ga K "_is_exponents")) := PySem.W.mg_of X G (g.fng ("_is_exponents", 47) (by simp [fns, fns0, fns1, fns2]))
  have b15 := F15.binds (ps := ["value"]) fun _ _ _ _ _ _ us hl => match us, hl with | [_], _ => rfl
  obtain ⟨d16, F16⟩ := fun_of (K := K) (f := ga K "_times") (x := "_times") (qual := "_times") (st := top 48) (hT ("_times", 48) (by simp [fns, fns0, fns1, fns2])) (g.fnb ("_times", 48) (by simp [fns, fns0, fns1, fns2]))
  have m16 : mg "_times" = some (.ref (ga K "_times")) := PySem.W.mg_of X G (g.fng ("_times", 48) (by simp [fns, fns0, fns1, fns2]))
  have b16 := F16.binds (ps := ["table", "factor"]) fun _ _ _ _ _ _ us hl => match us, hl with | [_, _], _ => rfl
  obtain ⟨d17, F17⟩ := fun_of (K := K) (f := ga K "_law_rng") (x := "_law_rng") (qual := "_law_rng") (st := top 50) (hT ("_law_rng", 50) (by simp [fns, fns0, fns1, fns2])) (g.fnb ("_law_rng", 50) (by simp [fns, fns0, fns1, fns2]))
  have m17 : mg "_law_rng" = some (.ref (ga K "_law_rng")) := PySem.W.mg_of X G (g.fng ("_law_rng", 50) (by simp [fns, fns0, fns1, fns2]))
  have b17 := F17.binds (ps := ["_law_script", "_law_k"]) fun _ _ _ _ _ _ us hl => match us, hl with | [_, _], _ => rfl
  obtain ⟨d18, F18⟩ := fun_of (K := K) (f := ga K "_law_draw") (x := "_law_draw") (qual := "_law_draw") (st := top 51) (hT ("_law_draw", 51) (by simp [fns, fns0, fns1, fns2])) (g.fnb ("_law_draw", 51) (by simp [fns, fns0, fns1, fns2]))
  have m18 : mg "_law_draw" = some (.ref (ga K "_law_draw")) := PySem.W.mg_of X G (g.fng ("_law_draw", 51) (by simp [fns, fns0, fns1, fns2]))
  have b18 := F18.binds (ps := ["_law_rng_here", "_law_many"]) fun _ _ _ _ _ _ us hl => match us, hl with | [_, _], _ => rfl
  obtain ⟨d19, F19⟩ := fun_of (K := K) (f := ga K "_law_choice") (x := "_law_choice") (qual := "_law_choice") (st := top 52) (hT ("_law_choice", 52) (by simp [fns, fns0, fns1, fns2])) (g.fnb ("_law_choice", 52) (by simp [fns, fns0, fns1, fns2]))
  have m19 : mg "_law_choice" = some (.ref (ga K "_law_choice")) := PySem.W.mg_of X G (g.fng ("_law_choice", 52) (by simp [fns, fns0, fns1, fns2]))
  have b19 := F19.binds (ps := ["_law_rng_here", "_law_some"]) fun _ _ _ _ _ _ us hl => match us, hl with | [_, _], _ => rfl
  obtain ⟨d20, F20⟩ := fun_of (K := K) (f := ga K "_law_names") (x := "_law_names") (qual := "_law_names") (st := top 53) (hT ("_law_names", 53) (by simp [fns, fns0, fns1, fns2])) (g.fnb ("_law_names", 53) (by simp [fns, fns0, fns1, fns2]))
  have m20 : mg "_law_names" = some (.ref (ga K "_law_names")) := PySem.W.mg_of X G (g.fng ("_law_names", 53) (by simp [fns, fns0, fns1, fns2]))
  have b20 := F20.binds (ps := ["_law_rng_here", "_law_many", "_law_taken"]) fun _ _ _ _ _ _ us hl => match us, hl with | [_, _, _], _ => rfl
  obtain ⟨d21, F21⟩ := fun_of (K := K) (f := ga K "_law_times") (x := "_law_times") (qual := "_law_times") (st := top 54) (hT ("_law_times", 54) (by simp [fns, fns0, fns1, fns2])) (g.fnb ("_law_times", 54) (by simp [fns, fns0, fns1, fns2]))
  have m21 : mg "_law_times" = some (.ref (ga K "_law_times")) := PySem.W.mg_of X G (g.fng ("_law_times", 54) (by simp [fns, fns0, fns1, fns2]))
  have b21 := F21.binds (ps := ["_law_one", "_law_other"]) fun _ _ _ _ _ _ us hl => match us, hl with | [_, _], _ => rfl
  obtain ⟨d22, F22⟩ := fun_of (K := K) (f := ga K "_law_drawn") (x := "_law_drawn") (qual := "_law_drawn") (st := top 55) (hT ("_law_drawn", 55) (by simp [fns, fns0, fns1, fns2])) (g.fnb ("_law_drawn", 55) (by simp [fns, fns0, fns1, fns2]))
  have m22 : mg "_law_drawn" = some (.ref (ga K "_law_drawn")) := PySem.W.mg_of X G (g.fng ("_law_drawn", 55) (by simp [fns, fns0, fns1, fns2]))
  have b22 := F22.binds (ps := ["_law_rng_here", "_law_names_here"]) fun _ _ _ _ _ _ us hl => match us, hl with | [_, _], _ => rfl
  obtain ⟨d23, F23⟩ := fun_of (K := K) (f := ga K "_law_numbers") (x := "_law_numbers") (qual := "_law_numbers") (st := top 56) (hT ("_law_numbers", 56) (by simp [fns, fns0, fns1, fns2])) (g.fnb ("_law_numbers", 56) (by simp [fns, fns0, fns1, fns2]))
  have m23 : mg "_law_numbers" = some (.ref (ga K "_law_numbers")) := PySem.W.mg_of X G (g.fng ("_law_numbers", 56) (by simp [fns, fns0, fns1, fns2]))
  have b23 := F23.binds (ps := ["_law_rng_here", "_law_names_here"]) fun _ _ _ _ _ _ us hl => match us, hl with | [_, _], _ => rfl
  obtain ⟨d24, F24⟩ := fun_of (K := K) (f := ga K "_law_point") (x := "_law_point") (qual := "_law_point") (st := top 57) (hT ("_law_point", 57) (by simp [fns, fns0, fns1, fns2])) (g.fnb ("_law_point", 57) (by simp [fns, fns0, fns1, fns2]))
  have m24 : mg "_law_point" = some (.ref (ga K "_law_point")) := PySem.W.mg_of X G (g.fng ("_law_point", 57) (by simp [fns, fns0, fns1, fns2]))
  have b24 := F24.binds (ps := ["_law_rng_here", "_law_names_here"]) fun _ _ _ _ _ _ us hl => match us, hl with | [_, _], _ => rfl
  obtain ⟨d25, F25⟩ := fun_of (K := K) (f := ga K "_law_value") (x := "_law_value") (qual := "_law_value") (st := top 58) (hT ("_law_value", 58) (by simp [fns, fns0, fns1, fns2])) (g.fnb ("_law_value", 58) (by simp [fns, fns0, fns1, fns2]))
  have m25 : mg "_law_value" = some (.ref (ga K "_law_value")) := PySem.W.mg_of X G (g.fng ("_law_value", 58) (by simp [fns, fns0, fns1, fns2]))
  have b25 := F25.binds (ps := ["_law_model", "_law_numbers_here"]) fun _ _ _ _ _ _ us hl => match us, hl with | [_, _], _ => rfl
  obtain ⟨d26, F26⟩ := fun_of (K := K) (f := ga K "_law_exponent") (x := "_law_exponent") (qual := "_law_exponent") (st := top 59) (hT ("_law_exponent", 59) (by simp [fns, fns0, fns1, fns2])) (g.fnb ("_law_exponent", 59) (by simp [fns, fns0, fns1, fns2]))
  have m26 : mg "_law_exponent" = some (.ref (ga K "_law_exponent")) := PySem.W.mg_of X G (g.fng ("_law_exponent", 59) (by simp [fns, fns0, fns1, fns2]))
  have b26 := F26.binds (ps := ["_law_model", "_law_point_here"]) fun _ _ _ _ _ _ us hl => match us, hl with | [_, _], _ => rfl
  obtain ⟨d27, F27⟩ := fun_of (K := K) (f := ga K "_law_is_at") (x := "_law_is_at") (qual := "_law_is_at") (st := top 60) (hT ("_law_is_at", 60) (by simp [fns, fns0, fns1, fns2])) (g.fnb ("_law_is_at", 60) (by simp [fns, fns0, fns1, fns2]))
  have m27 : mg "_law_is_at" = some (.ref (ga K "_law_is_at")) := PySem.W.mg_of X G (g.fng ("_law_is_at", 60) (by simp [fns, fns0, fns1, fns2]))
  have b27 := F27.binds (ps := ["_law_made", "_law_model", "_law_numbers_here"]) fun _ _ _ _ _ _ us hl => match us, hl with | [_, _, _], _ => rfl
  obtain ⟨d28, F28⟩ := fun_of (K := K) (f := ga K "_law_both_right") (x := "_law_both_right") (qual := "_law_both_right") (st := top 61) (hT ("_law_both_right", 61) (by simp [fns, fns0, fns1, fns2])) (g.fnb ("_law_both_right", 61) (by simp [fns, fns0, fns1, fns2]))
  have m28 : mg "_law_both_right" = some (.ref (ga K "_law_both_right")) := PySem.W.mg_of X G (g.fng ("_law_both_right", 61) (by simp [fns, fns0, fns1, fns2]))
  have b28 := F28.binds (ps := ["_law_made", "_law_model", "_law_numbers_here", "_law_point_here"]) fun _ _ _ _ _ _ us hl => match us, hl with | [_, _, _, _], _ => rfl
  obtain ⟨d29, F29⟩ := fun_of (K := K) (f := ga K "_law_pair_right") (x := "_law_pair_right") (qual := "_law_pair_right") (st := top 62) (hT ("_law_pair_right", 62) (by simp [fns, fns0, fns1, fns2])) (g.fnb ("_law_pair_right", 62) (by simp [fns, fns0, fns1, fns2]))
  have m29 : mg "_law_pair_right" = some (.ref (ga K "_law_pair_right")) := PySem.W.mg_of X G (g.fng ("_law_pair_right", 62) (by simp [fns, fns0, fns1, fns2]))
  have b29 := F29.binds (ps := ["_law_rng_here", "_law_names_here", "_law_first", "_law_second"]) fun _ _ _ _ _ _ us hl => match us, hl with | [_, _, _, _], _ => rfl
  obtain ⟨d30, F30⟩ := fun_of (K := K) (f := ga K "_law_great_right") (x := "_law_great_right") (qual := "_law_great_right") (st := top 63) (hT ("_law_great_right", 63) (by simp [fns, fns0, fns1, fns2])) (g.fnb ("_law_great_right", 63) (by simp [fns, fns0, fns1, fns2]))
  have m30 : mg "_law_great_right" = some (.ref (ga K "_law_great_right")) := PySem.W.mg_of X G (g.fng ("_law_great_right", 63) (by simp [fns, fns0, fns1, fns2]))
  have b30 := F30.binds (ps := ["_law_rng_here", "_law_names_here"]) fun _ _ _ _ _ _ us hl => match us, hl with | [_, _], _ => rfl
  obtain ⟨d31, F31⟩ := fun_of (K := K) (f := ga K "_law_right") (x := "_law_right") (qual := "_law_right") (st := top 64) (hT ("_law_right", 64) (by simp [fns, fns0, fns1, fns2])) (g.fnb ("_law_right", 64) (by simp [fns, fns0, fns1, fns2]))
  have m31 : mg "_law_right" = some (.ref (ga K "_law_right")) := PySem.W.mg_of X G (g.fng ("_law_right", 64) (by simp [fns, fns0, fns1, fns2]))
  have b31 := F31.binds (ps := ["_law_rng_here"]) fun _ _ _ _ _ _ us hl => match us, hl with | [_], _ => rfl
  obtain ⟨d32, F32⟩ := fun_of (K := K) (f := ga K "law") (x := "law") (qual := "law") (st := top 65) (hT ("law", 65) (by simp [fns, fns0, fns1, fns2])) (g.fnb ("law", 65) (by simp [fns, fns0, fns1, fns2]))
  have m32 : mg "law" = some (.ref (ga K "law")) := PySem.W.mg_of X G (g.fng ("law", 65) (by simp [fns, fns0, fns1, fns2]))
  have b32 := F32.binds (ps := ["_law_script"]) fun _ _ _ _ _ _ us hl => match us, hl with | [_], _ => rfl
  obtain ⟨e0, E0⟩ := fun_of (K := K) (f := faM K "names") (x := "names") (qual := "Size.names") (st := inClass sSize 7) (hM ("names", 7) (by simp [meths])) (g.mes ("names", 7) (by simp [meths]))
  have c0 := E0.binds (ps := ["self"]) fun _ _ _ _ _ _ us hl => match us, hl with | [_], _ => rfl
  obtain ⟨e1, E1⟩ := fun_of (K := K) (f := faM K "exponents") (x := "exponents") (qual := "Size.exponents") (st := inClass sSize 8) (hM ("exponents", 8) (by simp [meths])) (g.mes ("exponents", 8) (by simp [meths]))
  have c1 := E1.binds (ps := ["self"]) fun _ _ _ _ _ _ us hl => match us, hl with | [_], _ => rfl
  obtain ⟨e2, E2⟩ := fun_of (K := K) (f := faM K "over") (x := "over") (qual := "Size.over") (st := inClass sSize 10) (hM ("over", 10) (by simp [meths])) (g.mes ("over", 10) (by simp [meths]))
  have c2 := E2.binds (ps := ["self", "other"]) fun _ _ _ _ _ _ us hl => match us, hl with | [_, _], _ => rfl
  obtain ⟨e3, E3⟩ := fun_of (K := K) (f := faM K "power") (x := "power") (qual := "Size.power") (st := inClass sSize 11) (hM ("power", 11) (by simp [meths])) (g.mes ("power", 11) (by simp [meths]))
  have c3 := E3.binds (ps := ["self", "count"]) fun _ _ _ _ _ _ us hl => match us, hl with | [_, _], _ => rfl
  obtain ⟨e4, E4⟩ := fun_of (K := K) (f := faM K "at") (x := "at") (qual := "Size.at") (st := inClass sSize 12) (hM ("at", 12) (by simp [meths])) (g.mes ("at", 12) (by simp [meths]))
  have c4 := E4.binds (ps := ["self", "numbers"]) fun _ _ _ _ _ _ us hl => match us, hl with | [_, _], _ => rfl
  obtain ⟨e5, E5⟩ := fun_of (K := K) (f := faM K "at_point") (x := "at_point") (qual := "Size.at_point") (st := inClass sSize 13) (hM ("at_point", 13) (by simp [meths])) (g.mes ("at_point", 13) (by simp [meths]))
  have c5 := E5.binds (ps := ["self", "point"]) fun _ _ _ _ _ _ us hl => match us, hl with | [_, _], _ => rfl
  obtain ⟨e6, E6⟩ := fun_of (K := K) (f := faM K "__mul__") (x := "__mul__") (qual := "Size.__mul__") (st := inClass sSize 14) (hM ("__mul__", 14) (by simp [meths])) (g.mes ("__mul__", 14) (by simp [meths]))
  have c6 := E6.binds (ps := ["self", "other"]) fun _ _ _ _ _ _ us hl => match us, hl with | [_, _], _ => rfl
  obtain ⟨e7, E7⟩ := fun_of (K := K) (f := faM K "__eq__") (x := "__eq__") (qual := "Size.__eq__") (st := inClass sSize 17) (hM ("__eq__", 17) (by simp [meths])) (g.mes ("__eq__", 17) (by simp [meths]))
  have c7 := E7.binds (ps := ["self", "other"]) fun _ _ _ _ _ _ us hl => match us, hl with | [_, _], _ => rfl
  obtain ⟨di, FI⟩ := fund_of (K := K) (f := meA K "__init__") (x := "__init__") (qual := "Size.__init__") (st := sInit) hI g.ini
  obtain ⟨bi1, bi0⟩ := init_b FI
  have mS : mg "Size" = some (.ref (caK K)) := PySem.W.mg_of X G cf.glo
  have CS : Cs K (caK K) := ⟨⟨cf.pg, cf.hd, cf.po, cf.sa⟩, cf.nE⟩
  have CK : Ck K mg (caK K) := ⟨CS, mS, cf.cc, g.cn, g.ct, cf.co⟩
  have pI := pl_ok (g.pl "__init__" (by simp [plain]))
  have MK : Mk K (caK K) (meA K "__init__") := ⟨cf.mkI, pI.1, pI.2, cf.kp⟩
  have e := hfa.symm.trans m32
  cases e
  obtain ⟨oc, od, kV, doc, pm, an, cdv, ct, osl, ef, lk, hcd⟩ := id F32.ex
  have pnames := pl_ok (g.pl "names" (by simp [plain]))
  have pexponents := pl_ok (g.pl "exponents" (by simp [plain]))
  have pover := pl_ok (g.pl "over" (by simp [plain]))
  have ppower := pl_ok (g.pl "power" (by simp [plain]))
  have pat := pl_ok (g.pl "at" (by simp [plain]))
  have patXpoint := pl_ok (g.pl "at_point" (by simp [plain]))
  have pXXmulXX := pl_ok (g.pl "__mul__" (by simp [plain]))
  have pXXeqXX := pl_ok (g.pl "__eq__" (by simp [plain]))
  refine ⟨d32, fun s u => ?_, fun base _ _ => ?_⟩
  · rw [ef]
    exact .of_eq rfl
  · have GInt := ok_isint (P := PG) (w := w) (base := base) F1 NK
    have GCnt := ok_iscount (P := PG) (w := w) (base := base) F2 NK GInt F1.kp b1 m1
    have GNm := ok_isname (P := PG) (w := w) (base := base) F9 NK NN
    have GAdd := ok_added (P := PG) (w := w) (base := base) F0 NA
    have GTim := ok_times (P := PG) (w := w) (mg := mg) (base := base) F16
    have GEx := ok_isexp (P := PG) (w := w) (base := base) F15 NK GNm F9.kp b9 m9 GInt F1.kp b1 m1
    have GI := ok_init (P := PG) (w := w) (base := base) FI NA CS GEx F15.kp b15 m15
    have GCk := ok_check (P := PG) (w := w) (base := base) F14 NK CK
    have GRa := ok_rai (P := PG) (w := w) (mg := mg) (base := base) F3
    have GOd := ok_ord (P := PG) (w := w) (mg := mg) (base := base) F6
    have GSh := ok_sha (P := PG) (w := w) (base := base) F8 (bn "enumerate" (by simp [bltN])) gG
    have GRf := ok_ref (P := PG) (w := w) (base := base) F7 (bn "list" (by simp [bltN])) gG GSh F8.kp b8 m8
    have GCo := ok_cob (P := PG) (w := w) (base := base) F5 GRf F7.kp b7 m7
    have GOr := ok_ors (P := PG) (w := w) (base := base) F4 (bn "list" (by simp [bltN])) (bn "sum" (by simp [bltN])) GCo F5.kp b5 m5 GOd F6.kp b6 m6
    have GIn := ok_isnum (P := PG) (w := w) (base := base) F10 NK GNm F9.kp b9 m9 GInt F1.kp b1 m1
    have GCn := ok_chn (P := PG) (w := w) (base := base) F12 (bn "any" (by simp [bltN])) GIn F10.kp b10 m10
    have GIp := ok_ispoint (P := PG) (w := w) (base := base) F11 NK GNm F9.kp b9 m9 GCnt F2.kp b2 m2
    have GCp := ok_chp (P := PG) (w := w) (mg := mg) (base := base) F13 GIp F11.kp b11 m11
    have gNames := ok_names (P := PG) (w := w) (base := base) E0 NT CK
    have gExpo := ok_expo (P := PG) (w := w) (base := base) E1 NT CK
    have gOver := ok_over (P := PG) (w := w) (base := base) E2 CK GCk F14.kp b14 m14 MK GI bi1 (⟨pexponents.1, pexponents.2, E1.kp⟩ : Meth K (caK K) "exponents" (meA K "exponents")) gExpo c1 GTim F16.kp b16 m16 GAdd F0.kp b0 m0
    have gPow := ok_power (P := PG) (w := w) (base := base) E3 CK GCnt F2.kp b2 m2 MK GI bi1 GTim F16.kp b16 m16
    have gMul := ok_mul (P := PG) (w := w) (base := base) E6 CK GCk F14.kp b14 m14 MK GI bi1 (⟨pexponents.1, pexponents.2, E1.kp⟩ : Meth K (caK K) "exponents" (meA K "exponents")) gExpo c1 GAdd F0.kp b0 m0
    have gEqW := ok_eqW (P := PG) (w := w) (base := base) E7 NK CK
    have gAt := ok_at (P := PG) (w := w) (base := base) E4 CK (bn "any" (by simp [bltN])) GCn F12.kp b12 m12 gNames (⟨pnames.1, pnames.2, E0.kp⟩ : Meth K (caK K) "names" (meA K "names")) c0 GOr F4.kp b4 m4 GRa F3.kp b3 m3 MX0 gX0 xf0.exb xf0.tyC
    have gAtP := ok_atp (P := PG) (w := w) (base := base) E5 CK (bn "sum" (by simp [bltN])) GCp F13.kp b13 m13
    have KF : Kf PG w K mg base (caK K) := ⟨CK, ⟨_, _, MK, GI, bi1, bi0⟩, ⟨_, _, (⟨ppower.1, ppower.2, E3.kp⟩ : Meth K (caK K) "power" (meA K "power")), gPow, c3⟩, ⟨_, _, (⟨pover.1, pover.2, E2.kp⟩ : Meth K (caK K) "over" (meA K "over")), gOver, c2⟩, ⟨_, _, pXXmulXX.1, pXXmulXX.2, gMul, c6⟩, cf.s1⟩
    have TX : Xk K mg (ga K "NotWhole") (ga K "StateError") := ⟨gX0, gS, zx1, zx2, xf0.nf "size" (by decide), xg0⟩
    have GDr := ok_draw (P := PG) (w := w) (base := base) F18 NB
    have GCh := ok_choice (P := PG) (w := w) (base := base) F19 NB F18 b18 m18
    have GNa := ok_nm (P := PG) (w := w) (base := base) F20 NB F18 b18 m18 F19 b19 m19
    have GTi := ok_timesL (P := PG) (w := w) (base := base) F21 NA NT
    have GDw := ok_drawn (P := PG) (w := w) (mg := mg) (base := base) F22 GCh F19.kp b19 m19 GTi F21.kp b21 m21
    have GNu := ok_num (P := PG) (w := w) (base := base) F23 NB NT GDr F18.kp b18 m18
    have GPn := ok_pnt (P := PG) (w := w) (mg := mg) (base := base) F24 GDr F18.kp b18 m18
    have GVa := ok_val (P := PG) (w := w) (base := base) F25 NB
    have GXp := ok_expL (P := PG) (w := w) (base := base) F26 (bn "sum" (by simp [bltN]))
    have GIa := ok_isAt (P := PG) (w := w) (base := base) F27 NB NK CK g.sys TX GVa F25.kp b25 m25 gAt (⟨pat.1, pat.2, E4.kp⟩ : Meth K (caK K) "at" (meA K "at")) c4 gEqW pXXeqXX.1 pXXeqXX.2 c7
    have GBo := ok_both (P := PG) (w := w) (base := base) F28 NB CK GIa F27.kp b27 m27 gAtP (⟨patXpoint.1, patXpoint.2, E5.kp⟩ : Meth K (caK K) "at_point" (meA K "at_point")) c5 GXp F26.kp b26 m26
    have GPr := ok_pair (P := PG) (w := w) (base := base) F29 NB NT g.sys KF GBo F28.kp b28 m28 GTi F21.kp b21 m21 GNu F23.kp b23 m23 GPn F24.kp b24 m24
    have GGr := ok_great (P := PG) (w := w) (base := base) F30 NA NT KF GBo F28.kp b28 m28 GDr F18.kp b18 m18 GPn F24.kp b24 m24
    have GRi := ok_right (P := PG) (w := w) (base := base) F31 GNa F20.kp b20 m20 GDr F18.kp b18 m18 GDw F22.kp b22 m22 GPr F29.kp b29 m29 GGr F30.kp b30 m30
    exact ok_law (P := PG) (w := w) (base := base) F32 NB KF g.sys gAt (⟨pat.1, pat.2, E4.kp⟩ : Meth K (caK K) "at" (meA K "at")) c4 gAtP (⟨patXpoint.1, patXpoint.2, E5.kp⟩ : Meth K (caK K) "at_point" (meA K "at_point")) c5 (ok_rng F17 NB) F17.kp b17 m17 GRi F31.kp b31 m31
end
end K12
set_option maxHeartbeats 8000000
namespace K12
open PySem PySem.Spec PyProof.Rows L2 He

theorem walk_ofX {l : PySem.W.OpenLaw} {n k : Nat} {q : Program} {loose : List Str}
    {XP : (Str → Option Value) → Heap → Prop} {YP : World → Heap → Prop} {d : DefRec} {x : Str}
    (hn : l.most = some n) (hn2 : n ≤ sizeLine) (hdf : d.params.defaults = []) (hr : Room k callerA)
    (F : ∀ (w : World) (mg : Str → Option Value) (fa : Addr) (h : Heap), YP w h → h.Ns mainGlobals mg →
      mg d.name = some (.ref fa) → ∃ (K : PySem.W.Frag) (fd : FuncData) (sp : Sp), K.In h ∧
        (∀ (s : Shared) (u : Value), BindsTo s fd ⟨[u], []⟩ [(x, u)]) ∧
        (∀ (H : Hp) (a : Addr) (ns : List Int), ns.length ≤ n → Only H → SqL K H a (ns.map V.int) →
          sp [.ref a] H (fun v _ => v = .bl true) E0) ∧
        ∀ base : Heap, K.In base → base.Ns mainGlobals mg → FnG l.prog w K mg base k fa fd [x] sp) :
    PySem.W.WalkO q loose XP YP l.row.toRowW d [] (fun f vs => PySem.call f vs) := by
  refine Att.attach_call hn hdf fun w s0 s1 mg mb fa o pm cd doc a vs ns G Y ho hd hcd hmg hobj hints hlen hg => ?_
  obtain ⟨K, fd, sp, KX, hb, hsp, hF⟩ := F w mg fa _ Y G.T.g hmg
  exact law_callG KX G.T.g G.T.b G.T.builtins G.T.nolimit hg hobj hints (Nat.le_trans hlen hn2) hr hF hb
    fun H hO hS => hsp H a ns hlen hO hS
end K12
open PySem PySem.W PySem.Calls PyProof.Rows
theorem PySem.Challenge.cw_anyshape_k12_sizes_at_numbers_and_points_holds : PySem.Challenge.rw_anyshape_k12_sizes_at_numbers_and_points.Holds := by
  w_on; o_law
  refine HandSHeadRun.head_imp (r := OpenLaw.row PySem.Challenge.rw_anyshape_k12_sizes_at_numbers_and_points) (q := K12.qv) (H := K12.hk) (ob := K12.ob)
    (M := 12500) (loose := K12.names) (d := HandSHeadRun.topDef (OpenLaw.row PySem.Challenge.rw_anyshape_k12_sizes_at_numbers_and_points).prog 65) (kwd := [])
    K12.ob_eq K12.run (by kernel_rfl) (by kernel_rfl) (by kernel_rfl) (by rfl)
    (by first | assumption | decide +kernel) (by decide +kernel) ⟨rfl, rfl, rfl, rfl, rfl, by decide +kernel⟩ ?hw ?hc
  case hw => w_witness2
  case hc =>
    refine K12.walk_ofX (l := PySem.Challenge.rw_anyshape_k12_sizes_at_numbers_and_points) (n := 63) (k := 10) (x := "_law_script") rfl (by decide) (by kernel_rfl) ⟨rfl, by decide, by decide⟩ ?F
    intro w mg fa h Y G hmg0
    obtain ⟨K, KX, c⟩ := Y
    have hmg : mg ("law" : PySem.Str) = some (.ref fa) := by
      have e : (HandSHeadRun.topDef (OpenLaw.row PySem.Challenge.rw_anyshape_k12_sizes_at_numbers_and_points).prog 65).name = ("law" : PySem.Str) := by kernel_rfl
      rw [← e]
      exact hmg0
    obtain ⟨fd, hb, hF⟩ := K12.law_mk (w := w) KX G c hmg
    exact ⟨K, fd, K12.spLaw K, KX, hb, fun H a ns hl _ hS => ⟨a, ns, rfl, hS, Nat.le_trans hl (by decide), fun _ => rfl⟩, hF⟩
#print axioms PySem.Challenge.cw_anyshape_k12_sizes_at_numbers_and_points_holds
