import PyProof.Rows.All
import Wide.All
import OpenK.AllK
import Wide.FinOn
import HandS.Ends
import HandS.More
import HandS.Words
import HandS.ExcField
import HandS.Head0
import HandS.Head1
import HandS.Head2
import HandS.Head3
import HandS.HeadEnd
import HandS.HeadHook1
import HandS.HeadHook2
import KE.KStateDown
import KE.KOpsOwn
import KE.KMathG
import HandS.ForMost
import HandS.Defaults
import HandS.IsInst
import HandS.Star
import HandS.Gcd
import HandS.Wide
import HandS.Evl
import HandS.Zip
import HandS.Walk
import HandS.OwnEq
import HandS.Style
import HandS.Exc
import HandS.Call
import HandS.ExcInit
import HandS.ExcOwn
import HandS.ExcIs
import KE.KExcIs
import HandS.ExcValue
import HandS.TryMany
import KE.KTryMore
import HandS.NoneIn
import HandS.Flow
import PyProof.NeKinds
import KE.DataEq
import PySem.Challenge.RW_whosefirst_k00_errors_keep_their_fields
set_option Elab.async false
set_option linter.all false
set_option maxRecDepth 100000
set_option exponentiation.threshold 100000
set_option maxHeartbeats 4000000
namespace G
open PySem PySem.Spec PyProof.Rows L2
def top (i : Nat) : Stmt := PySem.Challenge.pw_whosefirst_k00_errors_keep_their_fields.main.body.getD i (.Pass ⟨0, 0, 0, 0⟩)
def nA : List Str := ["BadRatio", "BadStep", "BadSpan", "BadBook", "BadPace", "BadRow", "BadSaying", "BadOrder", "BadRider", "BadStory", "BadTable", "BadEye", "BadWeave", "BadReport", "BadTour", "BadNumber", "BadPaper", "BadDesk", "Missing", "NoHappening", "NoTraveller", "Twice", "Unlike", "Impossible"]
def nAll : List Str := ["BadRatio", "BadStep", "BadSpan", "BadBook", "BadPace", "BadRow", "BadSaying", "BadOrder", "BadRider", "BadStory", "BadTable", "BadEye", "BadWeave", "BadReport", "BadTour", "BadNumber", "BadPaper", "BadDesk", "Missing", "NoHappening", "NoTraveller", "Twice", "Unlike", "Impossible", "SameSpot", "TooMany", "BadText", "BadLine", "Nothing"]
def subN (x y : Str) : Bool := x == y || (y == "Missing" && (x == "NoHappening" || x == "NoTraveller"))
def keT : List Value := [.type "KeyError", .type "IndexError", .type "LookupError", .type "TypeError", .type "ArithmeticError", .type "RuntimeError"]
def fdN (x : Str) : Str := if x ∈ (["Missing", "NoHappening", "NoTraveller", "Twice"] : List Str) then "name" else if x = "Unlike" then "what" else if x = "Impossible" then "paper" else "part"
def nB : List Str := ["SameSpot", "TooMany", "BadText", "BadLine"]
def flN (x : Str) : List Str := if x = "SameSpot" then ["one", "other"] else if x = "TooMany" then ["what", "most"] else if x = "BadText" then ["line", "word"] else ["line", "error"]
def f1N (x : Str) : Str := (flN x).headD ""
def f2N (x : Str) : Str := ((flN x).drop 1).headD ""
def tu7 (cl : Str → Addr) : List Value := [.ref (cl "Unlike"), .ref (cl "Impossible"), .ref (cl "SameSpot"), .ref (cl "TooMany"), .ref (cl "BadText"), .ref (cl "BadLine"), .ref (cl "BadNumber")]
end G
namespace GH
open PySem PySem.Spec PyProof.Rows L2 He
/-! ### defs by any address, facts of any kind -/
structure DefE where
  adr : PySem.W.Frag → Addr
  name : Str
  qual : Str
  st : Stmt
  dvs : List V := []
def fnE (K : PySem.W.Frag) (a : Addr) : FnW := match K.lookup a with
  | some ⟨_, _, .func fd, _⟩ => some (fd.name, fd.qualname, fd.params, fd.body, fd.scope, fd.globals, fd.closure, fd.builtins)
  | _ => none
def DefE.val (d : DefE) : FnW := some (d.name, d.qual, defArgs d.st, .stmts (defBody d.st), defScope d.st, mainGlobals, [], builtinsNs)
def DefE.ok (K : PySem.W.Frag) (d : DefE) : Bool := PySem.W.keepIn K (.ref (d.adr K)) && (match K.lookup (d.adr K) with
  | some ⟨_, _, .func fd, _⟩ => PySem.W.codeIn K fd.code d.qual && dflB K fd.defaults d.dvs
  | _ => false)
abbrev FaE := PySem.W.Frag → Bool
def obsE (fa : List FaE) (fn : List DefE) (K : PySem.W.Frag) : AlD := ((fa.all fun f => f K) && fn.all fun d => d.ok K, fn.map fun d => fnE K (d.adr K))
def valE (fn : List DefE) : AlD := (true, fn.map DefE.val)
def SaysE (fa : List FaE) (fn : List DefE) (K : PySem.W.Frag) : Prop := obsE fa fn K = valE fn
def obsEG (n : Nat) (fa : List FaE) (fn : List DefE) (g : Addr → Option Obj) : AlD := obsE fa fn (frG g (cStatics :: asD g n))
def hookE (n : Nat) (fa : List FaE) (fn : List DefE) : PySem.W.Hook where
  α := AlD
  obs := fun s => obsEG n fa fn s.heap.get?
  val := fun _ => valE fn
  says := fun _ h => ∃ K : PySem.W.Frag, K.In h ∧ SaysE fa fn K
  of := fun _ _ e => ⟨_, frG_in, e⟩
  keeps := fun _ _ _ ⟨K, hK, c⟩ k => ⟨K, PySem.W.Frag.In.keeps hK k, c⟩
theorem obsEG_eq {n : Nat} {fa : List FaE} {fn : List DefE} {g : Addr → Option Obj} {s : Shared} (h : ∀ a, g a = s.heap.get? a) : obsEG n fa fn g = (hookE n fa fn).obs s := by
  have e : g = s.heap.get? := funext h
  rw [e] <;> rfl
def oexB (K : PySem.W.Frag) (C : Addr) : Bool := match K.lookup C with
  | some ⟨.type t, _, .cls cd, sl⟩ => decide (t = "type") && (match cd.mro, sl.toList with
    | .ref C' :: bm, [_, _, _, _, some (.builtin n), _] => (decide (C' = C) && decide (n = "ValueError.__new__")) && (cd.hasDict && (!cd.hasDel && PySem.HandSPX.refsVE bm))
    | _, _ => false)
  | _ => false
def exB (K : PySem.W.Frag) (C : Addr) : Bool := oexB K C && (eqO (PySem.W.findIn K (.ref C) "__setattr__") (some (some (.builtin "object.__setattr__"))) && (decide (PySem.W.typeIn K (.ref C) = some (.type "type")) && PySem.W.keepIn K (.ref C)))
def xrB (K : PySem.W.Frag) (C : Addr) : Bool := xfB K C && ((PySem.W.clsIn K C).isSome && (eqO (PySem.W.findIn K (.ref C) "__class__") (some (some (.builtin "object.__class__"))) && decide (PySem.W.mroIn K C (.type "object") = some true)))
def inB (K : PySem.W.Frag) (C : Addr) : Bool := eqO (PySem.W.findIn K (.ref C) "__init__") (some (some (.ref (ma K C "__init__")))) && decide (PySem.W.typeIn K (.ref (ma K C "__init__")) = some (.type "function"))
def nfB (K : PySem.W.Frag) (x g : Str) : Bool := eqO (PySem.W.findIn K (.ref (ga K x)) g) (some none)
def nI : List Str := G.nA ++ G.nB
end GH
set_option maxHeartbeats 0
namespace GH
open PySem PySem.Spec PyProof.Rows L2 He
def fn0 : List DefE := [
  ⟨fun K => ga K "_law_pen", "_law_pen", "_law_pen", G.top 32, []⟩,
  ⟨fun K => ga K "_law_draw", "_law_draw", "_law_draw", G.top 33, []⟩,
  ⟨fun K => ga K "_law_value", "_law_value", "_law_value", G.top 34, []⟩,
  ⟨fun K => ga K "_law_plain", "_law_plain", "_law_plain", G.top 35, []⟩,
  ⟨fun K => ga K "_law_classes", "_law_classes", "_law_classes", G.top 36, []⟩,
  ⟨fun K => ga K "_law_field", "_law_field", "_law_field", G.top 37, []⟩,
  ⟨fun K => ga K "_law_is_one", "_law_is_one", "_law_is_one", G.top 38, []⟩,
  ⟨fun K => ga K "_law_pairs", "_law_pairs", "_law_pairs", G.top 39, []⟩,
  ⟨fun K => ga K "_law_fields", "_law_fields", "_law_fields", G.top 40, []⟩,
  ⟨fun K => ga K "_law_raise", "_law_raise", "_law_raise", G.top 41, []⟩]
def fn1 : List DefE := [
  ⟨fun K => ga K "_law_caught", "_law_caught", "_law_caught", G.top 42, []⟩,
  ⟨fun K => ga K "law", "law", "law", G.top 43, []⟩,
  ⟨fun K => ma K (ga K "BadRatio") "__init__", "__init__", "BadRatio.__init__", inClass (G.top 2) 0, []⟩,
  ⟨fun K => ma K (ga K "BadStep") "__init__", "__init__", "BadStep.__init__", inClass (G.top 3) 0, []⟩,
  ⟨fun K => ma K (ga K "BadSpan") "__init__", "__init__", "BadSpan.__init__", inClass (G.top 4) 0, []⟩,
  ⟨fun K => ma K (ga K "BadBook") "__init__", "__init__", "BadBook.__init__", inClass (G.top 5) 0, []⟩,
  ⟨fun K => ma K (ga K "BadPace") "__init__", "__init__", "BadPace.__init__", inClass (G.top 6) 0, []⟩,
  ⟨fun K => ma K (ga K "BadRow") "__init__", "__init__", "BadRow.__init__", inClass (G.top 7) 0, []⟩,
  ⟨fun K => ma K (ga K "BadSaying") "__init__", "__init__", "BadSaying.__init__", inClass (G.top 8) 0, []⟩,
  ⟨fun K => ma K (ga K "BadOrder") "__init__", "__init__", "BadOrder.__init__", inClass (G.top 9) 0, []⟩]
def fn2 : List DefE := [
  ⟨fun K => ma K (ga K "BadRider") "__init__", "__init__", "BadRider.__init__", inClass (G.top 10) 0, []⟩,
  ⟨fun K => ma K (ga K "BadStory") "__init__", "__init__", "BadStory.__init__", inClass (G.top 11) 0, []⟩,
  ⟨fun K => ma K (ga K "BadTable") "__init__", "__init__", "BadTable.__init__", inClass (G.top 12) 0, []⟩,
  ⟨fun K => ma K (ga K "BadEye") "__init__", "__init__", "BadEye.__init__", inClass (G.top 13) 0, []⟩,
  ⟨fun K => ma K (ga K "BadWeave") "__init__", "__init__", "BadWeave.__init__", inClass (G.top 14) 0, []⟩,
  ⟨fun K => ma K (ga K "BadReport") "__init__", "__init__", "BadReport.__init__", inClass (G.top 15) 0, []⟩,
  ⟨fun K => ma K (ga K "BadTour") "__init__", "__init__", "BadTour.__init__", inClass (G.top 16) 0, []⟩,
  ⟨fun K => ma K (ga K "BadNumber") "__init__", "__init__", "BadNumber.__init__", inClass (G.top 17) 0, []⟩,
  ⟨fun K => ma K (ga K "BadPaper") "__init__", "__init__", "BadPaper.__init__", inClass (G.top 18) 0, []⟩,
  ⟨fun K => ma K (ga K "BadDesk") "__init__", "__init__", "BadDesk.__init__", inClass (G.top 19) 0, []⟩]
def fn3 : List DefE := [
  ⟨fun K => ma K (ga K "Missing") "__init__", "__init__", "Missing.__init__", inClass (G.top 20) 0, []⟩,
  ⟨fun K => ma K (ga K "NoHappening") "__init__", "__init__", "Missing.__init__", inClass (G.top 20) 0, []⟩,
  ⟨fun K => ma K (ga K "NoTraveller") "__init__", "__init__", "Missing.__init__", inClass (G.top 20) 0, []⟩,
  ⟨fun K => ma K (ga K "Twice") "__init__", "__init__", "Twice.__init__", inClass (G.top 23) 0, []⟩,
  ⟨fun K => ma K (ga K "Unlike") "__init__", "__init__", "Unlike.__init__", inClass (G.top 24) 0, []⟩,
  ⟨fun K => ma K (ga K "Impossible") "__init__", "__init__", "Impossible.__init__", inClass (G.top 26) 0, []⟩,
  ⟨fun K => ma K (ga K "SameSpot") "__init__", "__init__", "SameSpot.__init__", inClass (G.top 25) 0, []⟩,
  ⟨fun K => ma K (ga K "TooMany") "__init__", "__init__", "TooMany.__init__", inClass (G.top 27) 0, []⟩,
  ⟨fun K => ma K (ga K "BadText") "__init__", "__init__", "BadText.__init__", inClass (G.top 29) 0, []⟩,
  ⟨fun K => ma K (ga K "BadLine") "__init__", "__init__", "BadLine.__init__", inClass (G.top 30) 0, []⟩]
def fn : List DefE := (fn0 ++ (fn1 ++ (fn2 ++ fn3)))
def frN : List Str := ["len", "int", "bool", "isinstance", "str", "abs", "range", "ValueError", "KeyError", "IndexError", "LookupError", "TypeError", "ArithmeticError", "RuntimeError"]
def dfN : List Str := ["_law_pen", "_law_draw", "_law_value", "_law_plain", "_law_classes", "_law_field", "_law_is_one", "_law_pairs", "_law_fields", "_law_raise", "_law_caught", "law"]
def thN : List Str := ["NoHappening", "NoTraveller", "Twice", "Nothing"]
def twN : List String := ["int", "str", "NoneType", "bool", "list", "tuple", "dict"]
def fa : List FaE := [
  fun K => frN.all fun x => (Fa.free x).ok K,
  fun K => G.nAll.all fun x => (Fa.glo x).ok K,
  fun K => dfN.all fun x => (Fa.glo x).ok K,
  fun K => (Fa.glo "FirstError").ok K,
  fun K => G.nAll.all fun x => xrB K (ga K x),
  fun K => nI.all fun x => exB K (ga K x),
  fun K => nI.all fun x => inB K (ga K x),
  fun K => G.nA.all fun x => nfB K x (G.fdN x),
  fun K => G.nB.all fun x => nfB K x (G.f1N x) && nfB K x (G.f2N x),
  fun K => G.nAll.all fun x => G.nAll.all fun y => decide (PySem.W.kitOne K (.ref (ga K x)) (.ref (ga K y)) = some (G.subN x y)),
  fun K => G.nAll.all fun x => decide (PySem.W.kitOne K (.ref (ga K x)) (.ref (ga K "FirstError")) = some true),
  fun K => G.nAll.all fun x => decide (PySem.W.kitOne K (.ref (ga K x)) (.type "ValueError") = some true),
  fun K => G.nAll.all fun x => decide (PySem.W.kitAny K (.ref (ga K x)) G.keT = some false),
  fun K => eqO (PySem.W.specialIn K (.builtin "object.__class__") "__get__") (some (some (.builtin "getset_descriptor.__get__"))) && decide (PySem.W.takesIn K (.builtin "object.__class__") = some true),
  fun K => twN.all fun T => decide (PySem.W.kitOne K (.type T) (.ref (ga K "Twice")) = some false),
  fun K => (Fa.exc "Nothing").ok K,
  fun K => thN.all fun x => decide (PySem.W.exmAny K (.ref (ga K x)) (G.tu7 (ga K)) = some false),
  fun K => thN.all fun x => decide (PySem.W.exmOne K (.ref (ga K x)) (.ref (ga K "Missing")) = some (G.subN x "Missing")),
  fun K => thN.all fun x => decide (PySem.W.exmOne K (.ref (ga K x)) (.ref (ga K "FirstError")) = some true)]
abbrev R : PySem.W.OpenRow := PySem.W.OpenLaw.row PySem.Challenge.rw_whosefirst_k00_errors_keep_their_fields
abbrev hk : PySem.W.Hook := hookE 4 fa fn
def ob (s : PySem.W.SharedT) : AlD := obsEG 4 fa fn (HandSHeadRun.getT s)
theorem ob_eq (s : PySem.W.SharedT) : ob s = hk.obs s.abs := obsEG_eq (HandSHeadRun.getT_eq s)
def loose0 : List Str := ["FirstError", "BadRatio", "BadStep", "BadSpan", "BadBook", "BadPace", "BadRow", "BadSaying", "BadOrder", "BadRider", "BadStory", "BadTable", "BadEye", "BadWeave", "BadReport", "BadTour", "BadNumber", "BadPaper", "BadDesk", "Missing", "NoHappening", "NoTraveller", "Twice", "Unlike"]
def loose1 : List Str := ["SameSpot", "Impossible", "TooMany", "Nothing", "BadText", "BadLine", "_law_pen", "_law_draw", "_law_value", "_law_plain", "_law_classes", "_law_field", "_law_is_one", "_law_pairs", "_law_fields", "_law_raise", "_law_caught"]
def loose : List Str := loose0 ++ loose1
end GH
set_option maxHeartbeats 0
namespace GH
open PySem PySem.Spec PyProof.Rows L2 He
theorem run (w : World) : HandSHeadRun.RunEq R (PySem.W.view R.prog [43]) hk ob 20000 loose w := by
  intro os
  kernel_rfl
end GH
set_option maxHeartbeats 4000000
/-! G: what an expression of a def evaluates to, told by a word about the value that heaps which grow keep. -/
namespace G
open PySem PySem.Spec PyProof.Rows L2 Evl

/-! ### readings by meaning -/
def EW (X : Cx) (e : Expr) : TE := fun σ H Q => ∀ pins s, Inv X pins σ H s → wpAny (model X.prog X.w) X.A (eval e X.env) (EP X pins σ Q) X.xe s
def TW (X : Cx) (e : Expr) : TT := fun σ H Q => ∀ pins s, Inv X pins σ H s → wpAny (model X.prog X.w) X.A (isTrue e X.env (eval e X.env)) (TP X pins σ Q) X.xe s
def AW (X : Cx) (es : List Expr) : TA := fun σ H Q => ∀ pos pins s, Inv X pins σ H s → wpAny (model X.prog X.w) X.A (spliced (backTo pos (starEach es X.env))) (AP X pins σ Q) X.xe s
def KW (X : Cx) (kws : List Keyword) : TA := fun σ H Q => ∀ pos pins s, Inv X pins σ H s → wpAny (model X.prog X.w) X.A (evalAll ((backToKw pos (keywordEach kws X.env)).map (·.2))) (AP X pins σ Q) X.xe s
def SW (X : Cx) (st : Stmt) : TS := fun D σ H => ∀ pins s, Inv X pins σ H s → wpAny (model X.prog X.w) X.A (exec st X.env) (SP X pins D) X.xe s
def BW (X : Cx) (ss : List Stmt) : TS := fun D σ H => ∀ pins s, Inv X pins σ H s → wpAny (model X.prog X.w) X.A (execs ss X.env) (SP X pins D) X.xe s
section
variable {X : Cx} {e : Expr} {es : List Expr} {st : Stmt} {ss : List Stmt}
theorem pe_W : PE X e (EW X e) := ⟨fun pins s _ _ _ I h => h pins s I⟩
theorem pt_W : PT X e (TW X e) := ⟨fun pins s _ _ _ I h => h pins s I⟩
theorem pa_W : PA X es (AW X es) := ⟨fun pos pins s _ _ _ I h => h pos pins s I⟩
theorem pk_W {kws : List Keyword} : PK X kws (KW X kws) := ⟨fun pos pins s _ _ _ I h => h pos pins s I⟩
theorem ps_W : PS X st (SW X st) := ⟨fun pins s _ _ _ I h => h pins s I⟩
theorem pss_W : PSs X ss (BW X ss) := ⟨fun pins s _ _ _ I h => h pins s I⟩
end

/-! ### words about values -/
abbrev Rep := V → Hp → Prop
class Mono (P : Rep) : Prop where
  up : ∀ {v : V} {H H' : Hp}, Ex H H' → P v H → P v H'
def IsV (a : V) : Rep := fun v _ => v = a
abbrev IsI (i : Int) : Rep := IsV (.int i)
abbrev IsB (b : Bool) : Rep := IsV (.bl b)
abbrev IsS (z : Str) : Rep := IsV (.str z)
instance {a : V} : Mono (IsV a) := ⟨fun _ h => h⟩
/-- one after another -/
def All2 {α : Type} (R : α → Rep) : List α → List V → Hp → Prop
  | [], xs, _ => xs = []
  | a :: as, xs, H => ∃ x r, xs = x :: r ∧ R a x H ∧ All2 R as r H
theorem All2.up {α : Type} {R : α → Rep} (hR : ∀ a, Mono (R a)) {H H' : Hp} (e : Ex H H') : ∀ {as : List α} {xs : List V}, All2 R as xs H → All2 R as xs H'
  | [], _, h => h
  | a :: as, _, ⟨x, r, hx, h, t⟩ => ⟨x, r, hx, (hR a).up e h, All2.up hR e t⟩
theorem All2.length {α : Type} {R : α → Rep} {H : Hp} : ∀ {as : List α} {xs : List V}, All2 R as xs H → xs.length = as.length
  | [], _, h => by rw [show _ = _ from h]; rfl
  | a :: as, _, ⟨x, r, hx, h, t⟩ => by rw [hx, List.length_cons, List.length_cons, All2.length t]
theorem All2.get {α : Type} {R : α → Rep} {H : Hp} : ∀ {as : List α} {xs : List V} {i : Nat} {x : V}, All2 R as xs H → xs[i]? = some x → ∃ a, as[i]? = some a ∧ R a x H
  | [], _, i, x, h, hx => by rw [show _ = _ from h] at hx; simp at hx
  | a :: as, _, 0, x, ⟨y, r, hy, h, t⟩, hx => by
    subst hy
    cases (Option.some.inj (show some y = some x from by simpa using hx))
    exact ⟨a, rfl, h⟩
  | a :: as, _, i + 1, x, ⟨y, r, hy, h, t⟩, hx => by
    subst hy
    obtain ⟨b, hb, hr⟩ := All2.get t (show r[i]? = some x from by simpa using hx)
    exact ⟨b, by simpa using hb, hr⟩
theorem All2.get2 {α : Type} {R : α → Rep} {H : Hp} : ∀ {as : List α} {xs : List V} {i : Nat} {a : α}, All2 R as xs H → as[i]? = some a → ∃ x, xs[i]? = some x ∧ R a x H
  | [], _, i, a, h, ha => by simp at ha
  | b :: as, _, 0, a, ⟨y, r, hy, h, t⟩, ha => by
    subst hy
    cases (Option.some.inj (show some b = some a from by simpa using ha))
    exact ⟨y, rfl, h⟩
  | b :: as, _, i + 1, a, ⟨y, r, hy, h, t⟩, ha => by
    subst hy
    obtain ⟨x, hx, hr⟩ := All2.get2 t (show as[i]? = some a from by simpa using ha)
    exact ⟨x, by simpa using hx, hr⟩
theorem All2.snoc {α : Type} {R : α → Rep} {H : Hp} {b : α} {y : V} (hb : R b y H) : ∀ {as : List α} {xs : List V}, All2 R as xs H → All2 R (as ++ [b]) (xs ++ [y]) H
  | [], _, h => by rw [show _ = _ from h]; exact ⟨y, [], rfl, hb, rfl⟩
  | a :: as, _, ⟨x, r, hx, h, t⟩ => by
    subst hx
    exact ⟨x, r ++ [y], rfl, h, All2.snoc hb t⟩
theorem All2.drop {α : Type} {R : α → Rep} {H : Hp} : ∀ (n : Nat) {as : List α} {xs : List V}, All2 R as xs H → All2 R (as.drop n) (xs.drop n) H
  | 0, _, _, h => h
  | n + 1, [], _, h => by rw [show _ = _ from h]; exact rfl
  | n + 1, a :: as, _, ⟨x, r, hx, h, t⟩ => by
    subst hx
    exact All2.drop n t
theorem All2.map {α β : Type} {R : α → Rep} {S : β → Rep} {f : α → β} {H : Hp} (hf : ∀ a v, R a v H → S (f a) v H) : ∀ {as : List α} {xs : List V}, All2 R as xs H → All2 S (as.map f) xs H
  | [], _, h => h
  | a :: as, _, ⟨x, r, hx, h, t⟩ => ⟨x, r, hx, hf a x h, All2.map hf t⟩
theorem all2_ints {H : Hp} : ∀ {ns : List Int} {xs : List V}, All2 IsI ns xs H → xs = ns.map V.int
  | [], _, h => h
  | n :: ns, _, ⟨x, r, hx, h, t⟩ => by
    rw [hx, show x = _ from h, all2_ints t]
    rfl
theorem ints_all2 {H : Hp} : ∀ {ns : List Int}, All2 IsI ns (ns.map V.int) H
  | [] => rfl
  | n :: ns => ⟨_, _, rfl, rfl, ints_all2⟩
/-- a list, a tuple of these -/
def IsL {α : Type} (R : α → Rep) (as : List α) : Rep := fun v H => ∃ a xs, v = .ref a ∧ H a = some (.lst xs) ∧ All2 R as xs H
def IsT {α : Type} (R : α → Rep) (as : List α) : Rep := fun v H => ∃ a xs, v = .ref a ∧ H a = some (.tup xs) ∧ All2 R as xs H
instance {α : Type} {R : α → Rep} {as : List α} [hR : ∀ a, Mono (R a)] : Mono (IsL R as) := ⟨fun e ⟨a, xs, hv, ha, h⟩ => ⟨a, xs, hv, e a _ ha, h.up hR e⟩⟩
instance {α : Type} {R : α → Rep} {as : List α} [hR : ∀ a, Mono (R a)] : Mono (IsT R as) := ⟨fun e ⟨a, xs, hv, ha, h⟩ => ⟨a, xs, hv, e a _ ha, h.up hR e⟩⟩
/-- words one by one -/
def Args : List Rep → List V → Hp → Prop
  | [], xs, _ => xs = []
  | P :: Ps, xs, H => ∃ x r, xs = x :: r ∧ P x H ∧ Args Ps r H
def TupOf (Ps : List Rep) : Rep := fun v H => ∃ a xs, v = .ref a ∧ H a = some (.tup xs) ∧ Args Ps xs H
def LstOf (Ps : List Rep) : Rep := fun v H => ∃ a xs, v = .ref a ∧ H a = some (.lst xs) ∧ Args Ps xs H
theorem args_len {H : Hp} : ∀ {Ps : List Rep} {xs : List V}, Args Ps xs H → xs.length = Ps.length
  | [], _, h => by rw [show _ = _ from h]; rfl
  | P :: Ps, _, ⟨x, r, hx, _, t⟩ => by rw [hx, List.length_cons, List.length_cons, args_len t]
class MonoA (Ps : List Rep) : Prop where
  up : ∀ {xs : List V} {H H' : Hp}, Ex H H' → Args Ps xs H → Args Ps xs H'
instance : MonoA [] := ⟨fun _ h => h⟩
instance {P : Rep} {Ps : List Rep} [hP : Mono P] [hR : MonoA Ps] : MonoA (P :: Ps) := ⟨fun e ⟨x, r, hx, h, t⟩ => ⟨x, r, hx, hP.up e h, hR.up e t⟩⟩
instance {Ps : List Rep} [h : MonoA Ps] : Mono (TupOf Ps) := ⟨fun e ⟨a, xs, hv, ha, q⟩ => ⟨a, xs, hv, e a _ ha, h.up e q⟩⟩
instance {Ps : List Rep} [h : MonoA Ps] : Mono (LstOf Ps) := ⟨fun e ⟨a, xs, hv, ha, q⟩ => ⟨a, xs, hv, e a _ ha, h.up e q⟩⟩

/-! ### what evaluates to what -/
def EvP (te : TE) (σ : L2.St) (H : Hp) (P : Rep) : Prop := ∀ H1, Ex H H1 → ∀ Q : VK, (∀ v H2, Ex H1 H2 → P v H2 → Q v H2) → te σ H1 Q
def EvAP (ta : TA) (σ : L2.St) (H : Hp) (P : List V → Hp → Prop) : Prop := ∀ H1, Ex H H1 → ∀ Q : List V → Hp → Prop, (∀ vs H2, Ex H1 H2 → P vs H2 → Q vs H2) → ta σ H1 Q
abbrev EG (X : Cx) (e : Expr) (σ : L2.St) (H : Hp) (P : Rep) : Prop := EvP (EW X e) σ H P
abbrev TG (X : Cx) (e : Expr) (σ : L2.St) (H : Hp) (b : Bool) : Prop := EvT (TW X e) σ H b
abbrev AG (X : Cx) (es : List Expr) (σ : L2.St) (H : Hp) (Ps : List Rep) : Prop := EvAP (AW X es) σ H (Args Ps)
abbrev KG (X : Cx) (ks : List Keyword) (σ : L2.St) (H : Hp) (Ps : List Rep) : Prop := EvAP (KW X ks) σ H (Args Ps)
theorem eg_of {X : Cx} {e : Expr} {t : TE} {σ : L2.St} {H : Hp} {P : Rep} (h : PE X e t) (v : EvP t σ H P) : EG X e σ H P := fun H1 e1 Q q pins s I => h.run pins s σ H1 Q I (v H1 e1 Q q)
theorem tg_of {X : Cx} {e : Expr} {t : TT} {σ : L2.St} {H : Hp} {b : Bool} (h : PT X e t) (v : EvT t σ H b) : TG X e σ H b := fun H1 e1 Q q pins s I => h.run pins s σ H1 Q I (v H1 e1 Q q)
theorem ag_of {X : Cx} {es : List Expr} {t : TA} {σ : L2.St} {H : Hp} {P : List Rep} (h : PA X es t) (v : EvAP t σ H (Args P)) : AG X es σ H P := fun H1 e1 Q q pos pins s I => h.run pos pins s σ H1 Q I (v H1 e1 Q q)
theorem EvP.imp {te : TE} {σ : L2.St} {H : Hp} {P P' : Rep} (h : EvP te σ H P) (i : ∀ v H', Ex H H' → P v H' → P' v H') : EvP te σ H P' := fun H1 e Q q => h H1 e Q fun v H2 e2 p => q v H2 e2 (i v H2 (e.trans e2) p)
theorem EvP.at {te : TE} {σ : L2.St} {H H' : Hp} {P : Rep} (h : EvP te σ H P) (e : Ex H H') : EvP te σ H' P := fun H1 e1 Q q => h H1 (e.trans e1) Q q
theorem TG.is {X : Cx} {e : Expr} {σ : L2.St} {H : Hp} {b c : Bool} (h : TG X e σ H b) (q : b = c) : TG X e σ H c := q ▸ h
theorem EvP.int {te : TE} {σ : L2.St} {H : Hp} {i j : Int} (h : EvP te σ H (IsI i)) (q : i = j) : EvP te σ H (IsI j) := q ▸ h
theorem EvP.bl {te : TE} {σ : L2.St} {H : Hp} {i j : Bool} (h : EvP te σ H (IsB i)) (q : i = j) : EvP te σ H (IsB j) := q ▸ h

section
variable {X : Cx} {σ : L2.St} {H : Hp} {a b c e : Expr} {es : List Expr} {pos p : Pos} {P P1 P2 : Rep} {Ps : List Rep}

/-! ### readings -/
theorem ep_op {r : R2} {ta tb : TE} [hm : Mono P1] (ha : EvP ta σ H P1) (hb : EvP tb σ H P2)
    (hr : ∀ x y H1, Ex H H1 → P1 x H1 → P2 y H1 → ∀ Q : VK, (∀ z H2, Ex H1 H2 → P z H2 → Q z H2) → r x y H1 Q) : EvP (tOp r ta tb) σ H P := fun H1 e Q q =>
  ha H1 e _ fun x H2 e2 px => hb H2 (e.trans e2) _ fun y H3 e3 py => hr x y H3 ((e.trans e2).trans e3) (hm.up e3 px) py Q fun z H4 e4 pz => q z H4 ((e2.trans e3).trans e4) pz
theorem ep_un {r : V → Hp → VK → Prop} {ta : TE} (ha : EvP ta σ H P1) (hr : ∀ x H1, Ex H H1 → P1 x H1 → ∀ Q : VK, (∀ z H2, Ex H1 H2 → P z H2 → Q z H2) → r x H1 Q) : EvP (tUn r ta) σ H P := fun H1 e Q q =>
  ha H1 e _ fun x H2 e2 px => hr x H2 (e.trans e2) px Q fun z H3 e3 pz => q z H3 (e2.trans e3) pz
theorem ep_cb {r : List V → Hp → VK → Prop} {ta : TA} {PA : List V → Hp → Prop} (ha : EvAP ta σ H PA) (hr : ∀ vs H1, Ex H H1 → PA vs H1 → ∀ Q : VK, (∀ z H2, Ex H1 H2 → P z H2 → Q z H2) → r vs H1 Q) : EvP (tCB r ta) σ H P := fun H1 e Q q =>
  ha H1 e _ fun vs H2 e2 pv => hr vs H2 (e.trans e2) pv Q fun z H3 e3 pz => q z H3 (e2.trans e3) pz

/-! ### names, constants -/
theorem eg_var (i : Nat) {x : Str} {v : V} (hv : σ[i]? = some (some v)) (h : P v H) [hm : Mono P] (hN : X.N[i]? = some x := by rfl) (hs : Vis X.env.scope x := by first | exact Or.inl rfl | exact Or.inr (Or.inl rfl) | exact Or.inr (Or.inr rfl))
    (hd : (x == ("__debug__" : Str)) = false := by decide) (hcd : (x == ("__classdict__" : Str)) = false := by decide) : EG X (.Name x pos) σ H P :=
  eg_of (pe_var hN hs hd hcd) fun H1 e Q q => ⟨v, hv, q v H1 (Ex.refl H1) (hm.up e h)⟩
theorem eg_c {v : V} {t : TE} (h : PE X e (tC v)) : EG X e σ H (IsV v) := eg_of h fun H1 _ Q q => q v H1 (Ex.refl H1) rfl
theorem eg_int {i : Int} {j : Nat} : EG X (.Constant (.int i) j pos) σ H (IsI i) := eg_of pe_int fun H1 _ Q q => q _ H1 (Ex.refl H1) rfl
theorem eg_bl {i : Bool} {j : Nat} : EG X (.Constant (.bool i) j pos) σ H (IsB i) := eg_of pe_bl fun H1 _ Q q => q _ H1 (Ex.refl H1) rfl
theorem eg_non {j : Nat} : EG X (.Constant .none j pos) σ H (IsV .non) := eg_of pe_non fun H1 _ Q q => q _ H1 (Ex.refl H1) rfl
theorem eg_str {z : Str} {j : Nat} : EG X (.Constant (.str z) j pos) σ H (IsS z) := eg_of pe_str fun H1 _ Q q => q _ H1 (Ex.refl H1) rfl
theorem eg_glob {x : Str} {v : V} {u : Value} (hm : X.mg x = some u) (r : RelV v u) (hg : Gl X x := by rfl) (hd : (x == ("__debug__" : Str)) = false := by decide) : EG X (.Name x pos) σ H (IsV v) :=
  eg_of (pe_glob hg hm r hd) fun H1 _ Q q => q _ H1 (Ex.refl H1) rfl
theorem eg_bltn {x : Str} {v : V} {u : Value} (hm : X.mg x = none) (hv : bootBuiltins x = some u) (r : RelV v u) (hg : Gl X x := by rfl) (hn : x ≠ "__name__" := by decide) (hd : (x == ("__debug__" : Str)) = false := by decide) : EG X (.Name x pos) σ H (IsV v) :=
  eg_of (pe_bltn hg hm hv r hn hd) fun H1 _ Q q => q _ H1 (Ex.refl H1) rfl

/-! ### ints -/
variable {i j : Int}
theorem eg_add (ha : EG X a σ H (IsI i)) (hb : EG X b σ H (IsI j)) : EG X (.BinOp a .Add b pos) σ H (IsI (i + j)) :=
  eg_of (pe_op op_add pe_W pe_W) (ep_op ha hb fun x y H1 _ px py Q q => ⟨i, j, px, py, q _ H1 (Ex.refl H1) rfl⟩)
theorem eg_sub (ha : EG X a σ H (IsI i)) (hb : EG X b σ H (IsI j)) : EG X (.BinOp a .Sub b pos) σ H (IsI (i - j)) :=
  eg_of (pe_op op_sub pe_W pe_W) (ep_op ha hb fun x y H1 _ px py Q q => ⟨i, j, px, py, q _ H1 (Ex.refl H1) rfl⟩)
theorem eg_mul (hc : CMulW i j) (ha : EG X a σ H (IsI i)) (hb : EG X b σ H (IsI j)) : EG X (.BinOp a .Mult b pos) σ H (IsI (i * j)) :=
  eg_of (pe_op op_mulW pe_W pe_W) (ep_op ha hb fun x y H1 _ px py Q q => ⟨i, j, px, py, hc, q _ H1 (Ex.refl H1) rfl⟩)
theorem eg_pow {k : Nat} (hk : k ≤ 1000) (hi : i.natAbs < 2 ^ 64) (ha : EG X a σ H (IsI i)) (hb : EG X b σ H (IsI (k : Int))) : EG X (.BinOp a .Pow b pos) σ H (IsI (i ^ k)) :=
  eg_of (pe_op op_pow pe_W pe_W) (ep_op ha hb fun x y H1 _ px py Q q => ⟨i, k, px, py, ⟨by omega, by omega, hi⟩, q _ H1 (Ex.refl H1) rfl⟩)
theorem eg_fdiv (hc : CDivW i j) (ha : EG X a σ H (IsI i)) (hb : EG X b σ H (IsI j)) : EG X (.BinOp a .FloorDiv b pos) σ H (IsI (i / j)) :=
  eg_of (pe_op op_fdivW pe_W pe_W) (ep_op ha hb fun x y H1 _ px py Q q => ⟨i, j, px, py, hc, q _ H1 (Ex.refl H1) rfl⟩)
theorem eg_mod (hc : 0 < j) (ha : EG X a σ H (IsI i)) (hb : EG X b σ H (IsI j)) : EG X (.BinOp a .Mod b pos) σ H (IsI (i % j)) :=
  eg_of (pe_op op_mod pe_W pe_W) (ep_op ha hb fun x y H1 _ px py Q q => ⟨i, j, px, py, hc, q _ H1 (Ex.refl H1) rfl⟩)
theorem eg_neg (ha : EG X a σ H (IsI i)) : EG X (.UnaryOp .USub a pos) σ H (IsI (-i)) :=
  eg_of (pe_un un_neg pe_W) (ep_un ha fun x H1 _ px Q q => ⟨i, px, q _ H1 (Ex.refl H1) rfl⟩)

/-! ### comparisons -/
variable {bb bc : Bool}
def CW (X : Cx) (op : CmpOp) : R2 := fun x y H Q => ∀ pins s σ v u, Inv X pins σ H s → RelV x v → RelV y u → wpAny (model X.prog X.w) X.A (compareOp op v u) (EP X pins σ Q) X.xe s
theorem op_W {op : CmpOp} : OpR X (compareOp op) (CW X op) := fun pins s σ H x y v u Q I rx ry h => h pins s σ v u I rx ry
abbrev CG (X : Cx) (op : CmpOp) (a b : Expr) (σ : L2.St) (H : Hp) (bb : Bool) : Prop := EvP (tOp (CW X op) (EW X a) (EW X b)) σ H (IsB bb)
theorem cg_of {op : CmpOp} {r : R2} [Mono P1] (ho : OpR X (compareOp op) r) (ha : EG X a σ H P1) (hb : EG X b σ H P2)
    (hr : ∀ x y H1, Ex H H1 → P1 x H1 → P2 y H1 → ∀ Q : VK, (∀ H2, Ex H1 H2 → Q (.bl bb) H2) → r x y H1 Q) : CG X op a b σ H bb :=
  ep_op ha hb fun x y H1 e px py Q q pins s σ v u I rx ry => ho pins s σ H1 x y v u Q I rx ry (hr x y H1 e px py Q fun H2 e2 => q _ H2 e2 rfl)
theorem eg_cm {op : CmpOp} (h : CG X op a b σ H bb) (hm : behindInMarks op b = false := by first | exact nomark _ | rfl) : EG X (.Compare a [op] [b] pos) σ H (IsB bb) := eg_of (pe_cmpR op_W pe_W pe_W hm) h
theorem tg_cm {op : CmpOp} (h : CG X op a b σ H bb) (hm : behindInMarks op b = false := by first | exact nomark _ | rfl) : TG X (.Compare a [op] [b] pos) σ H bb :=
  tg_of (pt_cmpR op_W pe_W pe_W hm) fun H1 e Q q => h H1 e _ fun v H2 e2 pv => ⟨bb, pv, q H2 e2⟩
theorem cg_lt (ha : EG X a σ H (IsI i)) (hb : EG X b σ H (IsI j)) : CG X .Lt a b σ H (decide (i < j)) := cg_of op_lt ha hb fun x y H1 _ px py Q q => ⟨i, j, px, py, q H1 (Ex.refl H1)⟩
theorem cg_le (ha : EG X a σ H (IsI i)) (hb : EG X b σ H (IsI j)) : CG X .LtE a b σ H (decide (i ≤ j)) := cg_of op_le ha hb fun x y H1 _ px py Q q => ⟨i, j, px, py, q H1 (Ex.refl H1)⟩
theorem cg_gt (ha : EG X a σ H (IsI i)) (hb : EG X b σ H (IsI j)) : CG X .Gt a b σ H (decide (j < i)) := cg_of op_gt ha hb fun x y H1 _ px py Q q => ⟨i, j, px, py, q H1 (Ex.refl H1)⟩
theorem cg_ge (ha : EG X a σ H (IsI i)) (hb : EG X b σ H (IsI j)) : CG X .GtE a b σ H (decide (j ≤ i)) := cg_of op_ge ha hb fun x y H1 _ px py Q q => ⟨i, j, px, py, q H1 (Ex.refl H1)⟩
theorem dec_vint {i j : Int} : decide (V.int i = V.int j) = decide (i = j) := by rw [dec_int, Bool.beq_eq_decide_eq]
theorem dec_vstr {z w : Str} : decide (V.str z = V.str w) = decide (z = w) := by
  by_cases h : z = w
  · subst h; simp
  · rw [decide_eq_false h, decide_eq_false (fun q => h (V.str.inj q))]
theorem cg_eqV {v w : V} (hs : scal v w = true) (ha : EG X a σ H (IsV v)) (hb : EG X b σ H (IsV w)) : CG X .Eq a b σ H (decide (v = w)) := cg_of op_eq ha hb fun x y H1 _ px py Q q => by
  rw [show x = v from px, show y = w from py]
  exact ⟨hs, q H1 (Ex.refl H1)⟩
theorem cg_neV {v w : V} (hs : scal v w = true) (ha : EG X a σ H (IsV v)) (hb : EG X b σ H (IsV w)) : CG X .NotEq a b σ H (!decide (v = w)) := cg_of op_ne ha hb fun x y H1 _ px py Q q => by
  rw [show x = v from px, show y = w from py]
  exact ⟨hs, q H1 (Ex.refl H1)⟩
theorem cg_eqI (ha : EG X a σ H (IsI i)) (hb : EG X b σ H (IsI j)) : CG X .Eq a b σ H (decide (i = j)) := by
  rw [← dec_vint]
  exact cg_eqV rfl ha hb
theorem cg_neI (ha : EG X a σ H (IsI i)) (hb : EG X b σ H (IsI j)) : CG X .NotEq a b σ H (!decide (i = j)) := by
  rw [← dec_vint]
  exact cg_neV rfl ha hb
theorem cg_eqS {z w : Str} (ha : EG X a σ H (IsS z)) (hb : EG X b σ H (IsS w)) : CG X .Eq a b σ H (decide (z = w)) := by
  rw [← dec_vstr]
  exact cg_eqV rfl ha hb
theorem cg_neS {z w : Str} (ha : EG X a σ H (IsS z)) (hb : EG X b σ H (IsS w)) : CG X .NotEq a b σ H (!decide (z = w)) := by
  rw [← dec_vstr]
  exact cg_neV rfl ha hb
theorem cg_isN {v : V} {j : Nat} {p' : Pos} (ha : EG X a σ H (IsV v)) : CG X .Is a (.Constant .none j p') σ H (decide (v = .non)) :=
  cg_of (P2 := IsV .non) op_isN ha eg_non fun x y H1 _ px py Q q => ⟨py, by rw [show x = v from px]; exact q H1 (Ex.refl H1)⟩
theorem cg_isNot {v : V} {j : Nat} {p' : Pos} (ha : EG X a σ H (IsV v)) : CG X .IsNot a (.Constant .none j p') σ H (!decide (v = .non)) :=
  cg_of (P2 := IsV .non) op_notN ha eg_non fun x y H1 _ px py Q q => ⟨py, by rw [show x = v from px]; exact q H1 (Ex.refl H1)⟩
theorem CG.is {op : CmpOp} (h : CG X op a b σ H bb) (q : bb = bc) : CG X op a b σ H bc := q ▸ h

/-! ### tests, and, or -/
theorem tg_val (he : EG X e σ H (IsB bb)) (hp : ∀ whole, isTrue e X.env whole = (do let v ← whole; standAt e.pos; holding [v] (truthy v)) := by intro _; rfl) : TG X e σ H bb :=
  tg_of (pt_val pe_W hp) fun H1 e1 Q q => he H1 e1 _ fun v H2 e2 pv => ⟨bb, pv, q H2 e2⟩
theorem tg_not (h : TG X a σ H bb) : TG X (.UnaryOp .Not a pos) σ H (!bb) := tg_of (pt_not pt_W) (et_not h)
def WW (X : Cx) (e : Expr) : TT := fun σ H Q => ∀ (whole : Sem Value) pins s, Inv X pins σ H s → wpAny (model X.prog X.w) X.A (isTrue e X.env whole) (TP X pins σ Q) X.xe s
theorem pw_W : PW X e (WW X e) := ⟨fun wh pins s _ _ _ I h => h wh pins s I⟩
abbrev WG (X : Cx) (e : Expr) (σ : L2.St) (H : Hp) (b : Bool) : Prop := EvT (WW X e) σ H b
theorem wg_of {t : TT} (h : PW X e t) (v : EvT t σ H bb) : WG X e σ H bb := fun H1 e1 Q q wh pins s I => h.run wh pins s σ H1 Q I (v H1 e1 Q q)
theorem wg_and1 (h : TG X a σ H bb) : WG X (.BoolOp .And [a] pos) σ H bb := wg_of (pw_and1 pt_W) h
theorem wg_or1 (h : TG X a σ H bb) : WG X (.BoolOp .Or [a] pos) σ H bb := wg_of (pw_or1 pt_W) h
theorem wg_and {rest : List Expr} (h : TG X a σ H bb) (h2 : bb = true → WG X (.BoolOp .And (b :: rest) pos) σ H bc) : WG X (.BoolOp .And (a :: b :: rest) pos) σ H (bb && bc) := wg_of (pw_and pt_W pw_W) (et_and h h2)
theorem wg_or {rest : List Expr} (h : TG X a σ H bb) (h2 : bb = false → WG X (.BoolOp .Or (b :: rest) pos) σ H bc) : WG X (.BoolOp .Or (a :: b :: rest) pos) σ H (bb || bc) := wg_of (pw_or pt_W pw_W) (et_or h h2)
theorem tg_w (h : WG X e σ H bb) : TG X e σ H bb := fun H1 e1 Q q pins s I => h H1 e1 Q q _ pins s I
theorem eg_one {op} (h : EG X a σ H P) : EG X (.BoolOp op [a] pos) σ H P := eg_of (pe_one pe_W) h
theorem eg_and {rest : List Expr} (h : EG X a σ H (IsB bb)) (h2 : bb = true → EG X (.BoolOp .And (b :: rest) pos) σ H (IsB bc)) : EG X (.BoolOp .And (a :: b :: rest) pos) σ H (IsB (bb && bc)) :=
  eg_of (pe_and pe_W pe_W) fun H1 e1 Q q => h H1 e1 _ fun v H2 e2 pv => ⟨bb, pv, by
    cases bb with
    | true => rw [if_pos rfl]; exact h2 rfl H2 (e1.trans e2) Q fun w H3 e3 pw => q w H3 (e2.trans e3) pw
    | false => rw [if_neg Bool.false_ne_true]; exact q _ H2 e2 rfl⟩
theorem eg_or {rest : List Expr} (h : EG X a σ H (IsB bb)) (h2 : bb = false → EG X (.BoolOp .Or (b :: rest) pos) σ H (IsB bc)) : EG X (.BoolOp .Or (a :: b :: rest) pos) σ H (IsB (bb || bc)) :=
  eg_of (pe_or pe_W pe_W) fun H1 e1 Q q => h H1 e1 _ fun v H2 e2 pv => ⟨bb, pv, by
    cases bb with
    | false => rw [if_neg Bool.false_ne_true]; exact h2 rfl H2 (e1.trans e2) Q fun w H3 e3 pw => q w H3 (e2.trans e3) pw
    | true => rw [if_pos rfl]; exact q _ H2 e2 rfl⟩
theorem eg_not (h : EG X a σ H (IsB bb)) : EG X (.UnaryOp .Not a pos) σ H (IsB (!bb)) :=
  eg_of (pe_not pe_W) fun H1 e1 Q q => h H1 e1 _ fun v H2 e2 pv => ⟨bb, pv, q _ H2 e2 rfl⟩
theorem eg_if (hc : TG X c σ H bb) (h1 : bb = true → EG X a σ H P) (h2 : bb = false → EG X b σ H P) : EG X (.IfExp c a b pos) σ H P :=
  eg_of (pe_ifExp pt_W pe_W pe_W) fun H1 e1 Q q => hc H1 e1 _ fun H2 e2 => by
    cases bb with
    | true => rw [if_pos rfl]; exact h1 rfl H2 (e1.trans e2) Q fun w H3 e3 pw => q w H3 (e2.trans e3) pw
    | false => rw [if_neg Bool.false_ne_true]; exact h2 rfl H2 (e1.trans e2) Q fun w H3 e3 pw => q w H3 (e2.trans e3) pw

/-! ### arguments, displays -/
theorem ag_nil : AG X [] σ H [] := ag_of pa_nil fun H1 _ Q q => q [] H1 (Ex.refl H1) rfl
theorem ag_cons [hm : Mono P] (h : EG X e σ H P) (hr : AG X es σ H Ps) (hs : starEach (e :: es) X.env = (false, eval e X.env) :: starEach es X.env := by rfl) : AG X (e :: es) σ H (P :: Ps) :=
  ag_of (pa_cons pe_W pa_W hs) fun H1 e1 Q q => h H1 e1 _ fun v H2 e2 pv => hr H2 (e1.trans e2) _ fun vs H3 e3 pvs => q _ H3 (e2.trans e3) ⟨v, vs, rfl, hm.up e3 pv, pvs⟩
theorem eg_tup {x1} [hm : MonoA Ps] (h : AG X es σ H Ps) (hl : Ps.length ≤ 1000 := by decide) : EG X (.Tuple es x1 pos) σ H (TupOf Ps) :=
  eg_of (pe_tup pa_W) fun H1 e1 Q q => h H1 e1 _ fun vs H2 e2 pv => ⟨sz_of (Nat.le_trans (Nat.le_of_eq (args_len pv)) (Nat.le_trans hl (by decide))), fun p hp => q _ _ (e2.trans (Ex.new hp)) ⟨p, vs, rfl, upd_same, hm.up (Ex.new hp) pv⟩⟩
theorem eg_lst [hm : MonoA Ps] (h : AG X es σ H Ps) (hl : Ps.length ≤ 1000 := by decide) : EG X (.List es pos) σ H (LstOf Ps) :=
  eg_of (pe_lst pa_W) fun H1 e1 Q q => h H1 e1 _ fun vs H2 e2 pv => ⟨sz_of (Nat.le_trans (Nat.le_of_eq (args_len pv)) (Nat.le_trans hl (by decide))), fun p hp => q _ _ (e2.trans (Ex.new hp)) ⟨p, vs, rfl, upd_same, hm.up (Ex.new hp) pv⟩⟩
end
end G
set_option maxHeartbeats 4000000
namespace G
open PySem PySem.Spec PyProof.Rows L2 Evl

/-! ### a list that is hidden for a while: what does not know it leaves it -/
def hid (H : Hp) (D : Addr) : Hp := fun b => if b = D then none else H b
theorem hid_same {H : Hp} {D : Addr} : hid H D D = none := if_pos rfl
theorem hid_ne {H : Hp} {D b : Addr} (h : b ≠ D) : hid H D b = H b := if_neg h
theorem hid_upd {H : Hp} {D : Addr} {o : HO} (h : H D = none) : hid (upd H D o) D = H := by
  funext b
  by_cases e : b = D
  · rw [e, hid_same, h]
  · rw [hid_ne e, upd_ne e]
theorem upd_hid {H : Hp} {D : Addr} {o : HO} (h : H D = some o) : upd (hid H D) D o = H := by
  funext b
  by_cases e : b = D
  · rw [e, upd_same, h]
  · rw [upd_ne e, hid_ne e]
section
variable {X : Cx} {pins : List (Addr × Obj)} {σ σ' : L2.St} {H H2 : Hp} {s s2 : Shared} {D : Addr} {acc : List V}
theorem hide_ok (I : Inv X pins σ H s) (hD : H D = some (.lst acc)) : ∃ ob, s.heap.get? D = some ob ∧ Inv X ((D, ob) :: pins) σ (hid H D) s := by
  obtain ⟨hz, its, n, r, e⟩ := (show ObjOk X.prog X.w H s.heap D (.lst acc) from I.hok D _ hD)
  have neN : ∀ b, H b = none → b ≠ D := fun b q z => by rw [z, hD] at q; cases q
  refine ⟨_, e, I.ok, I.os, I.bare, ⟨I.base.keep, I.base.slot, fun b o q n hx => ?_, I.base.there, fun b xs q => ?_, fun b o u q => ?_, fun b ps q => ?_⟩, I.loc, I.cell, ?_, fun x c q => ?_, fun p hp => ?_, fun b u q => ?_, I.len⟩
  · have z := I.base.free b o q n hx
    rw [hid_ne (neN b z)]
    exact z
  · have z := I.base.tups b xs q
    rw [hid_ne (ne_of z hD (by intro y; cases y))]
    exact z
  · have z := I.base.frzs b o u q
    rw [hid_ne (ne_of z hD (by intro y; cases y))]
    exact z
  · obtain ⟨m, z⟩ := I.base.tbls b ps q
    exact ⟨m, by rw [hid_ne (ne_of z hD (by intro y; cases y))]; exact z⟩
  · rw [hid_ne (neN _ I.free)]
    exact I.free
  · rw [hid_ne (neN _ (I.freeC x c q))]
    exact I.freeC x c q
  · rcases List.mem_append.mp hp with hp | hp
    · obtain ⟨a1, a2, a3, a4, a5⟩ := I.pin p (List.mem_append_left _ hp)
      exact ⟨a1, by rw [hid_ne (neN _ a2)]; exact a2, a3, a4, a5⟩
    · rcases List.mem_cons.mp hp with hp | hp
      · subst hp
        refine ⟨e, hid_same, fun z => ?_, fun z => ?_, fun v z => ?_⟩
        · have y := I.free
          rw [← z, hD] at y
          cases y
        · obtain ⟨_, o, ho, _⟩ := I.ok.funs.mem z
          have y := I.base.free _ o ho (I.ok.frf _ z) fun q => I.ok.exfs _ q z
          rw [hD] at y
          cases y
        · cases z
      · obtain ⟨a1, a2, a3, a4, a5⟩ := I.pin p (List.mem_append_right _ hp)
        exact ⟨a1, by rw [hid_ne (neN _ a2)]; exact a2, a3, a4, a5⟩
  · have hb : b ≠ D := fun z => by rw [z, hid_same] at q; cases q
    rw [hid_ne hb] at q
    exact (I.hok b u q).stay (fun _ _ _ y => y) (fun c y => by rw [hid_ne (ne_of y hD (by intro z; cases z))]; exact y) fun c xs y => by rw [hid_ne (ne_of y hD (by intro z; cases z))]; exact y
theorem show_ok {ob : Obj} (I : Inv X pins σ H s) (hD : H D = some (.lst acc)) (e : s.heap.get? D = some ob) (J : Inv X ((D, ob) :: pins) σ' H2 s2) : H2 D = none ∧ Inv X pins σ' (upd H2 D (.lst acc)) s2 := by
  obtain ⟨hz, its, n, r, e'⟩ := (show ObjOk X.prog X.w H s.heap D (.lst acc) from I.hok D _ hD)
  rw [e] at e'
  cases e'
  obtain ⟨p1, p2, p3, p4, p5⟩ := J.pin (D, _) (List.mem_append_right _ (List.mem_cons_self ..))
  have p2' : H2 D = none := p2
  have neS : ∀ {b : Addr} {o : HO}, H2 b = some o → b ≠ D := fun {b o} q z => by rw [z, p2'] at q; cases q
  refine ⟨p2', J.ok, J.os, J.bare, ⟨J.base.keep, J.base.slot, fun b o q n hx => ?_, J.base.there, fun b xs q => ?_, fun b o u q => ?_, fun b ps q => ?_⟩, J.loc, J.cell, ?_, fun x c q => ?_, fun p hp => ?_, fun b u q => ?_, J.len⟩
  · have z := J.base.free b o q n hx
    have hb : b ≠ D := fun y => by
      have w := I.base.free b o q n hx
      rw [y, hD] at w
      cases w
    rw [upd_ne hb]
    exact z
  · have z := J.base.tups b xs q
    rw [upd_ne (neS z)]
    exact z
  · have z := J.base.frzs b o u q
    rw [upd_ne (neS z)]
    exact z
  · obtain ⟨m, z⟩ := J.base.tbls b ps q
    exact ⟨m, by rw [upd_ne (neS z)]; exact z⟩
  · rw [upd_ne (Ne.symm p3)]
    exact J.free
  · have y := J.freeC x c q
    obtain ⟨v, o, ho, hd⟩ := J.cell x c q
    have hc : c ≠ D := fun z => by
      rw [z] at ho
      have w : some o = some _ := ho.symm.trans p1
      cases w
      exact p5 _ hd
    rw [upd_ne hc]
    exact y
  · have hm : p ∈ X.pn ++ (D, { cls := Value.type "list", data := Data.seq its.toArray n }) :: pins := by
      rcases List.mem_append.mp hp with hp | hp
      · exact List.mem_append_left _ hp
      · exact List.mem_append_right _ (List.mem_cons_of_mem _ hp)
    obtain ⟨a1, a2, a3, a4, a5⟩ := J.pin p hm
    have hb : p.1 ≠ D := fun z => by
      obtain ⟨_, w, _⟩ := I.pin p hp
      rw [z, hD] at w
      cases w
    exact ⟨a1, by rw [upd_ne hb]; exact a2, a3, a4, a5⟩
  · by_cases hb : b = D
    · subst hb
      rw [upd_same] at q
      cases q
      exact ⟨hz, its, n, r, p1⟩
    · rw [upd_ne hb] at q
      exact (J.hok b u q).stay (fun _ _ _ y => y) (fun c y => by rw [upd_ne (neS y)]; exact y) fun c xs y => by rw [upd_ne (neS y)]; exact y
/-- THE FRAME RULE for expressions, tests -/
theorem ew_hid {e : Expr} {Q : VK} (hD : H D = some (.lst acc)) (h : EW X e σ (hid H D) fun v H2 => H2 D = none → Q v (upd H2 D (.lst acc))) : EW X e σ H Q := fun pins s I => by
  obtain ⟨ob, e1, J⟩ := hide_ok I hD
  refine thn (h _ s J) fun u s1 ⟨v, H1, J1, r1, q1⟩ => ?_
  obtain ⟨n1, I1⟩ := show_ok I hD e1 J1
  exact ⟨v, _, I1, r1, q1 n1⟩
theorem tw_hid {e : Expr} {Q : Bool → Hp → Prop} (hD : H D = some (.lst acc)) (h : TW X e σ (hid H D) fun v H2 => H2 D = none → Q v (upd H2 D (.lst acc))) : TW X e σ H Q := fun pins s I => by
  obtain ⟨ob, e1, J⟩ := hide_ok I hD
  refine thn (h _ s J) fun u s1 ⟨H1, J1, q1⟩ => ?_
  obtain ⟨n1, I1⟩ := show_ok I hD e1 J1
  exact ⟨_, I1, q1 n1⟩
theorem aw_hid {es : List Expr} {Q : List V → Hp → Prop} (hD : H D = some (.lst acc)) (h : AW X es σ (hid H D) fun v H2 => H2 D = none → Q v (upd H2 D (.lst acc))) : AW X es σ H Q := fun pos pins s I => by
  obtain ⟨ob, e1, J⟩ := hide_ok I hD
  refine thn (h pos _ s J) fun u s1 ⟨v, H1, J1, r1, q1⟩ => ?_
  obtain ⟨n1, I1⟩ := show_ok I hD e1 J1
  exact ⟨v, _, I1, r1, q1 n1⟩
end

/-! ### calls -/
def SpG (sp : Sp) (vs : List V) (H : Hp) (P : Rep) : Prop := ∀ Q : VK, (∀ v H2, Ex H H2 → P v H2 → Q v H2) → sp vs H Q E0
/-- a def under a global's name -/
structure Cal (P : Program) (w : World) (K : PySem.W.Frag) (mg : Str → Option Value) (base : Heap) (x : Str) (k : Nat) (dvs : List V) (sp : Sp) : Prop where
  ex : ∃ f fd ps ds, FnOk P w K mg base CX0 k f fd ps sp ∧ mg x = some (.ref f) ∧ PySem.W.keepIn K (.ref f) = true ∧ Binds K fd ps ds ∧ Vals dvs ds
/-- a method of the class at C -/
structure MCal (P : Program) (w : World) (K : PySem.W.Frag) (mg : Str → Option Value) (base : Heap) (C : Addr) (m : Str) (k : Nat) (dvs : List V) (sp : Sp) : Prop where
  ex : ∃ f fd ps ds, FnOk P w K mg base CX0 k f fd ps sp ∧ Meth K C m f ∧ Binds K fd ps ds ∧ Vals dvs ds
/-- a class that is made -/
structure KCal (P : Program) (w : World) (K : PySem.W.Frag) (mg : Str → Option Value) (base : Heap) (x : Str) (C : Addr) (k : Nat) (dvs : List V) (sp : Sp) : Prop where
  ex : ∃ f fd ps ds, FnOk P w K mg base CX0 k f fd ps sp ∧ Mk K C f ∧ mg x = some (.ref C) ∧ Binds K fd ps ds ∧ Vals dvs ds
/-- what a static method of the class at C must be: p the staticmethod object -/
structure SMeth (K : PySem.W.Frag) (C : Addr) (m : Str) (f : Addr) : Prop where
  ga : PySem.W.specialIn K (.ref C) "__getattribute__" = some (some (.builtin "type.__getattribute__"))
  ty : ∃ mc p rest, PySem.W.typeIn K (.ref C) = some mc ∧ PySem.W.readsIn K C mc = true ∧ PySem.W.findCls K (.ref C) mc m = some (.get (.builtin "staticmethod.__get__") (.ref p) .none (.ref C)) ∧ PySem.W.recIn K p "staticmethod" = some (.ref f :: rest)
  kp : PySem.W.keepIn K (.ref f) = true
structure SCal (P : Program) (w : World) (K : PySem.W.Frag) (mg : Str → Option Value) (base : Heap) (x : Str) (m : Str) (k : Nat) (dvs : List V) (sp : Sp) : Prop where
  ex : ∃ C f fd ps ds, FnOk P w K mg base CX0 k f fd ps sp ∧ mg x = some (.ref C) ∧ SMeth K C m f ∧ Binds K fd ps ds ∧ Vals dvs ds
/-- the promise of what changes nothing: from words about the arguments to a word about the value -/
def PSp {α : Type} (Ps : α → List Rep) (Post : α → Rep) : Sp := fun vs H Q _ => ∃ a, Args (Ps a) vs H ∧ ∀ v H', Ex H H' → Post a v H' → Q v H'
/-- of an __init__ that only sets fields -/
def ISp {α : Type} (C : Addr) (Ps : α → List Rep) (Fl : α → List (Str × V) → Hp → Prop) : Sp := fun vs H Q _ => ∃ a p dx args, vs = .ref p :: args ∧ H p = some (.ins C dx []) ∧ Args (Ps a) args H ∧
  ∀ H' fs, (∀ b o, b ≠ p → H b = some o → H' b = some o) → H' p = some (.ins C dx fs) → Fl a fs H' → Q .non H'
def Ins (C : Addr) (F : List (Str × V) → Hp → Prop) : Rep := fun v H => ∃ a dx fs, v = .ref a ∧ H a = some (.ins C dx fs) ∧ F fs H

section
variable {X : Cx} {σ : L2.St} {H : Hp} {a b c e o : Expr} {es : List Expr} {pos p apos : Pos} {P P1 P2 : Rep} {Ps : List Rep} {x m : Str} {k : Nat} {dvs : List V} {sp : Sp} {C : Addr}
theorem eg_call (D : Cal X.prog X.w X.K X.mg X.base x k dvs sp) (hr : Room k X.A) (ha : AG X (e :: es) σ H Ps) (hs : ∀ vs H1, Ex H H1 → Args Ps vs H1 → SpG sp (vs ++ dvs) H1 P) (hg : Gl X x := by rfl) (hdb : (x == ("__debug__" : Str)) = false := by decide)
    (he : starEach (e :: es) X.env = (false, eval e X.env) :: starEach es X.env := by rfl) (hpl : (backTo pos (starEach es X.env)).any (·.1) = false := by rfl) : EG X (.Call (.Name x p) (e :: es) [] pos) σ H P := by
  obtain ⟨f, fd, ps, ds, F, hm, hk, hb, hd⟩ := D.ex
  refine eg_of (pe_call F hr hg hm hk hb hd pass0 pa_W hdb he hpl) fun H1 e1 Q q => ha H1 e1 _ fun vs H2 e2 pv => ?_
  exact hs vs H2 (e1.trans e2) pv Q fun v H3 e3 pv => q v H3 (e2.trans e3) pv
theorem eg_callP {α : Type} {Qs : α → List Rep} {Post : α → Rep} (t : α) (D : Cal X.prog X.w X.K X.mg X.base x k [] (PSp Qs Post)) (hr : Room k X.A) (ha : AG X (e :: es) σ H (Qs t)) (hg : Gl X x := by rfl) (hdb : (x == ("__debug__" : Str)) = false := by decide)
    (he : starEach (e :: es) X.env = (false, eval e X.env) :: starEach es X.env := by rfl) (hpl : (backTo pos (starEach es X.env)).any (·.1) = false := by rfl) (hp : ∀ v H, Post t v H → P v H := by exact fun _ _ h => h) : EG X (.Call (.Name x p) (e :: es) [] pos) σ H P :=
  eg_call D hr ha (fun vs H1 _ h Q q => ⟨t, by rw [List.append_nil]; exact h, fun v H2 e2 h2 => q v H2 e2 (hp v H2 h2)⟩) hg hdb he hpl
theorem eg_meth {pl : Sem Bool} (c : Cls X.K C) (D : MCal X.prog X.w X.K X.mg X.base C m k dvs sp) (hr : Room k X.A) [h1 : Mono P1] (ho : EG X o σ H P1) (hi : ∀ v H1, P1 v H1 → ∃ a dx fs, v = .ref a ∧ H1 a = some (.ins C dx fs) ∧ fs.lookup m = none)
    (ha : AG X (e :: es) σ H Ps) (hs : ∀ v vs H1, Ex H H1 → P1 v H1 → Args Ps vs H1 → SpG sp (v :: (vs ++ dvs)) H1 P)
    (hst : starEach (e :: es) X.env = (false, eval e X.env) :: starEach es X.env := by rfl) (hpl : (backTo pos (starEach es X.env)).any (·.1) = false := by rfl)
    (ht : eval (.Call (.Attribute o m apos) (e :: es) [] pos) X.env = (do
      let ov ← eval o X.env
      standAt apos.atName
      let (f, first) ← holding [ov] (getMethod ov m pl)
      callWith pos f first (backTo pos (starEach (e :: es) X.env)) (backToKw pos (keywordEach [] X.env))) := by rfl) : EG X (.Call (.Attribute o m apos) (e :: es) [] pos) σ H P := by
  obtain ⟨f, fd, ps, ds, F, hm, hb, hd⟩ := D.ex
  refine eg_of (pe_meth pe_W c hm F hr hb hd pass0 pa_W hst hpl ht) fun H1 e1 Q q => ho H1 e1 _ fun v H2 e2 pv => ?_
  obtain ⟨aa, dx, fs, e3, e4, e5⟩ := hi v H2 pv
  refine ⟨aa, dx, fs, e3, e4, e5, ha H2 (e1.trans e2) _ fun vs H3 e6 pvs => ?_⟩
  exact hs v vs H3 ((e1.trans e2).trans e6) (h1.up e6 pv) pvs Q fun v H3 e7 pv => q v H3 ((e2.trans e6).trans e7) pv
theorem eg_meth0 {pl : Sem Bool} (c : Cls X.K C) (D : MCal X.prog X.w X.K X.mg X.base C m k dvs sp) (hr : Room k X.A) (ho : EG X o σ H P1) (hi : ∀ v H1, P1 v H1 → ∃ a dx fs, v = .ref a ∧ H1 a = some (.ins C dx fs) ∧ fs.lookup m = none)
    (hs : ∀ v H1, Ex H H1 → P1 v H1 → SpG sp (v :: dvs) H1 P)
    (ht : eval (.Call (.Attribute o m apos) [] [] pos) X.env = (do
      let ov ← eval o X.env
      standAt apos.atName
      let (f, first) ← holding [ov] (getMethod ov m pl)
      callWith pos f first (backTo pos (starEach [] X.env)) (backToKw pos (keywordEach [] X.env))) := by rfl) : EG X (.Call (.Attribute o m apos) [] [] pos) σ H P := by
  obtain ⟨f, fd, ps, ds, F, hm, hb, hd⟩ := D.ex
  refine eg_of (pe_meth0 pe_W c hm F hr hb hd pass0 ht) fun H1 e1 Q q => ho H1 e1 _ fun v H2 e2 pv => ?_
  obtain ⟨aa, dx, fs, e3, e4, e5⟩ := hi v H2 pv
  refine ⟨aa, dx, fs, e3, e4, e5, ?_⟩
  exact hs v H2 (e1.trans e2) pv Q fun v H3 e7 pv => q v H3 (e2.trans e7) pv
/-- C.m(e, ..), m a static method -/
theorem pe_smeth {pl : Sem Bool} {f : Addr} {fd : FuncData} {ps : List Str} {ds : List Value} {t : TA} (hm : X.mg x = some (.ref C)) (S : SMeth X.K C m f) (F : FnOk X.prog X.w X.K X.mg X.base CX0 k f fd ps sp) (hr : Room k X.A) (hb : Binds X.K fd ps ds) (hd : Vals dvs ds) (hg : Gl X x) (ha : PA X (e :: es) t)
    (hdb : (x == ("__debug__" : Str)) = false := by decide) (hst : starEach (e :: es) X.env = (false, eval e X.env) :: starEach es X.env := by rfl) (hpl : (backTo pos (starEach es X.env)).any (·.1) = false := by rfl)
    (ht : eval (.Call (.Attribute (.Name x p) m apos) (e :: es) [] pos) X.env = (do
      let ov ← eval (.Name x p) X.env
      standAt apos.atName
      let (f, first) ← holding [ov] (getMethod ov m pl)
      callWith pos f first (backTo pos (starEach (e :: es) X.env)) (backToKw pos (keywordEach [] X.env))) := by rfl) : PE X (.Call (.Attribute (.Name x p) m apos) (e :: es) [] pos) (tCall sp dvs E0 t) := by
  refine ⟨fun pins s σ H Q I h => ?_⟩
  refine PySem.W.methodCall_KW (pl := pl) (ld_glob I hg hm ?_ hdb) ht
  obtain ⟨mm, fr⟩ := I.fr
  obtain ⟨mc, pp, rest, h1, h2, h3, h4⟩ := S.ty
  refine PySem.W.method_of_cls fr I.ok.mod.kin S.ga (PySem.W.cls_sm fr I.ok.mod.kin h1 h2 h3 h4 rfl ?_)
  refine PySem.W.callWith_K (first := []) (h₀ := X.base) I.ok.mod.kin S.kp (thn (ha.run pos pins _ σ H _ (I.tok _) h) fun us s2 ⟨vs, H2, I2, r, q2⟩ => ⟨I2.kIn, ?_⟩) hst hpl
  exact run_fn (us := us) (vs := vs) F hr hb hd pass0 I2 r q2
theorem eg_scall {pl : Sem Bool} (D : SCal X.prog X.w X.K X.mg X.base x m k dvs sp) (hr : Room k X.A) (ha : AG X (e :: es) σ H Ps) (hs : ∀ vs H1, Ex H H1 → Args Ps vs H1 → SpG sp (vs ++ dvs) H1 P) (hg : Gl X x := by rfl) (hdb : (x == ("__debug__" : Str)) = false := by decide)
    (he : starEach (e :: es) X.env = (false, eval e X.env) :: starEach es X.env := by rfl) (hpl : (backTo pos (starEach es X.env)).any (·.1) = false := by rfl)
    (ht : eval (.Call (.Attribute (.Name x p) m apos) (e :: es) [] pos) X.env = (do
      let ov ← eval (.Name x p) X.env
      standAt apos.atName
      let (f, first) ← holding [ov] (getMethod ov m pl)
      callWith pos f first (backTo pos (starEach (e :: es) X.env)) (backToKw pos (keywordEach [] X.env))) := by rfl) : EG X (.Call (.Attribute (.Name x p) m apos) (e :: es) [] pos) σ H P := by
  obtain ⟨C, f, fd, ps, ds, F, hm, S, hb, hd⟩ := D.ex
  refine eg_of (pe_smeth hm S F hr hb hd hg pa_W hdb he hpl ht) fun H1 e1 Q q => ha H1 e1 _ fun vs H2 e2 pv => ?_
  exact hs vs H2 (e1.trans e2) pv Q fun v H3 e3 pv => q v H3 (e2.trans e3) pv
/-- C(e, ..) -/
theorem eg_make {α : Type} {Qs : α → List Rep} {Fl : α → List (Str × V) → Hp → Prop} (t : α) (D : KCal X.prog X.w X.K X.mg X.base x C k dvs (ISp C Qs Fl)) (hr : Room (k + 1) X.A) (ha : AG X (e :: es) σ H Ps) (hm : MonoA (Qs t)) (hv : ∀ vs H1, Args Ps vs H1 → Args (Qs t) (vs ++ dvs) H1) (hg : Gl X x := by rfl)
    (hdb : (x == ("__debug__" : Str)) = false := by decide) (he : starEach (e :: es) X.env = (false, eval e X.env) :: starEach es X.env := by rfl) (hpl : (backTo pos (starEach es X.env)).any (·.1) = false := by rfl) (hp : ∀ v H, Ins C (Fl t) v H → P v H := by exact fun _ _ h => h) : EG X (.Call (.Name x p) (e :: es) [] pos) σ H P := by
  obtain ⟨f, fd, ps, ds, F, M, hmg, hb, hd⟩ := D.ex
  refine eg_of (pe_make M F hr hg hmg hb hd pass0 pa_W hdb he hpl) fun H1 e1 Q q => ha H1 e1 _ fun vs H2 e2 pv => fun y dx ny nd ne => ?_
  have ex1 : Ex H2 (upd (upd H2 dx (.own y)) y (.ins C dx [])) := fun b o hb => by
    rw [upd_ne (ne_of_none hb ny), upd_ne (ne_of_none hb nd)]
    exact hb
  refine ⟨t, y, dx, _, rfl, upd_same, hm.up ex1 (hv vs H2 pv), fun H' fs hk hy hf => ⟨rfl, q _ H' (e2.trans fun b o hb => ?_) (hp _ _ ⟨y, dx, fs, rfl, hy, hf⟩)⟩⟩
  exact hk b o (ne_of_none hb ny) (ex1 b o hb)
/-- e.f -/
theorem eg_fld {f : Str} (c : Cls X.K C) (hn : NoAttr X.K C f) (he : EG X e σ H P1) (hi : ∀ v H1, Ex H H1 → P1 v H1 → ∃ a dx fs y, v = .ref a ∧ H1 a = some (.ins C dx fs) ∧ fs.lookup f = some y ∧ P y H1)
    (hb : attributeBase e f X.env (eval e X.env) = eval e X.env := by rfl) : EG X (.Attribute e f pos) σ H P :=
  eg_of (pe_fld pe_W hb) fun H1 e1 Q q => he H1 e1 _ fun v H2 e2 pv => by
    obtain ⟨aa, dx, fs, y, h1, h2, h3, h4⟩ := hi v H2 (e1.trans e2) pv
    exact ⟨aa, C, dx, fs, y, h1, h2, c, hn, h3, q y H2 e2 h4⟩
/-- a built-in by its name -/
theorem eg_callB {id : String} {r : List V → Hp → VK → Prop} (hc : CallR X (.builtin id) r) (hm : X.mg x = none) (hv : bootBuiltins x = some (.builtin id)) (ha : AG X (e :: es) σ H Ps)
    (hr : ∀ vs H1, Ex H H1 → Args Ps vs H1 → ∀ Q : VK, (∀ v H2, Ex H1 H2 → P v H2 → Q v H2) → r vs H1 Q) (hg : Gl X x := by rfl) (hn : x ≠ "__name__" := by decide) (hdb : (x == ("__debug__" : Str)) = false := by decide)
    (he : starEach (e :: es) X.env = (false, eval e X.env) :: starEach es X.env := by rfl) (hpl : (backTo pos (starEach es X.env)).any (·.1) = false := by rfl) : EG X (.Call (.Name x p) (e :: es) [] pos) σ H P :=
  eg_of (pe_callB hc hg hm hv pa_W hn hdb he hpl) (ep_cb ha hr)
theorem eg_callTy {T : String} {r : List V → Hp → VK → Prop} (hc : CallR X (.type T) r) (hm : X.mg x = none) (hv : bootBuiltins x = some (.type T)) (ha : AG X (e :: es) σ H Ps)
    (hr : ∀ vs H1, Ex H H1 → Args Ps vs H1 → ∀ Q : VK, (∀ v H2, Ex H1 H2 → P v H2 → Q v H2) → r vs H1 Q) (hg : Gl X x := by rfl) (hn : x ≠ "__name__" := by decide) (hdb : (x == ("__debug__" : Str)) = false := by decide)
    (he : starEach (e :: es) X.env = (false, eval e X.env) :: starEach es X.env := by rfl) (hpl : (backTo pos (starEach es X.env)).any (·.1) = false := by rfl) : EG X (.Call (.Name x p) (e :: es) [] pos) σ H P :=
  eg_of (pe_callTy hc hg hm hv pa_W hn hdb he hpl) (ep_cb ha hr)
/-- math's, by the module's name -/
theorem eg_callF {id : String} {r : List V → Hp → VK → Prop} (hc : CallR X (.builtin id) r) (hm : X.mg x = some (.builtin id)) (ha : AG X (e :: es) σ H Ps)
    (hr : ∀ vs H1, Ex H H1 → Args Ps vs H1 → ∀ Q : VK, (∀ v H2, Ex H1 H2 → P v H2 → Q v H2) → r vs H1 Q) (hg : Gl X x := by rfl) (hdb : (x == ("__debug__" : Str)) = false := by decide)
    (he : starEach (e :: es) X.env = (false, eval e X.env) :: starEach es X.env := by rfl) (hpl : (backTo pos (starEach es X.env)).any (·.1) = false := by rfl) : EG X (.Call (.Name x p) (e :: es) [] pos) σ H P :=
  eg_of (pe_callBfun hc hg hm pa_W hdb he hpl) (ep_cb ha hr)
end

/-! ### a def's body -/
theorem bw_self {X : Cx} {ss : List Stmt} : PSs X ss (BW X ss) := pss_W
section
variable {P : Program} {w : World} {K : PySem.W.Frag} {mg : Str → Option Value} {base : Heap} {x qual : Str} {params : Arguments} {body : List Stmt} {scope : Scope} {dvs : List V} {kws : List (Str × V)} {f : Addr} {fd : FuncData} {N ps : List Str} {k : Nat}
abbrev ctx (P : Program) (w : World) (K : PySem.W.Frag) (mg : Str → Option Value) (base : Heap) (N : List Str) (qual : Str) (scope : Scope) (f : Addr) (cdv : Value) (A : Around) (outer : List Env) (s : Shared) (H : Hp) (E : XK) : Cx := (cxOf CX0 P w K mg base N qual scope f cdv A outer s H E).nox
theorem fn_any {sp : Sp} (F : FunD K x qual params body scope dvs kws f fd) (S : FnScope N ps scope) (len : ∀ vs H Q E, sp vs H Q E → vs.length = ps.length)
    (h : ∀ cdv A outer s H E vs Q, Room k (A.deeper (envOfC qual scope s.heap.objs.size f cdv)) → sp vs H Q E → BW (ctx P w K mg base N qual scope f cdv A outer s H E) body { nx := fun _ H' => Q .non H', rt := Q } (start N vs) H) :
    FnOk P w K mg base CX0 (k + 1) f fd ps sp := F.ok S len fun cdv A outer s H vs Q E hr hs => ⟨_, PSs.nox bw_self, h cdv A outer s H E vs Q hr hs⟩
theorem fn_pure {α : Type} {Ps : α → List Rep} {Post : α → Rep} (F : FunD K x qual params body scope dvs kws f fd) (S : FnScope N ps scope) (hl : ∀ a, (Ps a).length = ps.length)
    (h : ∀ (t : α) cdv A outer s H E vs Q, Room k (A.deeper (envOfC qual scope s.heap.objs.size f cdv)) → Args (Ps t) vs H → (∀ v H', Ex H H' → Post t v H' → Q v H') →
      BW (ctx P w K mg base N qual scope f cdv A outer s H E) body { nx := fun _ H' => Q .non H', rt := Q } (start N vs) H) : FnOk P w K mg base CX0 (k + 1) f fd ps (PSp Ps Post) :=
  fn_any F S (fun vs H Q E ⟨t, ha, _⟩ => (args_len ha).trans (hl t)) fun cdv A outer s H E vs Q hr ⟨t, ha, hq⟩ => h t cdv A outer s H E vs Q hr ha hq
end

/-! ### statements -/
section
variable {X : Cx} {σ : L2.St} {H : Hp} {c e o : Expr} {rest A B : List Stmt} {st : Stmt} {pos p : Pos} {P : Rep} {D : Ends} {bb : Bool} {y : Str}
theorem b_nil (h : D.nx σ H) : BW X [] D σ H := fun pins s I => pss_nil.run pins s σ H D I h
theorem b_seq (h : SW X st { D with nx := BW X rest D } σ H) : BW X (st :: rest) D σ H := fun pins s I => (pss_cons ps_W pss_W).run pins s σ H D I h
theorem b_of {t : TS} (h : PS X st t) (q : t { D with nx := BW X rest D } σ H) : BW X (st :: rest) D σ H := fun pins s I => (pss_cons h pss_W).run pins s σ H D I q
theorem b_asg (i : Nat) (hN : X.N.Nodup) (he : EG X e σ H P) (k : ∀ v H1, Ex H H1 → P v H1 → BW X rest D (σ.set i (some v)) H1) (hi : X.N[i]? = some y := by rfl) (hl : Loc X.env.scope y := by first | exact Or.inl rfl | exact Or.inr rfl)
    (hs : swapsWith e (some (.Name y p)) pos.line X.env = pure false := by rfl) (hf : X.fn y = true ∨ X.env.scope.names.lookup y = some .local := by first | exact .inl rfl | exact .inr rfl) : BW X (.Assign [.Name y p] e pos :: rest) D σ H :=
  b_of (ps_set hN hi hl pe_W hs hf) (he H (Ex.refl H) _ k)
theorem b_ret (he : EG X e σ H P) (k : ∀ v H1, Ex H H1 → P v H1 → D.rt v H1) : BW X (.Return (some e) pos :: rest) D σ H := b_of (ps_ret pe_W) (he H (Ex.refl H) _ k)
theorem b_retN (k : D.rt .non H) : BW X (.Return none pos :: rest) D σ H := b_of ps_retN k
theorem b_expr (he : EG X e σ H P) (k : ∀ v H1, Ex H H1 → P v H1 → BW X rest D σ H1) (hs : swapsWith e none pos.line X.env = pure false := by rfl) : BW X (.Expr e pos :: rest) D σ H := b_of (ps_expr pe_W hs) (he H (Ex.refl H) _ k)
theorem b_if (hc : TG X c σ H bb) (h1 : bb = true → ∀ H1, Ex H H1 → BW X A { D with nx := BW X rest D } σ H1) (h2 : bb = false → ∀ H1, Ex H H1 → BW X B { D with nx := BW X rest D } σ H1) : BW X (.If c A B pos :: rest) D σ H :=
  b_of (ps_if pt_W pss_W pss_W) (hc H (Ex.refl H) _ fun H1 e1 => by
    cases bb with
    | true => rw [if_pos rfl]; exact h1 rfl H1 e1
    | false => rw [if_neg Bool.false_ne_true]; exact h2 rfl H1 e1)
/-- an if that is not taken, without else -/
theorem b_skip (hc : TG X c σ H false) (h : ∀ H1, Ex H H1 → BW X rest D σ H1) : BW X (.If c A [] pos :: rest) D σ H := b_if hc (fun q => nomatch q) fun _ H1 e1 => b_nil (h H1 e1)
/-- o.f = e of an instance -/
theorem b_fld {f : Str} {p' : Pos} {C dx a : Addr} {fs : List (Str × V)} [hm : Mono P] (c : Cls X.K C) (hn : NoAttr X.K C f) (he : EG X e σ H P) (ho : ∀ H1, Ex H H1 → EG X o σ H1 (IsV (.ref a))) (ha : H a = some (.ins C dx fs)) (hl : fs.length < 1000)
    (k : ∀ v H1, Ex H H1 → P v H1 → BW X rest D σ (upd H1 a (.ins C dx (putF f v fs)))) (hs : swapsWith e (some (.Attribute o f p')) pos.line X.env = pure false := by rfl) : BW X (.Assign [.Attribute o f p'] e pos :: rest) D σ H :=
  b_of (ps_fld pe_W pe_W hs) (he H (Ex.refl H) _ fun v H1 e1 pv => ho H1 e1 H1 (Ex.refl H1) _ fun w H2 e2 pw => ⟨a, C, dx, fs, pw, (e1.trans e2) a _ ha, c, hn, hl, k v H2 (e1.trans e2) (hm.up e2 pv)⟩)
end
end G
set_option maxHeartbeats 4000000
namespace G
open PySem PySem.Spec PyProof.Rows L2 Evl

theorem ex_hid_self {H H' : Hp} {D : Addr} (hD : H D = none) (e : Ex H H') : Ex H (hid H' D) := fun a o h => by
  rw [hid_ne (fun z => by rw [z, hD] at h; cases h)]
  exact e a o h
theorem hid_none {H : Hp} {D : Addr} (h : H D = none) : hid H D = H := by
  funext b
  by_cases e : b = D
  · rw [e, hid_same, h]
  · rw [hid_ne e]

/-! ### what is walked: n items, the i-th told by the i-th of as -/
structure WalkG {α : Type} (R : α → Rep) (as : List α) (H2 : Hp) (G : Hp → Prop) (Y : Nat → Hp → V → Hp → Prop) : Prop where
  g : ∀ H', (∀ a xs, (H2 a = some (.lst xs) → H' a = some (.lst xs)) ∧ (H2 a = some (.tup xs) → H' a = some (.tup xs))) → G H'
  y : ∀ i Ha x Hb, Ex H2 Ha → Y i Ha x Hb → Ex Ha Hb ∧ ∃ a, as[i]? = some a ∧ R a x Hb
  h : ∀ D o i Ha x Hb, Ha D = some o → H2 D = none → Ex H2 (hid Ha D) → Y i Ha x Hb → Hb D = some o ∧ Ex (hid Ha D) (hid Hb D) ∧ ∃ a, as[i]? = some a ∧ R a x (hid Hb D)
def IterP (X : Cx) {α : Type} (tg iter : Expr) (σ : L2.St) (H : Hp) (R : α → Rep) (as : List α) : Prop := ∃ wi, PI X tg iter wi ∧ ∀ H1, Ex H H1 → ∀ Rr : It → Hp → Prop,
  (∀ J H2 G Y, Ex H1 H2 → Walk J as.length G Y → WalkG R as H2 G Y → Rr J H2) → wi σ H1 Rr
section
variable {X : Cx} {α β : Type} {σ : L2.St} {H : Hp} {tg l l2 : Expr} {R : α → Rep} {S : β → Rep} {as : List α} {bs : List β} {pos p tpos : Pos} {elts : List Expr} {kk : Nat}
theorem wg_at [hR : ∀ a, Mono (R a)] {H2 : Hp} {xs : List V} {G : Hp → Prop} (hg : ∀ H', (∀ a xs, (H2 a = some (.lst xs) → H' a = some (.lst xs)) ∧ (H2 a = some (.tup xs) → H' a = some (.tup xs))) → G H') (h2 : All2 R as xs H2) : WalkG R as H2 G (YAt xs) where
  g := hg
  y := fun i Ha x Hb e y => by
    obtain ⟨rfl, hx⟩ := y
    obtain ⟨c, hc, hr⟩ := h2.get hx
    exact ⟨Ex.refl _, c, hc, (hR c).up e hr⟩
  h := fun D o i Ha x Hb hD n e y => by
    obtain ⟨rfl, hx⟩ := y
    obtain ⟨c, hc, hr⟩ := h2.get hx
    exact ⟨hD, Ex.refl _, c, hc, (hR c).up e hr⟩
theorem ip_list [hR : ∀ a, Mono (R a)] (h : EG X l σ H (IsL R as)) : IterP X tg l σ H R as :=
  ⟨_, pi_list pe_W, fun H1 e1 Rr k => h H1 e1 _ fun v H2 e2 ⟨a, xs, hv, ha, h2⟩ => ⟨a, hv, ⟨xs, SqL.of ha⟩, k _ H2 _ _ e2 (by rw [← h2.length]; exact walk_list) (wg_at (fun H' e => SqL.of ((e a xs).1 ha)) h2)⟩⟩
theorem ip_tup [hR : ∀ a, Mono (R a)] (h : EG X l σ H (IsT R as)) : IterP X tg l σ H R as :=
  ⟨_, pi_tup pe_W, fun H1 e1 Rr k => h H1 e1 _ fun v H2 e2 ⟨a, xs, hv, ha, h2⟩ => ⟨a, hv, ⟨xs, SqT.of ha⟩, k _ H2 _ _ e2 (by rw [← h2.length]; exact walk_tup) (wg_at (fun H' e => SqT.of ((e a xs).2 ha)) h2)⟩⟩
theorem range_get {n i : Nat} (h : i < n) : (List.range n)[i]? = some i := by
  rw [List.getElem?_eq_getElem (by rw [List.length_range]; exact h), List.getElem_range]
theorem ip_range {n : Nat} (hm : X.mg "range" = none) (hn : n ≤ 1000000) (h : EG X l σ H (IsI (n : Int))) (hg : Gl X "range" := by rfl) (hs : starEach [l] X.env = [(false, eval l X.env)] := by rfl) :
    IterP X tg (.Call (.Name "range" p) [l] [] pos) σ H (fun i : Nat => IsI (i : Int)) (List.range n) := by
  refine ⟨_, pi_range1 hg hm pa_W hs, fun H1 e1 Rr k => ?_⟩
  refine (ag_cons h ag_nil (hs := hs)) H1 e1 _ fun vs H2 e2 ⟨v, r, hv, hp, hr⟩ => ⟨(n : Int), by rw [hv, show v = V.int n from hp, show r = [] from hr], by omega, by omega, ?_⟩
  have w : Walk (Itr 0 ((n : Int)).toNat) (List.range n).length (fun _ => True) (fun i H x H' => H' = H ∧ i < n ∧ x = .int (i : Int)) := by
    rw [List.length_range]
    refine ⟨fun i _ hi _ => ?_, fun _ _ => ?_, fun i Ha x Hb hi _ y => ?_⟩
    · show i < ((n : Int)).toNat
      omega
    · show ((n : Int)).toNat ≤ n
      omega
    · obtain ⟨y1, y2⟩ := y
      exact ⟨y1, hi, by rw [y2, Int.zero_add]⟩
  refine k _ H2 _ _ e2 w ⟨fun _ _ => True.intro, fun i Ha x Hb e y => ?_, fun D o i Ha x Hb hD n e y => ?_⟩
  · obtain ⟨rfl, hi, rfl⟩ := y
    exact ⟨Ex.refl _, i, range_get hi, rfl⟩
  · obtain ⟨rfl, hi, rfl⟩ := y
    exact ⟨hD, Ex.refl _, i, range_get hi, rfl⟩
def Pr2 (R : α → Rep) (S : β → Rep) (q : α × β) : Rep := TupOf [R q.1, S q.2]
instance [hR : ∀ a, Mono (R a)] [hS : ∀ a, Mono (S a)] {q : α × β} : Mono (Pr2 R S q) := by unfold Pr2; infer_instance
theorem wg_pair [hR : ∀ a, Mono (R a)] [hS : ∀ a, Mono (S a)] {H2 : Hp} {f g : Nat → Option V} {qs : List (α × β)} {G : Hp → Prop} (hg : ∀ H', (∀ a xs, (H2 a = some (.lst xs) → H' a = some (.lst xs)) ∧ (H2 a = some (.tup xs) → H' a = some (.tup xs))) → G H')
    (hf : ∀ i x y, f i = some x → g i = some y → ∃ q, qs[i]? = some q ∧ R q.1 x H2 ∧ S q.2 y H2) : WalkG (Pr2 R S) qs H2 G (YPair f g) where
  g := hg
  y := fun i Ha v Hb e ⟨T, x, y, hv, hT, hb, hx, hy⟩ => by
    obtain ⟨q, hq, h1, h2⟩ := hf i x y hx hy
    subst hb hv
    have e2 : Ex Ha (upd Ha T (.tup [x, y])) := Ex.new hT
    exact ⟨e2, q, hq, T, _, rfl, upd_same, x, _, rfl, (hR _).up (e.trans e2) h1, y, _, rfl, (hS _).up (e.trans e2) h2, rfl⟩
  h := fun D o i Ha v Hb hD n e ⟨T, x, y, hv, hT, hb, hx, hy⟩ => by
    obtain ⟨q, hq, h1, h2⟩ := hf i x y hx hy
    subst hb hv
    have ne : T ≠ D := fun z => by rw [z, hD] at hT; cases hT
    have eq : hid (upd Ha T (.tup [x, y])) D = upd (hid Ha D) T (.tup [x, y]) := by
      funext b
      by_cases z : b = D
      · rw [z, hid_same, upd_ne (Ne.symm ne), hid_same]
      · rw [hid_ne z]
        by_cases z2 : b = T
        · rw [z2, upd_same, upd_same]
        · rw [upd_ne z2, upd_ne z2, hid_ne z]
    have e2 : Ex (hid Ha D) (upd (hid Ha D) T (.tup [x, y])) := Ex.new (by rw [hid_ne ne]; exact hT)
    refine ⟨by rw [upd_ne (Ne.symm ne)]; exact hD, by rw [eq]; exact e2, q, hq, ?_⟩
    rw [eq]
    exact ⟨T, _, rfl, upd_same, x, _, rfl, (hR _).up (e.trans e2) h1, y, _, rfl, (hS _).up (e.trans e2) h2, rfl⟩
theorem zip_hf {xs ys : List V} {H2 : Hp} (h1 : All2 R as xs H2) (h2 : All2 S bs ys H2) (i : Nat) (x y : V) (hx : xs[i]? = some x) (hy : ys[i]? = some y) : ∃ q, (as.zip bs)[i]? = some q ∧ R q.1 x H2 ∧ S q.2 y H2 := by
  obtain ⟨a, ha, ra⟩ := h1.get hx
  obtain ⟨b, hb, rb⟩ := h2.get hy
  refine ⟨(a, b), ?_, ra, rb⟩
  rw [List.getElem?_zip_eq_some]
  exact ⟨ha, hb⟩
theorem ip_zip [hR : ∀ a, Mono (R a)] [hS : ∀ a, Mono (S a)] (hm : X.mg "zip" = none) (h : EG X l σ H (IsL R as)) (h' : EG X l2 σ H (IsL S bs)) (hg : Gl X "zip" := by rfl)
    (hs : starEach [l, l2] X.env = (false, eval l X.env) :: starEach [l2] X.env := by rfl) (hs2 : starEach [l2] X.env = (false, eval l2 X.env) :: starEach [] X.env := by rfl) (hpl : (backTo pos (starEach [l2] X.env)).any (·.1) = false := by rfl) :
    IterP X (.Tuple elts kk tpos) (.Call (.Name "zip" p) [l, l2] [] pos) σ H (Pr2 R S) (as.zip bs) := by
  refine ⟨_, RZ.pi_zipA hg hm pa_W hs hpl, fun H1 e1 Rr k => ?_⟩
  refine (ag_cons h (ag_cons h' ag_nil (hs := hs2)) (hs := hs)) H1 e1 _ fun vs H2 e2 ⟨v, r, hv, ⟨a, xs, h1, h2, h3⟩, w, r2, hr, ⟨b, ys, h4, h5, h6⟩, hr2⟩ => ?_
  refine ⟨a, b, xs, ys, by rw [hv, hr, show r2 = [] from hr2, h1, h4], .inl ⟨SqL.of h2, SqL.of h5, ?_⟩⟩
  exact k _ H2 _ _ e2 (walk_zip (by rw [List.length_zip, h3.length, h6.length])) (wg_pair (fun H' e => ⟨SqL.of ((e a xs).1 h2), SqL.of ((e b ys).1 h5)⟩) (zip_hf h3 h6))
theorem ip_zipT [hR : ∀ a, Mono (R a)] [hS : ∀ a, Mono (S a)] (hm : X.mg "zip" = none) (h : EG X l σ H (IsT R as)) (h' : EG X l2 σ H (IsT S bs)) (hg : Gl X "zip" := by rfl)
    (hs : starEach [l, l2] X.env = (false, eval l X.env) :: starEach [l2] X.env := by rfl) (hs2 : starEach [l2] X.env = (false, eval l2 X.env) :: starEach [] X.env := by rfl) (hpl : (backTo pos (starEach [l2] X.env)).any (·.1) = false := by rfl) :
    IterP X (.Tuple elts kk tpos) (.Call (.Name "zip" p) [l, l2] [] pos) σ H (Pr2 R S) (as.zip bs) := by
  refine ⟨_, RZ.pi_zipA hg hm pa_W hs hpl, fun H1 e1 Rr k => ?_⟩
  refine (ag_cons h (ag_cons h' ag_nil (hs := hs2)) (hs := hs)) H1 e1 _ fun vs H2 e2 ⟨v, r, hv, ⟨a, xs, h1, h2, h3⟩, w, r2, hr, ⟨b, ys, h4, h5, h6⟩, hr2⟩ => ?_
  refine ⟨a, b, xs, ys, by rw [hv, hr, show r2 = [] from hr2, h1, h4], .inr ⟨SqT.of h2, SqT.of h5, ?_⟩⟩
  have w : Walk (RZ.ItzT X.K a b) (as.zip bs).length (fun H => SqT X.K H a xs ∧ SqT X.K H b ys) (YPair (fun i => xs[i]?) (fun i => ys[i]?)) := by
    rw [List.length_zip, ← h3.length, ← h6.length]
    refine ⟨fun i _ hi q => ?_, fun _ q => ⟨xs, ys, q.1, q.2, by omega⟩, fun i H v H' _ q y => ?_⟩
    · have h1 : i < xs.length := by omega
      have h2 : i < ys.length := by omega
      exact ⟨xs, ys, xs[i], ys[i], q.1, q.2, by simp [h1], by simp [h2]⟩
    · obtain ⟨T, x, z, h1, h2, h3, h4, h5⟩ := y
      exact ⟨T, x, z, h1, h2, h3, h4 xs q.1, h5 ys q.2⟩
  exact k _ H2 _ _ e2 w (wg_pair (fun H' e => ⟨SqT.of ((e a xs).2 h2), SqT.of ((e b ys).2 h5)⟩) (zip_hf h3 h6))
theorem ip_enum [hR : ∀ a, Mono (R a)] (hm : X.mg "enumerate" = none) (h : EG X l σ H (IsL R as)) (hg : Gl X "enumerate" := by rfl) (hs : starEach [l] X.env = [(false, eval l X.env)] := by rfl) :
    IterP X (.Tuple elts kk tpos) (.Call (.Name "enumerate" p) [l] [] pos) σ H (Pr2 (fun i : Nat => IsI (i : Int)) R) ((List.range as.length).zip as) := by
  refine ⟨_, pi_enum hg hm pa_W hs, fun H1 e1 Rr k => ?_⟩
  refine (ag_cons h ag_nil (hs := hs)) H1 e1 _ fun vs H2 e2 ⟨v, r, hv, ⟨a, xs, h1, h2, h3⟩, hr⟩ => ⟨a, xs, by rw [hv, show r = [] from hr, h1], SqL.of h2, ?_⟩
  refine k _ H2 _ _ e2 (by rw [List.length_zip, List.length_range, Nat.min_self, ← h3.length]; exact walk_enum) (wg_pair (fun H' e => SqL.of ((e a xs).1 h2)) fun i x y hx hy => ?_)
  cases hx
  obtain ⟨c, hc, rc⟩ := h3.get hy
  have hi : i < as.length := (List.getElem?_eq_some_iff.mp hc).1
  exact ⟨(i, c), by rw [List.getElem?_zip_eq_some]; exact ⟨range_get hi, hc⟩, rfl, rc⟩
end

/-! ### comprehensions -/
def UE (X : Cx) (scope : Scope) (elt : Expr) : TE := fun σ H Q => ∀ s H0 C cl fp, EW (X.blk s H0 scope (compEnvC scope cl C X.env) fp) elt σ H Q
def UT (X : Cx) (scope : Scope) (t : Expr) : TT := fun σ H Q => ∀ s H0 C cl fp, TW (X.blk s H0 scope (compEnvC scope cl C X.env) fp) t σ H Q
/-- what a target leaves of an item that is told by a -/
structure TgtG {α : Type} (R : α → Rep) (g : L2.TG) (T : α → L2.St → Hp → Prop) (σ0 : L2.St) (vs : List Nat) (H : Hp) : Prop where
  st : ∀ a x H', Ex H H' → R a x H' → ∀ H2 Qs, (∀ σ2, T a σ2 H' → Qs σ2 H2) → (∀ p o, H' p = some o → H2 p = some o) → g x σ0 H2 Qs
  wp : ∀ a σ2 H', T a σ2 H' → wipe σ2 vs = σ0
  up : ∀ a σ2 H' H2, Ex H' H2 → T a σ2 H' → T a σ2 H2
section
variable {X : Cx} {α β : Type} {σ : L2.St} {H : Hp} {tg iter elt t : Expr} {R : α → Rep} {S : β → Rep} {as : List α} {pos : Pos} {scope : Scope} {own : List (Str × Nat)}
theorem ue_pe : ∀ (s : Shared) (H : Hp) (C : Addr) (cl : List (Str × Addr)) (fp : List Addr), PE (X.blk s H scope (compEnvC scope cl C X.env) fp) elt (UE X scope elt) := fun s H0 C cl fp => ⟨fun pins s' σ H Q I h => h s H0 C cl fp pins s' I⟩
theorem ut_pt : ∀ (s : Shared) (H : Hp) (C : Addr) (cl : List (Str × Addr)) (fp : List Addr), PT (X.blk s H scope (compEnvC scope cl C X.env) fp) t (UT X scope t) := fun s H0 C cl fp => ⟨fun pins s' σ H Q I h => h s H0 C cl fp pins s' I⟩
/-- where the list's tests answer q: what is kept, mapped -/
theorem lc_read [hS : ∀ b, Mono (S b)] {f : α → β} {q : α → Bool} {g : L2.TG} {tt : TT} {T : α → L2.St → Hp → Prop} {vs : List Nat} (hi : IterP X tg iter σ H R as) (hz : as.length ≤ 1000000) (TG : TgtG R g T (wipe σ vs) vs H)
    (ht : ∀ a ∈ as, ∀ σ2 H', Ex H H' → T a σ2 H' → ∀ D acc H2, H2 D = some (.lst acc) → hid H2 D = H' → ∀ Q : Bool → Hp → Prop, (∀ H3, H3 D = some (.lst acc) → Ex H' (hid H3 D) → Q (q a) H3) → tt σ2 H2 Q)
    (he : ∀ a ∈ as, q a = true → ∀ σ2 H', Ex H H' → T a σ2 H' → EvP (UE X scope elt) σ2 H' (S (f a))) : ∃ wi, PI X tg iter wi ∧ EvP (tLc wi g tt (UE X scope elt) vs) σ H (IsL S ((as.filter q).map f)) := by
  obtain ⟨wi, hpi, hw⟩ := hi
  refine ⟨wi, hpi, fun H1 e1 Q hQ => hw H1 e1 _ fun J H2 G Y e2 W WG D hD => ?_⟩
  refine lc_it W (fun i H' => ∃ acc, H' D = some (.lst acc) ∧ Ex H2 (hid H' D) ∧ All2 S (((as.take i).filter q).map f) acc (hid H' D)) ⟨[], upd_same, ex_hid_self hD (Ex.new hD), by rw [List.take_zero]; exact rfl⟩ (fun i H' _ ⟨acc, h1, h2, h3⟩ => WG.g H' fun a xs => ⟨fun h => ?_, fun h => ?_⟩)
    (fun i x Ha Hb hi ⟨acc, h1, h2, h3⟩ y => ?_) (fun H' ⟨acc, h1, h2, h3⟩ => ?_)
  · have z := h2 a _ h
    rwa [hid_ne (fun e => by rw [e, hid_same] at z; cases z)] at z
  · have z := h2 a _ h
    rwa [hid_ne (fun e => by rw [e, hid_same] at z; cases z)] at z
  · obtain ⟨hb, eb, a, ha, ra⟩ := WG.h D _ i Ha x Hb h1 hD h2 y
    have ex1 : Ex H (hid Hb D) := (e1.trans e2).trans (h2.trans eb)
    have hmem : a ∈ as := List.mem_of_getElem? ha
    have tk : as.take (i + 1) = as.take i ++ [a] := by
      rw [List.take_succ, ha]
      rfl
    refine TG.st a x (hid Hb D) ex1 ra Hb _ (fun σ2 hT => ⟨TG.wp a σ2 _ hT, ?_⟩) (fun p o hp => by
      rw [hid_ne (fun e => by rw [e, hid_same] at hp; cases hp)] at hp
      exact hp)
    refine ht a hmem σ2 (hid Hb D) ex1 hT D acc Hb hb rfl _ fun H3 h3D e3 => ?_
    cases hq : q a with
    | false =>
      rw [if_neg Bool.false_ne_true]
      refine ⟨acc, h3D, h2.trans (eb.trans e3), ?_⟩
      rw [tk, List.filter_append, List.filter_cons, hq]
      simp only [Bool.false_eq_true, if_false, List.filter_nil, List.append_nil]
      exact h3.up hS (eb.trans e3)
    | true =>
      rw [if_pos rfl]
      have fin := he a hmem hq σ2 (hid H3 D) (ex1.trans e3) (TG.up a σ2 _ _ e3 hT)
      intro s H0 C cl fp
      refine ew_hid h3D ?_
      refine fin (hid H3 D) (Ex.refl _) (fun v H4 => H4 D = none → _) (fun v H4 e4 pv n4 => ⟨acc, upd_same, ?_, acc ++ [v], upd_same, ?_, ?_⟩) s H0 C cl fp
      · have l1 := h3.length
        rw [List.length_map] at l1
        have l2 := List.length_filter_le q (as.take i)
        rw [List.length_take] at l2
        have : acc.length ≤ 1000000 := by omega
        exact Nat.lt_of_le_of_lt this (by decide)
      · rw [upd_upd, hid_upd n4]
        exact h2.trans (eb.trans (e3.trans e4))
      · rw [upd_upd, hid_upd n4, tk, List.filter_append, List.filter_cons, hq]
        simp only [if_true, List.filter_nil, List.map_append, List.map_cons, List.map_nil]
        exact (h3.up hS (eb.trans (e3.trans e4))).snoc pv
  · rw [List.take_length] at h3
    have ex2 : Ex H2 H' := fun b o hb => by
      have z := h2 b o hb
      rwa [hid_ne (fun e => by rw [e, hid_same] at z; cases z)] at z
    have ex3 : Ex (hid H' D) H' := fun b o hb => by rwa [hid_ne (fun e => by rw [e, hid_same] at hb; cases hb)] at hb
    exact hQ _ H' (e2.trans ex2) ⟨D, acc, rfl, h1, h3.up hS ex3⟩
theorem yes_read {q : α → Bool} {T : α → L2.St → Hp → Prop} (hq : ∀ a ∈ as, q a = true) : ∀ a ∈ as, ∀ σ2 H', Ex H H' → T a σ2 H' → ∀ D acc H2, H2 D = some (HO.lst acc) → hid H2 D = H' → ∀ Q : Bool → Hp → Prop, (∀ H3, H3 D = some (HO.lst acc) → Ex H' (hid H3 D) → Q (q a) H3) → tYes σ2 H2 Q :=
  fun a ha σ2 H' _ _ D acc H2 h1 h2 Q hQ => by
    have z := hQ H2 h1 (by rw [h2]; exact Ex.refl _)
    rw [hq a ha] at z
    exact z
theorem test_read {q : α → Bool} {T : α → L2.St → Hp → Prop} (h : ∀ a ∈ as, ∀ σ2 H', Ex H H' → T a σ2 H' → EvT (UT X scope t) σ2 H' (q a)) : ∀ a ∈ as, ∀ σ2 H', Ex H H' → T a σ2 H' → ∀ D acc H2, H2 D = some (HO.lst acc) → hid H2 D = H' → ∀ Q : Bool → Hp → Prop, (∀ H3, H3 D = some (HO.lst acc) → Ex H' (hid H3 D) → Q (q a) H3) → UT X scope t σ2 H2 Q :=
  fun a ha σ2 H' e hT D acc H2 h1 h2 Q hQ s H0 C cl fp => by
    refine tw_hid h1 ?_
    subst h2
    exact h a ha σ2 _ e hT (hid H2 D) (Ex.refl _) _ (fun H3 e3 n3 => hQ _ upd_same (by rw [hid_upd n3]; exact e3)) s H0 C cl fp
/-- targets -/
def TNm (R : α → Rep) (σ0 : L2.St) (j : Nat) (a : α) (σ2 : L2.St) (H' : Hp) : Prop := ∃ x, σ2 = σ0.set j (some x) ∧ R a x H'
def TPr {γ : Type} (R : α → Rep) (S : γ → Rep) (σ0 : L2.St) (j k : Nat) (q : α × γ) (σ2 : L2.St) (H' : Hp) : Prop := ∃ x y, σ2 = (σ0.set j (some x)).set k (some y) ∧ R q.1 x H' ∧ S q.2 y H'
theorem wipe1 (σ : L2.St) (j : Nat) (x : Option V) : wipe ((wipe σ [j]).set j x) [j] = wipe σ [j] := by
  show (((σ.set j none).set j x).set j none) = σ.set j none
  rw [List.set_set, List.set_set]
theorem wipe2 (σ : L2.St) (j k : Nat) (x y : Option V) : wipe (((wipe σ [j, k]).set j x).set k y) [j, k] = wipe σ [j, k] := by
  show ((((((σ.set k none).set j none).set j x).set k y).set k none).set j none) = (σ.set k none).set j none
  by_cases h : j = k
  · subst h
    simp only [List.set_set]
  · simp only [List.set_set]
    rw [List.set_comm (i := j) (j := k) _ _ h]
    simp only [List.set_set]
theorem tgt_nm [hR : ∀ a, Mono (R a)] {j : Nat} : TgtG R (gName j) (TNm R (wipe σ [j]) j) (wipe σ [j]) [j] H where
  st := fun a x H' _ r H2 Qs hq _ => hq _ ⟨x, rfl, r⟩
  wp := fun a σ2 H' ⟨x, h, _⟩ => by rw [h]; exact wipe1 σ j _
  up := fun a σ2 H' H2 e ⟨x, h, r⟩ => ⟨x, h, (hR a).up e r⟩
theorem tgt_pr {γ : Type} {S : γ → Rep} [hR : ∀ a, Mono (R a)] [hS : ∀ a, Mono (S a)] {j k : Nat} : TgtG (Pr2 R S) (gTup X.K 2 (gCons (gName j) (gCons (gName k) gNil))) (TPr R S (wipe σ [j, k]) j k) (wipe σ [j, k]) [j, k] H where
  st := fun a x H' _ ⟨p, xs, hx, hp, y1, r1, e1, h1, y2, r2, e2, h2, e3⟩ H2 Qs hq hH => by
    refine ⟨p, xs, hx, SqT.of (hH p _ hp), by rw [e1, e2, show r2 = [] from e3]; rfl, y1, r1, e1, y2, r2, e2, e3, hq _ ⟨y1, y2, rfl, h1, h2⟩⟩
  wp := fun a σ2 H' ⟨x, y, h, _⟩ => by rw [h]; exact wipe2 σ j k _ _
  up := fun a σ2 H' H2 e ⟨x, y, h, r, r'⟩ => ⟨x, y, h, (hR _).up e r, (hS _).up e r'⟩
end
end G
namespace G
open PySem PySem.Spec PyProof.Rows L2 Evl
section
variable {P : Rep} {X : Cx} {α β γ : Type} {σ : L2.St} {H : Hp} {tg iter elt t : Expr} {R : α → Rep} {S : β → Rep} {R2 : γ → Rep} {as : List α} {qs : List (α × γ)} {pos spos py : Pos} {scope : Scope} {x y z : Str}
theorem filter_true {as : List α} : as.filter (fun _ => true) = as := List.filter_eq_self.mpr fun _ _ => rfl
/-- [elt for x in iter if ..] -/
theorem eg_lc (j : Nat) {px : Pos} [hR : ∀ a, Mono (R a)] [hS : ∀ b, Mono (S b)] (f : α → β) (hN : X.N.Nodup) (hi : IterP X (.Name x px) iter σ H R as) (hz : as.length ≤ 1000000)
    (he : ∀ a ∈ as, ∀ v H', Ex H H' → R a v H' → ∀ s H0 C cl fp, EG (X.blk s H0 scope (compEnvC scope cl C X.env) fp) elt ((σ.set j none).set j (some v)) H' (S (f a)))
    (hg : ∀ (s : Shared) (H : Hp) (C : Addr) (cl : List (Str × Addr)) (fp : List Addr), PG (X.blk s H scope (compEnvC scope cl C X.env) fp) (.Name x px) (gName j)) (ok : BlkOk X.N X.env.scope scope [(x, j)] := by exact blkOk_by (by rfl)) (hc : X.calm = true := by rfl)
    (hs : ∀ x, foldedSetIterable iter X.env x = pure x := by intro _; rfl) (hp : ∀ v H, IsL S (as.map f) v H → P v H := by exact fun _ _ h => h) : EG X (.ListComp elt [⟨.Name x px, iter, [], 0⟩] scope pos) σ H P := by
  obtain ⟨wi, hpi, h⟩ := lc_read (q := fun _ => true) (vs := [j]) hi hz tgt_nm (yes_read fun _ _ => rfl) (scope := scope) (elt := elt) (S := S) (f := f) fun a ha _ σ2 H' e ⟨v, hv, hr⟩ H1 e1 Q hQ s H0 C cl fp => by
    subst hv
    exact (he a ha v H' e hr s H0 C cl fp) H1 e1 Q hQ
  rw [filter_true] at h
  exact eg_of (pe_lc (own := [(x, j)]) hc hN hpi ok hg (fun _ _ _ _ _ => pts_nil) ue_pe hs) (h.imp fun v H' _ => hp v H')
theorem eg_lcT (j : Nat) {px : Pos} [hR : ∀ a, Mono (R a)] [hS : ∀ b, Mono (S b)] (f : α → β) (q : α → Bool) (hN : X.N.Nodup) (hi : IterP X (.Name x px) iter σ H R as) (hz : as.length ≤ 1000000)
    (ht : ∀ a ∈ as, ∀ v H', Ex H H' → R a v H' → ∀ s H0 C cl fp, TG (X.blk s H0 scope (compEnvC scope cl C X.env) fp) t ((σ.set j none).set j (some v)) H' (q a))
    (he : ∀ a ∈ as, q a = true → ∀ v H', Ex H H' → R a v H' → ∀ s H0 C cl fp, EG (X.blk s H0 scope (compEnvC scope cl C X.env) fp) elt ((σ.set j none).set j (some v)) H' (S (f a)))
    (hg : ∀ (s : Shared) (H : Hp) (C : Addr) (cl : List (Str × Addr)) (fp : List Addr), PG (X.blk s H scope (compEnvC scope cl C X.env) fp) (.Name x px) (gName j)) (ok : BlkOk X.N X.env.scope scope [(x, j)] := by exact blkOk_by (by rfl)) (hc : X.calm = true := by rfl)
    (hs : ∀ x, foldedSetIterable iter X.env x = pure x := by intro _; rfl) (hp : ∀ v H, IsL S ((as.filter q).map f) v H → P v H := by exact fun _ _ h => h) : EG X (.ListComp elt [⟨.Name x px, iter, [t], 0⟩] scope pos) σ H P := by
  obtain ⟨wi, hpi, h⟩ := lc_read (q := q) (vs := [j]) hi hz tgt_nm (test_read (t := t) fun a ha σ2 H' e ⟨v, hv, hr⟩ H1 e1 Q hQ s H0 C cl fp => by
    subst hv
    exact (ht a ha v H' e hr s H0 C cl fp) H1 e1 Q hQ) (scope := scope) (elt := elt) (S := S) (f := f) fun a ha hq σ2 H' e ⟨v, hv, hr⟩ H1 e1 Q hQ s H0 C cl fp => by
    subst hv
    exact (he a ha hq v H' e hr s H0 C cl fp) H1 e1 Q hQ
  exact eg_of (pe_lc (own := [(x, j)]) hc hN hpi ok hg (fun _ _ _ _ _ => pts_one (ut_pt _ _ _ _ _)) ue_pe hs) (h.imp fun v H' _ => hp v H')
/-- [elt for x, y in iter if ..] -/
theorem eg_lc2 (j k : Nat) {px pz tp : Pos} {kk : Nat} [hR : ∀ a, Mono (R a)] [hR2 : ∀ a, Mono (R2 a)] [hS : ∀ b, Mono (S b)] (f : α × γ → β) (hN : X.N.Nodup) (hi : IterP X (.Tuple [.Name x px, .Name z pz] kk tp) iter σ H (Pr2 R R2) qs) (hz : qs.length ≤ 1000000)
    (he : ∀ q ∈ qs, ∀ v w H', Ex H H' → R q.1 v H' → R2 q.2 w H' → ∀ s H0 C cl fp, EG (X.blk s H0 scope (compEnvC scope cl C X.env) fp) elt ((((σ.set k none).set j none).set j (some v)).set k (some w)) H' (S (f q)))
    (hg : ∀ (s : Shared) (H : Hp) (C : Addr) (cl : List (Str × Addr)) (fp : List Addr), PG (X.blk s H scope (compEnvC scope cl C X.env) fp) (.Tuple [.Name x px, .Name z pz] kk tp) (gTup X.K 2 (gCons (gName j) (gCons (gName k) gNil))))
    (ok : BlkOk X.N X.env.scope scope [(x, j), (z, k)] := by exact blkOk_by (by rfl)) (hc : X.calm = true := by rfl)
    (hs : ∀ x, foldedSetIterable iter X.env x = pure x := by intro _; rfl) (hp : ∀ v H, IsL S (qs.map f) v H → P v H := by exact fun _ _ h => h) : EG X (.ListComp elt [⟨.Tuple [.Name x px, .Name z pz] kk tp, iter, [], 0⟩] scope pos) σ H P := by
  obtain ⟨wi, hpi, h⟩ := lc_read (q := fun _ => true) (vs := [j, k]) hi hz (tgt_pr (X := X)) (yes_read fun _ _ => rfl) (scope := scope) (elt := elt) (S := S) (f := f) fun a ha _ σ2 H' e ⟨v, w, hv, hr, hr2⟩ H1 e1 Q hQ s H0 C cl fp => by
    subst hv
    exact (he a ha v w H' e hr hr2 s H0 C cl fp) H1 e1 Q hQ
  rw [filter_true] at h
  exact eg_of (pe_lc (own := [(x, j), (z, k)]) hc hN hpi ok hg (fun _ _ _ _ _ => pts_nil) ue_pe hs) (h.imp fun v H' _ => hp v H')
theorem eg_lc2T (j k : Nat) {px pz tp : Pos} {kk : Nat} [hR : ∀ a, Mono (R a)] [hR2 : ∀ a, Mono (R2 a)] [hS : ∀ b, Mono (S b)] (f : α × γ → β) (p : α × γ → Bool) (hN : X.N.Nodup) (hi : IterP X (.Tuple [.Name x px, .Name z pz] kk tp) iter σ H (Pr2 R R2) qs) (hz : qs.length ≤ 1000000)
    (ht : ∀ q ∈ qs, ∀ v w H', Ex H H' → R q.1 v H' → R2 q.2 w H' → ∀ s H0 C cl fp, TG (X.blk s H0 scope (compEnvC scope cl C X.env) fp) t ((((σ.set k none).set j none).set j (some v)).set k (some w)) H' (p q))
    (he : ∀ q ∈ qs, p q = true → ∀ v w H', Ex H H' → R q.1 v H' → R2 q.2 w H' → ∀ s H0 C cl fp, EG (X.blk s H0 scope (compEnvC scope cl C X.env) fp) elt ((((σ.set k none).set j none).set j (some v)).set k (some w)) H' (S (f q)))
    (hg : ∀ (s : Shared) (H : Hp) (C : Addr) (cl : List (Str × Addr)) (fp : List Addr), PG (X.blk s H scope (compEnvC scope cl C X.env) fp) (.Tuple [.Name x px, .Name z pz] kk tp) (gTup X.K 2 (gCons (gName j) (gCons (gName k) gNil))))
    (ok : BlkOk X.N X.env.scope scope [(x, j), (z, k)] := by exact blkOk_by (by rfl)) (hc : X.calm = true := by rfl)
    (hs : ∀ x, foldedSetIterable iter X.env x = pure x := by intro _; rfl) (hp : ∀ v H, IsL S ((qs.filter p).map f) v H → P v H := by exact fun _ _ h => h) : EG X (.ListComp elt [⟨.Tuple [.Name x px, .Name z pz] kk tp, iter, [t], 0⟩] scope pos) σ H P := by
  obtain ⟨wi, hpi, h⟩ := lc_read (q := p) (vs := [j, k]) hi hz (tgt_pr (X := X)) (test_read (t := t) fun a ha σ2 H' e ⟨v, w, hv, hr, hr2⟩ H1 e1 Q hQ s H0 C cl fp => by
    subst hv
    exact (ht a ha v w H' e hr hr2 s H0 C cl fp) H1 e1 Q hQ) (scope := scope) (elt := elt) (S := S) (f := f) fun a ha hq σ2 H' e ⟨v, w, hv, hr, hr2⟩ H1 e1 Q hQ s H0 C cl fp => by
    subst hv
    exact (he a ha hq v w H' e hr hr2 s H0 C cl fp) H1 e1 Q hQ
  exact eg_of (pe_lc (own := [(x, j), (z, k)]) hc hN hpi ok hg (fun _ _ _ _ _ => pts_one (ut_pt _ _ _ _ _)) ue_pe hs) (h.imp fun v H' _ => hp v H')
/-- name = [..]: an assignment of a comprehension's value: by what its value is -/
theorem b_asgLc (i j : Nat) {px p1 : Pos} [hR : ∀ a, Mono (R a)] [hS : ∀ b, Mono (S b)] (f : α → β) {rest : List Stmt} {D : Ends} (hN : X.N.Nodup) (hi : IterP X (.Name x px) iter σ H R as) (hz : as.length ≤ 1000000)
    (he : ∀ a ∈ as, ∀ v H', Ex H H' → R a v H' → ∀ s H0 C cl fp, EG (X.blk s H0 scope (compEnvC scope cl C X.env) fp) elt ((σ.set j none).set j (some v)) H' (S (f a)))
    (hg : ∀ (s : Shared) (H : Hp) (C : Addr) (cl : List (Str × Addr)) (fp : List Addr), PG (X.blk s H scope (compEnvC scope cl C X.env) fp) (.Name x px) (gName j)) (hy : X.N[i]? = some y) (hyl : X.env.scope.names.lookup y = some .local)
    (hsw : swapsWith (.ListComp elt [⟨.Name x px, iter, [], 0⟩] scope pos) (some (.Name y py)) spos.line X.env = pure true) (k : ∀ v H1, Ex H H1 → IsL S (as.map f) v H1 → BW X rest D (σ.set i (some v)) H1)
    (ok : BlkOk X.N X.env.scope scope [(x, j)] := by exact blkOk_by (by rfl)) (hc : X.calm = true := by rfl)
    (hs : ∀ x, foldedSetIterable iter X.env x = pure x := by intro _; rfl) : BW X (.Assign [.Name y py] (.ListComp elt [⟨.Name x px, iter, [], 0⟩] scope pos) spos :: rest) D σ H := by
  obtain ⟨wi, hpi, h⟩ := lc_read (q := fun _ => true) (vs := [j]) hi hz tgt_nm (yes_read fun _ _ => rfl) (scope := scope) (elt := elt) (S := S) (f := f) fun a ha _ σ2 H' e ⟨v, hv, hr⟩ H1 e1 Q hQ s H0 C cl fp => by
    subst hv
    exact (he a ha v H' e hr s H0 C cl fp) H1 e1 Q hQ
  rw [filter_true] at h
  exact b_of (ps_setLc (own := [(x, j)]) hc hN hy hyl hsw hpi ok hg (fun _ _ _ _ _ => pts_nil) ue_pe hs) (h H (Ex.refl H) _ k)

/-! ### loops -/
/-- what a turn is to reach -/
def Nxt (Hb : Hp) (P : L2.St → Hp → Prop) : L2.St → Hp → Prop := fun s h => Ex Hb h ∧ P s h
theorem b_forN (j : Nat) {px : Pos} {body rest : List Stmt} {D : Ends} (Pv : Nat → L2.St → Hp → Prop) (hN : X.N.Nodup) (hi : IterP X (.Name x px) iter σ H R as) (h0 : ∀ H1, Ex H H1 → Pv 0 σ H1)
    (hs : ∀ i a v σ' Ha Hb, as[i]? = some a → Ex H Ha → Pv i σ' Ha → Ex Ha Hb → R a v Hb → BW X body { nx := Nxt Hb (Pv (i + 1)), ct := Nxt Hb (Pv (i + 1)), bk := BW X rest D, rt := D.rt } (σ'.set j (some v)) Hb)
    (hd : ∀ σ' H', Ex H H' → Pv as.length σ' H' → BW X rest D σ' H') (hj : X.N[j]? = some x := by rfl) (hl : Loc X.env.scope x := by first | exact Or.inl rfl | exact Or.inr rfl)
    (hxe : PassesOwn (model X.prog X.w) X.A X.env X.xe := by exact PassesOwn.never) (hc : X.calm = true := by rfl) (hf : ∀ x, foldedSetIterable iter X.env x = pure x := by intro _; rfl)
    (hfn : X.fn x = true ∨ X.env.scope.names.lookup x = some .local := by first | exact .inl rfl | exact .inr rfl) : BW X (.For (.Name x px) iter body [] pos :: rest) D σ H := by
  obtain ⟨wi, hpi, hw⟩ := hi
  refine b_of (ps_for hxe hc hpi (pg_name hN hj hl hfn) pss_W hf) ?_
  refine hw H (Ex.refl H) _ fun J H2 G Y e2 W WG => ?_
  refine for_it W (fun i σ' H' => Ex H2 H' ∧ Pv i σ' H') ⟨Ex.refl _, h0 H2 e2⟩ (fun i σ' H' _ p => WG.g H' fun a xs => ⟨fun h => p.1 a _ h, fun h => p.1 a _ h⟩) (fun i v σ' Ha Hb hi p y => ?_) (fun σ' H' p => hd σ' H' (e2.trans p.1) p.2)
  obtain ⟨eb, a, ha, ra⟩ := WG.y i Ha v Hb p.1 y
  have z := hs i a v σ' Ha Hb ha (e2.trans p.1) p.2 eb ra
  intro pins s I
  refine thn (z pins s I) fun f s1 q => ?_
  cases f with
  | next =>
    obtain ⟨σ2, H3, I3, q1, q2⟩ := q
    exact ⟨σ2, H3, I3, (p.1.trans eb).trans q1, q2⟩
  | cont =>
    obtain ⟨σ2, H3, I3, q1, q2⟩ := q
    exact ⟨σ2, H3, I3, (p.1.trans eb).trans q1, q2⟩
  | brk => exact q
  | ret u => exact q
theorem b_for2 (j k : Nat) {px pz tp : Pos} {kk : Nat} {body rest : List Stmt} {D : Ends} (Pv : Nat → L2.St → Hp → Prop) (hN : X.N.Nodup) (hi : IterP X (.Tuple [.Name x px, .Name z pz] kk tp) iter σ H (Pr2 R R2) qs) (h0 : ∀ H1, Ex H H1 → Pv 0 σ H1)
    (hs : ∀ i q v w σ' Ha Hb, qs[i]? = some q → Ex H Ha → Pv i σ' Ha → Ex Ha Hb → R q.1 v Hb → R2 q.2 w Hb → BW X body { nx := Nxt Hb (Pv (i + 1)), ct := Nxt Hb (Pv (i + 1)), bk := BW X rest D, rt := D.rt } ((σ'.set j (some v)).set k (some w)) Hb)
    (hd : ∀ σ' H', Ex H H' → Pv qs.length σ' H' → BW X rest D σ' H') (hg : PG X (.Tuple [.Name x px, .Name z pz] kk tp) (gTup X.K 2 (gCons (gName j) (gCons (gName k) gNil))))
    (hxe : PassesOwn (model X.prog X.w) X.A X.env X.xe := by exact PassesOwn.never) (hc : X.calm = true := by rfl) (hf : ∀ x, foldedSetIterable iter X.env x = pure x := by intro _; rfl) : BW X (.For (.Tuple [.Name x px, .Name z pz] kk tp) iter body [] pos :: rest) D σ H := by
  obtain ⟨wi, hpi, hw⟩ := hi
  refine b_of (ps_for hxe hc hpi hg pss_W hf) ?_
  refine hw H (Ex.refl H) _ fun J H2 G Y e2 W WG => ?_
  refine for_it W (fun i σ' H' => Ex H2 H' ∧ Pv i σ' H') ⟨Ex.refl _, h0 H2 e2⟩ (fun i σ' H' _ p => WG.g H' fun a xs => ⟨fun h => p.1 a _ h, fun h => p.1 a _ h⟩) (fun i v σ' Ha Hb hi p y => ?_) (fun σ' H' p => hd σ' H' (e2.trans p.1) p.2)
  obtain ⟨eb, a, ha, ⟨pp, xs, hx, hp, y1, r1, e1, h1, y2, r2, e3, h2, e4⟩⟩ := WG.y i Ha v Hb p.1 y
  refine ⟨pp, xs, hx, SqT.of hp, by rw [e1, e3, show r2 = [] from e4]; rfl, y1, r1, e1, y2, r2, e3, e4, ?_⟩
  have z := hs i a y1 y2 σ' Ha Hb ha (e2.trans p.1) p.2 eb h1 h2
  intro pins s I
  refine thn (z pins s I) fun f s1 q => ?_
  cases f with
  | next =>
    obtain ⟨σ2, H3, I3, q1, q2⟩ := q
    exact ⟨σ2, H3, I3, (p.1.trans eb).trans q1, q2⟩
  | cont =>
    obtain ⟨σ2, H3, I3, q1, q2⟩ := q
    exact ⟨σ2, H3, I3, (p.1.trans eb).trans q1, q2⟩
  | brk => exact q
  | ret u => exact q
/-- while: the number falls -/
theorem b_while {c : Expr} {body rest : List Stmt} {D : Ends} (Pv : Nat → L2.St → Hp → Prop) (m0 : Nat) (h0 : Pv m0 σ H)
    (hs : ∀ m σ' H', Pv m σ' H' → ∃ b, TG X c σ' H' b ∧ (b = true → ∀ H1, Ex H' H1 → BW X body { nx := fun s h => ∃ m', m' < m ∧ Pv m' s h, ct := fun s h => ∃ m', m' < m ∧ Pv m' s h, bk := BW X rest D, rt := D.rt } σ' H1) ∧ (b = false → ∀ H1, Ex H' H1 → BW X rest D σ' H1))
    (hxe : PassesOwn (model X.prog X.w) X.A X.env X.xe := by exact PassesOwn.never) : BW X (.While c body [] pos :: rest) D σ H := by
  refine b_of (ps_while hxe pt_W pss_W) ⟨Pv, ⟨m0, h0⟩, fun m σ' H' p => ?_⟩
  obtain ⟨b, ht, h1, h2⟩ := hs m σ' H' p
  refine ht H' (Ex.refl _) _ fun H1 e1 => ?_
  cases b with
  | true => rw [if_pos rfl]; exact ⟨_, fun _ _ q => q, h1 rfl H1 e1⟩
  | false => rw [if_neg Bool.false_ne_true]; exact h2 rfl H1 e1
end
end G
set_option maxHeartbeats 4000000
namespace G
open PySem PySem.Spec PyProof.Rows L2 Evl

/-! ### operators of own classes -/
theorem relV_back {v : V} {u : Value} {Q : Value → Shared → Prop} {s : Shared} (r : RelV v u) (q : Q u s) : PySem.W.CmpBack Q u s := by
  cases v with
  | non => cases (show u = _ from r); exact q
  | bl b => cases (show u = _ from r); exact q
  | int i => obtain ⟨t, e⟩ := (show ∃ t, u = _ from r); cases e; exact q
  | str i => obtain ⟨t, e⟩ := (show ∃ t, u = _ from r); cases e; exact q
  | byt i => obtain ⟨t, e⟩ := (show ∃ t, u = _ from r); cases e; exact q
  | flt i => obtain ⟨t, e⟩ := (show ∃ t, u = _ from r); cases e; exact q
  | ref a => cases (show u = _ from r); exact q
  | ty n => cases (show u = _ from r); exact q
/-- a method that an operator asks for -/
structure OCal (P : Program) (w : World) (K : PySem.W.Frag) (mg : Str → Option Value) (base : Heap) (C : Addr) (m : Str) (k : Nat) (sp : Sp) : Prop where
  ex : ∃ f fd ps, FnOk P w K mg base CX0 k f fd ps sp ∧ PySem.W.findIn K (.ref C) m = some (some (.ref f)) ∧ PySem.W.isFn K (.ref f) = true ∧ Binds K fd ps []
section
variable {X : Cx} {σ : L2.St} {H : Hp} {a b e : Expr} {pos p : Pos} {P P1 P2 : Rep} {k : Nat} {sp : Sp} {C : Addr}
theorem call_own {A : Around} {pins : List (Addr × Obj)} {s : Shared} {f : Addr} {fd : FuncData} {ps : List Str} {vs : List V} {us : List Value} {Q : VK} (F : FnOk X.prog X.w X.K X.mg X.base CX0 k f fd ps sp) (hb : Binds X.K fd ps []) (sb : Sub X k A) (I : Inv X pins σ H s) (r : Vals vs us) (h : sp vs H Q E0) :
    wpAny (model X.prog X.w) A (call (.ref f) us) (EP X pins σ Q) X.xe s := by
  have e0 : Env0 X.prog X.w X.K X.mg X.base A X.stack s H := by
    have e := I.env0
    exact ⟨by rw [sb.fr]; exact e.frames, e.mod, e.bs, e.bsz, e.funs, e.frf, e.hok, e.bare⟩
  have hl := F.len _ _ _ _ h
  refine wpAny_call (codeAny_mono (F.run A X.stack s H ⟨us, []⟩ us vs Q E0 sb.room e0 (by
    have := hb s us I.kIn (by rw [List.append_nil, ← r.length, hl])
    simpa using this) r h) fun z s' hq => ?_)
  cases z with
  | error e => exact pass0 pins σ H s e s' I hq
  | ok fl =>
    cases fl with
    | ret w =>
      obtain ⟨z, H', I', rz, q⟩ := I.after hq
      exact ⟨z, H', I', rz, q⟩
    | next => exact False.elim hq
    | brk => exact False.elim hq
    | cont => exact False.elim hq
/-- a op b by a's own method: b of a's class -/
def rOwn (K : PySem.W.Frag) (C : Addr) (sp : Sp) : R2 := fun x y H Q => ∃ a b dx dy fs gs, x = .ref a ∧ y = .ref b ∧ H a = some (.ins C dx fs) ∧ H b = some (.ins C dy gs) ∧ sp [x, y] H Q E0
theorem op_own {op : Operator} (hc : PySem.W.selfFirst X.K C = true) (D : OCal X.prog X.w X.K X.mg X.base C (PySem.dunder op.info.2) k sp) (hr : Room k X.A) : OpR X (binaryOp op) (rOwn X.K C sp) := by
  intro pins s σ H x y v u Q I rx ry ⟨a, b, dx, dy, fs, gs, h1, h2, h3, h4, h5⟩
  obtain ⟨f, fd, ps, F, hs, hf, hb⟩ := D.ex
  subst h1 h2
  cases rx
  cases ry
  obtain ⟨mA, J, _⟩ := ins_get I.hok h3
  obtain ⟨mB, J', _⟩ := ins_get I.hok h4
  obtain ⟨od, J, _⟩ := J.look
  obtain ⟨od', J', _⟩ := J'.look
  obtain ⟨m, hF⟩ := I.fr
  refine PySem.W.binop_K hF I.ok.mod.kin J J'.type hc hs hf ?_
  refine thn (call_own (vs := [.ref a, .ref b]) (us := [.ref a, .ref b]) F hb ⟨hr, rfl⟩ I (.cons rfl (.cons rfl .nil)) h5) fun w s1 ⟨v, H1, I1, r1, q1⟩ => relV_back r1 ⟨v, H1, I1, r1, q1⟩
/-- the built-in type T as the right one -/
structure SlotT (K : PySem.W.Frag) (C : Addr) (nm T : String) : Prop where
  r : ∃ rc, PySem.W.findIn K (.ref C) (dunderR nm) = some rc ∧ (rc = none ∨ ∃ g : Addr, rc = some (.ref g))
  a : ∃ fo, PySem.W.findIn K (.type T) (PySem.dunder nm) = some fo
  b : ∃ fo, PySem.W.findIn K (.type T) (dunderR nm) = some fo
  s : PySem.W.subIn K (.type T) (.ref C) = some false
def rOwnI (C : Addr) (sp : Sp) : R2 := fun x y H Q => ∃ a dx fs i, x = .ref a ∧ y = .int i ∧ H a = some (.ins C dx fs) ∧ sp [x, y] H Q E0
theorem op_ownI {op : Operator} (hc : PySem.W.selfFirst X.K C = true) (D : OCal X.prog X.w X.K X.mg X.base C (PySem.dunder op.info.2) k sp) (hr : Room k X.A) (S : SlotT X.K C op.info.2 "int") : OpR X (binaryOp op) (rOwnI C sp) := by
  intro pins s σ H x y v u Q I rx ry ⟨a, dx, fs, i, h1, h2, h3, h5⟩
  obtain ⟨f, fd, ps, F, hs, hf, hb⟩ := D.ex
  subst h1 h2
  cases rx
  obtain ⟨t, ry⟩ := ry
  subst ry
  obtain ⟨mA, J, _⟩ := ins_get I.hok h3
  obtain ⟨od, J, _⟩ := J.look
  obtain ⟨m, hF⟩ := I.fr
  obtain ⟨rc, hr1, hr2⟩ := S.r
  obtain ⟨fo, hfo⟩ := S.a
  obtain ⟨ro, hro⟩ := S.b
  refine PySem.W.ksp_binT (T := "int") hF I.ok.mod.kin J rfl hc hs hf hr1 hr2 hfo hro S.s ?_
  refine thn (call_own (vs := [.ref a, .int i]) (us := [.ref a, .int i t]) F hb ⟨hr, rfl⟩ I (.cons rfl (.cons ⟨t, rfl⟩ .nil)) h5) fun w s1 ⟨v, H1, I1, r1, q1⟩ => relV_back r1 ⟨v, H1, I1, r1, q1⟩
/-- a op b by a's own method: b of another own class -/
def rOwnD (C B : Addr) (sp : Sp) : R2 := fun x y H Q => ∃ a b dx dy fs gs, x = .ref a ∧ y = .ref b ∧ H a = some (.ins C dx fs) ∧ H b = some (.ins B dy gs) ∧ sp [x, y] H Q E0
/-- - a by its own method -/
def rOwnN (C : Addr) (sp : Sp) : V → Hp → VK → Prop := fun x H Q => ∃ a dx fs, x = .ref a ∧ H a = some (.ins C dx fs) ∧ sp [x] H Q E0
theorem un_own (D : OCal X.prog X.w X.K X.mg X.base C "__neg__" k sp) (hr : Room k X.A) : UnR X (unaryOp .USub) (rOwnN C sp) := by
  intro pins s σ H x v Q I rx ⟨a, dx, fs, h1, h3, h5⟩
  obtain ⟨f, fd, ps, F, hs, hf, hb⟩ := D.ex
  subst h1
  cases rx
  obtain ⟨mA, J, _⟩ := ins_get I.hok h3
  obtain ⟨od, J, _⟩ := J.look
  obtain ⟨m, hF⟩ := I.fr
  refine PySem.W.ksp_neg hF I.ok.mod.kin J hs hf ?_
  exact call_own (vs := [.ref a]) (us := [.ref a]) F hb ⟨hr, rfl⟩ I (.cons rfl .nil) h5
/-- == of two of one own class by its own == -/
theorem op_eqO (D : OCal X.prog X.w X.K X.mg X.base C "__eq__" k sp) (hr : Room k X.A) : OpR X (compareOp .Eq) (rOwn X.K C sp) := by
  intro pins s σ H x y v u Q I rx ry ⟨a, b, dx, dy, fs, gs, h1, h2, h3, h4, h5⟩
  obtain ⟨f, fd, ps, F, hs, hf, hb⟩ := D.ex
  subst h1 h2
  cases rx
  cases ry
  obtain ⟨mA, J, _⟩ := ins_get I.hok h3
  obtain ⟨mB, J', _⟩ := ins_get I.hok h4
  obtain ⟨od, J, _⟩ := J.look
  obtain ⟨od', J', _⟩ := J'.look
  obtain ⟨m, hF⟩ := I.fr
  show wpAny _ _ (richCompare .Eq _ _) _ _ _
  refine PySem.W.cmp_K (op := .Eq) (tb := .ref C) hr.units0 hF I.ok.mod.kin J J'.type (by simp [PySem.W.notFirst]) hs hf ?_
  refine thn (call_own (vs := [.ref a, .ref b]) (us := [.ref a, .ref b]) F hb ⟨hr, rfl⟩ I (.cons rfl (.cons rfl .nil)) h5) fun w s1 ⟨v, H1, I1, r1, q1⟩ => relV_back r1 ⟨v, H1, I1, r1, q1⟩
/-- == of one of an own class and an int -/
theorem op_eqOI (D : OCal X.prog X.w X.K X.mg X.base C "__eq__" k sp) (hr : Room k X.A) (hn : PySem.W.notFirst X.K C (.type "int") = true) : OpR X (compareOp .Eq) (rOwnI C sp) := by
  intro pins s σ H x y v u Q I rx ry ⟨a, dx, fs, i, h1, h2, h3, h5⟩
  obtain ⟨f, fd, ps, F, hs, hf, hb⟩ := D.ex
  subst h1 h2
  cases rx
  obtain ⟨t, ry⟩ := ry
  subst ry
  obtain ⟨mA, J, _⟩ := ins_get I.hok h3
  obtain ⟨od, J, _⟩ := J.look
  obtain ⟨m, hF⟩ := I.fr
  show wpAny _ _ (richCompare .Eq _ _) _ _ _
  refine PySem.W.cmp_K (op := .Eq) (tb := .type "int") hr.units0 hF I.ok.mod.kin J (PySem.W.Looks.of_pure rfl) hn hs hf ?_
  refine thn (call_own (vs := [.ref a, .int i]) (us := [.ref a, .int i t]) F hb ⟨hr, rfl⟩ I (.cons rfl (.cons ⟨t, rfl⟩ .nil)) h5) fun w s1 ⟨v, H1, I1, r1, q1⟩ => relV_back r1 ⟨v, H1, I1, r1, q1⟩

end
end G
namespace PySem.W
open PySem PySem.Calls PyProof.Rows
section
variable {prog : Program} {w : World} {A : Around} {E : Value → Shared → Prop} {s : Shared} {K : Frag} {x C L f : Addr} {h₀ : Heap} {m : Str → Option Value} {ox : Obj} {od : Option Obj} {b tb : Value}
theorem gne_bound {M : Model} {args : List Value} {Q : Option Value → Shared → Prop} (X : K.In s.heap) (I : InstAt s.heap x ox C od) (hs : findIn K (.ref C) "__ne__" = some (some (.builtin "object.__ne__")))
    (h : wpAny M A (call (.builtin "object.__ne__") (.ref x :: args)) (fun v => Q (some v)) E s) : wpAny M A (callSpecialIfBound? (.ref x) "__ne__" args) Q E s := by
  simp only [callSpecialIfBound?, bindSpecialIfBound?]
  refine wpAny_holding (wpAny_bind (wpAny_bind (wpAny_bind (I.type.here ((looks_findIn X hs).here ?_)))))
  refine wpAny_bind (wpAny_askSetting (wpAny_ite ?_))
  have fin : wpAny M A (call (.builtin "object.__ne__") ([.ref x] ++ args) >>= fun v => pure (some v)) Q E s := wpAny_bind (wpAny_mono h (fun v s' h' => wpAny_pure h') fun _ _ h' => h')
  have L : Looks M s.heap (bindSpecial (.builtin "object.__ne__") (.ref x)) (.builtin "object.__ne__", [.ref x]) := Looks.of_pure (F.cmp_object.ne.bind _)
  split
  · exact wpAny_bind (L.here (wpAny_pure (by exact fin)))
  · exact wpAny_tryCatch (wpAny_bind (L.here (wpAny_pure (by exact fin))))
theorem gne_entry {Q : Fin → Shared → Prop} (X : K.In s.heap) (I : InstAt s.heap x ox C od) (hu : A.units < cLine) (hs : findIn K (.ref C) "__eq__" = some (some (.ref f))) (hf : isFn K (.ref f) = true)
    (h : wpAny (model prog w) A (call (.ref f) [.ref x, b]) (fun v s' => ∃ r, v = .bool r ∧ Q (.done (.ret (.bool (!r)))) s') E s) : wpAny (model prog w) A (Builtin.«object.__ne__» ⟨[.ref x, b], []⟩) Q E s := by
  unfold Builtin.«object.__ne__»
  repeat (first
    | with_reducible refine wpAny_cRoomFor hu ?_
    | (refine wpAny_bind (m := callSpecialIfBound? (.ref x) (Str.ofString "__eq__") [b])
        (ifBound_K X I hs hf (wpAny_mono h (fun r s' hr => by
          obtain ⟨q, rfl, hq⟩ := hr
          repeat (first | exact hq | exact wpAny_pure hq | exact wpAny_truthy_bool hq | (refine wpAny_bind (m := truthy (.bool _)) (wpAny_truthy_bool ?_)) | wp_step)) fun _ _ e => e)))
    | wp_step)
theorem gne_K {Q : Value → Shared → Prop} (hu : A.units + 1 < cLine) (FF : Fr h₀ L s.heap m) (X₀ : K.In h₀) (I : InstAt s.heap x ox C od) (hb : Looks (model prog w) s.heap (typeOf b) tb) (hn : notFirst K C tb = true)
    (hne : findIn K (.ref C) "__ne__" = some (some (.builtin "object.__ne__"))) (hob : subIn K (.ref C) (.type "object") = some true) (hs : findIn K (.ref C) "__eq__" = some (some (.ref f))) (hf : isFn K (.ref f) = true)
    (h : wpAny (model prog w) A.in1 (call (.ref f) [.ref x, b]) (fun v s' => ∃ r, v = .bool r ∧ Q (.bool (!r)) s') E s) : wpAny (model prog w) A (richCompare .NotEq (.ref x) b) Q E s := by
  have X := X₀.keeps FF.keep
  have one : wpAny (model prog w) A (tryCompare (.ref x) "__ne__" b) (fun r s' => ∃ v, r = some v ∧ Q v s') E s := by
    unfold tryCompare
    refine wpAny_bind (gne_bound X I hne (wpAny_call (codeAny_call_builtin F.cmp_object.ne.plain F.cmpEntry_ne (check_slot F.cmpKind_ne F.cmpSplit_ne (I.type.andThen (looks_subIn X hob)) (F.cmpArgs_ne _ _) (gne_entry X I hu hs hf (wpAny_mono h (fun v s' hv => ?_) fun _ _ e => e))))))
    obtain ⟨r, rfl, hq⟩ := hv
    exact ⟨r, rfl, by first | exact wpAny_pure ⟨_, rfl, hq⟩ | exact ⟨_, rfl, hq⟩⟩
  unfold richCompare
  simp only [oneThing_ref]
  refine wpAny_holding (wpAny_bind (wpAny_cRoomFor (Nat.lt_of_succ_lt hu) ?_))
  refine wpAny_bind (I.type.here (wpAny_bind (hb.here ?_)))
  rw [cmpInfo_NotEq]
  dsimp only
  split
  · rename_i q
    have e : subIn K tb (.ref C) = some false := by
      rcases Bool.or_eq_true_iff.mp hn with e | e
      · rw [beq_iff_eq.mp e] at q; simp at q
      · exact beq_iff_eq.mp e
    refine wpAny_bind ((looks_subIn X e).here ?_)
    simp only [Bool.false_eq_true, if_false]
    refine wpAny_bind (wpAny_mono one (fun r s' z => ?_) fun _ _ e => e)
    obtain ⟨v, rfl, hq⟩ := z
    exact wpAny_pure hq
  · refine wpAny_bind (wpAny_pure ?_)
    simp only [Bool.false_eq_true, if_false]
    refine wpAny_bind (wpAny_mono one (fun r s' z => ?_) fun _ _ e => e)
    obtain ⟨v, rfl, hq⟩ := z
    exact wpAny_pure hq
end
end PySem.W
set_option maxHeartbeats 4000000
namespace G
open PySem PySem.Spec PyProof.Rows L2 Evl
section
variable {X : Cx} {σ : L2.St} {H : Hp} {a b e l : Expr} {es : List Expr} {pos p : Pos} {P P1 P2 : Rep} {k : Nat} {sp : Sp} {C : Addr} {α : Type} {Qs : α → List Rep} {Post : α → Rep} {i j : Int}
/-- an instance of the class at C, whatever its fields -/
abbrev AtC (C : Addr) : Rep := fun v H => ∃ a dx fs, v = .ref a ∧ H a = some (.ins C dx fs)
theorem ins_at {F : List (Str × V) → Hp → Prop} {v : V} {H : Hp} (h : Ins C F v H) : AtC C v H := let ⟨a, dx, fs, h1, h2, _⟩ := h; ⟨a, dx, fs, h1, h2⟩
theorem eg_mulO (hc : IntMulOk i j) (ha : EG X a σ H (IsI i)) (hb : EG X b σ H (IsI j)) : EG X (.BinOp a .Mult b pos) σ H (IsI (i * j)) :=
  eg_of (pe_op (r := rI IntMulOk fun i j => .int (i * j)) (opI fun _ _ _ _ _ _ _ hc q => mul_int q hc) pe_W pe_W) (ep_op ha hb fun x y H1 _ px py Q q => ⟨i, j, px, py, hc, q _ H1 (Ex.refl H1) rfl⟩)
/-- a op b, both of the class at C -/
theorem eg_opO {op : Operator} (t : α) [h1 : Mono P1] (D : OCal X.prog X.w X.K X.mg X.base C (PySem.dunder op.info.2) k (PSp Qs Post)) (hr : Room k X.A) (hc : PySem.W.selfFirst X.K C = true) (ha : EG X a σ H P1) (hb : EG X b σ H P2)
    (i1 : ∀ v H, P1 v H → AtC C v H) (i2 : ∀ v H, P2 v H → AtC C v H) (hq : ∀ x y H, P1 x H → P2 y H → Args (Qs t) [x, y] H) (hp : ∀ v H, Post t v H → P v H := by exact fun _ _ h => h) : EG X (.BinOp a op b pos) σ H P :=
  eg_of (pe_op (op_own hc D hr) pe_W pe_W) (ep_op ha hb fun x y H1 _ px py Q q => by
    obtain ⟨a, dx, fs, e1, e2⟩ := i1 x H1 px
    obtain ⟨b, dy, gs, e3, e4⟩ := i2 y H1 py
    exact ⟨a, b, dx, dy, fs, gs, e1, e3, e2, e4, t, hq x y H1 px py, fun v H2 e h => q v H2 e (hp v H2 h)⟩)
theorem eg_opOI {op : Operator} (t : α) [h1 : Mono P1] (D : OCal X.prog X.w X.K X.mg X.base C (PySem.dunder op.info.2) k (PSp Qs Post)) (hr : Room k X.A) (hc : PySem.W.selfFirst X.K C = true) (S : SlotT X.K C op.info.2 "int") (ha : EG X a σ H P1) (hb : EG X b σ H (IsI i))
    (i1 : ∀ v H, P1 v H → AtC C v H) (hq : ∀ x H, P1 x H → Args (Qs t) [x, .int i] H) (hp : ∀ v H, Post t v H → P v H := by exact fun _ _ h => h) : EG X (.BinOp a op b pos) σ H P :=
  eg_of (pe_op (op_ownI hc D hr S) pe_W pe_W) (ep_op ha hb fun x y H1 _ px py Q q => by
    obtain ⟨a, dx, fs, e1, e2⟩ := i1 x H1 px
    have e3 : y = .int i := py
    subst e3
    exact ⟨a, dx, fs, i, e1, rfl, e2, t, hq x H1 px, fun v H2 e h => q v H2 e (hp v H2 h)⟩)
theorem eg_negO (t : α) (D : OCal X.prog X.w X.K X.mg X.base C "__neg__" k (PSp Qs Post)) (hr : Room k X.A) (ha : EG X a σ H P1) (i1 : ∀ v H, P1 v H → AtC C v H) (hq : ∀ x H, P1 x H → Args (Qs t) [x] H) (hp : ∀ v H, Post t v H → P v H := by exact fun _ _ h => h) : EG X (.UnaryOp .USub a pos) σ H P :=
  eg_of (pe_un (un_own D hr) pe_W) (ep_un ha fun x H1 _ px Q q => by
    obtain ⟨a, dx, fs, e1, e2⟩ := i1 x H1 px
    exact ⟨a, dx, fs, e1, e2, t, hq x H1 px, fun v H2 e h => q v H2 e (hp v H2 h)⟩)
/-- == by an own one -/
theorem cg_eqO {bz : Bool} {bb : α → Bool} (t : α) [h1 : Mono P1] (D : OCal X.prog X.w X.K X.mg X.base C "__eq__" k (PSp Qs fun a => IsB (bb a))) (hr : Room k X.A) (ha : EG X a σ H P1) (hb : EG X b σ H P2)
    (i1 : ∀ v H, P1 v H → AtC C v H) (i2 : ∀ v H, P2 v H → AtC C v H) (hq : ∀ x y H, P1 x H → P2 y H → Args (Qs t) [x, y] H) (hbb : bb t = bz) : CG X .Eq a b σ H bz := hbb ▸
  cg_of (op_eqO D hr) ha hb fun x y H1 _ px py Q q => by
    obtain ⟨a, dx, fs, e1, e2⟩ := i1 x H1 px
    obtain ⟨b, dy, gs, e3, e4⟩ := i2 y H1 py
    exact ⟨a, b, dx, dy, fs, gs, e1, e3, e2, e4, t, hq x y H1 px py, fun v H' e hv => by rw [show v = .bl (bb t) from hv]; exact q H' e⟩
theorem cg_eqOI {bz : Bool} {bb : α → Bool} (t : α) [h1 : Mono P1] (D : OCal X.prog X.w X.K X.mg X.base C "__eq__" k (PSp Qs fun a => IsB (bb a))) (hr : Room k X.A) (hn : PySem.W.notFirst X.K C (.type "int") = true) (ha : EG X a σ H P1) (hb : EG X b σ H (IsI i))
    (i1 : ∀ v H, P1 v H → AtC C v H) (hq : ∀ x H, P1 x H → Args (Qs t) [x, .int i] H) (hbb : bb t = bz) : CG X .Eq a b σ H bz := hbb ▸
  cg_of (op_eqOI D hr hn) ha hb fun x y H1 _ px py Q q => by
    obtain ⟨a, dx, fs, e1, e2⟩ := i1 x H1 px
    have e3 : y = .int i := py
    subst e3
    exact ⟨a, dx, fs, i, e1, rfl, e2, t, hq x H1 px, fun v H' e hv => by rw [show v = .bl (bb t) from hv]; exact q H' e⟩
/-- != by an own == -/
structure NeO (K : PySem.W.Frag) (C : Addr) : Prop where
  ne : PySem.W.findIn K (.ref C) "__ne__" = some (some (.builtin "object.__ne__"))
  ob : PySem.W.subIn K (.ref C) (.type "object") = some true
def rOwnNe (C : Addr) (sp : Sp) : R2 := fun x y H Q => ∃ a b dx dy fs gs, x = .ref a ∧ y = .ref b ∧ H a = some (.ins C dx fs) ∧ H b = some (.ins C dy gs) ∧ sp [x, y] H (fun v H' => ∃ r, v = .bl r ∧ Q (.bl (!r)) H') E0
theorem op_neO (N : NeO X.K C) (D : OCal X.prog X.w X.K X.mg X.base C "__eq__" k sp) (hr : Room (k + 1) X.A) : OpR X (compareOp .NotEq) (rOwnNe C sp) := by
  intro pins s σ H x y v u Q I rx ry ⟨a, b, dx, dy, fs, gs, h1, h2, h3, h4, h5⟩
  obtain ⟨f, fd, ps, F, hs, hf, hb⟩ := D.ex
  subst h1 h2
  cases rx
  cases ry
  obtain ⟨mA, J, _⟩ := ins_get I.hok h3
  obtain ⟨mB, J', _⟩ := ins_get I.hok h4
  obtain ⟨od, J, _⟩ := J.look
  obtain ⟨od', J', _⟩ := J'.look
  obtain ⟨m, hF⟩ := I.fr
  show wpAny _ _ (richCompare .NotEq _ _) _ _ _
  have sb : Sub X k X.A.in1 := L2.Sub.in1 ⟨hr, rfl⟩
  refine PySem.W.gne_K (tb := .ref C) sb.room.units0 hF I.ok.mod.kin J J'.type (by simp [PySem.W.notFirst]) N.ne N.ob hs hf ?_
  refine thn (call_own (vs := [.ref a, .ref b]) (us := [.ref a, .ref b]) F hb sb I (.cons rfl (.cons rfl .nil)) h5) fun w s1 ⟨v, H1, I1, r1, r, q1, q2⟩ => ?_
  subst q1
  cases (show w = _ from r1)
  exact ⟨r, rfl, .bl (!r), H1, I1, rfl, q2⟩
theorem cg_neO {bz : Bool} {bb : α → Bool} (t : α) [h1 : Mono P1] (N : NeO X.K C) (D : OCal X.prog X.w X.K X.mg X.base C "__eq__" k (PSp Qs fun a => IsB (bb a))) (hr : Room (k + 1) X.A) (ha : EG X a σ H P1) (hb : EG X b σ H P2)
    (i1 : ∀ v H, P1 v H → AtC C v H) (i2 : ∀ v H, P2 v H → AtC C v H) (hq : ∀ x y H, P1 x H → P2 y H → Args (Qs t) [x, y] H) (hbb : (!bb t) = bz) : CG X .NotEq a b σ H bz := hbb ▸
  cg_of (op_neO N D hr) ha hb fun x y H1 _ px py Q q => by
    obtain ⟨a, dx, fs, e1, e2⟩ := i1 x H1 px
    obtain ⟨b, dy, gs, e3, e4⟩ := i2 y H1 py
    exact ⟨a, b, dx, dy, fs, gs, e1, e3, e2, e4, t, hq x y H1 px py, fun v H' e hv => ⟨bb t, hv, q H' e⟩⟩

/-! ### subscripts, slices -/
theorem all2_at {R : α → Rep} {as : List α} {xs : List V} {n : Nat} {x : α} (h : All2 R as xs H) (hx : as[n]? = some x) : ∃ v, xs[n]? = some v ∧ R x v H := h.get2 hx
theorem eg_ixL {R : α → Rep} {as : List α} {n : Nat} {x : α} [hR : ∀ a, Mono (R a)] (ha : EG X a σ H (IsL R as)) (hb : EG X b σ H (IsI (n : Int))) (hx : as[n]? = some x) (hs : PlainIx b := by exact fun _ _ => rfl) : EG X (.Subscript a b pos) σ H (R x) :=
  eg_of (pe_ix ix_list pe_W pe_W hs) (ep_op ha hb fun v y H1 _ ⟨q, xs, h1, h2, h3⟩ py Q qq => by
    obtain ⟨w, hw, rw⟩ := h3.get2 hx
    exact ⟨q, xs, n, w, h1, py, SqL.of h2, atI_nat hw, qq w H1 (Ex.refl H1) rw⟩)
theorem eg_ixT {R : α → Rep} {as : List α} {n : Nat} {x : α} [hR : ∀ a, Mono (R a)] (ha : EG X a σ H (IsT R as)) (hb : EG X b σ H (IsI (n : Int))) (hx : as[n]? = some x) (hs : PlainIx b := by exact fun _ _ => rfl) : EG X (.Subscript a b pos) σ H (R x) :=
  eg_of (pe_ix ix_tup pe_W pe_W hs) (ep_op ha hb fun v y H1 _ ⟨q, xs, h1, h2, h3⟩ py Q qq => by
    obtain ⟨w, hw, rw⟩ := h3.get2 hx
    exact ⟨q, xs, n, w, h1, py, SqT.of h2, atI_nat hw, qq w H1 (Ex.refl H1) rw⟩)
/-- l[i:] of a list, i a number -/
theorem eg_from {R : α → Rep} {as : List α} {n : Nat} {p2 : Pos} [hR : ∀ a, Mono (R a)] (ha : EG X a σ H (IsL R as)) (hb : EG X b σ H (IsI (n : Int))) : EG X (.Subscript a (.Slice (some b) none none p2) pos) σ H (IsL R (as.drop n)) :=
  eg_of (pe_slice sl_list pe_W (po_some pe_W) po_none) fun H1 e1 Q q => ha H1 e1 _ fun v H2 e2 ⟨c, xs, h1, h2, h3⟩ => hb H2 (e1.trans e2) _ fun y H3 e3 py => by
    refine ⟨n, py, c, xs, h1, SqL.of (e3 _ _ h2), fun d hd => ?_⟩
    have cut : cutV xs (some (n : Int)) none = xs.drop n := by
      unfold cutV
      rw [HT.sIx_none, HT.sIx_nat]
      by_cases hn : n ≤ xs.length
      · rw [Nat.min_eq_left hn]
        exact List.take_of_length_le (by rw [List.length_drop]; omega)
      · rw [Nat.min_eq_right (by omega), List.drop_length, List.drop_of_length_le (by omega)]
        simp
    rw [cut]
    exact q _ _ ((e2.trans e3).trans (Ex.new hd)) ⟨d, _, rfl, upd_same, (h3.drop n).up hR (e3.trans (Ex.new hd))⟩
/-- l[:i] -/
theorem eg_upto {R : α → Rep} {as : List α} {n : Nat} {p2 : Pos} [hR : ∀ a, Mono (R a)] (ha : EG X a σ H (IsL R as)) (hb : EG X b σ H (IsI (n : Int))) (hl : as.length ≤ n) : EG X (.Subscript a (.Slice none (some b) none p2) pos) σ H (IsL R as) :=
  eg_of (pe_slice sl_list pe_W po_none (po_some pe_W)) fun H1 e1 Q q => ha H1 e1 _ fun v H2 e2 ⟨c, xs, h1, h2, h3⟩ => hb H2 (e1.trans e2) _ fun y H3 e3 py => by
    refine ⟨n, py, c, xs, h1, SqL.of (e3 _ _ h2), fun d hd => ?_⟩
    have hx := h3.length
    have cut : cutV xs none (some (n : Int)) = xs := by
      unfold cutV
      rw [HT.sIx_none, HT.sIx_nat, Nat.min_eq_right (by omega), List.drop_zero, Nat.sub_zero, List.take_length]
    rw [cut]
    exact q _ _ ((e2.trans e3).trans (Ex.new hd)) ⟨d, _, rfl, upd_same, h3.up hR (e3.trans (Ex.new hd))⟩

/-! ### built-in calls -/
theorem eg_len {R : α → Rep} {as : List α} (hm : X.mg "len" = none) (ha : EG X e σ H (IsL R as)) (hg : Gl X "len" := by rfl) (he : starEach [e] X.env = (false, eval e X.env) :: starEach [] X.env := by rfl) [hR : ∀ a, Mono (R a)] : EG X (.Call (.Name "len" p) [e] [] pos) σ H (IsI (as.length : Int)) :=
  eg_callB call_len_seq hm rfl (ag_cons ha ag_nil he) (fun vs H1 _ ⟨v, r, h1, ⟨c, xs, h2, h3, h4⟩, h5⟩ Q q => ⟨c, xs, by rw [h1, show r = [] from h5, h2], .inl (SqL.of h3), q _ H1 (Ex.refl H1) (by rw [h4.length]; rfl)⟩) hg (by decide) (by decide) he rfl
theorem eg_lenT {R : α → Rep} {as : List α} (hm : X.mg "len" = none) (ha : EG X e σ H (IsT R as)) (hg : Gl X "len" := by rfl) (he : starEach [e] X.env = (false, eval e X.env) :: starEach [] X.env := by rfl) [hR : ∀ a, Mono (R a)] : EG X (.Call (.Name "len" p) [e] [] pos) σ H (IsI (as.length : Int)) :=
  eg_callB call_len_seq hm rfl (ag_cons ha ag_nil he) (fun vs H1 _ ⟨v, r, h1, ⟨c, xs, h2, h3, h4⟩, h5⟩ Q q => ⟨c, xs, by rw [h1, show r = [] from h5, h2], .inr (SqT.of h3), q _ H1 (Ex.refl H1) (by rw [h4.length]; rfl)⟩) hg (by decide) (by decide) he rfl
theorem eg_sum {ns : List Int} (hm : X.mg "sum" = none) (hc : X.calm = true) (ha : EG X e σ H (IsL IsI ns)) (hg : Gl X "sum" := by rfl) (he : starEach [e] X.env = (false, eval e X.env) :: starEach [] X.env := by rfl) : EG X (.Call (.Name "sum" p) [e] [] pos) σ H (IsI ns.sum) :=
  eg_callB (cr_sum hc) hm rfl (ag_cons ha ag_nil he) (fun vs H1 _ ⟨v, r, h1, ⟨c, xs, h2, h3, h4⟩, h5⟩ Q q => ⟨c, ns, by rw [h1, show r = [] from h5, h2], SqL.of (by rw [h3, all2_ints h4]), q _ H1 (Ex.refl H1) rfl⟩) hg (by decide) (by decide) he rfl
theorem all2_bls {H : Hp} : ∀ {bs : List Bool} {xs : List V}, All2 IsB bs xs H → xs = bs.map V.bl
  | [], _, h => h
  | n :: ns, _, ⟨x, r, hx, h, t⟩ => by
    rw [hx, show x = _ from h, all2_bls t]
    rfl
theorem eg_all {bs : List Bool} (hm : X.mg "all" = none) (hc : X.calm = true) (ha : EG X e σ H (IsL IsB bs)) (hg : Gl X "all" := by rfl) (he : starEach [e] X.env = (false, eval e X.env) :: starEach [] X.env := by rfl) : EG X (.Call (.Name "all" p) [e] [] pos) σ H (IsB (bs.all id)) :=
  eg_callB (cr_all hc) hm rfl (ag_cons ha ag_nil he) (fun vs H1 _ ⟨v, r, h1, ⟨c, xs, h2, h3, h4⟩, h5⟩ Q q => ⟨c, bs, by rw [h1, show r = [] from h5, h2], SqL.of (by rw [h3, all2_bls h4]), q _ H1 (Ex.refl H1) rfl⟩) hg (by decide) (by decide) he rfl
/-- tuple(l) of a list -/
theorem eg_tupleL {R : α → Rep} {as : List α} [hR : ∀ a, Mono (R a)] (hm : X.mg "tuple" = none) (ha : EG X e σ H (IsL R as)) (hg : Gl X "tuple" := by rfl) (he : starEach [e] X.env = (false, eval e X.env) :: starEach [] X.env := by rfl) : EG X (.Call (.Name "tuple" p) [e] [] pos) σ H (IsT R as) :=
  eg_callTy call_tuple_of hm rfl (ag_cons ha ag_nil he) (fun vs H1 _ ⟨v, r, h1, ⟨c, xs, h2, h3, h4⟩, h5⟩ Q q => ⟨c, xs, by rw [h1, show r = [] from h5, h2], .inl ⟨SqL.of h3, fun l hl => q _ _ (Ex.new hl) ⟨l, xs, rfl, upd_same, h4.up hR (Ex.new hl)⟩⟩⟩) hg (by decide) (by decide) he rfl
theorem eg_intI (hm : X.mg "int" = none) (ha : EG X e σ H (IsI i)) (hg : Gl X "int" := by rfl) (he : starEach [e] X.env = (false, eval e X.env) :: starEach [] X.env := by rfl) : EG X (.Call (.Name "int" p) [e] [] pos) σ H (IsI i) :=
  eg_callTy call_int1 hm rfl (ag_cons ha ag_nil he) (fun vs H1 _ ⟨v, r, h1, h2, h5⟩ Q q => .inl ⟨i, by rw [h1, show r = [] from h5, show v = _ from h2], q _ H1 (Ex.refl H1) rfl⟩) hg (by decide) (by decide) he rfl
theorem eg_intB {bb : Bool} (hm : X.mg "int" = none) (ha : EG X e σ H (IsB bb)) (hg : Gl X "int" := by rfl) (he : starEach [e] X.env = (false, eval e X.env) :: starEach [] X.env := by rfl) : EG X (.Call (.Name "int" p) [e] [] pos) σ H (IsI (if bb then 1 else 0)) :=
  eg_callTy call_int1 hm rfl (ag_cons ha ag_nil he) (fun vs H1 _ ⟨v, r, h1, h2, h5⟩ Q q => .inr ⟨bb, by rw [h1, show r = [] from h5, show v = _ from h2], q _ H1 (Ex.refl H1) rfl⟩) hg (by decide) (by decide) he rfl
theorem eg_abs (hm : X.mg "abs" = none) (ha : EG X e σ H (IsI i)) (hg : Gl X "abs" := by rfl) (he : starEach [e] X.env = (false, eval e X.env) :: starEach [] X.env := by rfl) : EG X (.Call (.Name "abs" p) [e] [] pos) σ H (IsI (i.natAbs : Int)) :=
  eg_callB L2.call_abs hm rfl (ag_cons ha ag_nil he) (fun vs H1 _ ⟨v, r, h1, h2, h5⟩ Q q => ⟨i, by rw [h1, show r = [] from h5, show v = _ from h2], q _ H1 (Ex.refl H1) (by show V.int _ = V.int _; congr 1; split <;> omega)⟩) hg (by decide) (by decide) he rfl
theorem eg_gcd {x : Str} (hm : X.mg x = some (.builtin "math.gcd")) (ha : EG X a σ H (IsI i)) (hb : EG X b σ H (IsI j)) (hg : Gl X x := by rfl) (hdb : (x == ("__debug__" : Str)) = false := by decide) (he : starEach [a, b] X.env = (false, eval a X.env) :: starEach [b] X.env := by rfl) (he2 : starEach [b] X.env = (false, eval b X.env) :: starEach [] X.env := by rfl)
    (hpl : (backTo pos (starEach [b] X.env)).any (·.1) = false := by rfl) : EG X (.Call (.Name x p) [a, b] [] pos) σ H (IsI ((Nat.gcd i.natAbs j.natAbs : Nat) : Int)) :=
  eg_callF cr_gcd hm (ag_cons ha (ag_cons hb ag_nil he2) he) (fun vs H1 _ ⟨v, r, h1, h2, w, r2, h3, h4, h5⟩ Q q => ⟨i, j, by rw [h1, h3, show r2 = [] from h5, show v = _ from h2, show w = _ from h4], q _ H1 (Ex.refl H1) rfl⟩) hg hdb he hpl
/-- math.lcm of two ints below 2 ^ 13000 -/
def rLcm : List V → Hp → VK → Prop := fun vs H Q => ∃ a b : Int, vs = [.int a, .int b] ∧ 0 < a ∧ 0 < b ∧ a.natAbs < 2 ^ 6000 ∧ b.natAbs < 2 ^ 6000 ∧ Q (.int ((Nat.lcm a.natAbs b.natAbs : Nat) : Int)) H
end
end G
set_option maxHeartbeats 4000000
namespace G
open PySem PySem.Spec PyProof.Rows L2 Evl
section
variable {X : Cx} {σ : L2.St} {H : Hp} {a b c e l : Expr} {es : List Expr} {pos p : Pos} {P P1 P2 P3 : Rep} {k : Nat} {sp : Sp} {C : Addr} {α : Type} {Qs : α → List Rep} {Post : α → Rep} {i j : Int} {bb : Bool}
/-! ### lcm -/
theorem lcm_log {n : Nat} (h : n < 2 ^ 13000) : ¬ n.log2 / 30 + 1 > 450 := by
  have : n.log2 ≤ 12999 := PySem.W.mg_log h
  omega
theorem cr_lcm : CallR X (.builtin "math.lcm") rLcm := by
  intro pins s σ H vs us Q I r ⟨a, b, h1, ha, hb, h2, h3, q⟩
  subst h1
  obtain ⟨t, u, rfl⟩ := Vals.int2 r
  have pw : (2 : Nat) ^ 6000 * 2 ^ 6000 = 2 ^ 12000 := by rw [← Nat.pow_add]
  have p13 : (2 : Nat) ^ 12000 ≤ 2 ^ 13000 := Nat.pow_le_pow_right (by decide) (by decide)
  have p6 : (2 : Nat) ^ 6000 ≤ 2 ^ 12000 := Nat.pow_le_pow_right (by decide) (by decide)
  have o6 : 1 ≤ (2 : Nat) ^ 6000 := Nat.one_le_two_pow
  have lt : a.natAbs.lcm b.natAbs < 2 ^ 12000 := by
    refine Nat.lt_of_le_of_lt (Nat.le_trans (Nat.div_le_self _ _) (Nat.le_refl _)) ?_
    rw [← pw]
    exact Nat.mul_lt_mul'' h2 h3
  have e1 : Nat.lcm 1 a.natAbs = a.natAbs := PySem.W.mc_lcm_one _
  have l1 : ¬ (max 1 a.natAbs).log2 / 30 + 1 > 450 := lcm_log (by omega)
  have l2 : ¬ (max a.natAbs b.natAbs).log2 / 30 + 1 > 450 := lcm_log (by omega)
  have hsz : ((((Nat.lcm 1 a.natAbs).lcm b.natAbs : Nat) : Int)).natAbs.log2 < bitsLine := by
    rw [e1, Int.natAbs_natCast]
    have z : (a.natAbs.lcm b.natAbs).log2 ≤ 12999 := PySem.W.mg_log (Nat.lt_of_lt_of_le lt p13)
    rw [bitsLine_eq]
    omega
  have g := PySem.W.mg_run_lcm a t b u l1 l2 hsz
  refine call_function_meets PySem.W.MGF.kind_lcm PySem.W.MGF.plain_lcm PySem.W.MGF.entry_lcm (PySem.W.MGF.args_lcm _ _) g.meets ?_
  exact ⟨.int _, H, I.tok _, ⟨_, by rw [e1]⟩, q⟩
theorem eg_lcm {x : Str} (hm : X.mg x = some (.builtin "math.lcm")) (h1 : 0 < i) (h2 : 0 < j) (h3 : i.natAbs < 2 ^ 6000) (h4 : j.natAbs < 2 ^ 6000) (ha : EG X a σ H (IsI i)) (hb : EG X b σ H (IsI j)) (hg : Gl X x := by rfl) (hdb : (x == ("__debug__" : Str)) = false := by decide)
    (he : starEach [a, b] X.env = (false, eval a X.env) :: starEach [b] X.env := by rfl) (he2 : starEach [b] X.env = (false, eval b X.env) :: starEach [] X.env := by rfl)
    (hpl : (backTo pos (starEach [b] X.env)).any (·.1) = false := by rfl) : EG X (.Call (.Name x p) [a, b] [] pos) σ H (IsI ((Nat.lcm i.natAbs j.natAbs : Nat) : Int)) :=
  eg_callF cr_lcm hm (ag_cons ha (ag_cons hb ag_nil he2) he) (fun vs H1 _ ⟨v, r, q1, q2, w, r2, q3, q4, q5⟩ Q q => ⟨i, j, by rw [q1, q3, show r2 = [] from q5, show v = _ from q2, show w = _ from q4], h1, h2, h3, h4, q _ H1 (Ex.refl H1) rfl⟩) hg hdb he hpl

/-! ### isinstance -/
structure IsiC (K : PySem.W.Frag) (C : Addr) : Prop where
  cl : Cls K C
  ha : PySem.W.findIn K (.ref C) "__class__" = some (some (.builtin "object.__class__"))
  hn : PySem.W.specialIn K (.builtin "object.__class__") "__get__" = some (some (.builtin "getset_descriptor.__get__"))
  ht : PySem.W.takesIn K (.builtin "object.__class__") = some true
  hm : PySem.W.mroIn K C (.type "object") = some true
theorem IsiC.ty {K : PySem.W.Frag} {v : V} (c : IsiC K C) (h : AtC C v H) : TyX K H v (.ref C) := by
  obtain ⟨a, dx, fs, h1, h2⟩ := h
  subst h1
  exact .base (.ins h2 c.cl c.ha c.hn c.ht c.hm)
theorem eg_isi {w : V} {u : Value} [h1 : Mono P1] (hm : X.mg "isinstance" = none) (ha : EG X a σ H P1) (hb : EG X b σ H (IsV w)) (hk : ClsV w u) (ht : ∀ v H, P1 v H → ∃ t, TyX X.K H v t ∧ PySem.W.kitOne X.K t u = some bb) (hg : Gl X "isinstance" := by rfl)
    (he : starEach [a, b] X.env = (false, eval a X.env) :: starEach [b] X.env := by rfl) (he2 : starEach [b] X.env = (false, eval b X.env) :: starEach [] X.env := by rfl) (hpl : (backTo pos (starEach [b] X.env)).any (·.1) = false := by rfl) :
    EG X (.Call (.Name "isinstance" p) [a, b] [] pos) σ H (IsB bb) :=
  eg_callB call_isi hm rfl (ag_cons ha (ag_cons hb ag_nil he2) he) (fun vs H1 _ ⟨v, r, q1, q2, x, r2, q3, q4, q5⟩ Q q => by
    obtain ⟨t, h3, h4⟩ := ht v H1 q2
    exact ⟨v, w, t, u, bb, by rw [q1, q3, show r2 = [] from q5, show x = _ from q4], hk, h3, h4, q _ H1 (Ex.refl H1) rfl⟩) hg (by decide) (by decide) he hpl
theorem eg_isiT {w1 w2 : V} {u1 u2 : Value} [h1 : Mono P1] (hm : X.mg "isinstance" = none) (ha : EG X a σ H P1) (hb : EG X b σ H (TupOf [IsV w1, IsV w2])) (k1 : ClsV w1 u1) (k2 : ClsV w2 u2) (ht : ∀ v H, P1 v H → ∃ t, TyX X.K H v t ∧ PySem.W.kitAny X.K t [u1, u2] = some bb) (hg : Gl X "isinstance" := by rfl)
    (he : starEach [a, b] X.env = (false, eval a X.env) :: starEach [b] X.env := by rfl) (he2 : starEach [b] X.env = (false, eval b X.env) :: starEach [] X.env := by rfl) (hpl : (backTo pos (starEach [b] X.env)).any (·.1) = false := by rfl) :
    EG X (.Call (.Name "isinstance" p) [a, b] [] pos) σ H (IsB bb) :=
  eg_callB call_isiT hm rfl (ag_cons ha (ag_cons hb ag_nil he2) he) (fun vs H1 _ ⟨v, r, q1, q2, x, r2, q3, ⟨tp, xs, z1, z2, y1, s1, z3, z4, y2, s2, z5, z6, z7⟩, q5⟩ Q q => by
    obtain ⟨t, h3, h4⟩ := ht v H1 q2
    refine ⟨v, tp, [w1, w2], t, [u1, u2], bb, by rw [q1, q3, show r2 = [] from q5, z1], ?_, .cons k1 (.cons k2 .nil), h3, h4, q _ H1 (Ex.refl H1) rfl⟩
    rw [z2, z3, z5, show s2 = [] from z7, show y1 = _ from z4, show y2 = _ from z6]) hg (by decide) (by decide) he hpl

/-! ### more arguments -/
/-- [.., *l] where l is a tuple, a list: behind it words one by one -/
def Args2 {α : Type} (Ps : List Rep) (R : α → Rep) (as : List α) : List V → Hp → Prop := fun xs H => ∃ ys zs, xs = ys ++ zs ∧ Args Ps ys H ∧ All2 R as zs H
/-- [e, *t] as a list of one kind -/
theorem eg_lstStar {R : α → Rep} {x : α} {as : List α} {px : Pos} [hR : ∀ a, Mono (R a)] (he : EG X e σ H (R x)) (hl : EG X l σ H (IsT R as)) (hz : as.length ≤ 1000) (hs : starEach [e, .Starred l px] X.env = (false, eval e X.env) :: starEach [.Starred l px] X.env := by rfl)
    (hs2 : starEach [.Starred l px] X.env = (true, eval l X.env) :: starEach [] X.env := by rfl) : EG X (.List [e, .Starred l px] pos) σ H (IsL R (x :: as)) :=
  eg_of (pe_lst (pa_cons pe_W (StX.pa_star pe_W pa_nil hs2) hs)) fun H1 e1 Q q => he H1 e1 _ fun v H2 e2 pv => hl H2 (e1.trans e2) _ fun w H3 e3 ⟨c, xs, h1, h2, h3⟩ => by
    have hx := h3.length
    refine ⟨c, xs, h1, .inl (SqT.of h2), ?_⟩
    refine ⟨sz_of ?_, fun d hd => q _ _ ((e2.trans e3).trans (Ex.new hd)) ⟨d, v :: xs, rfl, by rw [upd_same, List.append_nil], v, xs, rfl, (hR x).up (e3.trans (Ex.new hd)) pv, h3.up hR (Ex.new hd)⟩⟩
    rw [List.append_nil, List.length_cons, hx]
    exact Nat.le_trans (Nat.succ_le_succ hz) (by decide)
/-! ### targets -/
section
variable {rest : List Stmt} {D : Ends} {x y z : Str} {px py pz pt : Pos} {kt k2 : Nat} {spos : Pos}
/-- x, y = e, e a tuple of two -/
theorem b_two (i j : Nat) {pt : Pos} (hN : X.N.Nodup) (he : EG X e σ H (TupOf [P1, P2])) (k : ∀ v w H1, Ex H H1 → P1 v H1 → P2 w H1 → BW X rest D ((σ.set i (some v)).set j (some w)) H1)
    (hi : X.N[i]? = some x := by rfl) (hj : X.N[j]? = some y := by rfl) (hl : Loc X.env.scope x := by first | exact Or.inl rfl | exact Or.inr rfl) (hl2 : Loc X.env.scope y := by first | exact Or.inl rfl | exact Or.inr rfl) (hc : X.calm = true := by rfl)
    (hf : X.fn x = true ∨ X.env.scope.names.lookup x = some .local := by first | exact .inl rfl | exact .inr rfl) (hf2 : X.fn y = true ∨ X.env.scope.names.lookup y = some .local := by first | exact .inl rfl | exact .inr rfl)
    (hn : (assignEach [.Name x px, .Name y py] X.env).length = 2 := by rfl) (hst : (assignEach [.Name x px, .Name y py] X.env).findIdx? (·.1) = none := by rfl)
    (hs1 : (assignEach [.Name x px, .Name y py] X.env).map (·.2) = assign (.Name x px) X.env :: (assignEach [.Name y py] X.env).map (·.2) := by rfl) (hs2 : (assignEach [.Name y py] X.env).map (·.2) = assign (.Name y py) X.env :: (assignEach [] X.env).map (·.2) := by rfl)
    (hs : swapsWithSole [.Tuple [.Name x px, .Name y py] kt pt] e spos.line X.env = pure false := by rfl) (hw : swappedStores [.Tuple [.Name x px, .Name y py] kt pt] e X.env = pure none := by rfl)
    (h1 : (assignEach [.Tuple [.Name x px, .Name y py] kt pt] X.env).map (·.2) = [assign (.Tuple [.Name x px, .Name y py] kt pt) X.env] := by rfl) : BW X (.Assign [.Tuple [.Name x px, .Name y py] kt pt] e spos :: rest) D σ H :=
  b_of (ps_asg pe_W (pg_tup hc (pgs_cons (pg_name hN hi hl hf) (pgs_cons (pg_name hN hj hl2 hf2) pgs_nil hs2) hs1) hn hst) hs hw h1) (he H (Ex.refl H) _ fun v H1 e1 ⟨c, xs, q1, q2, v1, r1, q3, q4, v2, r2, q5, q6, q7⟩ => by
    refine ⟨c, xs, q1, SqT.of q2, by rw [q3, q5, show r2 = [] from q7]; rfl, v1, r1, q3, v2, r2, q5, q7, ?_⟩
    exact k v1 v2 H1 e1 q4 q6)
/-- x, y = a, b: right away -/
theorem b_par (i j : Nat) {pt2 : Pos} (hN : X.N.Nodup) [h1 : Mono P1] (ha : EG X a σ H P1) (hb : EG X b σ H P2) (hij : i ≠ j) (k : ∀ v w H1, Ex H H1 → P1 v H1 → P2 w H1 → BW X rest D ((σ.set i (some v)).set j (some w)) H1)
    (hw : swappedStores [.Tuple [.Name x px, .Name y py] kt pt] (.Tuple [a, b] k2 pt2) X.env = pure (some [x, y])) (hi : X.N[i]? = some x := by rfl) (hj : X.N[j]? = some y := by rfl) (hx : X.env.scope.names.lookup x = some .local := by rfl) (hy : X.env.scope.names.lookup y = some .local := by rfl) (hc : X.calm = true := by rfl)
    (he : starEach [a, b] X.env = (false, eval a X.env) :: starEach [b] X.env := by rfl) (he2 : starEach [b] X.env = (false, eval b X.env) :: starEach [] X.env := by rfl)
    (hs : swapsWithSole [.Tuple [.Name x px, .Name y py] kt pt] (.Tuple [a, b] k2 pt2) spos.line X.env = pure false := by rfl) : BW X (.Assign [.Tuple [.Name x px, .Name y py] kt pt] (.Tuple [a, b] k2 pt2) spos :: rest) D σ H :=
  b_of (ps_par hc hN hi hj hij hx hy (pa_cons pe_W (pa_cons pe_W pa_nil he2) he) hw hs) (ha H (Ex.refl H) _ fun v H1 e1 pv => hb H1 e1 _ fun w H2 e2 pw => ⟨v, w, rfl, k v w H2 (e1.trans e2) (h1.up e2 pv) pw⟩)
end
end
end G
set_option maxHeartbeats 4000000
namespace G
/-! ### rationals -/
theorem q_num {a b : Int} (hb : 0 < b) : a / ((Nat.gcd a.natAbs b.natAbs : Nat) : Int) = (Rat.divInt a b).num := by
  rw [Rat.num_divInt, Int.sign_eq_one_of_pos hb, Int.one_mul, Int.gcd, Nat.gcd_comm]
theorem q_den {a b : Int} (hb : 0 < b) : b / ((Nat.gcd a.natAbs b.natAbs : Nat) : Int) = ((Rat.divInt a b).den : Int) := by
  rw [Rat.den_divInt, if_neg (by omega), Int.gcd, Nat.gcd_comm]
  have : ((b.natAbs : Nat) : Int) = b := by omega
  rw [Int.natCast_ediv, this]
/-- of few bits -/
def Sm (n : Nat) (q : Rat) : Prop := q.num.natAbs < 2 ^ n ∧ q.den < 2 ^ n
theorem Sm.mono {n m : Nat} {q : Rat} (h : Sm n q) (k : n ≤ m) : Sm m q := ⟨Nat.lt_of_lt_of_le h.1 (Nat.pow_le_pow_right (by decide) k), Nat.lt_of_lt_of_le h.2 (Nat.pow_le_pow_right (by decide) k)⟩
theorem sm_div {n : Nat} {a b : Int} (hb : 0 < b) (h1 : a.natAbs < 2 ^ n) (h2 : b.natAbs < 2 ^ n) : Sm n (Rat.divInt a b) := by
  refine ⟨?_, ?_⟩
  · rw [← q_num hb]
    refine Nat.lt_of_le_of_lt ?_ h1
    rw [Int.natAbs_ediv_of_dvd (Int.natAbs_dvd_natAbs.mp (by rw [Int.natAbs_natCast]; exact Nat.gcd_dvd_left _ _))]
    exact Nat.div_le_self _ _
  · have e := q_den (a := a) hb
    have h3 : (Rat.divInt a b).den ≤ b.natAbs := by
      rw [Rat.den_divInt, if_neg (by omega)]
      exact Nat.div_le_self _ _
    exact Nat.lt_of_le_of_lt h3 h2
theorem q_dpos (q : Rat) : (0 : Int) < q.den := by
  have := q.den_pos
  omega
theorem q_add (a b : Rat) : Rat.divInt (a.num * b.den + b.num * a.den) (a.den * b.den) = a + b := by
  have e := Rat.divInt_add_divInt a.num b.num (d₁ := a.den) (d₂ := b.den) (by have := q_dpos a; omega) (by have := q_dpos b; omega)
  rw [Rat.num_divInt_den, Rat.num_divInt_den] at e
  exact e.symm
theorem q_sub (a b : Rat) : Rat.divInt (a.num * b.den - b.num * a.den) (a.den * b.den) = a - b := by
  have e := Rat.divInt_sub_divInt a.num b.num (d₁ := a.den) (d₂ := b.den) (by have := q_dpos a; omega) (by have := q_dpos b; omega)
  rw [Rat.num_divInt_den, Rat.num_divInt_den] at e
  exact e.symm
theorem q_mul (a b : Rat) : Rat.divInt (a.num * b.num) (a.den * b.den) = a * b := by
  have e := Rat.divInt_mul_divInt a.num b.num (d₁ := a.den) (d₂ := b.den)
  rw [Rat.num_divInt_den, Rat.num_divInt_den] at e
  exact e.symm
theorem q_neg (a : Rat) : Rat.divInt (-a.num) a.den = -a := by
  rw [← Rat.neg_divInt, Rat.num_divInt_den]
theorem q_int (i : Int) : Rat.divInt i 1 = (i : Rat) := by
  have := Rat.num_divInt_den (i : Rat)
  rwa [Rat.num_intCast, Rat.den_intCast] at this
theorem b_mul {n m : Nat} {i j : Int} (h1 : i.natAbs < 2 ^ n) (h2 : j.natAbs < 2 ^ m) : (i * j).natAbs < 2 ^ (n + m) := L2.wide_lt h1 h2
theorem b_add {n : Nat} {i j : Int} (h1 : i.natAbs < 2 ^ n) (h2 : j.natAbs < 2 ^ n) : (i + j).natAbs < 2 ^ (n + 1) := by
  rw [Nat.pow_succ]; omega
theorem b_sub {n : Nat} {i j : Int} (h1 : i.natAbs < 2 ^ n) (h2 : j.natAbs < 2 ^ n) : (i - j).natAbs < 2 ^ (n + 1) := by
  rw [Nat.pow_succ]; omega
theorem b_up {n m : Nat} {i : Int} (h : i.natAbs < 2 ^ n) (k : n ≤ m) : i.natAbs < 2 ^ m := Nat.lt_of_lt_of_le h (Nat.pow_le_pow_right (by decide) k)
theorem sm_den {n : Nat} {q : Rat} (h : Sm n q) : ((q.den : Int)).natAbs < 2 ^ n := by rw [Int.natAbs_natCast]; exact h.2
theorem add_top {n m : Nat} {a b : Rat} (h1 : Sm n a) (h2 : Sm m b) : (a.num * b.den + b.num * a.den).natAbs < 2 ^ (n + m + 1) := b_add (b_mul h1.1 (sm_den h2)) (by rw [Nat.add_comm n m]; exact b_mul h2.1 (sm_den h1))
theorem sub_top {n m : Nat} {a b : Rat} (h1 : Sm n a) (h2 : Sm m b) : (a.num * b.den - b.num * a.den).natAbs < 2 ^ (n + m + 1) := b_sub (b_mul h1.1 (sm_den h2)) (by rw [Nat.add_comm n m]; exact b_mul h2.1 (sm_den h1))
theorem den_bot {n m : Nat} {a b : Rat} (h1 : Sm n a) (h2 : Sm m b) : ((a.den : Int) * b.den).natAbs < 2 ^ (n + m) := b_mul (sm_den h1) (sm_den h2)
theorem den_pos2 (a b : Rat) : (0 : Int) < (a.den : Int) * b.den := Int.mul_pos (q_dpos a) (q_dpos b)
theorem sm_add {n m : Nat} {a b : Rat} (h1 : Sm n a) (h2 : Sm m b) : Sm (n + m + 1) (a + b) := by
  rw [← q_add]
  exact sm_div (den_pos2 a b) (add_top h1 h2) (b_up (den_bot h1 h2) (by omega))
theorem sm_sub {n m : Nat} {a b : Rat} (h1 : Sm n a) (h2 : Sm m b) : Sm (n + m + 1) (a - b) := by
  rw [← q_sub]
  exact sm_div (den_pos2 a b) (sub_top h1 h2) (b_up (den_bot h1 h2) (by omega))
theorem sm_mul {n m : Nat} {a b : Rat} (h1 : Sm n a) (h2 : Sm m b) : Sm (n + m) (a * b) := by
  rw [← q_mul]
  exact sm_div (den_pos2 a b) (b_mul h1.1 h2.1) (den_bot h1 h2)
theorem sm_neg {n : Nat} {a : Rat} (h : Sm n a) : Sm n (-a) := ⟨by rw [Rat.neg_num, Int.natAbs_neg]; exact h.1, h.2⟩
theorem sm_int {n : Nat} {i : Int} (h : i.natAbs < 2 ^ n) (h0 : 0 < n) : Sm n (i : Rat) := ⟨by rw [Rat.num_intCast]; exact h, by rw [Rat.den_intCast]; exact Nat.one_lt_two_pow (by omega)⟩
/-- signs -/
theorem q_sign_pos {q : Rat} : q.num.sign = 1 ↔ 0 < q := by
  rw [Int.sign_eq_one_iff_pos]
  have := Rat.num_nonneg (q := q)
  have := Rat.num_eq_zero (q := q)
  grind
theorem q_sign_neg {q : Rat} : q.num.sign = -1 ↔ q < 0 := by
  rw [Int.sign_eq_neg_one_iff_neg]
  have := Rat.num_nonneg (q := q)
  have := Rat.num_eq_zero (q := q)
  grind
theorem q_sign_zero {q : Rat} : q.num.sign = 0 ↔ q = 0 := by
  rw [Int.sign_eq_zero_iff_zero]
  exact Rat.num_eq_zero
end G
namespace G
/-! ### one bottom -/
def lcmF (qs : List Rat) : Nat := qs.foldl (fun b q => Nat.lcm b q.den) 1
theorem lcmF_snoc (qs : List Rat) (q : Rat) : lcmF (qs ++ [q]) = Nat.lcm (lcmF qs) q.den := by
  unfold lcmF
  rw [List.foldl_append]
  rfl
theorem lcm_fold_pos : ∀ (qs : List Rat) (b : Nat), 0 < b → 0 < qs.foldl (fun b q => Nat.lcm b q.den) b
  | [], _, h => h
  | q :: qs, b, h => lcm_fold_pos qs _ (Nat.lcm_pos h q.den_pos)
theorem lcmF_pos (qs : List Rat) : 0 < lcmF qs := lcm_fold_pos qs 1 Nat.one_pos
theorem lcm_fold_le {n : Nat} : ∀ (qs : List Rat) (b : Nat), (∀ q ∈ qs, q.den < 2 ^ n) → qs.foldl (fun b q => Nat.lcm b q.den) b ≤ b * 2 ^ (n * qs.length)
  | [], b, _ => by simp
  | q :: qs, b, h => by
    have h1 := lcm_fold_le qs (Nat.lcm b q.den) fun p hp => h p (List.mem_cons_of_mem _ hp)
    have h2 : Nat.lcm b q.den ≤ b * 2 ^ n := Nat.le_trans (Nat.div_le_self _ _) (Nat.mul_le_mul_left _ (Nat.le_of_lt (h q (List.mem_cons_self ..))))
    refine Nat.le_trans h1 (Nat.le_trans (Nat.mul_le_mul_right _ h2) ?_)
    rw [List.length_cons, Nat.mul_add, Nat.mul_one, Nat.pow_add, Nat.mul_assoc, Nat.mul_comm (2 ^ n)]
    exact Nat.le_refl _
theorem lcmF_lt {n k : Nat} {qs : List Rat} (h : ∀ q ∈ qs, Sm n q) (hk : n * qs.length < k) : lcmF qs < 2 ^ k := by
  have h1 := lcm_fold_le qs 1 fun q hq => (h q hq).2
  rw [Nat.one_mul] at h1
  exact Nat.lt_of_le_of_lt h1 (Nat.pow_lt_pow_right (by decide) hk)
theorem lcm_fold_dvd0 : ∀ (qs : List Rat) (b : Nat), b ∣ qs.foldl (fun b q => Nat.lcm b q.den) b
  | [], b => Nat.dvd_refl b
  | q :: qs, b => Nat.dvd_trans (Nat.dvd_lcm_left b q.den) (lcm_fold_dvd0 qs _)
theorem lcm_fold_dvd : ∀ (qs : List Rat) (b : Nat) (q : Rat), q ∈ qs → q.den ∣ qs.foldl (fun b q => Nat.lcm b q.den) b
  | p :: qs, b, q, h => by
    rcases List.mem_cons.mp h with h | h
    · rw [h]
      exact Nat.dvd_trans (Nat.dvd_lcm_right b p.den) (lcm_fold_dvd0 qs _)
    · exact lcm_fold_dvd qs _ q h
theorem lcmF_dvd {qs : List Rat} {q : Rat} (h : q ∈ qs) : q.den ∣ lcmF qs := lcm_fold_dvd qs 1 q h
/-- over the one bottom -/
def overQ (L : Nat) (q : Rat) : Int := q.num * ((L : Int) / q.den)
theorem overQ_eq {L : Nat} {q : Rat} (h : q.den ∣ L) : ((overQ L q : Int) : Rat) = q * (L : Rat) := by
  obtain ⟨c, hc⟩ := h
  have hd := q_dpos q
  have e1 : (L : Int) / q.den = c := by
    rw [hc, Int.natCast_mul, Int.mul_ediv_cancel_left _ (by omega)]
  have e2 : (q.num : Rat) = q * (q.den : Rat) := by
    have e := Rat.num_divInt_den q
    rw [Rat.divInt_eq_div] at e
    have hd2 : ((q.den : Int) : Rat) ≠ 0 := by
      intro z
      have : (q.den : Int) = 0 := by exact_mod_cast z
      omega
    have e3 : (q.num : Rat) = q * ((q.den : Int) : Rat) := by
      have := Rat.div_mul_cancel (a := (q.num : Rat)) hd2
      rw [e] at this
      exact this.symm
    exact e3
  unfold overQ
  rw [e1, hc, Rat.intCast_mul, e2, Rat.natCast_mul]
  rw [Rat.mul_assoc]
  rfl
end G
namespace G
/-! ### squares -/
def sumQ : List Rat → Rat
  | [] => 0
  | q :: qs => q * q + sumQ qs
def sqQ (t : Rat) (ps : List Rat) : Rat := t * t - sumQ ps
theorem sum_int {L : Nat} : ∀ (ps : List Rat), (∀ q ∈ ps, q.den ∣ L) → ((((ps.map (overQ L)).map fun n => n * n).sum : Int) : Rat) = sumQ ps * ((L : Rat) * L)
  | [], _ => by
    show ((0 : Int) : Rat) = 0 * _
    rw [Rat.zero_mul]
    rfl
  | q :: qs, h => by
    have h1 := sum_int qs fun p hp => h p (List.mem_cons_of_mem _ hp)
    have h2 := overQ_eq (h q (List.mem_cons_self ..))
    show (((overQ L q * overQ L q + ((qs.map (overQ L)).map fun n => n * n).sum : Int)) : Rat) = (q * q + sumQ qs) * _
    rw [Rat.intCast_add, Rat.intCast_mul, h1, h2]
    grind
theorem sq_div {L : Nat} {t : Rat} {ps : List Rat} (hL : 0 < L) (ht : t.den ∣ L) (h : ∀ q ∈ ps, q.den ∣ L) :
    Rat.divInt (overQ L t * overQ L t - ((ps.map (overQ L)).map fun n => n * n).sum) ((L : Int) * L) = sqQ t ps := by
  have h1 := sum_int ps h
  have h2 := overQ_eq ht
  rw [Rat.divInt_eq_div, Rat.intCast_sub, Rat.intCast_mul, Rat.intCast_mul, h1, h2]
  have e : ((L : Int) : Rat) = (L : Rat) := rfl
  have hz : (L : Rat) * L ≠ 0 := by
    have : (0 : Rat) < (L : Rat) := by exact_mod_cast (Rat.natCast_pos.mpr hL)
    have := Rat.mul_pos this this
    exact Rat.ne_of_gt this
  rw [e]
  unfold sqQ
  have k : t * ↑L * (t * ↑L) - sumQ ps * (↑L * ↑L) = (t * t - sumQ ps) * ((L : Rat) * L) := by grind
  rw [k, Rat.mul_div_cancel hz]
theorem over_bits {n k : Nat} {L : Nat} {q : Rat} (h : Sm n q) (hL : L < 2 ^ k) : (overQ L q).natAbs < 2 ^ (n + k) := by
  unfold overQ
  refine b_mul h.1 ?_
  have hd := q_dpos q
  refine Nat.lt_of_le_of_lt ?_ hL
  rw [← Int.natCast_ediv, Int.natAbs_natCast]
  exact Nat.div_le_self _ _
theorem sum_bits {k m : Nat} : ∀ (ns : List Int), (∀ n ∈ ns, n.natAbs < 2 ^ k) → ns.length ≤ m → ns.sum.natAbs ≤ m * 2 ^ k
  | [], _, _ => by
    show (0 : Nat) ≤ _
    exact Nat.zero_le _
  | n :: ns, h, hl => by
    have h1 := sum_bits (m := ns.length) ns (fun x hx => h x (List.mem_cons_of_mem _ hx)) (Nat.le_refl _)
    have h2 := h n (List.mem_cons_self ..)
    have h3 : (ns.length + 1) * 2 ^ k ≤ m * 2 ^ k := Nat.mul_le_mul_right _ hl
    rw [Nat.add_mul, Nat.one_mul] at h3
    rw [List.sum_cons]
    omega
def kindQ (t s : Rat) : PySem.Str := if s < 0 then "apart" else if t = 0 then "nothing" else if 0 < t then "forward" else "backward"
/-- products -/
def prodF (qs : List (Rat × Rat)) (a : Rat) : Rat := qs.foldl (fun a q => a - q.1 * q.2) a
theorem prodF_snoc (qs : List (Rat × Rat)) (a : Rat) (q : Rat × Rat) : prodF (qs ++ [q]) a = prodF qs a - q.1 * q.2 := by
  unfold prodF
  rw [List.foldl_append]
  rfl
end G
set_option maxHeartbeats 4000000
namespace G
open PySem PySem.Spec PyProof.Rows L2 Evl
theorem ints_can : ∀ cs : List Int, PyData.canLayAll0 (cs.map PyData.int) = true
  | [] => rfl
  | c :: cs => by
    show (true && PyData.canLayAll0 (cs.map PyData.int)) = true
    rw [ints_can cs]
    rfl
theorem ints_dep : ∀ cs : List Int, PyData.depthAll (cs.map PyData.int) = 0
  | [] => rfl
  | c :: cs => by
    show max 0 (PyData.depthAll (cs.map PyData.int)) = 0
    rw [ints_dep cs]
    rfl
theorem ints_sh (cs : List Int) : SeqAt.shaped (.list (cs.map PyData.int)) = true := by
  unfold SeqAt.shaped
  rw [show PyData.canLay0 (.list (cs.map PyData.int)) = true from ints_can cs, show PyData.depth (.list (cs.map PyData.int)) = 1 from by show PyData.depthAll (cs.map PyData.int) + 1 = 1; rw [ints_dep]]
  rfl
theorem ints_dp {K : PySem.W.Frag} {H : Hp} : ∀ cs : List Int, DpAll K H (cs.map V.int) (cs.map PyData.int)
  | [] => .nil
  | c :: cs => .cons (.int c) (ints_dp cs)
theorem ints_eqv (cs : List Int) : PyData.eqv (.list (cs.map PyData.int)) (.list []) = cs.isEmpty := by
  cases cs <;> rfl
theorem args_at {Ps : List Rep} {xs : List V} {H : Hp} : ∀ {n : Nat} {P : Rep}, Args Ps xs H → Ps[n]? = some P → ∃ v, xs[n]? = some v ∧ P v H := by
  intro n
  induction n generalizing Ps xs with
  | zero =>
    intro P h hp
    cases Ps with
    | nil => simp at hp
    | cons A As =>
      obtain ⟨x, r, h1, h2, _⟩ := h
      simp at hp
      subst hp h1
      exact ⟨x, rfl, h2⟩
  | succ n ih =>
    intro P h hp
    cases Ps with
    | nil => simp at hp
    | cons A As =>
      obtain ⟨x, r, h1, h2, h3⟩ := h
      obtain ⟨v, hv, hP⟩ := ih h3 (show As[n]? = some P by simpa using hp)
      subst h1
      exact ⟨v, by simpa using hv, hP⟩
section
variable {X : Cx} {σ : L2.St} {H : Hp} {a b e : Expr} {pos p : Pos} {P : Rep} {Ps : List Rep} {k : Nat}
theorem cg_neNil {cs : List Int} (hr : Room k X.A) (ha : EG X a σ H (IsL IsI cs)) (hb : EG X b σ H (LstOf [])) : CG X .NotEq a b σ H (!cs.isEmpty) :=
  cg_of (op_neD hr.units) ha hb fun x y H1 _ ⟨c, xs, q1, q2, q3⟩ ⟨d, ys, q4, q5, q6⟩ Q q => by
    have e1 := all2_ints q3
    have e2 : ys = [] := q6
    subst q1 q4 e1 e2
    refine ⟨.list (cs.map .int), .list [], .lst (SqL.of q2) (ints_dp cs), .lst (SqL.of q5) .nil, ints_sh cs, ints_sh [], ?_⟩
    rw [ints_eqv]
    exact q H1 (Ex.refl H1)
/-- a[n], a a list told one by one -/
theorem eg_ixA {n : Nat} (ha : EG X a σ H (LstOf Ps)) [hm : MonoA Ps] (hb : EG X b σ H (IsI (n : Int))) (hx : Ps[n]? = some P) (hs : PlainIx b := by exact fun _ _ => rfl) : EG X (.Subscript a b pos) σ H P :=
  eg_of (pe_ix ix_list pe_W pe_W hs) (ep_op ha hb fun v y H1 _ ⟨q, xs, h1, h2, h3⟩ py Q qq => by
    obtain ⟨w, hw, rw⟩ := args_at h3 hx
    exact ⟨q, xs, n, w, h1, py, SqL.of h2, atI_nat hw, qq w H1 (Ex.refl H1) rw⟩)
theorem eg_ixB {n : Nat} (ha : EG X a σ H (TupOf Ps)) [hm : MonoA Ps] (hb : EG X b σ H (IsI (n : Int))) (hx : Ps[n]? = some P) (hs : PlainIx b := by exact fun _ _ => rfl) : EG X (.Subscript a b pos) σ H P :=
  eg_of (pe_ix ix_tup pe_W pe_W hs) (ep_op ha hb fun v y H1 _ ⟨q, xs, h1, h2, h3⟩ py Q qq => by
    obtain ⟨w, hw, rw⟩ := args_at h3 hx
    exact ⟨q, xs, n, w, h1, py, SqT.of h2, atI_nat hw, qq w H1 (Ex.refl H1) rw⟩)
/-- a[n] = e of a tracked list -/
theorem b_setix {n : Nat} {c : Addr} {xs : List V} {rest : List Stmt} {D : Ends} {spos : Pos} (hm : Mono P) (he : EG X e σ H P) (ha : ∀ H1, Ex H H1 → EG X a σ H1 (IsV (.ref c))) (hb : ∀ H1, Ex H H1 → EG X b σ H1 (IsI (n : Int))) (hc : H c = some (.lst xs)) (hn : n < xs.length)
    (k : ∀ v H1, Ex H H1 → P v H1 → BW X rest D σ (upd H1 c (.lst (xs.set n v)))) (hs : swapsWithSole [.Subscript a b pos] e spos.line X.env = pure false := by rfl) (hw : swappedStores [.Subscript a b pos] e X.env = pure none := by rfl)
    (h1 : (assignEach [.Subscript a b pos] X.env).map (·.2) = [assign (.Subscript a b pos) X.env] := by rfl)
    (hpa : ∀ v, assign (.Subscript a b pos) X.env v = (do
      let ov ← holding [v] (eval a X.env)
      let iv ← holding [v, ov] (eval b X.env)
      standAt pos
      holding [v, ov, iv] (setItem ov iv v)
      release [v, ov, iv] []) := by intro _; rfl) : BW X (.Assign [.Subscript a b pos] e spos :: rest) D σ H :=
  b_of (ps_asg pe_W (pg_sub pe_W pe_W set_list hpa) hs hw h1) (he H (Ex.refl H) _ fun v H1 e1 pv => ha H1 e1 H1 (Ex.refl H1) _ fun o H2 e2 ho => hb H2 (e1.trans e2) H2 (Ex.refl H2) _ fun i H3 e3 hi => by
    have x3 := (e1.trans e2).trans e3
    refine ⟨c, xs, n, n, ho, hi, x3 _ _ hc, ?_, k v H3 x3 (hm.up (e2.trans e3) pv)⟩
    unfold ixN
    rw [if_pos (by omega), if_pos (by omega), Int.toNat_natCast])
end
end G
set_option maxHeartbeats 4000000
/-! an own exception class called with keywords -/
namespace PySem.GX
open PySem PySem.W PySem.Calls PyProof.Rows PySem.HandSPX
section
variable {M : Model} {A : Around} {E : Value → Shared → Prop} {hh : Heap} {gg : Array GenState} {dr : Drawn} {tk : Nat} {oz : OsState}
variable {cn cq : Str} {C N : Addr} {bases mr mrB : List Value} {hdi : Bool} {sln : List Str} {subs : List Value} {abst : Bool} {coll : Option Bool} {dcx : Option Addr} {m0 m1 m2 m3 m5 : Option Value} {B newId initId : String} {kw : List (Str × Value)}
theorem xk_check (F : ExcBaseFacts B newId initId mrB) (hT : ∀ X : String, mr.contains (.type X) = mrB.contains (.type X)) {rest : List Value} {Q : Unit → Shared → Prop}
    (hC : hh.get? C = some (excClassObj cn cq C N bases mr hdi sln subs abst coll dcx m0 m1 m2 m3 m5 newId)) (hq : Q () ⟨hh, gg, dr, tk, oz⟩) : wpAny M A (checkBuiltinCall newId ⟨.ref C :: rest, kw⟩) Q E ⟨hh, gg, dr, tk, oz⟩ := by
  have inB : (Value.ref C :: mr).contains (.type B) = true := by
    rw [List.contains_cons, hT, F.hasB, Bool.or_true]
  have nst := F.noStar
  simp only [checkBuiltinCall, F.newKind, F.newSplit, F.newRow]
  repeat (first | refine wpAny_loadPart_at hC ?_ | (refine wpAny_isSubtype_exc hC ?_; rw [inB]) | refine wpAny_staticBase_exc hC ?_ | refine wpAny_madeBy_exc hC ?_ | simp only [bne_self_eq_false, Bool.false_eq_true, if_false] | wp_step)
  exact hq
end
section
variable {prog : Program} {w : World} {A : Around} {E : Value → Shared → Prop} {R : Result → Shared → Prop} {hh : Heap} {gg : Array GenState} {dr : Drawn} {tk : Nat} {oz : OsState}
variable {cn cq : Str} {C N : Addr} {bases mr mrB : List Value} {hdi : Bool} {sln : List Str} {subs : List Value} {abst : Bool} {coll : Option Bool} {dcx : Option Addr} {m0 m1 m2 m3 m5 : Option Value} {B newId initId : String} {kw : List (Str × Value)}
theorem xk_new (F : ExcBaseFacts B newId initId mrB) (hT : ∀ X : String, mr.contains (.type X) = mrB.contains (.type X)) {rest : List Value}
    (hC : hh.get? C = some (excClassObj cn cq C N bases mr hdi sln subs abst coll dcx m0 m1 m2 m3 m5 newId))
    (hq : R (.ok (.ret (.ref (hh.objs.size + 1)))) ⟨(hh.push (kdv_tup rest)).push (excO C hh.objs.size), gg, dr, tk, oz⟩) (hl : rest.length ≤ sizeLine) :
    codeAny (model prog w) A (.builtin newId ⟨.ref C :: rest, kw⟩) R ⟨hh, gg, dr, tk, oz⟩ := by
  have ends := F.ends
  have inB : (Value.ref C :: mr).contains (.type B) = true := by
    rw [List.contains_cons, hT, F.hasB, Bool.or_true]
  have noA : (Value.ref C :: mr).contains (.type "AttributeError") = false := by
    rw [List.contains_cons, hT, F.noAttr]
    rfl
  have noN : (Value.ref C :: mr).contains (.type "NameError") = false := by
    rw [List.contains_cons, hT, F.noName]
    rfl
  refine codeAny_builtinAt F.entry ?_
  unfold Builtin.«BaseException.__new__»
  refine wpAt_bind ?_
  show wpAt _ _ _ (stack >>= _) _ _ _
  refine wpAt_bind (wpAt_stack fun p below => wpAt_of_wpAny ?_)
  wp_walk
  refine wpAt_of_wpAny ?_
  rw [F.owner]
  repeat (first | with_reducible refine wpAny_madeHere_exc F.canon hC ?_ | with_reducible refine wpAny_loadPart_at hC ?_ | (with_reducible refine wpAny_isSubtype_exc hC ?_; first | rw [inB] | rw [noA] | rw [noN]) | wp_step)
  show R _ _
  rw [Heap.size_push]
  exact hq
theorem xk_type (F : ExcBaseFacts B newId initId mrB) (hT : ∀ X : String, mr.contains (.type X) = mrB.contains (.type X)) {rest : List Value} {fI : Addr} {Q : Fin → Shared → Prop}
    (hC : hh.get? C = some (excClassObj cn cq C N bases mr hdi sln subs abst coll dcx m0 m1 m2 m3 m5 newId))
    (hi : Looks (model prog w) hh (typeLookup (.ref C) "__init__") (some (.ref fI))) (hb : ∀ self, Looks (model prog w) hh (bindSpecial (.ref fI) self) (.ref fI, [self])) (hl : rest.length ≤ sizeLine)
    (hq : codeAny (model prog w) A (.call (.ref fI) ⟨.ref (hh.objs.size + 1) :: rest, kw⟩)
      (fun r s2 => match r with | .ok (.ret v) => v = .none ∧ Q (.done (.ret (.ref (hh.objs.size + 1)))) s2 | .ok _ => False | .error e => E e s2) ⟨(hh.push (kdv_tup rest)).push (excO C hh.objs.size), gg, dr, tk, oz⟩) :
    wpAny (model prog w) A (Builtin.«type.__call__» ⟨.ref C :: rest, kw⟩) Q E ⟨hh, gg, dr, tk, oz⟩ := by
  repeat (first | with_reducible refine wpAny_loadPart_at hC ?_ | with_reducible refine wpAny_madeBy_exc hC ?_ | wp_step)
  refine codeAny_call_builtin_code (Code.quiet_builtin _ F.quiet) (xk_check F hT hC ?_)
  refine xk_new F hT hC ?_ hl
  show wpAny _ _ _ _ _ _
  have kp : ∀ b o, hh.get? b = some o → ((hh.push (kdv_tup rest)).push (excO C hh.objs.size)).get? b = some o := fun b o q => Heap.get?_push_of_some _ (Heap.get?_push_of_some _ q)
  have hC2 := kp _ _ hC
  have at2 : ((hh.push (kdv_tup rest)).push (excO C hh.objs.size)).get? (hh.objs.size + 1) = some (excO C hh.objs.size) := by heap_get
  have inC : (Value.ref C :: mr).contains (.ref C) = true := by simp
  have i2 := hi.keeps kp
  have b2 := (hb (.ref (hh.objs.size + 1))).keeps kp
  unfold isInstance
  repeat (first | with_reducible refine wpAny_loadPart_at at2 ?_ | (with_reducible refine wpAny_isSubtype_exc hC2 ?_; rw [inC]) | wp_step)
  show wpAny _ _ (typeLookup (.ref C) _) _ _ _
  refine i2.at ?_
  refine wpAny_holding (wpAny_bind (b2.at ?_))
  refine wpAny_bind (wpAny_call (codeAny_mono hq fun r s2 z => ?_))
  rcases r with e | (v | _ | _ | _) <;> first | exact z | exact z.elim | skip
  obtain ⟨rfl, z⟩ := z
  first
    | exact wpAny_pure (wpAny_pure z)
    | (wp_walk; exact z)
theorem xk_call (F : ExcBaseFacts B newId initId mrB) (hT : ∀ X : String, mr.contains (.type X) = mrB.contains (.type X)) {rest : List Value} {fI : Addr}
    (hC : hh.get? C = some (excClassObj cn cq C N bases mr hdi sln subs abst coll dcx m0 m1 m2 m3 m5 newId))
    (hi : Looks (model prog w) hh (typeLookup (.ref C) "__init__") (some (.ref fI))) (hb : ∀ self, Looks (model prog w) hh (bindSpecial (.ref fI) self) (.ref fI, [self])) (hl : rest.length ≤ sizeLine)
    (hq : codeAny (model prog w) (A.under (.builtin "type.__call__" ⟨.ref C :: rest, kw⟩)) (.call (.ref fI) ⟨.ref (hh.objs.size + 1) :: rest, kw⟩) (InitBack (hh.objs.size + 1) R)
      ⟨(hh.push (kdv_tup rest)).push (excO C hh.objs.size), gg, dr, tk, oz⟩) : codeAny (model prog w) A (.call (.ref C) ⟨rest, kw⟩) R ⟨hh, gg, dr, tk, oz⟩ := by
  have f1 := tc_lookup
  have f2 := tc_bind (.ref C)
  have isT : (⟨hh, gg, dr, tk, oz⟩ : Shared).TypeIs (.ref C) "type" := ⟨_, hC, rfl⟩
  refine codeAny_of_tree ?_
  show wpAny _ _ (callAny (.ref C) _) _ _ _
  repeat (any_goals (first | assumption | with_reducible refine wpAny_loadPart_at hC ?_ | wp_step))
  refine ⟨rfl, ?_⟩
  refine codeAny_call_builtin_at (Code.quiet_builtin _ (by decide +kernel)) entry_typeCall (wpAny_check_type_call_sub hC (xk_type F hT hC hi hb hl ?_))
  refine codeAny_mono hq fun r s2 z => ?_
  rcases r with e | (v | _ | _ | _) <;> exact z
end
end PySem.GX
set_option maxHeartbeats 4000000
/-! exceptions as values: made, with and without keywords, their fields read, isinstance -/
namespace L2
open PySem PySem.Spec PyProof.Rows
section
variable {X : Cx} {pins : List (Addr × Obj)} {σ : St} {H : Hp} {s : Shared} {Q : VK} {C fI : Addr} {k : Nat} {fd : FuncData} {ps : List Str} {sp : Sp} {us : List Value}
theorem gx_run (T : OexC X.K C) (iC : PySem.W.findIn X.K (.ref C) "__init__" = some (some (.ref fI))) (tI : PySem.W.typeIn X.K (.ref fI) = some (.type "function"))
    (F1 : FnOk X.prog X.w X.K X.mg X.base CX0 k fI fd ps sp) (hr : Room (k + 1) X.A) (kw : List (Str × Value)) (al : Addr → List Value) (vl : Addr → List V)
    (hbt : ∀ a (s2 : Shared), X.K.In s2.heap → BindsTo s2 fd ⟨.ref a :: us, kw⟩ (ps.zip (al a))) (hv : ∀ a, Vals (vl a) (al a)) (hus : us.length ≤ sizeLine) (I : Inv X pins σ H s)
    (h : ∀ a, H a = none → sp (vl a) (upd H a (exo a C none)) (fun v H3 => v = .non ∧ Q (.ref a) H3) (fun _ _ _ => False)) : wpAny (model X.prog X.w) X.A (call (.ref C) us kw) (EP X pins σ Q) X.xe s := by
  obtain ⟨nm, q, N, bs, bm, sn, sub, ab, col, dd, k0, k1, k2, k3, k5, hC, hbm⟩ := T.cls
  obtain ⟨hp, g, dr, tk, os⟩ := s
  have hsz : hp.objs.size ≤ hp.objs.size + 1 := Nat.le_succ _
  have hn : H (hp.objs.size + 1) = none := I.hok.fresh hsz
  have hq := h (hp.objs.size + 1) hn
  have kk : ∀ b o, hp.get? b = some o → ((hp.push (PySem.W.kdv_tup us)).push (PySem.HandSPX.excO C hp.objs.size)).get? b = some o := fun b o e => Heap.get?_push_of_some _ (Heap.get?_push_of_some _ e)
  have at2 : ((hp.push (PySem.W.kdv_tup us)).push (PySem.HandSPX.excO C hp.objs.size)).get? (hp.objs.size + 1) = some (PySem.HandSPX.excO C hp.objs.size) := by heap_get
  have I2 : Inv X pins σ (upd H (hp.objs.size + 1) (exo (hp.objs.size + 1) C none)) ⟨(hp.push (PySem.W.kdv_tup us)).push (PySem.HandSPX.excO C hp.objs.size), g, dr, tk, os⟩ :=
    I.laid (t' := tk) (a := hp.objs.size + 1) (o := exo (hp.objs.size + 1) C none) (h' := (hp.push (PySem.W.kdv_tup us)).push (PySem.HandSPX.excO C hp.objs.size)) kk hsz (exo_ok at2)
  refine wpAny_call (PySem.GX.xk_call F.excBase_ValueError (fun Y => PySem.HandSPX.refsVE_contains Y bm hbm) (I.kIn _ _ hC) (PySem.W.looks_findIn I.kIn iC) (fun self => PySem.W.bind_fn I.kIn self tI) hus
    (codeAny_mono (F1.run _ X.stack _ _ ⟨Value.ref (hp.objs.size + 1) :: us, kw⟩ (al (hp.objs.size + 1)) _ _ (fun _ _ _ => False) (hr.make C us kw) (I2.env0.make C us kw) (hbt _ _ I2.kIn) (hv _) hq) fun r s2 hq2 => ?_))
  cases r with
  | error er => exact pass0 pins σ _ _ er s2 I2 hq2
  | ok fl =>
    cases fl with
    | ret u =>
      obtain ⟨v, H2, I3, rv, ev, q3⟩ := I2.after hq2
      subst ev
      exact ⟨rv, ⟨V.ref (hp.objs.size + 1), H2, I3, rfl, q3⟩⟩
    | next => exact False.elim hq2
    | brk => exact False.elim hq2
    | cont => exact False.elim hq2
end
/-- C(e, ..): the exception stays tracked -/
def tMkX (C : Addr) (sp : Sp) (ta : TA) : TE := fun σ H Q => ta σ H fun vs H1 => vs.length ≤ 1000 ∧ ∀ a, H1 a = none → sp (.ref a :: vs) (upd H1 a (exo a C none)) (fun v H3 => v = .non ∧ Q (.ref a) H3) (fun _ _ _ => False)
def tMkXK (C : Addr) (sp : Sp) (m : Nat) (gV : List V → List V → List V) (tk : TA) : TE := fun σ H Q => tk σ H fun zs H1 => zs.length = m ∧ ∀ a, H1 a = none → sp (gV [.ref a] zs) (upd H1 a (exo a C none)) (fun v H3 => v = .non ∧ Q (.ref a) H3) (fun _ _ _ => False)
section
variable {X : Cx} {C fI : Addr} {k : Nat} {fd : FuncData} {ps ks : List Str} {sp : Sp} {x : Str} {e : Expr} {es : List Expr} {kws : List Keyword} {ta tk : TA} {p pos : Pos} {g : List Value → List Value → List Value} {gV : List V → List V → List V}
theorem pe_mkX (T : OexC X.K C) (iC : PySem.W.findIn X.K (.ref C) "__init__" = some (some (.ref fI))) (tI : PySem.W.typeIn X.K (.ref fI) = some (.type "function"))
    (F1 : FnOk X.prog X.w X.K X.mg X.base CX0 k fI fd ps sp) (hr : Room (k + 1) X.A) (hb : Binds X.K fd ps []) (hm : X.mg x = some (.ref C)) (ha : PA X (e :: es) ta) (hg : Gl X x) (hdb : (x == ("__debug__" : Str)) = false := by decide)
    (he : starEach (e :: es) X.env = (false, eval e X.env) :: starEach es X.env := by rfl) (hpl : (backTo pos (starEach es X.env)).any (·.1) = false := by rfl) : PE X (.Call (.Name x p) (e :: es) [] pos) (tMkX C sp ta) := by
  refine ⟨fun pins s σ H Q I h => ?_⟩
  refine wpAny_Call_Name_kw (ld_glob I hg hm ?_ hdb)
  refine PySem.W.callWith_K (h₀ := X.base) I.ok.mod.kin T.kC (thn (ha.run pos pins s σ H _ I h) fun us s1 ⟨vs, H1, I1, r1, hz, q1⟩ => ⟨I1.kIn, ?_⟩) he hpl
  have hus : us.length ≤ sizeLine := by
    rw [← Paired.length r1, sizeLine_eq]
    omega
  refine gx_run T iC tI F1 hr [] (fun a => .ref a :: us) (fun a => .ref a :: vs) (fun a s2 K2 => ?_) (fun a => .cons rfl r1) hus I1 q1
  have l2 := F1.len _ _ _ _ (q1 (s1.heap.objs.size) (I1.hok.fresh (Nat.le_refl _)))
  have z := hb s2 (.ref a :: us) K2 (by rw [List.append_nil, List.length_cons, ← Paired.length r1]; exact l2)
  rwa [List.append_nil] at z
theorem pe_mkXK (T : OexC X.K C) (iC : PySem.W.findIn X.K (.ref C) "__init__" = some (some (.ref fI))) (tI : PySem.W.typeIn X.K (.ref fI) = some (.type "function"))
    (F1 : FnOk X.prog X.w X.K X.mg X.base CX0 k fI fd ps sp) (hr : Room (k + 1) X.A) (hb : KBn X.K fd ps 1 ks g gV) (hm : X.mg x = some (.ref C)) (hk : PK X kws tk) (hg : Gl X x)
    (hall : (backToKw pos (keywordEach kws X.env)).all (·.1.isSome) = true := by rfl) (hks : (backToKw pos (keywordEach kws X.env)).filterMap (·.1) = ks := by rfl) (hdb : (x == ("__debug__" : Str)) = false := by decide)
    (hpl : ((backTo pos (starEach [] X.env)).any (·.1) || (backToKw pos (keywordEach kws X.env)).any (·.1.isNone)) = false := by rfl) : PE X (.Call (.Name x p) [] kws pos) (tMkXK C sp ks.length gV tk) := by
  refine ⟨fun pins s σ H Q I h => ?_⟩
  refine wpAny_Call_Name_kw (ld_glob I hg hm ?_ hdb)
  refine PySem.W.callWith_KW0 (h₀ := X.base) I.ok.mod.kin T.kC hall ?_ hpl
  refine thn (hk.run pos pins s σ H _ I h) fun ws s2 ⟨zs, H2, I2, rz, l2, q2⟩ => ⟨I2.kIn, ?_⟩
  rw [hks]
  refine gx_run (us := []) T iC tI F1 hr (ks.zip ws) (fun a => g [.ref a] ws) (fun a => gV [.ref a] zs) (fun a s3 K3 => hb.to s3 [.ref a] ws K3 rfl (rz.length.symm.trans l2)) (fun a => hb.rel (.cons rfl .nil) rz) (by show 0 ≤ sizeLine; exact Nat.zero_le _) I2 q2
/-- C(), C without an own __init__ -/
theorem pe_mkX0 {bmB : List Value} {B newId initId : String} (FX : ExcBaseFacts B newId initId bmB) (q : PySem.W.excIn X.K C bmB newId = true) (gC : X.mg x = some (.ref C)) (kC : PySem.W.keepIn X.K (.ref C) = true) (hg : Gl X x) (hdb : (x == ("__debug__" : Str)) = false := by decide) :
    PE X (.Call (.Name x p) [] [] pos) (fun σ H Q => ∀ a, H a = none → Q (.ref a) (upd H a (exo a C none))) := by
  refine ⟨fun pins s σ H Q I h => ?_⟩
  refine wpAny_Call_Name_kw (ld_glob I hg gC ?_ hdb)
  refine PySem.W.callWith_KW0 (h₀ := X.base) (kws := []) I.ok.mod.kin kC rfl ?_ rfl
  have hk : PK X [] tNil := pk_nil
  refine thn (hk.run pos pins s σ H (fun vs H1 => vs = [] ∧ H = H1) I ⟨rfl, rfl⟩) fun ws s2 ⟨zs, H2, I2, rz, l2, q2⟩ => ⟨I2.kIn, ?_⟩
  rw [← q2] at I2
  show wpAny _ _ (call (.ref C) []) _ _ _
  obtain ⟨bm, N, nm, qn, bs, hdct, sn, sub, ab, col, dd, k0, k1, k2, k3, k5, mN, hC, hN, hni, T⟩ := exc_obj I2.kIn q
  refine wpAny_call_exc_subT FX T hC hN hni (fun h2 a hm => ?_) (Nat.zero_le _)
  have hn : H a = none := I2.hok.gone hm.new
  obtain ⟨t, ht, _, _⟩ := hm.there
  exact ⟨.ref a, upd H a (exo a C none), I2.laidN hm.keeps hm.new hn (exo_ok ht), rfl, h a hn⟩
end
/-- e.f, e a tracked exception -/
structure XrC (K : PySem.W.Frag) (C : Addr) : Prop extends XfC K C where
  cl : (PySem.W.clsIn K C).isSome = true
  ca : PySem.W.findIn K (.ref C) "__class__" = some (some (.builtin "object.__class__"))
  mo : PySem.W.mroIn K C (.type "object") = some true
def tXrd (K : PySem.W.Frag) (f : Str) (te : TE) : TE := fun σ H Q => te σ H fun x H1 => ∃ (a C d : Addr) (fs : List (Str × V)) (v : V), x = .ref a ∧ H1 a = some (exo a C (some d)) ∧ H1 d = some (exd d fs) ∧ fs.lookup f = some v ∧ XfC K C ∧ PySem.W.findIn K (.ref C) f = some none ∧ Q v H1
theorem pe_xrd {X : Cx} {e : Expr} {te : TE} {pos : Pos} {n : Str} (he : PE X e te) (hb : attributeBase e n X.env (eval e X.env) = eval e X.env := by rfl) : PE X (.Attribute e n pos) (tXrd X.K n te) := by
  refine ⟨fun pins s σ H Q I h => ?_⟩
  refine attr_of hb (thn (he.run pins s σ H _ I h) fun u s1 hh => ?_)
  obtain ⟨x, H1, I1, rx, a, C, d, fs, v, ex, ea, ed, l, T1, hno, q⟩ := hh
  subst ex
  obtain rfl : u = Value.ref a := rx
  obtain ⟨t1, ho⟩ := exo_at I1.hok ea
  obtain ⟨mA, hns, hr⟩ := exd_at I1.hok ed
  obtain ⟨od, hod, hl⟩ := lookIn_ns hns
  obtain ⟨u, hu, ru⟩ := RelO.some_of (v := v) (o := mA n) (by rw [← l]; exact hr n)
  have J : PySem.W.InstAt s1.heap a _ C (some od) := ⟨ho, rfl, rfl, hod⟩
  exact HandSPX.exc_get I1.kIn J T1.ga T1.gg T1.exC (PySem.W.findObj_own T1.hdC hno rfl (by rw [hl, hu])) (handed_of ru) ⟨v, H1, I1.tok _, ru, q⟩
/-- a value's type, exceptions among them -/
inductive TyE (K : PySem.W.Frag) (H : Hp) : V → Value → Prop where
  | base {x : V} {t : Value} (h : TyX K H x t) : TyE K H x t
  | exc {a C : Addr} (e : H a = some (exo a C none)) (c : XrC K C) : TyE K H (.ref a) (.ref C)
  | excd {a C d : Addr} {fs : List (Str × V)} (e : H a = some (exo a C (some d))) (ed : H d = some (exd d fs)) (c : XrC K C) : TyE K H (.ref a) (.ref C)
structure IsK (K : PySem.W.Frag) : Prop where
  hn : PySem.W.specialIn K (.builtin "object.__class__") "__get__" = some (some (.builtin "getset_descriptor.__get__"))
  ht : PySem.W.takesIn K (.builtin "object.__class__") = some true
theorem kit_ofE {X : Cx} {pins : List (Addr × Obj)} {σ : St} {H : Hp} {s : Shared} {x : V} {u t : Value} (kk : IsK X.K) (I : Inv X pins σ H s) (rx : RelV x u) (ty : TyE X.K H x t) : ∃ P : Heap → Prop, PySem.W.KitX X.K u t P ∧ P s.heap ∧ u ≠ .builtin "__main__.__loader__#opaque" := by
  cases ty with
  | base b => exact kit_of I rx b
  | @exc a C e c =>
    cases (show u = Value.ref a from rx)
    obtain ⟨t1, ho⟩ := exo_at I.hok e
    have J : PySem.W.InstAt s.heap a { cls := .ref C, dict := none, data := .fields #[.ref t1, .none, .none, .none, .bool false, .none] } C none := ⟨ho, rfl, rfl, trivial⟩
    exact ⟨_, PySem.W.kitx_exc c.cl c.ga c.gg c.exC c.ca kk.hn kk.ht c.mo, J, fun z => nomatch z⟩
  | @excd a C d fs e ed c =>
    cases (show u = Value.ref a from rx)
    obtain ⟨t1, ho⟩ := exo_at I.hok e
    obtain ⟨mA, hns, hr⟩ := exd_at I.hok ed
    obtain ⟨od, hod, hl⟩ := lookIn_ns hns
    have J : PySem.W.InstAt s.heap a { cls := .ref C, dict := some d, data := .fields #[.ref t1, .none, .none, .none, .bool false, .none] } C (some od) := ⟨ho, rfl, rfl, hod⟩
    exact ⟨_, PySem.W.kitx_exc c.cl c.ga c.gg c.exC c.ca kk.hn kk.ht c.mo, J, fun z => nomatch z⟩
def rIsX (K : PySem.W.Frag) : List V → Hp → VK → Prop := fun xs H Q => ∃ (x c : V) (t u : Value) (b : Bool), xs = [x, c] ∧ ClsV c u ∧ TyE K H x t ∧ PySem.W.kitOne K t u = some b ∧ Q (.bl b) H
def rIsXT (K : PySem.W.Frag) : List V → Hp → VK → Prop := fun xs H Q => ∃ (x : V) (tp : Addr) (cs : List V) (t : Value) (us : List Value) (b : Bool), xs = [x, .ref tp] ∧ H tp = some (.tup cs) ∧ Paired ClsV cs us ∧ TyE K H x t ∧ PySem.W.kitAny K t us = some b ∧ Q (.bl b) H
section
variable {X : Cx}
theorem call_isX (kk : IsK X.K) : CallR X (.builtin "isinstance") (rIsX X.K) := by
  intro pins s σ H xs us Q I r h
  obtain ⟨x, c, t, u, b, rfl, k, ty, e, q⟩ := h
  obtain ⟨u1, u2, rfl, r1, r2⟩ := vals2 r
  have e2 := k.eq r2
  subst e2
  obtain ⟨P, Z, p, hx⟩ := kit_ofE kk I r1 ty
  exact PySem.W.kia_one Z I.kIn p e hx fun tk => ⟨.bl b, H, I.tok tk, rfl, q⟩
theorem call_isXT (kk : IsK X.K) : CallR X (.builtin "isinstance") (rIsXT X.K) := by
  intro pins s σ H xs us Q I r h
  obtain ⟨x, tp, cs, t, ws, b, rfl, hT, k, ty, e, q⟩ := h
  obtain ⟨u1, u2, rfl, r1, r2⟩ := vals2 r
  cases (show u2 = Value.ref tp from r2)
  obtain ⟨P, Z, p, hx⟩ := kit_ofE kk I r1 ty
  obtain ⟨_, its, rv, o, h1, h2, n, h3⟩ := (show ObjOk X.prog X.w H s.heap tp (.tup cs) from I.hok tp _ hT)
  have e3 := ClsV.all k rv
  subst e3
  obtain ⟨oc, od, dt, sl⟩ := o
  simp only at h2 h3
  subst h2 h3
  exact PySem.W.kia_tup Z I.kIn p h1 e hx fun tk => ⟨.bl b, H, I.tok tk, rfl, q⟩
end
end L2
set_option maxHeartbeats 4000000
/-! several except clauses: one class, one class as a name, a tuple of classes -/
namespace PySem.W
open PySem PySem.Spec PySem.Calls PyProof.Rows
section
variable {M : Model} {K : Frag}
theorem gx_tup {cs : List Value} {cls : Value} {tp e : Addr} {b : Bool} {h : Heap} (X : K.In h) (LT : Looks M h (typeOf (.ref e)) cls) (hp : h.get? tp = some { cls := .type "tuple", data := .seq cs.toArray }) (hx : exmAny K cls cs = some b) :
    Looks M h (excMatches (.ref e) (.ref tp)) b := by
  intro A Q E s k₀ q
  obtain ⟨hh, g, d, tk, os⟩ := s
  have k : ∀ b o, h.get? b = some o → hh.get? b = some o := k₀
  have T0 : Looks M h (isInstance (.ref tp) (.type "tuple")) true := ((Looks.ld hp).andThen .now).andThen (Looks.of_pure isSubtype_tuple_tuple)
  have T0 := T0.keeps k
  have hp2 := k _ _ hp
  unfold excMatches
  refine wpAny_bind (T0.at ?_)
  dsimp only
  rw [if_pos rfl]
  first
    | refine wpAny_bind (wpAny_seqItems hp2 rfl ?_)
    | refine wpAny_bind (wpAny_bind (wpAny_seqItems hp2 rfl (wpAny_pure ?_)))
  dsimp only [Option.getD_some, Option.getD]
  have one : ∀ {ds : List Value} {b : Bool}, exmAny K cls ds = some b → ∀ {Q : PUnit → Shared → Prop}, Q PUnit.unit ⟨hh, g, d, tk, os⟩ → wpAny M A (forIn ds PUnit.unit fun c __s => do
              let __do_lift ← isExcClass c
              if (!__do_lift) = true then do
                  rule "try.except-non-exception-class"
                  raiseErrorWords "TypeError" "catching classes that do not inherit from BaseException is not allowed"
                  pure (ForInStep.yield PUnit.unit)
                else pure (ForInStep.yield PUnit.unit)) Q E ⟨hh, g, d, tk, os⟩ := by
    intro ds
    induction ds with
    | nil => intro b _ Q z; rw [List.forIn_nil]; exact wpAny_pure z
    | cons c ds ih =>
      intro b e Q z
      obtain ⟨b1, d1, x1, y1, z1⟩ := exmAny_cons e
      obtain ⟨e1, S1⟩ := exm_cls (M := M) X x1
      rw [List.forIn_cons]
      refine wpAny_bind (wpAny_bind ((e1.keeps k).at ?_))
      simp only [Bool.not_true, Bool.false_eq_true, if_false]
      exact wpAny_pure (ih y1 z)
  have two : ∀ {ds : List Value} {b : Bool}, exmAny K cls ds = some b → ∀ {Q : (Option Bool × Unit) → Shared → Prop}, (∀ u, Q (if b then some true else none, u) ⟨hh, g, d, tk, os⟩) → wpAny M A (forIn ds ((none, ()) : Option Bool × Unit) fun c __s => do
                let __do_lift ← isSubtype cls c
                if __do_lift = true then pure (ForInStep.done (some true, ())) else pure (ForInStep.yield (none, ()))) Q E ⟨hh, g, d, tk, os⟩ := by
    intro ds
    induction ds with
    | nil =>
      intro b e Q z
      cases (show some false = some b from e)
      rw [List.forIn_nil]
      exact wpAny_pure (z ())
    | cons c ds ih =>
      intro b e Q z
      obtain ⟨b1, d1, x1, y1, z1⟩ := exmAny_cons e
      obtain ⟨e1, S1⟩ := exm_cls (M := M) X x1
      rw [List.forIn_cons]
      refine wpAny_bind (wpAny_bind ((S1.keeps k).at ?_))
      subst z1
      cases b1 with
      | true =>
        rw [if_pos rfl]
        exact wpAny_pure (wpAny_pure (z ()))
      | false =>
        rw [if_neg Bool.false_ne_true]
        exact wpAny_pure (ih y1 (by rw [Bool.false_or] at z; exact z))
  refine wpAny_bind (wpAny_pure (wpAny_bind (one hx ?_)))
  refine wpAny_bind ((LT.keeps k).at ?_)
  refine wpAny_bind (two hx fun u => ?_)
  cases b with
  | true => exact wpAny_pure q
  | false => exact wpAny_pure q
end
end PySem.W
set_option maxHeartbeats 4000000
namespace L2
open PySem PySem.Spec PyProof.Rows
/-- an except clause: what it names, the slot of its name, its suite -/
inductive HK where
  | one (c : Value) (ts : Addr → Value → Option Addr → TS)
  | asn (c : Value) (i : Nat) (ts : Addr → Value → Option Addr → TS)
  | tup (cs : List Value) (ts : Addr → Value → Option Addr → TS)
abbrev HTs := Addr → Value → Option Addr → TS
def Dx (i : Nat) (D : Ends) : Ends := { nx := fun σ H => D.nx (σ.set i none) H, rt := D.rt, bk := fun σ H => D.bk (σ.set i none) H, ct := fun σ H => D.ct (σ.set i none) H }
def wMix (K : PySem.W.Frag) (Wo : WX) (D : Ends) : List HK → WX
  | [] => Wo
  | .one c ts :: r => fun cls d σ H => ∃ b, PySem.W.exmOne K cls c = some b ∧ (b = true → ∀ a, H a = none → ts a cls d D σ H) ∧ (b = false → wMix K Wo D r cls d σ H)
  | .asn c i ts :: r => fun cls d σ H => ∃ b, PySem.W.exmOne K cls c = some b ∧ (b = true → ∀ a, H a = none → ts a cls d (Dx i D) (σ.set i (some (.ref a))) H) ∧ (b = false → wMix K Wo D r cls d σ H)
  | .tup cs ts :: r => fun cls d σ H => ∃ b, PySem.W.exmAny K cls cs = some b ∧ (b = true → ∀ a, H a = none → ts a cls d D σ H) ∧ (b = false → wMix K Wo D r cls d σ H)
inductive NamesL (X : Cx) : List Expr → List Value → Prop
  | nil : NamesL X [] []
  | cons {x : Str} {p : Pos} {c : Value} {es : List Expr} {cs : List Value} (h : Names X x c) (r : NamesL X es cs) (hs : starEach (.Name x p :: es) X.env = (false, eval (.Name x p) X.env) :: starEach es X.env := by rfl) : NamesL X (.Name x p :: es) (c :: cs)
inductive HdM (X : Cx) : List ExceptHandler → List HK → Prop
  | nil : HdM X [] []
  | one {x : Str} {c : Value} {ts : HTs} {b₀ : Stmt} {su : List Stmt} {np hp : Pos} {hds : List ExceptHandler} {l : List HK} (hc : Names X x c)
      (hsu : ∀ (a : Addr) (oe : Obj) (cls : Value) (d : Option Addr) (pn : List (Addr × Obj)), Zc cls d oe → (∃ vs, oe.data = .fields vs) → PSs (X.suite a ((a, oe) :: pn)) (b₀ :: su) (ts a cls d)) (r : HdM X hds l) :
      HdM X (.ExceptHandler (some (.Name x np)) none (b₀ :: su) hp :: hds) (.one c ts :: l)
  | asn {x n : Str} {i : Nat} {c : Value} {ts : HTs} {b₀ : Stmt} {su : List Stmt} {np hp : Pos} {hds : List ExceptHandler} {l : List HK} (hc : Names X x c) (hi : X.N[i]? = some n) (hl : X.env.kindOf n = some .local)
      (hsu : ∀ (a : Addr) (oe : Obj) (cls : Value) (d : Option Addr) (pn : List (Addr × Obj)), Zc cls d oe → (∃ vs, oe.data = .fields vs) → PSs (X.suite a ((a, oe) :: pn)) (b₀ :: su) (ts a cls d)) (r : HdM X hds l) :
      HdM X (.ExceptHandler (some (.Name x np)) (some n) (b₀ :: su) hp :: hds) (.asn c i ts :: l)
  | tup {es : List Expr} {cs : List Value} {ts : HTs} {b₀ : Stmt} {su : List Stmt} {kk : Nat} {np hp : Pos} {hds : List ExceptHandler} {l : List HK} (hc : NamesL X es cs) (hz : cs.length ≤ 1000)
      (hsu : ∀ (a : Addr) (oe : Obj) (cls : Value) (d : Option Addr) (pn : List (Addr × Obj)), Zc cls d oe → (∃ vs, oe.data = .fields vs) → PSs (X.suite a ((a, oe) :: pn)) (b₀ :: su) (ts a cls d)) (r : HdM X hds l) :
      HdM X (.ExceptHandler (some (.Tuple es kk np)) none (b₀ :: su) hp :: hds) (.tup cs ts :: l)
theorem fly_keeps {B h h2 : Heap} {l : List Env} {a : Addr} {Z : Obj → Prop} (fl : HandSPX.FlyingZ B l a Z h) (k : ∀ b o, h.get? b = some o → h2.get? b = some o) : HandSPX.FlyingZ B l a Z h2 := by
  obtain ⟨f1, f2, f3, oe, vs, T, oT, ts, g1, g2, g3, g4, g5, g6, g7, g8, g9⟩ := fl
  exact ⟨fun b o e => k b o (f1 b o e), f2, Heap.FunFrames.of_keeps (fun b o e _ => ⟨o, k b o e, rfl⟩) f3, oe, vs, T, oT, ts, k _ _ g1, g2, g3, g4, g5, g6, k _ _ g7, g8, g9⟩
section
variable {X : Cx} {body : List Stmt} {h₀ : ExceptHandler} {hds : List ExceptHandler} {l : List HK} {pos : Pos} {tb : WX → TS} {Wo : WX}
theorem ps_try_mix (hs : X.stack = X.env :: X.outer) (hf : X.env.frame = some X.env.locals) (hN : X.N.Nodup) (tk : Takes X Wo)
    (hb : ∀ (W : WX) (pn : List (Addr × Obj)) (xe : Value → Shared → Prop), Takes (X.tr pn xe) W → PassesOwn (model X.prog X.w) X.A X.env xe → PSs (X.tr pn xe) body (tb W))
    (hh : HdM X (h₀ :: hds) l) : PS X (.Try body (h₀ :: hds) [] [] pos) (fun D σ H => tb (wMix X.K Wo D l) D σ H) := by
  refine ⟨fun pins s σ H D I q0 => ?_⟩
  have ok := I.ok
  have frX : X.A.frames = some (X.env :: X.outer) := by
    rw [ok.frames, hs]
  refine wpAny_Try_except ?_
  refine wpAny_mono ((hb (wMix X.K Wo D l) (X.pn ++ pins) (fun e t1 => wpAny (model X.prog X.w) X.A (noteFrame e X.env) (fun _ t2 => wpAny (model X.prog X.w) X.A (setFlight e none) (fun _ t3 =>
    wpAny (model X.prog X.w) X.A (handleBy e X.env (h₀ :: hds)) (SP X pins D) X.xe t3) X.xe t2) X.xe t1) (fun u t xx => ?_) PassesOwn.looking).run [] s σ H D (I.toTry _) q0) (fun f t1 hsp => ?_) (fun _ _ z => z)
  · obtain ⟨a, B, sI, pins2, σ2, H2, cls, d, rfl, J0, nb, up, sky, na, os, ag, w⟩ := xx
    have J : Inv X pins σ2 H2 sI := J0.ofTry ok
    have sky2 : Sky B (X.env :: X.outer) a (Zc cls d) X.env.locals t.heap := by
      rw [← hs]
      exact sky
    show wpAny (model X.prog X.w) X.A (noteFrame (.ref a) X.env) _ _ _
    refine Sky.land Zc.steady frX hf sky2 fun g0 fl0 up0 => ?_
    have notFr : ∀ {h : Heap} {o : Obj} {vs : Array Value}, h.FunFrames B (X.env :: X.outer) → h.get? a = some o → o.data = .fields vs → a ∉ frs (X.env :: X.outer) := fun {h o vs} ff e dd hm => by
      obtain ⟨_, o2, e2, hnf⟩ := ff.mem hm
      rw [e] at e2
      cases e2
      exact hnf _ dd
    obtain ⟨oe0, vs0, he0, hz0, hd0⟩ := fl0.there
    have nfr := notFr fl0.2.2.1 he0 hd0
    have nL : a ≠ X.env.locals := fun z => nfr (List.mem_filterMap.mpr ⟨X.env, List.mem_cons_self, by rw [hf, z]⟩)
    have nF : a ∉ X.fs := fun hm => by
      obtain ⟨e, he, q⟩ := List.mem_filterMap.mp hm
      exact nfr (List.mem_filterMap.mpr ⟨e, List.mem_cons_of_mem _ he, q⟩)
    have go : ∀ {hs2 : List ExceptHandler} {l2 : List HK}, HdM X hs2 l2 → ∀ h3, HandSPX.FlyingZ B (X.env :: X.outer) a (Zc cls d) h3 → t.heap.UpToSlots h3 → wMix X.K Wo D l2 cls d σ2 H2 →
        wpAny (model X.prog X.w) X.A (handleBy (.ref a) X.env hs2) (SP X pins D) X.xe { t with heap := h3 } := by
      intro hs2 l2 hk
      -- a suite without a name
      have suite1 : ∀ {b₀ : Stmt} {su : List Stmt} {ts : HTs} {hp : Pos} {R : Result → Shared → Prop} (h3 : Heap), HandSPX.FlyingZ B (X.env :: X.outer) a (Zc cls d) h3 → t.heap.UpToSlots h3 →
          (∀ (a : Addr) (oe : Obj) (cls : Value) (d : Option Addr) (pn : List (Addr × Obj)), Zc cls d oe → (∃ vs, oe.data = .fields vs) → PSs (X.suite a ((a, oe) :: pn)) (b₀ :: su) (ts a cls d)) → ts a cls d D σ2 H2 →
          (∀ f t6, SP X pins D f t6 → R (.ok f) t6) → codeAny (model X.prog X.w) (X.A.mark (some (.ref a))) (.handlers (.ref a) [.ExceptHandler none none (b₀ :: su) hp] X.env) R { t with heap := h3 } := by
        intro b₀ su ts hp R h3 fl3 up3 hsu yes fin
        refine codeAny_handlers_suite ?_
        refine HandSPX.lands_againZ fl3 fun h4 fl4 up4 => ?_
        have J4 : Inv X pins σ2 H2 { t with heap := h4 } := J.landed nb fl4.1 ((up.trans up3).trans up4) os ag
        obtain ⟨oe4, vs4, he4, hz4, hd4⟩ := fl4.there
        have S4 := J4.suite he4 hd4 na nL nF
        refine wpAny_mono ((hsu a oe4 cls d (X.pn ++ pins) hz4 ⟨_, hd4⟩).run [] _ _ H2 _ S4 yes) (fun f t6 hsp => fin f t6 ?_) (fun _ _ z => False.elim z)
        cases f with
        | next =>
          obtain ⟨σ6, H6, S6, q6⟩ := hsp
          exact ⟨_, _, S6.unsuite ok, q6⟩
        | brk =>
          obtain ⟨σ6, H6, S6, q6⟩ := hsp
          exact ⟨_, _, S6.unsuite ok, q6⟩
        | cont =>
          obtain ⟨σ6, H6, S6, q6⟩ := hsp
          exact ⟨_, _, S6.unsuite ok, q6⟩
        | ret u =>
          obtain ⟨v6, σ6, H6, S6, r6, q6⟩ := hsp
          exact ⟨_, _, _, S6.unsuite ok, r6, q6⟩
      induction hk with
      | nil =>
        intro h3 fl3 up3 w
        refine wpAny_handleBy_nil ?_
        obtain ⟨k1, k2, k3, oe, vs, T, oT, ts, he, hz, hd, h1, hr⟩ := id fl3
        unfold PySem.passOn
        refine wpAny_bind (wpAny_field he hd h1 ?_)
        rw [if_neg (show ¬ ((Value.ref T == Value.none) = true) from by simp)]
        have fin : wpAny (model X.prog X.w) X.A (setFlight (.ref a) X.env.frame) (fun _ t4 => wpAny (model X.prog X.w) X.A (throw (.ref a) : Sem Flow) (SP X pins D) X.xe t4) X.xe { t with heap := h3 } := by
          rw [hf]
          refine HandSPX.setFlight_upZ fl3 fun h4 hh4 up4 => wpAny_throw (tk _ _ ?_)
          exact ⟨a, B, sI, pins, σ2, H2, cls, d, rfl, J, nb, (up.trans up3).trans up4, .inr (.inr (by rw [hs]; exact hh4)), na, os, ag, w⟩
        first
          | exact wpAny_bind (wpAny_pure (wpAny_bind fin))
          | exact wpAny_bind fin
      | @one x c ts b₀ su np hp hds2 l3 hc hsu r ih =>
        intro h3 fl3 up3 w
        have J3 : Inv X pins σ2 H2 { t with heap := h3 } := J.landed nb fl3.1 (up.trans up3) os ag
        obtain ⟨oe3, vs3, he3, hz3, hd3⟩ := fl3.there
        have S3 := J3.suite he3 hd3 na nL nF
        obtain ⟨b, hb1, hyes, hno⟩ := w
        refine wpAny_handleBy_cons (codeAny_handlers_test ?_) (by intro q; cases q)
        have LT : PySem.W.Looks (model X.prog X.w) h3 (typeOf (.ref a)) cls := fun A Q E s k q => wpAny_typeOf_ref (k _ _ he3) (by rw [hz3.1]; exact q)
        have LM := PySem.W.exm_one (M := model X.prog X.w) (J3.kIn) LT hb1
        have test : ∀ {Q : Value → Shared → Prop} {E : Value → Shared → Prop}, Q c { t with heap := h3 } → wpAny (model X.prog X.w) (X.A.mark (some (.ref a))) (eval (.Name x np) X.env) Q E { t with heap := h3 } := fun {Q E} q => by
          obtain ⟨hg, hdbg, hm | ⟨hm, hv, hnn⟩⟩ := hc
          · exact ld_glob (X := X.suite a ((a, oe3) :: (X.pn ++ pins))) S3 hg hm q hdbg
          · exact ld_blt (X := X.suite a ((a, oe3) :: (X.pn ++ pins))) S3 hg hm hv q hnn hdbg
        refine test (LM.here ?_)
        cases b with
        | true => exact suite1 h3 fl3 up3 hsu (hyes rfl a na) fun f t6 z => z
        | false =>
          show wpAny _ X.A (handleBy (.ref a) X.env hds2) _ _ _
          exact ih h3 fl3 up3 (hno rfl)
      | @asn x n i c ts b₀ su np hp hds2 l3 hc hi hl hsu r ih =>
        intro h3 fl3 up3 w
        have J3 : Inv X pins σ2 H2 { t with heap := h3 } := J.landed nb fl3.1 (up.trans up3) os ag
        obtain ⟨oe3, vs3, he3, hz3, hd3⟩ := fl3.there
        have S3 := J3.suite he3 hd3 na nL nF
        obtain ⟨b, hb1, hyes, hno⟩ := w
        refine wpAny_handleBy_cons (codeAny_handlers_test ?_) (by intro q; cases q)
        have LT : PySem.W.Looks (model X.prog X.w) h3 (typeOf (.ref a)) cls := fun A Q E s k q => wpAny_typeOf_ref (k _ _ he3) (by rw [hz3.1]; exact q)
        have LM := PySem.W.exm_one (M := model X.prog X.w) (J3.kIn) LT hb1
        have test : ∀ {Q : Value → Shared → Prop} {E : Value → Shared → Prop}, Q c { t with heap := h3 } → wpAny (model X.prog X.w) (X.A.mark (some (.ref a))) (eval (.Name x np) X.env) Q E { t with heap := h3 } := fun {Q E} q => by
          obtain ⟨hg, hdbg, hm | ⟨hm, hv, hnn⟩⟩ := hc
          · exact ld_glob (X := X.suite a ((a, oe3) :: (X.pn ++ pins))) S3 hg hm q hdbg
          · exact ld_blt (X := X.suite a ((a, oe3) :: (X.pn ++ pins))) S3 hg hm hv q hnn hdbg
        refine test (LM.here ?_)
        cases b with
        | true =>
          refine codeAny_handlers_suite_as ?_
          refine HandSPX.lands_againZ fl3 fun h4 fl4 up4 => ?_
          have J4 : Inv X pins σ2 H2 { t with heap := h4 } := J.landed nb fl4.1 ((up.trans up3).trans up4) os ag
          obtain ⟨oe4, vs4, he4, hz4, hd4⟩ := fl4.there
          have S4 := J4.suite he4 hd4 na nL nF
          refine store_ok (X := X.suite a ((a, oe4) :: (X.pn ++ pins))) (v := .ref a) S4 hN hi (.inl hl) rfl (fun t5 S5 => ?_) (.inr hl)
          refine wpAny_mono ((hsu a oe4 cls d (X.pn ++ pins) hz4 ⟨_, hd4⟩).run [] t5 _ H2 _ S5 (hyes rfl a na)) (fun f t6 hsp => ?_) (fun _ _ z => False.elim z)
          have end_ : ∀ {σ6 : St} {H6 : Hp} {Q : Shared → Prop}, Inv (X.suite a ((a, oe4) :: (X.pn ++ pins))) [] σ6 H6 t6 → (∀ t7, Inv X pins (σ6.set i none) H6 t7 → Q t7) →
              wpAny (model X.prog X.w) X.A (do bindName X.env n .none; unbindBehindTheSuite X.env n hp) (fun _ t7 => Q t7) X.xe t6 := fun {σ6 H6 Q} S6 hq => gone_ok (S6.unsuite ok) hN hi hl hq
          cases f with
          | next =>
            obtain ⟨σ6, H6, S6, q6⟩ := hsp
            exact end_ S6 fun t7 J7 => ⟨_, _, J7, q6⟩
          | brk =>
            obtain ⟨σ6, H6, S6, q6⟩ := hsp
            exact end_ S6 fun t7 J7 => ⟨_, _, J7, q6⟩
          | cont =>
            obtain ⟨σ6, H6, S6, q6⟩ := hsp
            exact end_ S6 fun t7 J7 => ⟨_, _, J7, q6⟩
          | ret u =>
            obtain ⟨v6, σ6, H6, S6, r6, q6⟩ := hsp
            exact end_ S6 fun t7 J7 => ⟨_, _, _, J7, r6, q6⟩
        | false =>
          show wpAny _ X.A (handleBy (.ref a) X.env hds2) _ _ _
          exact ih h3 fl3 up3 (hno rfl)
      | @tup es cs ts b₀ su kk np hp hds2 l3 hc hz hsu r ih =>
        intro h3 fl3 up3 w
        have J3 : Inv X pins σ2 H2 { t with heap := h3 } := J.landed nb fl3.1 (up.trans up3) os ag
        obtain ⟨oe3, vs3, he3, hz3, hd3⟩ := fl3.there
        have S3 := J3.suite he3 hd3 na nL nF
        obtain ⟨b, hb1, hyes, hno⟩ := w
        refine wpAny_handleBy_cons (codeAny_handlers_test ?_) (by intro q; cases q)
        have test : ∀ {Q : Value → Shared → Prop} {E : Value → Shared → Prop} {x : Str} {c : Value} {np : Pos}, Names X x c → Q c { t with heap := h3 } → wpAny (model X.prog X.w) (X.A.mark (some (.ref a))) (eval (.Name x np) X.env) Q E { t with heap := h3 } := fun {Q E x c np} hc q => by
          obtain ⟨hg, hdbg, hm | ⟨hm, hv, hnn⟩⟩ := hc
          · exact ld_glob (X := X.suite a ((a, oe3) :: (X.pn ++ pins))) S3 hg hm q hdbg
          · exact ld_blt (X := X.suite a ((a, oe3) :: (X.pn ++ pins))) S3 hg hm hv q hnn hdbg
        have all : ∀ {Q : List Value → Shared → Prop} {E : Value → Shared → Prop} {es : List Expr} {cs : List Value}, NamesL X es cs → Q cs { t with heap := h3 } → wpAny (model X.prog X.w) (X.A.mark (some (.ref a))) (spliced (backTo np (starEach es X.env))) Q E { t with heap := h3 } := by
          intro Q E es cs hn
          induction hn generalizing Q with
          | nil => intro q; exact Calls.spliced_nil q
          | @cons x p c es cs h r hs ih2 =>
            intro q
            rw [hs]
            exact Calls.spliced_cons (test h (ih2 q))
        refine wpAny_Tuple_spliced (all hc ⟨by rw [sizeLine_eq]; omega, ?_⟩)
        have k4 : ∀ b o, h3.get? b = some o → (h3.push { cls := .type "tuple", data := .seq cs.toArray }).get? b = some o := fun b o e => Heap.get?_push_of_some _ e
        have fl4 := fly_keeps fl3 k4
        have up4 := up3.trans (Heap.UpToSlots.of_keeps k4)
        have J4 : Inv X pins σ2 H2 { t with heap := h3.push { cls := .type "tuple", data := .seq cs.toArray } } := J.landed nb fl4.1 (up.trans up4) os ag
        have LT : PySem.W.Looks (model X.prog X.w) (h3.push { cls := .type "tuple", data := .seq cs.toArray }) (typeOf (.ref a)) cls := fun A Q E s k q => wpAny_typeOf_ref (k _ _ (k4 _ _ he3)) (by rw [hz3.1]; exact q)
        have LM := PySem.W.gx_tup (M := model X.prog X.w) (tp := h3.objs.size) (cs := cs) (J4.kIn) LT (Heap.get?_push_size _ rfl) hb1
        refine LM.here ?_
        cases b with
        | true => exact suite1 _ fl4 up4 hsu (hyes rfl a na) fun f t6 z => z
        | false =>
          show wpAny _ X.A (handleBy (.ref a) X.env hds2) _ _ _
          exact ih _ fl4 up4 (hno rfl)
    exact go hh g0 fl0 up0 w
  · cases f with
    | next =>
      obtain ⟨σ2, H2, J2, q⟩ := hsp
      exact wpAny_execs_nil ⟨σ2, H2, J2.ofTry ok, q⟩
    | brk =>
      obtain ⟨σ2, H2, J2, q⟩ := hsp
      exact ⟨σ2, H2, J2.ofTry ok, q⟩
    | cont =>
      obtain ⟨σ2, H2, J2, q⟩ := hsp
      exact ⟨σ2, H2, J2.ofTry ok, q⟩
    | ret u =>
      obtain ⟨v, σ2, H2, J2, r, q⟩ := hsp
      exact ⟨v, σ2, H2, J2.ofTry ok, r, q⟩
end
end L2
set_option maxHeartbeats 4000000
namespace G
open PySem PySem.Spec PyProof.Rows L2 Evl
/-! ### exceptions as values -/
/-- an exception of the class at C with these fields -/
def XO (C : Addr) (fs : List (Str × V)) : Rep := fun v H => ∃ a d, v = .ref a ∧ H a = some (exo a C (some d)) ∧ H d = some (exd d fs)
instance {C : Addr} {fs : List (Str × V)} : Mono (XO C fs) := ⟨fun e ⟨a, d, h1, h2, h3⟩ => ⟨a, d, h1, e _ _ h2, e _ _ h3⟩⟩
def XN (C : Addr) : Rep := fun v H => ∃ a, v = .ref a ∧ H a = some (exo a C none)
instance {C : Addr} : Mono (XN C) := ⟨fun e ⟨a, h1, h2⟩ => ⟨a, h1, e _ _ h2⟩⟩
/-- an __init__ that keeps its fields -/
def XSp (K : PySem.W.Frag) (fl : List Str) : Sp := fun vs H Q _ => ∃ (a C : Addr) (ws : List V), vs = .ref a :: ws ∧ ws.length = fl.length ∧ OexC K C ∧ (∀ f ∈ fl, PySem.W.findIn K (.ref C) f = some none) ∧ H a = some (exo a C none) ∧
  ∀ d, H d = none → d ≠ a → Q .non (upd (upd H d (exd d (fl.zip ws).reverse)) a (exo a C (some d)))
structure XCal (P : Program) (w : World) (K : PySem.W.Frag) (mg : Str → Option Value) (base : Heap) (x : Str) (C : Addr) (fl : List Str) : Prop where
  oex : OexC K C
  nof : ∀ f ∈ fl, PySem.W.findIn K (.ref C) f = some none
  mgx : mg x = some (.ref C)
  xr : XrC K C
  ex : ∃ fI fd ps, PySem.W.findIn K (.ref C) "__init__" = some (some (.ref fI)) ∧ PySem.W.typeIn K (.ref fI) = some (.type "function") ∧ FnOk P w K mg base CX0 1 fI fd ps (XSp K fl) ∧ Binds K fd ps [] ∧ KBn K fd ps 1 fl.reverse (fun us ws => us ++ ws.reverse) (fun vs zs => vs ++ zs.reverse)
theorem xo_new {H1 : Hp} {a d C : Addr} {fs : List (Str × V)} (ha : H1 a = none) (hd : upd H1 a (exo a C none) d = none) (hda : d ≠ a) : Ex H1 (upd (upd (upd H1 a (exo a C none)) d (exd d fs)) a (exo a C (some d))) ∧ XO C fs (.ref a) (upd (upd (upd H1 a (exo a C none)) d (exd d fs)) a (exo a C (some d))) := by
  rw [upd_ne hda] at hd
  refine ⟨fun b o hb => ?_, a, d, rfl, upd_same, by rw [upd_ne hda, upd_same]⟩
  rw [upd_ne (ne_of_none hb ha), upd_ne (ne_of_none hb hd), upd_ne (ne_of_none hb ha)]
  exact hb
theorem args_isV {ws vs : List V} {H : Hp} (h : Args (ws.map IsV) vs H) : vs = ws := by
  induction ws generalizing vs with
  | nil => exact h
  | cons w ws ih =>
    obtain ⟨x, r, h1, h2, h3⟩ := h
    rw [h1, show x = w from h2, ih h3]
section
variable {X : Cx} {σ : L2.St} {H : Hp} {a b c e : Expr} {es : List Expr} {kws : List Keyword} {pos p : Pos} {P P1 P2 : Rep} {Ps : List Rep} {x n : Str} {k : Nat} {C : Addr} {fl ks : List Str} {ws : List V} {bb : Bool}
theorem eg_mkX (D : XCal X.prog X.w X.K X.mg X.base x C fl) (hr : Room 2 X.A) (ha : AG X (e :: es) σ H (ws.map IsV)) (hl : ws.length = fl.length) (h9 : fl.length ≤ 9) (hg : Gl X x := by rfl) (hdb : (x == ("__debug__" : Str)) = false := by decide)
    (he : starEach (e :: es) X.env = (false, eval e X.env) :: starEach es X.env := by rfl) (hpl : (backTo pos (starEach es X.env)).any (·.1) = false := by rfl) (hp : ∀ v H, XO C (fl.zip ws).reverse v H → P v H := by exact fun _ _ h => h) : EG X (.Call (.Name x p) (e :: es) [] pos) σ H P := by
  obtain ⟨fI, fd, ps, iC, tI, F, hb, _⟩ := D.ex
  refine eg_of (pe_mkX D.oex iC tI F hr hb D.mgx pa_W hg hdb he hpl) fun H1 e1 Q q => ha H1 e1 _ fun vs H2 e2 pv => ?_
  rw [args_isV pv]
  refine ⟨by omega, fun a na => ⟨a, C, ws, rfl, hl, D.oex, D.nof, upd_same, fun d hd hda => ⟨rfl, ?_⟩⟩⟩
  obtain ⟨x1, x2⟩ := xo_new na hd hda
  exact q _ _ (e2.trans x1) (hp _ _ x2)
theorem eg_mkXK (D : XCal X.prog X.w X.K X.mg X.base x C fl) (hr : Room 2 X.A) (hk : KG X kws σ H (ws.reverse.map IsV)) (hl : ws.length = fl.length) (hg : Gl X x := by rfl)
    (hall : (backToKw pos (keywordEach kws X.env)).all (·.1.isSome) = true := by rfl) (hks : (backToKw pos (keywordEach kws X.env)).filterMap (·.1) = fl.reverse := by rfl) (hdb : (x == ("__debug__" : Str)) = false := by decide)
    (hpl : ((backTo pos (starEach [] X.env)).any (·.1) || (backToKw pos (keywordEach kws X.env)).any (·.1.isNone)) = false := by rfl) (hp : ∀ v H, XO C (fl.zip ws).reverse v H → P v H := by exact fun _ _ h => h) : EG X (.Call (.Name x p) [] kws pos) σ H P := by
  obtain ⟨fI, fd, ps, iC, tI, F, _, hb⟩ := D.ex
  refine eg_of (pe_mkXK D.oex iC tI F hr hb D.mgx pk_W hg hall hks hdb hpl) fun H1 e1 Q q => hk H1 e1 _ fun vs H2 e2 pv => ?_
  rw [args_isV pv]
  refine ⟨by rw [List.length_reverse, List.length_reverse, hl], fun a na => ⟨a, C, ws, by show [V.ref a] ++ ws.reverse.reverse = _; rw [List.reverse_reverse]; rfl, hl, D.oex, D.nof, upd_same, fun d hd hda => ⟨rfl, ?_⟩⟩⟩
  obtain ⟨x1, x2⟩ := xo_new na hd hda
  exact q _ _ (e2.trans x1) (hp _ _ x2)
theorem kg_nil : KG X [] σ H [] := fun H1 e1 Q q pos pins s I => pk_nil.run pos pins s σ H1 Q I (q [] H1 (Ex.refl _) rfl)
theorem kg_cons {kk : Str} {kp : Pos} {ks : List Keyword} [hm : Mono P] (h : EG X e σ H P) (hr : KG X ks σ H Ps) (hs : keywordEach ({ arg := some kk, value := e, pos := kp } :: ks) X.env = (some kk, eval e X.env) :: keywordEach ks X.env := by rfl) : KG X ({ arg := some kk, value := e, pos := kp } :: ks) σ H (P :: Ps) :=
  fun H1 e1 Q q pos pins s I => (pk_cons pe_W pk_W).run pos pins s σ H1 Q I (h H1 e1 _ fun v H2 e2 pv => hr H2 (e1.trans e2) _ fun vs H3 e3 pvs => q _ H3 (e2.trans e3) ⟨v, vs, rfl, hm.up e3 pv, pvs⟩)
theorem eg_xrd {fs : List (Str × V)} {v : V} (T : XrC X.K C) (hno : PySem.W.findIn X.K (.ref C) n = some none) (he : EG X e σ H (XO C fs)) (hl : fs.lookup n = some v) (hb : attributeBase e n X.env (eval e X.env) = eval e X.env := by rfl) : EG X (.Attribute e n pos) σ H (IsV v) :=
  eg_of (pe_xrd pe_W hb) fun H1 e1 Q q => he H1 e1 _ fun u H2 e2 ⟨a, d, h1, h2, h3⟩ => ⟨a, C, d, fs, v, h1, h2, h3, hl, T.toXfC, hno, q v H2 e2 rfl⟩
/-! ### isinstance -/
theorem eg_isE {w : V} {u : Value} [h1 : Mono P1] (kk : IsK X.K) (hm : X.mg "isinstance" = none) (ha : EG X a σ H P1) (hb : EG X b σ H (IsV w)) (hk : ClsV w u) (ht : ∀ v H, P1 v H → ∃ t, TyE X.K H v t ∧ PySem.W.kitOne X.K t u = some bb) (hg : Gl X "isinstance" := by rfl)
    (he : starEach [a, b] X.env = (false, eval a X.env) :: starEach [b] X.env := by rfl) (he2 : starEach [b] X.env = (false, eval b X.env) :: starEach [] X.env := by rfl) (hpl : (backTo pos (starEach [b] X.env)).any (·.1) = false := by rfl) :
    EG X (.Call (.Name "isinstance" p) [a, b] [] pos) σ H (IsB bb) :=
  eg_callB (call_isX kk) hm rfl (ag_cons ha (ag_cons hb ag_nil he2) he) (fun vs H1 _ ⟨v, r, q1, q2, x, r2, q3, q4, q5⟩ Q q => by
    obtain ⟨t, h3, h4⟩ := ht v H1 q2
    exact ⟨v, w, t, u, bb, by rw [q1, q3, show r2 = [] from q5, show x = _ from q4], hk, h3, h4, q _ H1 (Ex.refl H1) rfl⟩) hg (by decide) (by decide) he hpl
theorem eg_isET {us : List Value} [h1 : Mono P1] (kk : IsK X.K) (hm : X.mg "isinstance" = none) (ha : EG X a σ H P1) (hb : EG X b σ H (TupOf (ws.map IsV))) (hk : Paired ClsV ws us) (ht : ∀ v H, P1 v H → ∃ t, TyE X.K H v t ∧ PySem.W.kitAny X.K t us = some bb) (hg : Gl X "isinstance" := by rfl)
    (hma : MonoA (ws.map IsV)) (he : starEach [a, b] X.env = (false, eval a X.env) :: starEach [b] X.env := by rfl) (he2 : starEach [b] X.env = (false, eval b X.env) :: starEach [] X.env := by rfl) (hpl : (backTo pos (starEach [b] X.env)).any (·.1) = false := by rfl) :
    EG X (.Call (.Name "isinstance" p) [a, b] [] pos) σ H (IsB bb) :=
  eg_callB (call_isXT kk) hm rfl (ag_cons ha (ag_cons hb ag_nil he2) he) (fun vs H1 _ ⟨v, r, q1, q2, x, r2, q3, ⟨tp, xs, z1, z2, z3⟩, q5⟩ Q q => by
    obtain ⟨t, h3, h4⟩ := ht v H1 q2
    rw [args_isV z3] at z2
    exact ⟨v, tp, ws, t, us, bb, by rw [q1, q3, show r2 = [] from q5, z1], z2, hk, h3, h4, q _ H1 (Ex.refl H1) rfl⟩) hg (by decide) (by decide) he hpl
/-! ### texts -/
theorem eg_addS {z u : Str} (hz : z.length + u.length ≤ 100000) (ha : EG X a σ H (IsS z)) (hb : EG X b σ H (IsS u)) : EG X (.BinOp a .Add b pos) σ H (IsS (z ++ u)) :=
  eg_of (pe_op op_add_str pe_W pe_W) (ep_op ha hb fun x y H1 _ px py Q q => ⟨z, u, px, py, by rw [sizeLine_eq]; omega, q _ H1 (Ex.refl H1) rfl⟩)
theorem eg_strI {i : Int} (hi : i.natAbs.log2 < 1920) (hm : X.mg "str" = none) (ha : EG X e σ H (IsI i)) (hg : Gl X "str" := by rfl) (he : starEach [e] X.env = (false, eval e X.env) :: starEach [] X.env := by rfl) : EG X (.Call (.Name "str" p) [e] [] pos) σ H (IsS (toString i)) :=
  eg_callTy call_str_int hm rfl (ag_cons ha ag_nil he) (fun vs H1 _ ⟨v, r, h1, h2, h5⟩ Q q => ⟨i, by rw [h1, show r = [] from h5, show v = _ from h2], hi, q _ H1 (Ex.refl H1) rfl⟩) hg (by decide) (by decide) he rfl
end
end G
set_option maxHeartbeats 4000000
namespace G
open PySem PySem.Spec PyProof.Rows L2 Evl
/-! ### != of lists of the same values -/
def sameB (v : V) : Prop := flatB v = true ∨ ∃ p, v = .ref p
theorem same_at {A : Around} {s : Shared} {v : V} {u w : Value} (f : sameB v) (r : RelV v u) (r2 : RelV v w) : SeqAt.EqAt A s u w true := by
  rcases f with f | ⟨p, rfl⟩
  · exact eqAt_same r r2 f
  · cases (show u = Value.ref p from r)
    cases (show w = Value.ref p from r2)
    exact SeqAt.EqAt.same _
theorem same_all {A : Around} {s : Shared} : ∀ {xs : List V} {us ws : List Value}, (∀ v ∈ xs, sameB v) → Vals xs us → Vals xs ws → ∀ j (h1 : j < us.length) (h2 : j < ws.length), SeqAt.EqAt A s us[j] ws[j] true
  | _, _, _, _, .nil, .nil, j, h1, _ => absurd h1 (Nat.not_lt_zero j)
  | v :: xs, _, _, f, .cons r t, .cons r2 t2, 0, _, _ => same_at (f v (List.mem_cons_self ..)) r r2
  | v :: xs, _, _, f, .cons r t, .cons r2 t2, j + 1, h1, h2 => same_all (fun u hu => f u (List.mem_cons_of_mem _ hu)) t t2 j (Nat.lt_of_succ_lt_succ h1) (Nat.lt_of_succ_lt_succ h2)
def rNeS (K : PySem.W.Frag) : R2 := fun x y H Q => ∃ a b xs, x = .ref a ∧ y = .ref b ∧ SqL K H a xs ∧ SqL K H b xs ∧ (∀ v ∈ xs, sameB v) ∧ Q (.bl false) H
section
variable {X : Cx}
theorem op_neS (hu : X.A.units < cLine) : OpR X (compareOp .NotEq) (rNeS X.K) := by
  intro pins s σ H x y v u Q I rx ry ⟨a, b, xs, h1, h2, ha, hb, f, q⟩
  subst h1 h2
  cases (show v = Value.ref a from rx)
  cases (show u = Value.ref b from ry)
  obtain ⟨us, r1, p1, _⟩ := I.list ha
  obtain ⟨ws, r2, p2, _⟩ := I.list hb
  obtain ⟨o1, n1, ho1, hc1, hdn1, hd1⟩ := p1
  obtain ⟨o2, n2, ho2, hc2, hdn2, hd2⟩ := p2
  obtain ⟨cls1, dd1, data1, sl1⟩ := o1
  obtain ⟨cls2, dd2, data2, sl2⟩ := o2
  simp only at hc1 hd1 hc2 hd2
  subst hc1 hd1 hc2 hd2
  have hsz : us.toArray.size = ws.toArray.size := by
    rw [List.size_toArray, List.size_toArray, ← r1.length, ← r2.length]
  show wpAny _ _ (richCompare .NotEq _ _) _ _ _
  refine wpAny_richCompare_same_room (T := "list") (op := .NotEq) ⟨_, ho1, rfl⟩ ⟨_, ho2, rfl⟩ PySem.F.slot_list_ne (call_meets PySem.F.slot_list_ne ⟨_, ho1, rfl⟩ PySem.F.entry_list_ne (PySem.F.args_list_ne_2 _ _) (SeqAt.list_neAt a b us.toArray ws.toArray n1 n2 dd1 dd2 sl1 sl2 hsz (fun _ => true))
    ⟨ho1, ho2, fun j h1 h2 => ?_, ?_⟩) hu
  · simpa using same_all f r1 r2 j (by simpa using h1) (by simpa using h2)
  · rw [show (!(List.range us.toArray.size).all fun _ => true) = false from by rw [List.all_eq_true.mpr fun _ _ => rfl]; rfl]
    exact ⟨(fun z => nomatch z), ⟨.bl false, H, I, rfl, q⟩⟩
end
theorem ex_hid2' {p : Addr} {H H' : Hp} (e : Ex H H') : Ex (hid H p) (hid H' p) := fun b o h => by
  by_cases z : b = p
  · rw [z, hid_same] at h
    cases h
  · rw [hid_ne z] at *
    exact e b o h
section
variable {X : Cx} {σ : L2.St} {H : Hp} {a b c e : Expr} {es : List Expr} {pos p : Pos} {P P1 P2 : Rep} {k : Nat} {ws : List V} {bb : Bool}
theorem cg_neL (hu : X.A.units < cLine) (hm : MonoA (ws.map IsV)) (ha : EG X a σ H (LstOf (ws.map IsV))) (hb : EG X b σ H (LstOf (ws.map IsV))) (hf : ∀ v ∈ ws, sameB v) : CG X .NotEq a b σ H false :=
  cg_of (op_neS hu) ha hb fun x y H1 _ ⟨p1, x1, q1, q2, q3⟩ ⟨p2, x2, q4, q5, q6⟩ Q q => by
    rw [args_isV q3] at q2
    rw [args_isV q6] at q5
    exact ⟨p1, p2, ws, q1, q4, SqL.of q2, SqL.of q5, hf, q H1 (Ex.refl H1)⟩
def rEqP (K : PySem.W.Frag) (neg : Bool) : R2 := fun x y H Q => ∃ d d2, Dp K H x d ∧ Dp K H y d2 ∧ d.plain = true ∧ d2.plain = true ∧ d.depth ≤ 60 ∧ Q (.bl (if neg then !PyData.eqv d d2 else PyData.eqv d d2)) H
theorem op_eqP (hu : X.A.units + 64 < cLine) : OpR X (compareOp .Eq) (rEqP X.K false) := by
  intro pins s σ H x y v u Q I rx ry ⟨d, d2, hd, he, p1, p2, p3, q⟩
  obtain ⟨as, r1⟩ := Dp.reads I d x v hd rx
  obtain ⟨bs, r2⟩ := Dp.reads I d2 y u he ry
  exact SeqAt.eq_plain r1 r2 p1 p2 (by omega) ⟨.bl _, H, I, rfl, q⟩
theorem op_neP (hu : X.A.units + 64 < cLine) : OpR X (compareOp .NotEq) (rEqP X.K true) := by
  intro pins s σ H x y v u Q I rx ry ⟨d, d2, hd, he, p1, p2, p3, q⟩
  obtain ⟨as, r1⟩ := Dp.reads I d x v hd rx
  obtain ⟨bs, r2⟩ := Dp.reads I d2 y u he ry
  exact SeqAt.ne_plain r1 r2 p1 p2 (by omega) ⟨.bl _, H, I, rfl, q⟩
theorem cg_eqD {d d2 : PyData} [hm : Mono P1] (hu : X.A.units + 64 < cLine) (ha : EG X a σ H P1) (hb : EG X b σ H P2) (h1 : ∀ v H, P1 v H → Dp X.K H v d) (h2 : ∀ v H, P2 v H → Dp X.K H v d2) (s1 : d.plain = true) (s2 : d2.plain = true) (s3 : d.depth ≤ 60) (hbb : PyData.eqv d d2 = bb) : CG X .Eq a b σ H bb :=
  cg_of (op_eqP hu) ha hb fun x y H1 _ px py Q q => ⟨d, d2, h1 x H1 px, h2 y H1 py, s1, s2, s3, by rw [if_neg Bool.false_ne_true, hbb]; exact q H1 (Ex.refl H1)⟩
theorem cg_neD {d d2 : PyData} [hm : Mono P1] (hu : X.A.units + 64 < cLine) (ha : EG X a σ H P1) (hb : EG X b σ H P2) (h1 : ∀ v H, P1 v H → Dp X.K H v d) (h2 : ∀ v H, P2 v H → Dp X.K H v d2) (s1 : d.plain = true) (s2 : d2.plain = true) (s3 : d.depth ≤ 60) (hbb : (!PyData.eqv d d2) = bb) : CG X .NotEq a b σ H bb :=
  cg_of (op_neP hu) ha hb fun x y H1 _ px py Q q => ⟨d, d2, h1 x H1 px, h2 y H1 py, s1, s2, s3, by rw [if_pos rfl, hbb]; exact q H1 (Ex.refl H1)⟩
def rNiT (K : PySem.W.Frag) : R2 := fun x y H Q => ∃ d ds, Dp K H x d ∧ Dp K H y (.tuple ds) ∧ PyData.plainAll ds = true ∧ d.plain = true ∧ d.depth ≤ 60 ∧ Q (.bl (!ds.any fun z => PyData.eqv z d)) H
theorem op_niT (hu : X.A.units + 64 < cLine) : OpR X (compareOp .NotIn) (rNiT X.K) := by
  intro pins s σ H x y v u Q I rx ry ⟨d, ds, hd, he, p1, p2, p3, q⟩
  obtain ⟨as, r1⟩ := Dp.reads I d x v hd rx
  obtain ⟨bs, r2⟩ := Dp.reads I (.tuple ds) y u he ry
  exact SeqAt.notIn_tuple_data r2 r1 p1 p2 (by omega) ⟨.bl _, H, I, rfl, q⟩
theorem cg_niT {d : PyData} {ds : List PyData} [hm : Mono P1] (hu : X.A.units + 64 < cLine) (ha : EG X a σ H P1) (hb : EG X b σ H P2) (h1 : ∀ v H, P1 v H → Dp X.K H v d) (h2 : ∀ v H, P2 v H → Dp X.K H v (.tuple ds)) (s1 : PyData.plainAll ds = true) (s2 : d.plain = true) (s3 : d.depth ≤ 60) (hbb : (!ds.any fun z => PyData.eqv z d) = bb) : CG X .NotIn a b σ H bb :=
  cg_of (op_niT hu) ha hb fun x y H1 _ px py Q q => ⟨d, ds, h1 x H1 px, h2 y H1 py, s1, s2, s3, by rw [hbb]; exact q H1 (Ex.refl H1)⟩
theorem cg_inT (hm : MonoA (ws.map IsV)) {w : V} (ha : EG X a σ H (IsV w)) (hb : EG X b σ H (TupOf (ws.map IsV))) (f1 : flatV w = true) (f2 : ws.all flatV = true) (hbb : inV w ws = bb) : CG X .In a b σ H bb :=
  cg_of op_in_seq ha hb fun x y H1 _ px ⟨p1, x1, q1, q2, q3⟩ Q q => by
    rw [args_isV q3] at q2
    rw [show x = w from px]
    exact ⟨p1, ws, q1, .inr (SqT.of q2), f1, f2, by rw [if_neg Bool.false_ne_true, hbb]; exact q H1 (Ex.refl H1)⟩
/-! ### a list that grows -/
theorem all2_app {α : Type} {R : α → Rep} {H : Hp} {bs : List α} {ys : List V} (hb : All2 R bs ys H) : ∀ {as : List α} {xs : List V}, All2 R as xs H → All2 R (as ++ bs) (xs ++ ys) H
  | [], _, h => by rw [show _ = _ from h]; exact hb
  | a :: as, _, ⟨x, r, hx, h, t⟩ => by
    subst hx
    exact ⟨x, r ++ ys, rfl, h, all2_app hb t⟩
theorem b_app {D : Addr} {acc : List V} {rest : List Stmt} {En : Ends} {o : Expr} {ap cp sp : Pos} (hD : H D = some (.lst acc)) (hl : acc.length ≤ 1000) (ho : ∀ H1, Ex H H1 → EG X o σ H1 (IsV (.ref D))) (he : EG X e σ (hid H D) P)
    (k : ∀ v H1, Ex (hid H D) (hid H1 D) → H1 D = some (.lst (acc ++ [v])) → P v (hid H1 D) → BW X rest En σ H1)
    (hs : swapsWith (.Call (.Attribute o "append" ap) [e] [] cp) none sp.line X.env = pure false := by rfl) (hbase : attributeBase o "append" X.env (eval o X.env) = eval o X.env := by rfl)
    (hfew : ((backTo cp (starEach [e] X.env)).all (fun x => !x.1) && (backToKw cp (keywordEach [] X.env)).all (fun x => x.1.isSome) && decide ([e].length + ([] : List Keyword).length + (if ([] : List Keyword).isEmpty then 0 else 1) < 30)) = true := by rfl)
    (hline : (ap.endLine == cp.line) = true := by rfl) (hst : starEach [e] X.env = (false, eval e X.env) :: starEach [] X.env := by rfl) (hpl : (backTo cp (starEach [] X.env)).any (·.1) = false := by rfl) : BW X (.Expr (.Call (.Attribute o "append" ap) [e] [] cp) sp :: rest) En σ H := by
  refine b_of (ps_expr (pe_bm PySem.F.plainAttrs_list PySem.F.slot_list_append PySem.F.type_list_append mt_append pe_W (pa_cons pe_W pa_nil hst) hbase hfew hline hst hpl) hs) ?_
  refine ho H (Ex.refl H) H (Ex.refl H) _ fun v H1 e1 hv => ?_
  rw [show v = V.ref D from hv]
  have h1 := e1 _ _ hD
  refine ⟨.inl ⟨rfl, acc, SqL.of h1⟩, ?_⟩
  refine ew_hid h1 (he (hid H1 D) (ex_hid2' e1) _ fun w H2 e2 pw n2 => ?_)
  refine ⟨D, acc, w, rfl, rfl, upd_same, by rw [sizeLine_eq]; omega, ?_⟩
  rw [upd_upd]
  refine k w _ ?_ upd_same ?_
  · rw [hid_upd n2]
    exact (ex_hid2' e1).trans e2
  · rw [hid_upd n2]
    exact pw
theorem b_ext {D : Addr} {acc : List V} {rest : List Stmt} {En : Ends} {o : Expr} {ap cp sp : Pos} {α : Type} {R : α → Rep} {as : List α} (hR : ∀ a, Mono (R a)) (hD : H D = some (.lst acc)) (hl : acc.length ≤ 1000) (hl2 : as.length ≤ 1000) (ho : ∀ H1, Ex H H1 → EG X o σ H1 (IsV (.ref D))) (he : EG X e σ (hid H D) (IsL R as))
    (k : ∀ vs H1, Ex (hid H D) (hid H1 D) → H1 D = some (.lst (acc ++ vs)) → All2 R as vs (hid H1 D) → BW X rest En σ H1)
    (hs : swapsWith (.Call (.Attribute o "extend" ap) [e] [] cp) none sp.line X.env = pure false := by rfl) (hbase : attributeBase o "extend" X.env (eval o X.env) = eval o X.env := by rfl)
    (hfew : ((backTo cp (starEach [e] X.env)).all (fun x => !x.1) && (backToKw cp (keywordEach [] X.env)).all (fun x => x.1.isSome) && decide ([e].length + ([] : List Keyword).length + (if ([] : List Keyword).isEmpty then 0 else 1) < 30)) = true := by rfl)
    (hline : (ap.endLine == cp.line) = true := by rfl) (hst : starEach [e] X.env = (false, eval e X.env) :: starEach [] X.env := by rfl) (hpl : (backTo cp (starEach [] X.env)).any (·.1) = false := by rfl) : BW X (.Expr (.Call (.Attribute o "extend" ap) [e] [] cp) sp :: rest) En σ H := by
  refine b_of (ps_expr (pe_bm PySem.F.plainAttrs_list PySem.F.slot_list_extend PySem.F.type_list_extend mt_extend pe_W (pa_cons pe_W pa_nil hst) hbase hfew hline hst hpl) hs) ?_
  refine ho H (Ex.refl H) H (Ex.refl H) _ fun v H1 e1 hv => ?_
  rw [show v = V.ref D from hv]
  have h1 := e1 _ _ hD
  refine ⟨.inl ⟨rfl, acc, SqL.of h1⟩, ?_⟩
  refine ew_hid h1 (he (hid H1 D) (ex_hid2' e1) _ fun w H2 e2 pw n2 => ?_)
  obtain ⟨q, xs, hw, hq, ha⟩ := pw
  have hl3 := ha.length
  refine ⟨D, q, acc, xs, rfl, by rw [hw], upd_same, by rw [upd_ne (ne_of_none hq n2)]; exact hq, by rw [sizeLine_eq]; omega, ?_⟩
  rw [upd_upd]
  refine k xs _ ?_ upd_same ?_
  · rw [hid_upd n2]
    exact (ex_hid2' e1).trans e2
  · rw [hid_upd n2]
    exact ha
/-! ### l + l2, l * n -/
theorem eg_catL {α : Type} {R : α → Rep} {as bs : List α} [hR : ∀ a, Mono (R a)] (hl : as.length + bs.length ≤ 1000) (ha : EG X a σ H (IsL R as)) (hb : EG X b σ H (IsL R bs)) : EG X (.BinOp a .Add b pos) σ H (IsL R (as ++ bs)) :=
  eg_of (pe_op op_cat pe_W pe_W) (ep_op ha hb fun x y H1 _ ⟨p1, x1, q1, q2, q3⟩ ⟨p2, x2, q4, q5, q6⟩ Q q => ⟨p1, p2, x1, x2, q1, q4, q2, q5, by rw [sizeLine_eq]; have := q3.length; have := q6.length; omega, fun d hd => q _ _ (Ex.new hd) ⟨d, _, rfl, upd_same, all2_app (q6.up hR (Ex.new hd)) (q3.up hR (Ex.new hd))⟩⟩)
/-! ### loops with any target -/
def GMono (g : L2.TG) : Prop := ∀ v σ H (K1 K2 : L2.St → Hp → Prop), g v σ H K1 → (∀ σ2 H2, K1 σ2 H2 → K2 σ2 H2) → g v σ H K2
def GsMono (g : TGs) : Prop := ∀ v σ H (K1 K2 : L2.St → Hp → Prop), g v σ H K1 → (∀ σ2 H2, K1 σ2 H2 → K2 σ2 H2) → g v σ H K2
theorem gm_name {i : Nat} : GMono (gName i) := fun v σ H K1 K2 h q => q _ _ h
theorem gm_nil : GsMono gNil := fun v σ H K1 K2 ⟨h1, h2⟩ q => ⟨h1, q _ _ h2⟩
theorem gm_cons {t : L2.TG} {u : TGs} (h1 : GMono t) (h2 : GsMono u) : GsMono (gCons t u) := fun v σ H K1 K2 ⟨w, r, e, h⟩ q => ⟨w, r, e, h1 _ _ _ _ _ h fun σ2 H2 z => h2 _ _ _ _ _ z q⟩
theorem gm_unl {K : PySem.W.Frag} {n : Nat} {t : TGs} (h : GsMono t) : GMono (gUnl K n t) := fun v σ H K1 K2 ⟨a, xs, h1, h2, h3, h4⟩ q => ⟨a, xs, h1, h2, h3, h _ _ _ _ _ h4 q⟩
theorem b_forL {α : Type} {R : α → Rep} {as : List α} {tg iter : Expr} {g : L2.TG} {body rest : List Stmt} {D : Ends} (Pv : Nat → L2.St → Hp → Prop) (hR : ∀ a, Mono (R a)) (hg : PG X tg g) (hm : GMono g)
    (hE : EW X iter σ H fun v H1 => IsL R as v H1 ∧ Pv 0 σ H1 ∧ (∀ i a v σ' Ha, as[i]? = some a → Ex H1 Ha → Pv i σ' Ha → R a v Ha → g v σ' Ha fun σ2 H2 => BW X body { nx := Nxt Ha (Pv (i + 1)), ct := Nxt Ha (Pv (i + 1)), bk := BW X rest D, rt := D.rt } σ2 H2) ∧ (∀ σ' H', Ex H1 H' → Pv as.length σ' H' → BW X rest D σ' H'))
    (hxe : PassesOwn (model X.prog X.w) X.A X.env X.xe := by exact PassesOwn.never) (hc : X.calm = true := by rfl) (hf : ∀ x, foldedSetIterable iter X.env x = pure x := by intro _; rfl) : BW X (.For tg iter body [] pos :: rest) D σ H := by
  refine b_of (ps_for hxe hc (pi_list pe_W) hg pss_W hf) ?_
  intro pins s I
  refine thn (hE pins s I) fun u s1 ⟨v, H1, I1, r1, ⟨q, xs, hv, hq, h2⟩, h0, hs, hd⟩ => ?_
  refine ⟨v, H1, I1, r1, q, hv, ⟨xs, SqL.of hq⟩, ?_⟩
  have W : Walk (Itl X.K q) as.length (fun H => SqL X.K H q xs) (YAt xs) := by
    rw [← h2.length]
    exact walk_list
  refine for_it W (fun i σ' H' => Ex H1 H' ∧ Pv i σ' H') ⟨Ex.refl _, h0⟩ (fun i σ' H' _ p => SqL.of (p.1 _ _ hq)) (fun i v σ' Ha Hb hi p y => ?_) (fun σ' H' p => hd σ' H' p.1 p.2)
  obtain ⟨eb, hx⟩ := y
  subst eb
  obtain ⟨c, hc2, rc⟩ := h2.get hx
  refine hm _ _ _ _ _ (hs i c v σ' Hb hc2 p.1 p.2 ((hR c).up p.1 rc)) fun σ2 H2 z => ?_
  intro pins s I
  refine thn (z pins s I) fun f s1 q => ?_
  cases f with
  | next =>
    obtain ⟨σ2, H3, I3, q1, q2⟩ := q
    exact ⟨σ2, H3, I3, p.1.trans q1, q2⟩
  | cont =>
    obtain ⟨σ2, H3, I3, q1, q2⟩ := q
    exact ⟨σ2, H3, I3, p.1.trans q1, q2⟩
  | brk => exact q
  | ret u => exact q
end
end G
set_option maxHeartbeats 4000000
/-! exceptions raised: with own __init__, with keywords, without -/
namespace L2
open PySem PySem.Spec PyProof.Rows
section
variable {X : Cx} {pins : List (Addr × Obj)} {σ : St} {H : Hp} {s : Shared} {Q : XK} {C fI : Addr} {k : Nat} {fd : FuncData} {ps : List Str} {sp : Sp} {us : List Value}
theorem gx_mk (T : OexC X.K C) (iC : PySem.W.findIn X.K (.ref C) "__init__" = some (some (.ref fI))) (tI : PySem.W.typeIn X.K (.ref fI) = some (.type "function"))
    (F1 : FnOk X.prog X.w X.K X.mg X.base CX0 k fI fd ps sp) (hr : Room (k + 1) X.A) (kw : List (Str × Value)) (al : Addr → List Value) (vl : Addr → List V)
    (hbt : ∀ a (s2 : Shared), X.K.In s2.heap → BindsTo s2 fd ⟨.ref a :: us, kw⟩ (ps.zip (al a))) (hv : ∀ a, Vals (vl a) (al a)) (hus : us.length ≤ sizeLine) (I : Inv X pins σ H s)
    (h : ∀ a, H a = none → sp (vl a) (upd H a (exo a C none)) (fun v H2 => v = .non ∧ ∃ (d : Addr) (fs : List (Str × V)), H2 a = some (exo a C (some d)) ∧ H2 d = some (exd d fs) ∧ H d = none ∧ Q (.ref C) (some d) (upd (del H2 a) d (.xd fs))) (fun _ _ _ => False)) :
    wpAny (model X.prog X.w) X.A (call (.ref C) us kw) (MkP X pins σ Q) X.xe s := by
  obtain ⟨nm, q, N, bs, bm, sn, sub, ab, col, dd, k0, k1, k2, k3, k5, hC, hbm⟩ := T.cls
  obtain ⟨hp, g, dr, tk, os⟩ := s
  have hsz : hp.objs.size ≤ hp.objs.size + 1 := Nat.le_succ _
  have hn : H (hp.objs.size + 1) = none := I.hok.fresh hsz
  have hq := h (hp.objs.size + 1) hn
  have kk : ∀ b o, hp.get? b = some o → ((hp.push (PySem.W.kdv_tup us)).push (PySem.HandSPX.excO C hp.objs.size)).get? b = some o := fun b o e => Heap.get?_push_of_some _ (Heap.get?_push_of_some _ e)
  have at2 : ((hp.push (PySem.W.kdv_tup us)).push (PySem.HandSPX.excO C hp.objs.size)).get? (hp.objs.size + 1) = some (PySem.HandSPX.excO C hp.objs.size) := by heap_get
  have I2 : Inv X pins σ (upd H (hp.objs.size + 1) (exo (hp.objs.size + 1) C none)) ⟨(hp.push (PySem.W.kdv_tup us)).push (PySem.HandSPX.excO C hp.objs.size), g, dr, tk, os⟩ :=
    I.laid (t' := tk) (a := hp.objs.size + 1) (o := exo (hp.objs.size + 1) C none) (h' := (hp.push (PySem.W.kdv_tup us)).push (PySem.HandSPX.excO C hp.objs.size)) kk hsz (exo_ok at2)
  refine wpAny_call (PySem.GX.xk_call F.excBase_ValueError (fun Y => PySem.HandSPX.refsVE_contains Y bm hbm) (I.kIn _ _ hC) (PySem.W.looks_findIn I.kIn iC) (fun self => PySem.W.bind_fn I.kIn self tI) hus
    (codeAny_mono (F1.run _ X.stack _ _ ⟨Value.ref (hp.objs.size + 1) :: us, kw⟩ (al (hp.objs.size + 1)) _ _ (fun _ _ _ => False) (hr.make C us kw) (I2.env0.make C us kw) (hbt _ _ I2.kIn) (hv _) hq) fun r s2 hq2 => ?_))
  cases r with
  | error er => exact pass0 pins σ _ _ er s2 I2 hq2
  | ok fl =>
    cases fl with
    | ret u =>
      obtain ⟨v, H2, os2, bare2, un2, hok2, rv, ev, d, fs, ea, ed, hd1, q2⟩ := hq2
      subst ev
      obtain ⟨h2, g2, d2, t2, os'⟩ := s2
      exact ⟨rv, mk_end (raises_own T.exC T.tyC) I hsz kk un2 hok2 os2 bare2 ea ed hd1 q2⟩
    | next => exact False.elim hq2
    | brk => exact False.elim hq2
    | cont => exact False.elim hq2
end
end L2
namespace G
open PySem PySem.Spec PyProof.Rows L2 Evl
theorem raised_heap {H : Hp} {a d C : Addr} {fs : List (Str × V)} (ha : H a = none) (hda : d ≠ a) : upd (del (upd (upd (upd H a (exo a C none)) d (exd d fs)) a (exo a C (some d))) a) d (.xd fs) = upd H d (.xd fs) := by
  funext b
  by_cases h1 : b = d
  · rw [h1, upd_same, upd_same]
  · rw [upd_ne h1, upd_ne h1]
    by_cases h2 : b = a
    · rw [h2, del_same, ha]
    · rw [del_ne h2, upd_ne h2, upd_ne h1, upd_ne h2]
section
variable {X : Cx} {σ : L2.St} {H : Hp} {e : Expr} {es : List Expr} {kws : List Keyword} {pos p : Pos} {x : Str} {C : Addr} {fl : List Str} {rest : List Stmt} {D : Ends} {W : WX}
/-- raise C(e, ..) -/
theorem b_raiseX {ws : List V} (D0 : XCal X.prog X.w X.K X.mg X.base x C fl) (hr : Room 2 X.A) (tk : Takes X W) (ha : AG X (e :: es) σ H (ws.map IsV)) (hl : ws.length = fl.length) (h9 : fl.length ≤ 9) (k : ∀ d H1, Ex H H1 → H1 d = none → W (.ref C) (some d) σ (upd H1 d (.xd (fl.zip ws).reverse))) {pos2 : Pos}
    (hg : Gl X x := by rfl) (hc : X.calm = true := by rfl) (hdb : (x == ("__debug__" : Str)) = false := by decide) (he : starEach (e :: es) X.env = (false, eval e X.env) :: starEach es X.env := by rfl) (hpl : (backTo pos (starEach es X.env)).any (·.1) = false := by rfl) :
    BW X (.Raise (some (.Call (.Name x p) (e :: es) [] pos)) none pos2 :: rest) D σ H := by
  obtain ⟨fI, fd, ps, iC, tI, F, hb, _⟩ := D0.ex
  have mk : PMk X (.Call (.Name x p) (e :: es) [] pos) (fun σ H Q => AW X (e :: es) σ H fun vs H1 => vs = ws ∧ ∀ d, H1 d = none → Q (.ref C) (some d) (upd H1 d (.xd (fl.zip ws).reverse))) := by
    intro pins s σ H Q I h
    refine wpAny_Call_Name_kw (ld_glob I hg D0.mgx ?_ hdb)
    refine PySem.W.callWith_K (h₀ := X.base) I.ok.mod.kin D0.oex.kC (thn (h pos pins s I) fun us s1 ⟨vs, H1, I1, r1, hz, q1⟩ => ⟨I1.kIn, ?_⟩) he hpl
    subst hz
    have hus : us.length ≤ sizeLine := by
      rw [← Paired.length r1, sizeLine_eq]
      omega
    have spx : ∀ (Q2 : VK) a, H1 a = none → (∀ d, H1 d = none → d ≠ a → Q2 .non (upd (upd (upd H1 a (exo a C none)) d (exd d (fl.zip vs).reverse)) a (exo a C (some d)))) → XSp X.K fl (.ref a :: vs) (upd H1 a (exo a C none)) Q2 (fun _ _ _ => False) := fun Q2 a na z =>
      ⟨a, C, vs, rfl, hl, D0.oex, D0.nof, upd_same, fun d hd hda => z d (by rw [upd_ne hda] at hd; exact hd) hda⟩
    refine gx_mk D0.oex iC tI F hr [] (fun a => .ref a :: us) (fun a => .ref a :: vs) (fun a s2 K2 => ?_) (fun a => .cons rfl r1) hus I1 fun a na => spx _ a na fun d hd hda => ⟨rfl, d, _, upd_same, by rw [upd_ne hda, upd_same], hd, ?_⟩
    · have l2 := F.len _ _ _ _ (spx (fun _ _ => True) s1.heap.objs.size (I1.hok.fresh (Nat.le_refl _)) fun _ _ _ => True.intro)
      have z := hb s2 (.ref a :: us) K2 (by rw [List.append_nil, List.length_cons, ← Paired.length r1]; exact l2)
      rwa [List.append_nil] at z
    · rw [raised_heap na hda]
      exact q1 d hd
  exact b_of (ps_raise hc tk mk) (ha H (Ex.refl H) _ fun vs H1 e1 pv => ⟨args_isV pv, fun d hd => k d H1 e1 hd⟩)
theorem b_raiseXK {ws : List V} (D0 : XCal X.prog X.w X.K X.mg X.base x C fl) (hr : Room 2 X.A) (tk : Takes X W) (hkg : KG X kws σ H (ws.reverse.map IsV)) (hl : ws.length = fl.length) (k : ∀ d H1, Ex H H1 → H1 d = none → W (.ref C) (some d) σ (upd H1 d (.xd (fl.zip ws).reverse))) {pos2 : Pos}
    (hg : Gl X x := by rfl) (hc : X.calm = true := by rfl) (hall : (backToKw pos (keywordEach kws X.env)).all (·.1.isSome) = true := by rfl) (hks : (backToKw pos (keywordEach kws X.env)).filterMap (·.1) = fl.reverse := by rfl) (hdb : (x == ("__debug__" : Str)) = false := by decide)
    (hpl : ((backTo pos (starEach [] X.env)).any (·.1) || (backToKw pos (keywordEach kws X.env)).any (·.1.isNone)) = false := by rfl) : BW X (.Raise (some (.Call (.Name x p) [] kws pos)) none pos2 :: rest) D σ H := by
  obtain ⟨fI, fd, ps, iC, tI, F, _, hb⟩ := D0.ex
  have mk : PMk X (.Call (.Name x p) [] kws pos) (fun σ H Q => KW X kws σ H fun vs H1 => vs = ws.reverse ∧ ∀ d, H1 d = none → Q (.ref C) (some d) (upd H1 d (.xd (fl.zip ws).reverse))) := by
    intro pins s σ H Q I h
    refine wpAny_Call_Name_kw (ld_glob I hg D0.mgx ?_ hdb)
    refine PySem.W.callWith_KW0 (h₀ := X.base) I.ok.mod.kin D0.oex.kC hall ?_ hpl
    refine thn (h pos pins s I) fun wv s1 ⟨vs, H1, I1, r1, hz, q1⟩ => ⟨I1.kIn, ?_⟩
    rw [hks]
    subst hz
    have l2 : wv.length = fl.reverse.length := by
      rw [← Paired.length r1, List.length_reverse, List.length_reverse, hl]
    have rz : ∀ a : Addr, Vals ((fun vs zs : List V => vs ++ zs.reverse) [.ref a] ws.reverse) ([.ref a] ++ wv.reverse) := fun a => hb.rel (.cons rfl .nil) r1
    refine gx_mk (us := []) D0.oex iC tI F hr (fl.reverse.zip wv) (fun a => [.ref a] ++ wv.reverse) (fun a => (fun vs zs : List V => vs ++ zs.reverse) [.ref a] ws.reverse) (fun a s3 K3 => hb.to s3 [.ref a] wv K3 rfl l2) rz (Nat.zero_le _) I1 fun a na => ?_
    refine ⟨a, C, ws, by show [V.ref a] ++ ws.reverse.reverse = _; rw [List.reverse_reverse]; rfl, hl, D0.oex, D0.nof, upd_same, fun d hd hda => ⟨rfl, d, _, upd_same, by rw [upd_ne hda, upd_same], by rw [upd_ne hda] at hd; exact hd, ?_⟩⟩
    rw [raised_heap na hda]
    exact q1 d (by rw [upd_ne hda] at hd; exact hd)
  exact b_of (ps_raise hc tk mk) (hkg H (Ex.refl H) _ fun vs H1 e1 pv => ⟨args_isV pv, fun d hd => k d H1 e1 hd⟩)
/-- raise C(), C without an own __init__ -/
theorem b_raise0 {bmB : List Value} {B newId initId : String} (FX : ExcBaseFacts B newId initId bmB) (q : PySem.W.excIn X.K C bmB newId = true) (gC : X.mg x = some (.ref C)) (kC : PySem.W.keepIn X.K (.ref C) = true) (r : Raises X (.ref C)) (tk : Takes X W) (k : W (.ref C) none σ H) {pos2 : Pos}
    (hg : Gl X x := by rfl) (hc : X.calm = true := by rfl) (hdb : (x == ("__debug__" : Str)) = false := by decide) : BW X (.Raise (some (.Call (.Name x p) [] [] pos)) none pos2 :: rest) D σ H := by
  have mk : PMk X (.Call (.Name x p) [] [] pos) (fun _ H Q => Q (.ref C) none H) := by
    intro pins s σ H Q I h
    refine wpAny_Call_Name_kw (ld_glob I hg gC ?_ hdb)
    refine PySem.W.callWith_KW0 (h₀ := X.base) (kws := []) I.ok.mod.kin kC rfl ?_ rfl
    have hk : PK X [] tNil := pk_nil
    refine thn (hk.run pos pins s σ H (fun vs H1 => vs = [] ∧ H = H1) I ⟨rfl, rfl⟩) fun ws s2 ⟨zs, H2, I2, rz, l2, q2⟩ => ⟨I2.kIn, ?_⟩
    rw [← q2] at I2
    show wpAny _ _ (call (.ref C) []) _ _ _
    obtain ⟨bm, N, nm, qn, bs, hdct, sn, sub, ab, col, dd, k0, k1, k2, k3, k5, mN, hC, hN, hni, T⟩ := exc_obj I2.kIn q
    exact wpAny_call_exc_subT FX T hC hN hni (fun h2 a hm => mk_of I2 hm r h (I2.hok.gone hm.new)) (Nat.zero_le _)
  exact b_of (ps_raise hc tk mk) k
end
theorem fn_exc {P : Program} {w : World} {K : PySem.W.Frag} {mg : Str → Option Value} {base : Heap} {x qual : Str} {params : Arguments} {body : List Stmt} {scope : Scope} {dvs : List V} {kws : List (Str × V)} {f : Addr} {fd : FuncData} {N ps : List Str} {k : Nat} {sp : Sp} (F : FunD K x qual params body scope dvs kws f fd) (S : FnScope N ps scope) (len : ∀ vs H Q E, sp vs H Q E → vs.length = ps.length)
    (h : ∀ cdv A outer s H E vs Q, Room k (A.deeper (envOfC qual scope s.heap.objs.size f cdv)) → sp vs H Q E → BW (cxOf (L2.CX P w) P w K mg base N qual scope f cdv A outer s H E) body { nx := fun _ H' => Q .non H', rt := Q } (start N vs) H) :
    FnOk P w K mg base (L2.CX P w) (k + 1) f fd ps sp := F.ok S len fun cdv A outer s H vs Q E hr hs => ⟨_, pss_W, h cdv A outer s H E vs Q hr hs⟩
end G
set_option maxHeartbeats 4000000
namespace G
open PySem PySem.Spec PyProof.Rows L2 Evl
abbrev FnP (K : PySem.W.Frag) (x q : Str) (st : Stmt) (dvs : List V) (f : Addr) (fd : FuncData) : Prop := FunD K x q (defArgs st) (defBody st) (defScope st) dvs [] f fd
/-- the names of built-ins, free -/
structure Free (mg : Str → Option Value) : Prop where
  len : mg "len" = none
  int : mg "int" = none
  bool : mg "bool" = none
  isi : mg "isinstance" = none
  str : mg "str" = none
  abs : mg "abs" = none
  range : mg "range" = none
  ve : mg "ValueError" = none
  ke : mg "KeyError" = none
  ie : mg "IndexError" = none
  le : mg "LookupError" = none
  te : mg "TypeError" = none
  ae : mg "ArithmeticError" = none
  re : mg "RuntimeError" = none
theorem boot_int : bootBuiltins "int" = some (.type "int") := by rfl
theorem boot_bool : bootBuiltins "bool" = some (.type "bool") := by rfl
section
variable {X : Cx} {σ : L2.St} {H : Hp} {pos : Pos} {x : Str}
theorem eg_tyN {T : String} (hm : X.mg x = none) (hv : bootBuiltins x = some (.type T)) (hg : Gl X x := by rfl) (hn : x ≠ "__name__" := by decide) (hd : (x == ("__debug__" : Str)) = false := by decide) : EG X (.Name x pos) σ H (IsV (.ty T)) := eg_bltn (v := .ty T) hm hv rfl hg hn hd
theorem eg_cls {C : Addr} (hm : X.mg x = some (.ref C)) (hg : Gl X x := by rfl) (hd : (x == ("__debug__" : Str)) = false := by decide) : EG X (.Name x pos) σ H (IsV (.ref C)) := eg_glob (v := .ref C) hm rfl hg hd
end
end G
set_option maxHeartbeats 4000000
namespace G
open PySem PySem.Spec PyProof.Rows L2 Evl
/-! ### the pen: what is drawn from the script -/
def Pen (p c : Addr) (n : Nat) (H : Hp) : Prop := ∃ t r : Int, H p = some (.lst [.ref c, .int t, .int r]) ∧ 0 ≤ t ∧ t ≤ n
theorem Pen.mono {p c : Addr} {n m : Nat} {H : Hp} (h : Pen p c n H) (k : n ≤ m) : Pen p c m H := let ⟨t, r, h1, h2, h3⟩ := h; ⟨t, r, h1, h2, by omega⟩
theorem ex_hid2 {p : Addr} {H H' : Hp} (e : Ex H H') : Ex (hid H p) (hid H' p) := fun b o h => by
  by_cases z : b = p
  · rw [z, hid_same] at h
    cases h
  · rw [hid_ne z] at *
    exact e b o h
theorem ex_hid1 {p : Addr} {H : Hp} : Ex (hid H p) H := fun b o h => by
  by_cases z : b = p
  · rw [z, hid_same] at h
    cases h
  · rwa [hid_ne z] at h
theorem hid_upd' {p : Addr} {H : Hp} {o : HO} : hid (upd H p o) p = hid H p := by
  funext b
  by_cases z : b = p
  · rw [z, hid_same, hid_same]
  · rw [hid_ne z, hid_ne z, upd_ne z]
/-- the promise of a def that draws k numbers at most -/
def PnSp {α : Type} (k : Nat) (Ps : α → List Rep) (Post : α → Rep) : Sp := fun vs H Q _ => ∃ (p c : Addr) (cs : List Int) (n : Nat) (a : α) (args : List V), vs = .ref p :: args ∧ Pen p c n H ∧ n + k ≤ 4000 ∧ IsL IsI cs (.ref c) (hid H p) ∧ cs.length ≤ 63 ∧ Args (Ps a) args (hid H p) ∧
  ∀ v H', Ex (hid H p) (hid H' p) → Pen p c (n + k) H' → Post a v (hid H' p) → Q v H'
/-- an integer of which something is known -/
def IsP (φ : Int → Prop) : Rep := fun v _ => ∃ i, v = .int i ∧ φ i
instance {φ : Int → Prop} : Mono (IsP φ) := ⟨fun _ h => h⟩
theorem mul64l {i j : Int} (h : i.natAbs < 2 ^ 64) : IntMulOk i j := IntMulOk.of_left (PyProof.Rows.intBits_le h)
theorem mul64r {i j : Int} (h : j.natAbs < 2 ^ 64) : IntMulOk i j := IntMulOk.of_right (PyProof.Rows.intBits_le h)
def Cell (c : Addr) (cs : List Int) : Rep := fun v H => v = .ref c ∧ IsL IsI cs v H
instance {c : Addr} {cs : List Int} : Mono (Cell c cs) := ⟨fun e ⟨h1, h2⟩ => ⟨h1, (inferInstance : Mono (IsL IsI cs)).up e h2⟩⟩
abbrev PenW (c : Addr) (cs : List Int) (t r : Int) : Rep := LstOf [Cell c cs, IsI t, IsI r]
theorem penW {p c : Addr} {cs : List Int} {t r : Int} {H : Hp} (hp : H p = some (.lst [.ref c, .int t, .int r])) (hc : IsL IsI cs (.ref c) H) : PenW c cs t r (.ref p) H := ⟨p, _, rfl, hp, _, _, rfl, ⟨rfl, hc⟩, _, _, rfl, rfl, _, _, rfl, rfl, rfl⟩
theorem cells_put {p c : Addr} {cs : List Int} {H : Hp} {o : HO} (hne : c ≠ p) (hc : IsL IsI cs (.ref c) H) : IsL IsI cs (.ref c) (upd H p o) := by
  obtain ⟨a, xs, h1, h2, h3⟩ := hc
  cases h1
  refine ⟨c, xs, rfl, by rw [upd_ne hne]; exact h2, ?_⟩
  rw [all2_ints h3]
  exact ints_all2
section
variable {P : Program} {w : World} {K : PySem.W.Frag} {mg : Str → Option Value} {base : Heap} {f : Addr} {fd : FuncData} {C : Addr}
abbrev Many := {m : Int // 0 < m ∧ m < 2 ^ 60}
abbrev SpTake : Sp := PnSp 1 (fun m : Many => [IsI m.1]) fun m => IsP fun i => 0 ≤ i ∧ i < m.1
theorem sc_take : FnScope ["_law_pen_here", "_law_many", "_law_rest", "_law_spot", "_law_cell", "_law_mixed"] ["_law_pen_here", "_law_many"] (defScope (top 33)) := ⟨rfl, rfl, rfl, by decide +kernel, rfl, by decide +kernel, by decide +kernel⟩
theorem many_div {m : Int} (h : 0 < m ∧ m < 2 ^ 60) (i : Int) : CDivW i m := wide_div (b := 60) h.1 (by omega) (by decide) (by decide)
theorem ok_take (A : Free mg) (F : FnP K "_law_draw" "_law_draw" (top 33) [] f fd) : FnOk P w K mg base CX0 1 f fd ["_law_pen_here", "_law_many"] SpTake := by
  refine fn_any F sc_take (fun vs H Q E ⟨p, c, cs, n, a, args, h1, _, _, _, _, h2, _⟩ => by rw [h1, List.length_cons, args_len h2]; rfl) fun cdv Ar outer s H E vs Q hr ⟨p, c, cs, n, ⟨m, hm⟩, args, hvs, ⟨t, r, hp, t0, t1⟩, hn, hc, hcl, ha, hq⟩ => ?_
  obtain ⟨v, q, rfl, hv, h4⟩ := ha
  cases (show q = [] from h4)
  subst hvs
  have hne : c ≠ p := fun z => by
    obtain ⟨a, xs, h1, h2, _⟩ := hc
    cases h1
    rw [z, hid_same] at h2
    cases h2
  have mC : Mono (IsL IsI cs) := inferInstance
  have hcH : IsL IsI cs (.ref c) H := mC.up ex_hid1 hc
  cases (show v = _ from hv)
  -- the end: what is left of H
  have fin : ∀ (H' : Hp) (i t' r' : Int), Ex (hid H p) (hid H' p) → H' p = some (.lst [.ref c, .int t', .int r']) → 0 ≤ t' → t' ≤ n + 1 → 0 ≤ i → i < m → Q (.int i) H' := fun H' i t' r' e h1 h2 h3 h4 h5 => hq _ H' e ⟨t', r', h1, h2, by omega⟩ ⟨i, rfl, h4, h5⟩
  refine b_if (bb := decide (0 < r)) ?_ (fun h0 H1 e1 => ?_) fun h0 H1 e1 => b_nil ?_
  · exact tg_cm (cg_gt (eg_ixA (P := IsI r) (n := 2) (eg_var 0 rfl (penW hp hcH)) eg_int rfl) eg_int)
  · refine b_asg (P := IsI r) 2 sc_take.nd (eg_ixA (n := 2) (eg_var 0 rfl (penW (e1 _ _ hp) (mC.up e1 hcH))) eg_int rfl) fun v2 H2 e2 h2 => ?_
    cases (show v2 = _ from h2)
    refine b_setix (P := IsI (r / m)) (n := 2) inferInstance (eg_fdiv (many_div hm _) (eg_intI A.int (eg_var 2 rfl rfl)) (eg_var 1 rfl rfl)) (fun _ _ => eg_var 0 rfl rfl) (fun _ _ => eg_int) ((e1.trans e2) _ _ hp) (show 2 < 3 by decide) fun v3 H3 e3 h3 => ?_
    cases (show v3 = _ from h3)
    refine b_ret (P := IsI (r % m)) (eg_mod hm.1 (eg_intI A.int (eg_var 2 rfl rfl)) (eg_var 1 rfl rfl)) fun v4 H4 e4 h4 => ?_
    cases (show v4 = _ from h4)
    have x3 := (e1.trans e2).trans e3
    refine fin H4 _ t (r / m) ?_ (e4 _ _ upd_same) t0 (by omega) (Int.emod_nonneg _ (by omega)) (Int.emod_lt_of_pos _ hm.1)
    exact (ex_hid2 x3).trans (by have := ex_hid2 (p := p) e4; rwa [hid_upd'] at this)
  refine b_asg (P := IsI t) 3 sc_take.nd (eg_ixA (n := 1) (eg_var 0 rfl (penW (e1 _ _ hp) (mC.up e1 hcH))) eg_int rfl) fun v2 H2 e2 h2 => ?_
  cases (show v2 = _ from h2)
  have x2 := e1.trans e2
  refine b_setix (P := IsI (t + 1)) (n := 1) inferInstance (eg_add (eg_var 3 rfl rfl) eg_int) (fun _ _ => eg_var 0 rfl rfl) (fun _ _ => eg_int) (x2 _ _ hp) (show 1 < 3 by decide) fun v3 H3 e3 h3 => ?_
  cases (show v3 = _ from h3)
  have x3 := x2.trans e3
  generalize hH4 : upd H3 p _ = H4
  have hp4 : H4 p = some (.lst [.ref c, .int (t + 1), .int r]) := by rw [← hH4, upd_same]; rfl
  have hc4 : IsL IsI cs (.ref c) H4 := by rw [← hH4]; exact cells_put hne (mC.up x3 hcH)
  have x4 : Ex (hid H p) (hid H4 p) := by rw [← hH4, hid_upd']; exact ex_hid2 x3
  have tb : t.natAbs < 2 ^ 12 := by have : (2 : Nat) ^ 12 = 4096 := by decide
                                    omega
  refine b_asg (P := IsI (61007 * t + 2903)) 4 sc_take.nd (eg_add (eg_mulO (mul64l (by decide)) eg_int (eg_var 3 rfl rfl)) eg_int) fun v5 H5 e5 h5 => ?_
  cases (show v5 = _ from h5)
  -- what is drawn
  have tail : ∀ (i : Int) (H6 : Hp), Ex H4 H6 → BW (ctx P w K mg base ["_law_pen_here", "_law_many", "_law_rest", "_law_spot", "_law_cell", "_law_mixed"] "_law_draw" (defScope (top 33)) f cdv Ar outer s H E) ((defBody (top 33)).drop 5) { nx := fun _ H' => Q .non H', rt := Q } [some (.ref p), some (.int m), none, some (.int t), some (.int i), none] H6 := fun i H6 e6 => ?_
  · refine b_if (bb := !cs.isEmpty) ?_ (fun h0 H6 e6 => ?_) fun h0 H6 e6 => b_nil (tail _ _ (e5.trans e6))
    · refine tg_cm (cg_neNil hr (EvP.imp (eg_ixA (P := Cell c cs) (n := 0) (eg_var 0 rfl (penW (e5 _ _ hp4) (mC.up e5 hc4))) eg_int rfl) fun _ _ _ h => h.2) (eg_lst ag_nil))
    have hl : 0 < cs.length := by
      cases cs with
      | nil => cases h0
      | cons a b => exact Nat.succ_pos _
    have hi : t.toNat % cs.length < cs.length := Nat.mod_lt _ hl
    have y5 := e5.trans e6
    refine b_asg (P := IsI cs[t.toNat % cs.length]) 4 sc_take.nd ?_ fun v7 H7 e7 h7 => b_nil ?_
    · refine eg_ixL (R := IsI) (as := cs) (n := t.toNat % cs.length) (x := cs[t.toNat % cs.length]) ?_ ?_ (List.getElem?_eq_getElem hi)
      · exact EvP.imp (eg_ixA (P := Cell c cs) (n := 0) (eg_var 0 rfl (penW (y5 _ _ hp4) (mC.up y5 hc4))) eg_int rfl) fun _ _ _ h => h.2
      · refine EvP.int (eg_mod (i := t) (j := (cs.length : Int)) (by omega) (eg_intI A.int (eg_var 3 rfl rfl)) (eg_len (R := IsI) A.len (EvP.imp (eg_ixA (P := Cell c cs) (n := 0) (eg_var 0 rfl (penW (y5 _ _ hp4) (mC.up y5 hc4))) eg_int rfl) fun _ _ _ h => h.2))) ?_
        rw [Int.natCast_emod]
        have : ((t.toNat : Nat) : Int) = t := by omega
        rw [this]
    · cases (show v7 = _ from h7)
      exact tail _ _ (y5.trans e7)
  have h6 := e6 _ _ hp4
  have c6 := mC.up e6 hc4
  have z6 := x4.trans (ex_hid2 (p := p) e6)
  have wl : ∀ {pp : Pos} {H : Hp}, Ex H6 H → PenW c cs (t + 1) r (.ref p) H := fun e => penW (e _ _ h6) (mC.up e c6)
  refine b_if (bb := decide (t < (cs.length : Int)) && decide ((10 : Int) ^ 18 ≤ (i.natAbs : Int))) ?_ (fun h0 H7 e7 => ?_) fun h0 H7 e7 => b_nil ?_
  · refine tg_w (wg_and (tg_cm (cg_lt (eg_var 3 rfl rfl) ?_)) fun _ => wg_and1 (tg_cm (cg_ge (eg_abs A.abs (eg_var 4 rfl rfl)) (eg_pow (i := 10) (k := 18) (by decide) (by decide) eg_int eg_int))))
    exact eg_len (R := IsI) A.len (EvP.imp (eg_ixA (P := Cell c cs) (n := 0) (eg_var 0 rfl (penW h6 c6)) eg_int rfl) fun _ _ _ h => h.2)
  · refine b_asg (P := IsI (2 * ((i.natAbs : Int) - 10 ^ 18) + (if decide (i < 0) then 1 else 0))) 2 sc_take.nd ?_ fun v8 H8 e8 h8 => ?_
    · refine eg_add (eg_mulO (mul64l (by decide)) eg_int (eg_sub (eg_abs A.abs (eg_var 4 rfl rfl)) (eg_pow (i := 10) (k := 18) (by decide) (by decide) eg_int eg_int))) (eg_intB A.int (eg_cm (cg_lt (eg_var 4 rfl rfl) eg_int)))
    cases (show v8 = _ from h8)
    generalize (2 * ((i.natAbs : Int) - 10 ^ 18) + (if decide (i < 0) then 1 else 0)) = r2
    have x8 := (e6.trans e7).trans e8
    refine b_setix (P := IsI (r2 / m)) (n := 2) inferInstance (eg_fdiv (many_div hm _) (eg_intI A.int (eg_var 2 rfl rfl)) (eg_var 1 rfl rfl)) (fun _ _ => eg_var 0 rfl rfl) (fun _ _ => eg_int) (x8 _ _ hp4) (show 2 < 3 by decide) fun v9 H9 e9 h9 => ?_
    cases (show v9 = _ from h9)
    refine b_ret (P := IsI (r2 % m)) (eg_mod hm.1 (eg_intI A.int (eg_var 2 rfl rfl)) (eg_var 1 rfl rfl)) fun v10 H10 e10 h10 => ?_
    cases (show v10 = _ from h10)
    refine fin H10 _ (t + 1) (r2 / m) ?_ (e10 _ _ upd_same) (by omega) (by omega) (Int.emod_nonneg _ (by omega)) (Int.emod_lt_of_pos _ hm.1)
    exact (x4.trans (ex_hid2 (x8.trans e9))).trans (by have := ex_hid2 (p := p) e10; rwa [hid_upd'] at this)
  · have t2 : t ≤ 4000 := by omega
    have q1 : 0 ≤ i % 2147483587 := Int.emod_nonneg _ (by decide)
    have q2 : i % 2147483587 < 2147483587 := Int.emod_lt_of_pos _ (by decide)
    have k1 : (i % 2147483587 + 61007 * t + 2903).natAbs < 2 ^ 64 := by omega
    refine b_asg (P := IsI ((i % 2147483587 + 61007 * t + 2903) ^ 5 % 2147483647)) 5 sc_take.nd ?_ fun v8 H8 e8 h8 => ?_
    · exact eg_mod (by decide) (eg_intI A.int (eg_pow (k := 5) (by decide) k1 (eg_add (eg_add (eg_mod (by decide) (eg_intI A.int (eg_var 4 rfl rfl)) eg_int) (eg_mulO (mul64l (by decide)) eg_int (eg_var 3 rfl rfl))) eg_int) eg_int)) eg_int
    cases (show v8 = _ from h8)
    generalize hx : (i % 2147483587 + 61007 * t + 2903) ^ 5 % 2147483647 = x1
    have p1 : 0 ≤ x1 := hx ▸ Int.emod_nonneg _ (by decide)
    have p2 : x1 < 2147483647 := hx ▸ Int.emod_lt_of_pos _ (by decide)
    have w1 : x1 * (2 * t + 1987) ≤ 2147483647 * 9987 := Int.mul_le_mul (by omega) (by omega) (by omega) (by decide)
    have w0 : 0 ≤ x1 * (2 * t + 1987) := Int.mul_nonneg p1 (by omega)
    have w3 : 50021 * t * t ≤ 50021 * 4000 * 4000 := Int.mul_le_mul (by omega) t2 t0 (by decide)
    have w2 : 0 ≤ 50021 * t * t := Int.mul_nonneg (by omega) t0
    have k2 : (x1 * (2 * t + 1987) + 50021 * t * t + 2903).natAbs < 2 ^ 64 := by omega
    refine b_asg (P := IsI ((x1 * (2 * t + 1987) + 50021 * t * t + 2903) ^ 3 % 2147483549)) 5 sc_take.nd ?_ fun v9 H9 e9 h9 => ?_
    · refine eg_mod (by decide) (eg_intI A.int (eg_pow (k := 3) (by decide) k2 (eg_add (eg_add (eg_mulO (mul64l (by omega)) (eg_var 5 rfl rfl) (eg_add (eg_mulO (mul64l (by decide)) eg_int (eg_var 3 rfl rfl)) eg_int)) (eg_mulO (mul64l (by omega)) (eg_mulO (mul64l (by decide)) eg_int (eg_var 3 rfl rfl)) (eg_var 3 rfl rfl))) eg_int) eg_int)) eg_int
    cases (show v9 = _ from h9)
    generalize (x1 * (2 * t + 1987) + 50021 * t * t + 2903) ^ 3 % 2147483549 = x2
    refine b_ret (P := IsI (x2 / 64 % m)) (eg_mod hm.1 (eg_intI A.int (eg_fdiv (wide_div (b := 8) (by decide) (by decide) (by decide) (by decide)) (eg_var 5 rfl rfl) eg_int)) (eg_var 1 rfl rfl)) fun v10 H10 e10 h10 => ?_
    cases (show v10 = _ from h10)
    have x10 := (((e6.trans e7).trans e8).trans e9).trans e10
    exact fin H10 _ (t + 1) r (x4.trans (ex_hid2 x10)) (x10 _ _ hp4) (by omega) (by omega) (Int.emod_nonneg _ (by omega)) (Int.emod_lt_of_pos _ hm.1)
end
end G
set_option maxHeartbeats 4000000
namespace G
open PySem PySem.Spec PyProof.Rows L2 Evl
theorem Pen.up {p c : Addr} {n : Nat} {H H' : Hp} (h : Pen p c n H) (e : Ex H H') : Pen p c n H' := let ⟨t, r, h1, h2⟩ := h; ⟨t, r, e _ _ h1, h2⟩
/-- an expression that may draw: words by the heap without the pen -/
def QG (X : Cx) (p c : Addr) (e : Expr) (σ : L2.St) (H : Hp) (n m : Nat) (P : Rep) : Prop := ∀ H1, Ex H (hid H1 p) → Pen p c n H1 → ∀ Q : VK, (∀ v H2, Ex (hid H1 p) (hid H2 p) → Pen p c m H2 → P v (hid H2 p) → Q v H2) → EW X e σ H1 Q
def QA (X : Cx) (p c : Addr) (es : List Expr) (σ : L2.St) (H : Hp) (n m : Nat) (Ps : List Rep) : Prop := ∀ H1, Ex H (hid H1 p) → Pen p c n H1 → ∀ Q : List V → Hp → Prop, (∀ vs H2, Ex (hid H1 p) (hid H2 p) → Pen p c m H2 → Args Ps vs (hid H2 p) → Q vs H2) → AW X es σ H1 Q
def QT (X : Cx) (p c : Addr) (e : Expr) (σ : L2.St) (H : Hp) (n m : Nat) (φ : Bool → Prop) : Prop := ∀ H1, Ex H (hid H1 p) → Pen p c n H1 → ∀ Q : Bool → Hp → Prop, (∀ b H2, Ex (hid H1 p) (hid H2 p) → Pen p c m H2 → φ b → Q b H2) → TW X e σ H1 Q
theorem Pen.at {p c : Addr} {n : Nat} {H : Hp} (h : Pen p c n H) : ∃ acc, H p = some (.lst acc) := let ⟨_, _, h1, _⟩ := h; ⟨_, h1⟩
theorem Pen.put {p c : Addr} {n : Nat} {H H2 : Hp} {acc : List V} (h : Pen p c n H) (ha : H p = some (.lst acc)) : Pen p c n (upd H2 p (.lst acc)) := by
  obtain ⟨t, r, h1, h2⟩ := h
  rw [ha] at h1
  cases h1
  exact ⟨t, r, upd_same, h2⟩
section
variable {X : Cx} {σ : L2.St} {H : Hp} {a b e cc : Expr} {es : List Expr} {pos pp : Pos} {P P1 P2 : Rep} {Ps : List Rep} {x : Str} {k n m l : Nat} {p c : Addr} {φ ψ : Bool → Prop} {bb : Bool}
theorem qg_of (h : EG X e σ H P) : QG X p c e σ H n n P := fun H1 e1 hp Q q => by
  obtain ⟨acc, ha⟩ := hp.at
  refine ew_hid ha (h (hid H1 p) e1 _ fun v H2 e2 pv n2 => q v _ ?_ (hp.put ha) ?_)
  · rw [hid_upd n2]
    exact e2
  · rw [hid_upd n2]
    exact pv
theorem qt_of (h : TG X e σ H bb) : QT X p c e σ H n n (fun b => b = bb) := fun H1 e1 hp Q q => by
  obtain ⟨acc, ha⟩ := hp.at
  refine tw_hid ha (h (hid H1 p) e1 _ fun H2 e2 n2 => q bb _ ?_ (hp.put ha) rfl)
  rw [hid_upd n2]
  exact e2
theorem QG.imp (h : QG X p c e σ H n m P) (hk : m ≤ k) (hi : ∀ v H, P v H → P1 v H) : QG X p c e σ H n k P1 := fun H1 e1 hp Q q => h H1 e1 hp Q fun v H2 e2 p2 pv => q v H2 e2 (p2.mono hk) (hi v _ pv)
theorem QG.at {H' : Hp} (h : QG X p c e σ H n m P) (ex : Ex H H') : QG X p c e σ H' n m P := fun H1 e1 hp Q q => h H1 (ex.trans e1) hp Q q
theorem QT.imp (h : QT X p c e σ H n m φ) (hk : m ≤ k) (hi : ∀ b, φ b → ψ b) : QT X p c e σ H n k ψ := fun H1 e1 hp Q q => h H1 e1 hp Q fun v H2 e2 p2 pv => q v H2 e2 (p2.mono hk) (hi v pv)
theorem qa_nil : QA X p c [] σ H n n [] := fun H1 e1 hp Q q pos pins s I => pa_nil.run pos pins s σ H1 Q I (q [] H1 (Ex.refl _) hp rfl)
theorem qa_cons [hm : Mono P] (h : QG X p c e σ H n m P) (hr : QA X p c es σ H m l Ps) (hs : starEach (e :: es) X.env = (false, eval e X.env) :: starEach es X.env := by rfl) : QA X p c (e :: es) σ H n l (P :: Ps) :=
  fun H1 e1 hp Q q pos pins s I => (pa_cons pe_W pa_W hs).run pos pins s σ H1 Q I (h H1 e1 hp _ fun v H2 e2 p2 pv => hr H2 (e1.trans e2) p2 _ fun vs H3 e3 p3 pvs => q _ H3 (e2.trans e3) p3 ⟨v, vs, rfl, hm.up e3 pv, pvs⟩)
theorem hid_new {H2 : Hp} {q : Addr} {o : HO} (hq : q ≠ p) : hid (upd H2 q o) p = upd (hid H2 p) q o := by
  funext b
  by_cases z : b = p
  · rw [z, hid_same, upd_ne (Ne.symm hq), hid_same]
  · rw [hid_ne z]
    by_cases z2 : b = q
    · rw [z2, upd_same, upd_same]
    · rw [upd_ne z2, upd_ne z2, hid_ne z]
theorem Pen.new {H2 : Hp} {q : Addr} {o : HO} (h : Pen p c n H2) (hq : H2 q = none) : Pen p c n (upd H2 q o) ∧ q ≠ p := by
  obtain ⟨t, r, h1, h2⟩ := h
  have hne : q ≠ p := fun z => by rw [z, h1] at hq; cases hq
  exact ⟨⟨t, r, by rw [upd_ne (Ne.symm hne)]; exact h1, h2⟩, hne⟩
theorem qg_tup {x1} [hm : MonoA Ps] (h : QA X p c es σ H n m Ps) (hl : Ps.length ≤ 1000) : QG X p c (.Tuple es x1 pos) σ H n m (TupOf Ps) :=
  fun H1 e1 hp Q q pins s I => (pe_tup pa_W).run pins s σ H1 Q I (h H1 e1 hp _ fun vs H2 e2 p2 pv => ⟨sz_of (Nat.le_trans (Nat.le_of_eq (args_len pv)) (Nat.le_trans hl (by decide))), fun d hd => by
    obtain ⟨p3, hne⟩ := p2.new (o := .tup vs) hd
    have ex : Ex (hid H2 p) (hid (upd H2 d (.tup vs)) p) := ex_hid2 (Ex.new hd)
    exact q _ _ (e2.trans ex) p3 ⟨d, vs, rfl, by rw [hid_ne hne, upd_same], hm.up ex pv⟩⟩)
theorem qg_lst [hm : MonoA Ps] (h : QA X p c es σ H n m Ps) (hl : Ps.length ≤ 1000) : QG X p c (.List es pos) σ H n m (LstOf Ps) :=
  fun H1 e1 hp Q q pins s I => (pe_lst pa_W).run pins s σ H1 Q I (h H1 e1 hp _ fun vs H2 e2 p2 pv => ⟨sz_of (Nat.le_trans (Nat.le_of_eq (args_len pv)) (Nat.le_trans hl (by decide))), fun d hd => by
    obtain ⟨p3, hne⟩ := p2.new (o := .lst vs) hd
    have ex : Ex (hid H2 p) (hid (upd H2 d (.lst vs)) p) := ex_hid2 (Ex.new hd)
    exact q _ _ (e2.trans ex) p3 ⟨d, vs, rfl, by rw [hid_ne hne, upd_same], hm.up ex pv⟩⟩)
/-- a def that draws -/
theorem qg_pen {α : Type} {kk : Nat} {Qs : α → List Rep} {Post : α → Rep} {cs : List Int} (t : α) (D : Cal X.prog X.w X.K X.mg X.base x k [] (PnSp kk Qs Post)) (hr : Room k X.A) (hc : IsL IsI cs (.ref c) H) (hl : cs.length ≤ 63) (hk : m + kk ≤ 4000) (ha : QA X p c (e :: es) σ H n m (IsV (.ref p) :: Qs t)) (hg : Gl X x := by rfl) (hdb : (x == ("__debug__" : Str)) = false := by decide)
    (he : starEach (e :: es) X.env = (false, eval e X.env) :: starEach es X.env := by rfl) (hpl : (backTo pos (starEach es X.env)).any (·.1) = false := by rfl) (hp : ∀ v H, Post t v H → P v H := by exact fun _ _ h => h) : QG X p c (.Call (.Name x pp) (e :: es) [] pos) σ H n (m + kk) P := by
  obtain ⟨f, fd, ps, ds, F, hm, hkp, hb, hd⟩ := D.ex
  intro H1 e1 hpn Q q pins s I
  refine (pe_call (E := E0) F hr hg hm hkp hb hd pass0 pa_W hdb he hpl).run pins s σ H1 Q I (ha H1 e1 hpn _ fun vs H2 e2 p2 ⟨v, r, h1, h2, h3⟩ => ?_)
  refine ⟨p, c, cs, m, t, r, by rw [List.append_nil, h1, show v = _ from h2], p2, hk, (inferInstance : Mono (IsL IsI cs)).up (e1.trans e2) hc, hl, h3, fun v H' e3 p3 hv => q v H' (e2.trans e3) p3 (hp v _ hv)⟩
/-- a def that draws nothing, of arguments that do -/
theorem qg_pure {α : Type} {Qs : α → List Rep} {Post : α → Rep} {PA : List Rep} (D : Cal X.prog X.w X.K X.mg X.base x k [] (PSp Qs Post)) (hr : Room k X.A) (ha : QA X p c (e :: es) σ H n m PA) (hs : ∀ vs H, Args PA vs H → ∃ t, Args (Qs t) vs H ∧ ∀ v H, Post t v H → P v H) (hg : Gl X x := by rfl) (hdb : (x == ("__debug__" : Str)) = false := by decide)
    (he : starEach (e :: es) X.env = (false, eval e X.env) :: starEach es X.env := by rfl) (hpl : (backTo pos (starEach es X.env)).any (·.1) = false := by rfl) : QG X p c (.Call (.Name x pp) (e :: es) [] pos) σ H n m P := by
  obtain ⟨f, fd, ps, ds, F, hm, hkp, hb, hd⟩ := D.ex
  intro H1 e1 hpn Q q pins s I
  refine wpAny_Call_Name_kw (ld_glob I hg hm ?_ hdb)
  refine PySem.W.callWith_K (h₀ := X.base) I.ok.mod.kin hkp (thn (ha H1 e1 hpn (fun vs H2 => Ex (hid H1 p) (hid H2 p) ∧ Pen p c m H2 ∧ Args PA vs (hid H2 p)) (fun vs H2 a1 a2 a3 => ⟨a1, a2, a3⟩) pos pins _ (I.tok _)) fun us s1 ⟨vs, H2, I2, r, a1, a2, a3⟩ => ⟨I2.kIn, ?_⟩) he hpl
  obtain ⟨acc, hac⟩ := a2.at
  obtain ⟨t, h1, h2⟩ := hs vs _ a3
  obtain ⟨ob, eo, J⟩ := hide_ok I2 hac
  refine thn (run_fn (E := E0) F hr hb hd pass0 J r (Q := fun v H3 => Ex (hid H2 p) H3 ∧ P v H3) ⟨t, by rw [List.append_nil]; exact h1, fun v H3 e3 hv => ⟨e3, h2 v H3 hv⟩⟩) fun u s2 ⟨v, H3, J3, rv, e3, hv⟩ => ?_
  obtain ⟨n3, I3⟩ := show_ok I2 hac eo J3
  exact ⟨v, _, I3, rv, q v _ (by rw [hid_upd n3]; exact a1.trans e3) (a2.put hac) (by rw [hid_upd n3]; exact hv)⟩
/-- ints -/
theorem qg_int2 {op : Operator} {C : Int → Int → Prop} {g : Int → Int → Int} {f1 f2 f3 : Int → Prop} (ho : OpR X (binaryOp op) (rI C fun i j => .int (g i j))) (ha : QG X p c a σ H n m (IsP f1)) (hb : QG X p c b σ H m l (IsP f2)) (hc : ∀ i j, f1 i → f2 j → C i j ∧ f3 (g i j)) : QG X p c (.BinOp a op b pos) σ H n l (IsP f3) :=
  fun H1 e1 hp Q q pins s I => (pe_op ho pe_W pe_W).run pins s σ H1 Q I (ha H1 e1 hp _ fun v H2 e2 p2 ⟨i, h1, h2⟩ => hb H2 (e1.trans e2) p2 _ fun u H3 e3 p3 ⟨j, h3, h4⟩ => ⟨i, j, h1, h3, (hc i j h2 h4).1, q _ H3 (e2.trans e3) p3 ⟨_, rfl, (hc i j h2 h4).2⟩⟩)
theorem qg_isP {i : Int} {f1 : Int → Prop} (h : EG X e σ H (IsI i)) (hf : f1 i) : QG X p c e σ H n n (IsP f1) := (qg_of h).imp (Nat.le_refl _) fun v H hv => ⟨i, hv, hf⟩
theorem qg_add {f1 f2 f3 : Int → Prop} (ha : QG X p c a σ H n m (IsP f1)) (hb : QG X p c b σ H m l (IsP f2)) (hc : ∀ i j, f1 i → f2 j → f3 (i + j)) : QG X p c (.BinOp a .Add b pos) σ H n l (IsP f3) :=
  fun H1 e1 hp Q q pins s I => (pe_op op_add pe_W pe_W).run pins s σ H1 Q I (ha H1 e1 hp _ fun v H2 e2 p2 ⟨i, h1, h2⟩ => hb H2 (e1.trans e2) p2 _ fun u H3 e3 p3 ⟨j, h3, h4⟩ => ⟨i, j, h1, h3, q _ H3 (e2.trans e3) p3 ⟨_, rfl, hc i j h2 h4⟩⟩)
theorem qg_sub {f1 f2 f3 : Int → Prop} (ha : QG X p c a σ H n m (IsP f1)) (hb : QG X p c b σ H m l (IsP f2)) (hc : ∀ i j, f1 i → f2 j → f3 (i - j)) : QG X p c (.BinOp a .Sub b pos) σ H n l (IsP f3) :=
  fun H1 e1 hp Q q pins s I => (pe_op op_sub pe_W pe_W).run pins s σ H1 Q I (ha H1 e1 hp _ fun v H2 e2 p2 ⟨i, h1, h2⟩ => hb H2 (e1.trans e2) p2 _ fun u H3 e3 p3 ⟨j, h3, h4⟩ => ⟨i, j, h1, h3, q _ H3 (e2.trans e3) p3 ⟨_, rfl, hc i j h2 h4⟩⟩)
theorem scal_int {i j : Int} : scal (.int i) (.int j) = true := rfl
/-- a == b of ints, as a test -/
theorem qt_eqI {f1 f2 : Int → Prop} (ha : QG X p c a σ H n m (IsP f1)) (hb : QG X p c b σ H m l (IsP f2)) (hm : behindInMarks .Eq b = false := by first | exact nomark _ | rfl) : QT X p c (.Compare a [.Eq] [b] pos) σ H n l (fun _ => True) :=
  fun H1 e1 hp Q q pins s I => (pt_cmpR op_eq pe_W pe_W hm).run pins s σ H1 Q I (ha H1 e1 hp _ fun v H2 e2 p2 ⟨i, h1, h2⟩ => hb H2 (e1.trans e2) p2 _ fun u H3 e3 p3 ⟨j, h3, h4⟩ => by
    subst h1 h3
    exact ⟨scal_int, _, rfl, q _ H3 (e2.trans e3) p3 True.intro⟩)
theorem qt_or (h1 : QT X p c a σ H n m φ) (h2 : QT X p c b σ H m l ψ) (hml : m ≤ l) : QT X p c (.BoolOp .Or [a, b] pos) σ H n l (fun _ => True) :=
  fun H1 e1 hp Q q pins s I => (pw_or (pt_W (X := X)) (pw_or1 (pt_W (X := X)))).run _ pins s σ H1 Q I (h1 H1 e1 hp _ fun b1 H2 e2 p2 _ => by
    cases b1 with
    | true => rw [if_pos rfl]; exact q true H2 e2 (p2.mono hml) True.intro
    | false => rw [if_neg Bool.false_ne_true]; exact h2 H2 (e1.trans e2) p2 Q fun b2 H3 e3 p3 _ => q b2 H3 (e2.trans e3) p3 True.intro)
theorem qg_if (hc : QT X p c cc σ H n m φ) (h1 : φ true → QG X p c a σ H m l P) (h2 : φ false → QG X p c b σ H m l P) : QG X p c (.IfExp cc a b pos) σ H n l P :=
  fun H1 e1 hp Q q pins s I => (pe_ifExp pt_W pe_W pe_W).run pins s σ H1 Q I (hc H1 e1 hp _ fun b1 H2 e2 p2 hb => by
    cases b1 with
    | true => rw [if_pos rfl]; exact h1 hb H2 (e1.trans e2) p2 Q fun v H3 e3 p3 pv => q v H3 (e2.trans e3) p3 pv
    | false => rw [if_neg Bool.false_ne_true]; exact h2 hb H2 (e1.trans e2) p2 Q fun v H3 e3 p3 pv => q v H3 (e2.trans e3) p3 pv)
/-! ### statements -/
section
variable {rest A B : List Stmt} {D : Ends} {y z u : Str} {py pz pu pt : Pos} {kt k2 : Nat} {spos : Pos} {σ' : L2.St} {P3 : Rep}
theorem qb_asg (i : Nat) (hN : X.N.Nodup) (he : QG X p c e σ (hid H p) n m P) (hp : Pen p c n H) (k : ∀ v H1, Ex (hid H p) (hid H1 p) → Pen p c m H1 → P v (hid H1 p) → BW X rest D (σ.set i (some v)) H1) (hi : X.N[i]? = some y := by rfl) (hl : Loc X.env.scope y := by first | exact Or.inl rfl | exact Or.inr rfl)
    (hs : swapsWith e (some (.Name y py)) spos.line X.env = pure false := by rfl) (hf : X.fn y = true ∨ X.env.scope.names.lookup y = some .local := by first | exact .inl rfl | exact .inr rfl) : BW X (.Assign [.Name y py] e spos :: rest) D σ H :=
  b_of (ps_set hN hi hl pe_W hs hf) (he H (Ex.refl _) hp _ k)
theorem qb_ret (he : QG X p c e σ (hid H p) n m P) (hp : Pen p c n H) (k : ∀ v H1, Ex (hid H p) (hid H1 p) → Pen p c m H1 → P v (hid H1 p) → D.rt v H1) : BW X (.Return (some e) spos :: rest) D σ H := b_of (ps_ret pe_W) (he H (Ex.refl _) hp _ k)
theorem qb_if (hc : QT X p c cc σ (hid H p) n m φ) (hp : Pen p c n H) (h1 : φ true → ∀ H1, Ex (hid H p) (hid H1 p) → Pen p c m H1 → BW X A { D with nx := BW X rest D } σ H1) (h2 : φ false → ∀ H1, Ex (hid H p) (hid H1 p) → Pen p c m H1 → BW X B { D with nx := BW X rest D } σ H1) : BW X (.If cc A B spos :: rest) D σ H :=
  b_of (ps_if pt_W pss_W pss_W) (hc H (Ex.refl _) hp _ fun b1 H1 e1 p1 hb => by
    cases b1 with
    | true => rw [if_pos rfl]; exact h1 hb H1 e1 p1
    | false => rw [if_neg Bool.false_ne_true]; exact h2 hb H1 e1 p1)
theorem qb_par (i j : Nat) {pt2 : Pos} (hN : X.N.Nodup) (ha : QA X p c [a, b] σ (hid H p) n m [P1, P2]) (hp : Pen p c n H) (hij : i ≠ j) (k : ∀ v w H1, Ex (hid H p) (hid H1 p) → Pen p c m H1 → P1 v (hid H1 p) → P2 w (hid H1 p) → BW X rest D ((σ.set i (some v)).set j (some w)) H1)
    (hw : swappedStores [.Tuple [.Name y py, .Name z pz] kt pt] (.Tuple [a, b] k2 pt2) X.env = pure (some [y, z])) (hi : X.N[i]? = some y := by rfl) (hj : X.N[j]? = some z := by rfl) (hx : X.env.scope.names.lookup y = some .local := by rfl) (hy : X.env.scope.names.lookup z = some .local := by rfl) (hc : X.calm = true := by rfl)
    (hs : swapsWithSole [.Tuple [.Name y py, .Name z pz] kt pt] (.Tuple [a, b] k2 pt2) spos.line X.env = pure false := by rfl) : BW X (.Assign [.Tuple [.Name y py, .Name z pz] kt pt] (.Tuple [a, b] k2 pt2) spos :: rest) D σ H :=
  b_of (ps_par hc hN hi hj hij hx hy pa_W hw hs) (ha H (Ex.refl _) hp _ fun vs H1 e1 p1 ⟨v, r, h1, h2, w, r2, h3, h4, h5⟩ => ⟨v, w, by rw [h1, h3, show r2 = [] from h5], k v w H1 e1 p1 h2 h4⟩)
theorem qb_par3 (i j l' : Nat) {pt2 : Pos} (hN : X.N.Nodup) {d : Expr} (ha : QA X p c [a, b, d] σ (hid H p) n m [P1, P2, P3]) (hp : Pen p c n H) (hij : i ≠ j) (hil : i ≠ l') (hjl : j ≠ l') (k : ∀ v w o H1, Ex (hid H p) (hid H1 p) → Pen p c m H1 → P1 v (hid H1 p) → P2 w (hid H1 p) → P3 o (hid H1 p) → BW X rest D (((σ.set i (some v)).set j (some w)).set l' (some o)) H1)
    (hw : swappedStores [.Tuple [.Name y py, .Name z pz, .Name u pu] kt pt] (.Tuple [a, b, d] k2 pt2) X.env = pure (some [y, z, u])) (hi : X.N[i]? = some y := by rfl) (hj : X.N[j]? = some z := by rfl) (hl : X.N[l']? = some u := by rfl) (hx : X.env.scope.names.lookup y = some .local := by rfl) (hy : X.env.scope.names.lookup z = some .local := by rfl) (hz : X.env.scope.names.lookup u = some .local := by rfl) (hc : X.calm = true := by rfl)
    (hs : swapsWithSole [.Tuple [.Name y py, .Name z pz, .Name u pu] kt pt] (.Tuple [a, b, d] k2 pt2) spos.line X.env = pure false := by rfl) : BW X (.Assign [.Tuple [.Name y py, .Name z pz, .Name u pu] kt pt] (.Tuple [a, b, d] k2 pt2) spos :: rest) D σ H :=
  b_of (ps_par3 hc hN hi hj hl hij hil hjl hx hy hz pa_W hw hs) (ha H (Ex.refl _) hp _ fun vs H1 e1 p1 ⟨v, r, h1, h2, w, r2, h3, h4, o, r3, h5, h6, h7⟩ => ⟨v, w, o, by rw [h1, h3, h5, show r3 = [] from h7], k v w o H1 e1 p1 h2 h4 h6⟩)
theorem qb_two (i j : Nat) {pt : Pos} (hN : X.N.Nodup) (he : QG X p c e σ (hid H p) n m (TupOf [P1, P2])) (hp : Pen p c n H) (k : ∀ v w H1, Ex (hid H p) (hid H1 p) → Pen p c m H1 → P1 v (hid H1 p) → P2 w (hid H1 p) → BW X rest D ((σ.set i (some v)).set j (some w)) H1)
    (hi : X.N[i]? = some y := by rfl) (hj : X.N[j]? = some z := by rfl) (hl : Loc X.env.scope y := by first | exact Or.inl rfl | exact Or.inr rfl) (hl2 : Loc X.env.scope z := by first | exact Or.inl rfl | exact Or.inr rfl) (hc : X.calm = true := by rfl)
    (hf : X.fn y = true ∨ X.env.scope.names.lookup y = some .local := by first | exact .inl rfl | exact .inr rfl) (hf2 : X.fn z = true ∨ X.env.scope.names.lookup z = some .local := by first | exact .inl rfl | exact .inr rfl)
    (hn : (assignEach [.Name y py, .Name z pz] X.env).length = 2 := by rfl) (hst : (assignEach [.Name y py, .Name z pz] X.env).findIdx? (·.1) = none := by rfl)
    (hs1 : (assignEach [.Name y py, .Name z pz] X.env).map (·.2) = assign (.Name y py) X.env :: (assignEach [.Name z pz] X.env).map (·.2) := by rfl) (hs2 : (assignEach [.Name z pz] X.env).map (·.2) = assign (.Name z pz) X.env :: (assignEach [] X.env).map (·.2) := by rfl)
    (hs : swapsWithSole [.Tuple [.Name y py, .Name z pz] kt pt] e spos.line X.env = pure false := by rfl) (hw : swappedStores [.Tuple [.Name y py, .Name z pz] kt pt] e X.env = pure none := by rfl)
    (h1 : (assignEach [.Tuple [.Name y py, .Name z pz] kt pt] X.env).map (·.2) = [assign (.Tuple [.Name y py, .Name z pz] kt pt) X.env] := by rfl) : BW X (.Assign [.Tuple [.Name y py, .Name z pz] kt pt] e spos :: rest) D σ H :=
  b_of (ps_asg pe_W (pg_tup hc (pgs_cons (pg_name hN hi hl hf) (pgs_cons (pg_name hN hj hl2 hf2) pgs_nil hs2) hs1) hn hst) hs hw h1) (he H (Ex.refl _) hp _ fun v H1 e1 p1 ⟨d, xs, q1, q2, v1, r1, q3, q4, v2, r2, q5, q6, q7⟩ => by
    refine ⟨d, xs, q1, SqT.of (ex_hid1 _ _ q2), by rw [q3, q5, show r2 = [] from q7]; rfl, v1, r1, q3, v2, r2, q5, q7, ?_⟩
    exact k v1 v2 H1 e1 p1 q4 q6)
end
end
end G
set_option maxHeartbeats 4000000
namespace G
open PySem PySem.Spec PyProof.Rows L2 Evl
/-- a walk over range(n), whatever becomes of the heap -/
def IterR (X : Cx) (tg iter : Expr) (σ : L2.St) (H : Hp) (n : Nat) : Prop := ∃ wi, PI X tg iter wi ∧ ∀ H1, Ex H H1 → ∀ Rr : It → Hp → Prop,
  (∀ J H2 Y, Ex H1 H2 → Walk J n (fun _ => True) Y → (∀ i Ha x Hb, Y i Ha x Hb → Hb = Ha ∧ i < n ∧ x = .int (i : Int)) → Rr J H2) → wi σ H1 Rr
section
variable {X : Cx} {σ : L2.St} {H : Hp} {tg l elt e : Expr} {pos pp : Pos} {P : Rep} {n m : Nat} {p c : Addr} {x : Str} {scope : Scope}
theorem ir_range {k : Nat} (hm : X.mg "range" = none) (h : EG X l σ H (IsI (k : Int))) (hk : k ≤ 1000000) (hg : Gl X "range" := by rfl) (hs : starEach [l] X.env = [(false, eval l X.env)] := by rfl) : IterR X tg (.Call (.Name "range" pp) [l] [] pos) σ H k := by
  refine ⟨_, pi_range1 hg hm pa_W hs, fun H1 e1 Rr kk => ?_⟩
  refine (ag_cons h ag_nil (hs := hs)) H1 e1 _ fun vs H2 e2 ⟨v, r, hv, hp, hr⟩ => ⟨(k : Int), by rw [hv, show v = V.int k from hp, show r = [] from hr], by omega, by omega, ?_⟩
  have w : Walk (Itr 0 ((k : Int)).toNat) k (fun _ => True) (fun i H x H' => H' = H ∧ i < k ∧ x = .int (i : Int)) := by
    refine ⟨fun i _ hi _ => ?_, fun _ _ => ?_, fun i Ha x Hb hi _ y => ?_⟩
    · show i < ((k : Int)).toNat
      omega
    · show ((k : Int)).toNat ≤ k
      omega
    · obtain ⟨y1, y2⟩ := y
      exact ⟨y1, hi, by rw [y2, Int.zero_add]⟩
  exact kk _ H2 _ e2 w fun i Ha x Hb y => y
/-- [elt for x in range(..)] where elt draws kk numbers at most -/
theorem qg_lcR (j k kk : Nat) {px : Pos} (f1 : Int → Prop) (hN : X.N.Nodup) (hi : IterR X (.Name x px) (.Call (.Name "range" pp) [l] [] pos) σ H k) (hk : k ≤ 1000000) (hz : n + k * kk ≤ 4000)
    (he : ∀ i < k, ∀ n', n' + kk ≤ 4000 → ∀ s H0 C cl fp, QG (X.blk s H0 scope (compEnvC scope cl C X.env) fp) p c elt ((σ.set j none).set j (some (.int (i : Int)))) H n' (n' + kk) (IsP f1))
    (hg : ∀ (s : Shared) (H : Hp) (C : Addr) (cl : List (Str × Addr)) (fp : List Addr), PG (X.blk s H scope (compEnvC scope cl C X.env) fp) (.Name x px) (gName j)) (ok : BlkOk X.N X.env.scope scope [(x, j)] := by exact blkOk_by (by rfl)) (hc : X.calm = true := by rfl)
    (hs : ∀ y, foldedSetIterable (.Call (.Name "range" pp) [l] [] pos) X.env y = pure y := by intro _; rfl) (hq : ∀ v H, (∃ as : List Int, as.length = k ∧ (∀ a ∈ as, f1 a) ∧ IsL IsI as v H) → P v H := by exact fun _ _ h => h) {pos' : Pos} :
    QG X p c (.ListComp elt [⟨.Name x px, .Call (.Name "range" pp) [l] [] pos, [], 0⟩] scope pos') σ H n (n + k * kk) P := by
  obtain ⟨wi, hpi, hw⟩ := hi
  intro H1 e1 hpn Q q pins s I
  refine (pe_lc (own := [(x, j)]) hc hN hpi ok hg (fun _ _ _ _ _ => pts_nil) (ue_pe (elt := elt)) hs).run pins s σ H1 Q I ?_
  refine hw H1 (e1.trans ex_hid1) _ fun J H2 Y e2 W hY D hD => ?_
  have p2 := hpn.up e2
  have x2 : Ex H (hid H2 p) := e1.trans (ex_hid2 e2)
  have hDp : D ≠ p := (p2.new (o := .lst []) hD).2
  refine lc_it W (fun i H' => ∃ as : List Int, as.length = i ∧ (∀ a ∈ as, f1 a) ∧ H' D = some (.lst (as.map V.int)) ∧ Pen p c (n + i * kk) H' ∧ Ex (hid H2 p) (hid (hid H' D) p)) ⟨[], rfl, fun _ h => (List.not_mem_nil h).elim, upd_same, ((p2.new hD).1).mono (by omega), by rw [hid_upd hD]; exact Ex.refl _⟩ (fun _ _ _ _ => True.intro) (fun i y Ha Hb hi ⟨as, h1, h2, h3, h4, h5⟩ yy => ?_) (fun H' ⟨as, h1, h2, h3, h4, h5⟩ => ?_)
  · obtain ⟨y1, hik, y3⟩ := hY i Ha y Hb yy
    subst y1 y3
    refine ⟨wipe1 σ j _, ?_⟩
    unfold tYes
    dsimp only
    rw [if_pos rfl]
    intro s' H0 C cl fp
    refine ew_hid h3 ?_
    have bnd : n + i * kk + kk ≤ 4000 := by
      have : (i + 1) * kk ≤ k * kk := Nat.mul_le_mul_right _ hik
      rw [Nat.add_mul, Nat.one_mul] at this
      omega
    have h4' : Pen p c (n + i * kk) (hid Hb D) := by
      obtain ⟨t, r, z1, z2⟩ := h4
      exact ⟨t, r, by rw [hid_ne (Ne.symm hDp)]; exact z1, z2⟩
    refine he i hik (n + i * kk) bnd s' H0 C cl fp (hid Hb D) (x2.trans h5) h4' _ fun v H4 e4 p4 ⟨z, hz1, hz2⟩ n4 => ⟨as.map V.int, upd_same, ?_, as ++ [z], by rw [List.length_append, h1]; rfl, fun a ha => ?_, ?_, ?_, ?_⟩
    · rw [List.length_map, h1]
      exact Nat.lt_of_le_of_lt (Nat.le_trans (Nat.le_of_lt hik) hk) (by decide)
    · rcases List.mem_append.mp ha with h | h
      · exact h2 a h
      · rw [List.mem_singleton.mp h]
        exact hz2
    · rw [upd_same, hz1, List.map_append]
      rfl
    · rw [upd_upd]
      refine ((p4.new n4).1).mono ?_
      rw [Nat.add_mul, Nat.one_mul]
      omega
    · rw [upd_upd, hid_upd n4]
      exact h5.trans e4
  · refine q (.ref D) H' ((ex_hid2 e2).trans (h5.trans (ex_hid2 ex_hid1))) h4 (hq _ _ ⟨as, h1, h2, D, _, rfl, by rw [hid_ne hDp]; exact h3, ints_all2⟩)
end
end G
set_option maxHeartbeats 4000000
namespace G
open PySem PySem.Spec PyProof.Rows L2 Evl
/-- a text of which something is known -/
def IsZ (φ : Str → Prop) : Rep := fun v _ => ∃ z, v = .str z ∧ φ z
instance {φ : Str → Prop} : Mono (IsZ φ) := ⟨fun _ h => h⟩
section
variable {X : Cx} {σ : L2.St} {H : Hp} {a b e l elt : Expr} {es : List Expr} {pos pp : Pos} {P P1 P2 : Rep} {Ps : List Rep} {x : Str} {k n m : Nat} {p c : Addr} {scope : Scope}
theorem Pen.new2 {H2 : Hp} {q : Addr} {o u : HO} (h : Pen p c n H2) (hq : q ≠ p) : Pen p c n (upd H2 q o) := by
  obtain ⟨t, r, h1, h2⟩ := h
  exact ⟨t, r, by rw [upd_ne (Ne.symm hq)]; exact h1, h2⟩
theorem Pen.ne {H2 : Hp} {q : Addr} (h : Pen p c n H2) (hq : H2 q = none) : q ≠ p := by
  obtain ⟨t, r, h1, h2⟩ := h
  intro z
  rw [z, h1] at hq
  cases hq
/-- {'k': e} -/
theorem qg_dict1 {f1 : Int → Prop} {key : Str} {j : Nat} {kp : Pos} (he : QG X p c e σ H n m (IsP f1)) : QG X p c (.Dict [some (.Constant (.str key) j kp)] [e] pos) σ H n m (fun v H => ∃ d i, v = .ref d ∧ H d = some (.dK [(Sum.inr key, .int i)]) ∧ f1 i) :=
  fun H1 e1 hp Q q pins s I => (pe_disp (pps_cons pe_str pe_W pps_nil) rfl rfl (by simp) (by simp)).run pins s σ H1 Q I fun d hd => by
    have hne := hp.ne hd
    have p1 : Pen p c n (upd H1 d (.dK [])) := hp.new2 (u := .dK []) hne
    have x1 : Ex (hid H1 p) (hid (upd H1 d (.dK [])) p) := ex_hid2 (Ex.new hd)
    refine he _ (e1.trans x1) p1 _ fun w H2 e2 p2 ⟨i, hw, hi⟩ => ?_
    have h2 : H2 d = some (.dK []) := ex_hid1 _ _ (e2 d _ (by rw [hid_ne hne, upd_same]))
    refine ⟨h2, [(Sum.inr key, .int i)], by rw [hw]; rfl, by simp, ?_⟩
    have mk : mergeK [] [((Sum.inr key : Key), V.int i)] = [(Sum.inr key, .int i)] := rfl
    rw [mk]
    refine q _ _ (fun b o hb => ?_) (p2.new2 (u := .dK []) hne) ⟨d, i, rfl, by rw [hid_ne hne, upd_same], hi⟩
    have hbd : b ≠ d := fun z => by
      rw [z, hid_ne hne, hd] at hb
      cases hb
    have z := e2 b o (x1 b o hb)
    by_cases hbp : b = p
    · rw [hbp, hid_same] at z
      cases z
    · rw [hid_ne hbp] at z ⊢
      rw [upd_ne hbd]
      exact z
/-- str(e) of a drawn int, 'w' + it -/
theorem qg_strI {f1 : Int → Prop} {φ : Str → Prop} (hm : X.mg "str" = none) (he : QG X p c e σ H n m (IsP f1)) (h1 : ∀ i, f1 i → i.natAbs.log2 < 1920 ∧ φ (toString i)) (hg : Gl X "str" := by rfl) (hs : starEach [e] X.env = (false, eval e X.env) :: starEach [] X.env := by rfl) : QG X p c (.Call (.Name "str" pp) [e] [] pos) σ H n m (IsZ φ) :=
  fun H1 e1 hp Q q pins s I => (pe_callTy call_str_int hg hm rfl (pa_cons pe_W pa_nil hs) (by decide) (by decide) hs rfl).run pins s σ H1 Q I (he H1 e1 hp _ fun v H2 e2 p2 ⟨i, hv, hi⟩ => ⟨i, by rw [hv], (h1 i hi).1, q _ H2 e2 p2 ⟨_, rfl, (h1 i hi).2⟩⟩)
theorem qg_addS {z : Str} {φ ψ : Str → Prop} (ha : EG X a σ H (IsS z)) (hb : QG X p c b σ H n m (IsZ φ)) (h1 : ∀ u, φ u → z.length + u.length ≤ 100000 ∧ ψ (z ++ u)) : QG X p c (.BinOp a .Add b pos) σ H n m (IsZ ψ) :=
  fun H1 e1 hp Q q pins s I => (pe_op op_add_str pe_W pe_W).run pins s σ H1 Q I (qg_of (p := p) (c := c) (n := n) ha H1 e1 hp _ fun v H2 e2 p2 hv => hb H2 (e1.trans e2) p2 _ fun w H3 e3 p3 ⟨u, hw, hu⟩ =>
    ⟨z, u, hv, hw, by rw [sizeLine_eq]; have := (h1 u hu).1; omega, q _ H3 (e2.trans e3) p3 ⟨_, rfl, (h1 u hu).2⟩⟩)
/-- C(e) of a drawn text -/
theorem qg_mkX {f : Str} {C : Addr} {φ : Str → Prop} (D : XCal X.prog X.w X.K X.mg X.base x C [f]) (hr : Room 2 X.A) (he : QG X p c e σ H n m (IsZ φ)) (hg : Gl X x := by rfl) (hdb : (x == ("__debug__" : Str)) = false := by decide)
    (hs : starEach [e] X.env = (false, eval e X.env) :: starEach [] X.env := by rfl) : QG X p c (.Call (.Name x pp) [e] [] pos) σ H n m (fun v H => ∃ z, φ z ∧ XO C [(f, .str z)] v H) := by
  obtain ⟨fI, fd, ps, iC, tI, F, hb, _⟩ := D.ex
  intro H1 e1 hp Q q pins s I
  refine (pe_mkX D.oex iC tI F hr hb D.mgx (pa_cons pe_W pa_nil hs) hg hdb hs rfl).run pins s σ H1 Q I (he H1 e1 hp _ fun v H2 e2 p2 ⟨z, hv, hz⟩ => ?_)
  subst hv
  refine ⟨by simp, fun a na => ⟨a, C, [.str z], rfl, rfl, D.oex, D.nof, upd_same, fun d hd hda => ⟨rfl, ?_⟩⟩⟩
  have hap : a ≠ p := p2.ne na
  have hd2 : H2 d = none := by
    rw [upd_ne hda] at hd
    exact hd
  have hdp : d ≠ p := p2.ne hd2
  obtain ⟨x1, x2⟩ := xo_new (fs := [(f, .str z)]) na hd hda
  refine q _ _ (e2.trans (ex_hid2 x1)) (p2.up x1) ⟨z, hz, a, d, rfl, ?_, ?_⟩
  · rw [hid_ne hap, upd_same]
  · rw [hid_ne hdp, upd_ne hda, upd_same]
    rfl
/-- [elt for x in range(k)] where elt draws kk numbers at most: values told by W -/
def SelfR (W : Rep) (w : V) : Rep := fun v H => v = w ∧ W w H
instance {W : Rep} {w : V} [h : Mono W] : Mono (SelfR W w) := ⟨fun e ⟨h1, h2⟩ => ⟨h1, h.up e h2⟩⟩
theorem self_all {W : Rep} {H : Hp} : ∀ {ws : List V}, (∀ w ∈ ws, W w H) → All2 (SelfR W) ws ws H
  | [], _ => rfl
  | w :: ws, h => ⟨w, ws, rfl, ⟨rfl, h w (List.mem_cons_self ..)⟩, self_all fun u hu => h u (List.mem_cons_of_mem _ hu)⟩
theorem qg_lcV (j kk : Nat) {px : Pos} {W : Rep} [hW : Mono W] (hN : X.N.Nodup) (hi : IterR X (.Name x px) (.Call (.Name "range" pp) [l] [] pos) σ H k) (hk : k ≤ 1000000) (hz : n + k * kk ≤ 4000)
    (he : ∀ i < k, ∀ n', n' + kk ≤ 4000 → ∀ s H0 C cl fp, ∀ H', Ex H H' → QG (X.blk s H0 scope (compEnvC scope cl C X.env) fp) p c elt ((σ.set j none).set j (some (.int (i : Int)))) H' n' (n' + kk) W)
    (hg : ∀ (s : Shared) (H : Hp) (C : Addr) (cl : List (Str × Addr)) (fp : List Addr), PG (X.blk s H scope (compEnvC scope cl C X.env) fp) (.Name x px) (gName j)) (ok : BlkOk X.N X.env.scope scope [(x, j)] := by exact blkOk_by (by rfl)) (hc : X.calm = true := by rfl)
    (hs : ∀ y, foldedSetIterable (.Call (.Name "range" pp) [l] [] pos) X.env y = pure y := by intro _; rfl) {pos' : Pos} :
    QG X p c (.ListComp elt [⟨.Name x px, .Call (.Name "range" pp) [l] [] pos, [], 0⟩] scope pos') σ H n (n + k * kk) (fun v H => ∃ ws : List V, ws.length = k ∧ IsL (SelfR W) ws v H) := by
  obtain ⟨wi, hpi, hw⟩ := hi
  intro H1 e1 hpn Q q pins s I
  refine (pe_lc (own := [(x, j)]) hc hN hpi ok hg (fun _ _ _ _ _ => pts_nil) (ue_pe (elt := elt)) hs).run pins s σ H1 Q I ?_
  refine hw H1 (e1.trans ex_hid1) _ fun J H2 Y e2 Wk hY D hD => ?_
  have p2 := hpn.up e2
  have x2 : Ex H (hid H2 p) := e1.trans (ex_hid2 e2)
  have hDp : D ≠ p := p2.ne hD
  refine lc_it Wk (fun i H' => ∃ ws : List V, ws.length = i ∧ H' D = some (.lst ws) ∧ Pen p c (n + i * kk) H' ∧ Ex (hid H2 p) (hid (hid H' D) p) ∧ ∀ w ∈ ws, W w (hid (hid H' D) p)) ⟨[], rfl, upd_same, ((p2.new hD).1).mono (by omega), by rw [hid_upd hD]; exact Ex.refl _, fun _ h => (List.not_mem_nil h).elim⟩ (fun _ _ _ _ => True.intro) (fun i y Ha Hb hi ⟨ws, h1, h3, h4, h5, h6⟩ yy => ?_) (fun H' ⟨ws, h1, h3, h4, h5, h6⟩ => ?_)
  · obtain ⟨y1, hik, y3⟩ := hY i Ha y Hb yy
    subst y1 y3
    refine ⟨wipe1 σ j _, ?_⟩
    unfold tYes
    dsimp only
    rw [if_pos rfl]
    intro s' H0 C cl fp
    refine ew_hid h3 ?_
    have bnd : n + i * kk + kk ≤ 4000 := by
      have : (i + 1) * kk ≤ k * kk := Nat.mul_le_mul_right _ hik
      rw [Nat.add_mul, Nat.one_mul] at this
      omega
    have h4' : Pen p c (n + i * kk) (hid Hb D) := by
      obtain ⟨t, r, z1, z2⟩ := h4
      exact ⟨t, r, by rw [hid_ne (Ne.symm hDp)]; exact z1, z2⟩
    refine he i hik (n + i * kk) bnd s' H0 C cl fp (hid (hid Hb D) p) (x2.trans h5) (hid Hb D) (Ex.refl _) h4' _ fun v H4 e4 p4 pv n4 => ⟨ws, upd_same, ?_, ws ++ [v], by rw [List.length_append, h1]; rfl, upd_same, ?_, ?_, ?_⟩
    · rw [h1]
      exact Nat.lt_of_le_of_lt (Nat.le_trans (Nat.le_of_lt hik) hk) (by decide)
    · rw [upd_upd]
      refine ((p4.new n4).1).mono ?_
      rw [Nat.add_mul, Nat.one_mul]
      omega
    · rw [upd_upd, hid_upd n4]
      exact h5.trans e4
    · rw [upd_upd, hid_upd n4]
      intro w hw
      rcases List.mem_append.mp hw with h | h
      · exact hW.up e4 (h6 w h)
      · rw [List.mem_singleton.mp h]
        exact pv
  · refine q (.ref D) H' ((ex_hid2 e2).trans (h5.trans (ex_hid2 ex_hid1))) h4 ⟨ws, h1, D, ws, rfl, by rw [hid_ne hDp]; exact h3, ?_⟩
    exact self_all fun w hw => hW.up (ex_hid2 ex_hid1) (h6 w hw)
end
end G
set_option maxHeartbeats 4000000
namespace G
open PySem PySem.Spec PyProof.Rows L2 Evl
/-! ### the script -/
def SqW (K : PySem.W.Frag) (ns : List Int) : Rep := fun v H => ∃ a, v = .ref a ∧ SqL K H a (ns.map V.int)
instance {K : PySem.W.Frag} {ns : List Int} : Mono (SqW K ns) := ⟨fun e ⟨a, h1, h2⟩ => ⟨a, h1, h2.ext fun b o h => e b o h⟩⟩
section
variable {X : Cx} {σ : L2.St} {H : Hp} {a b : Expr} {pos : Pos} {p c : Addr} {n m : Nat}
theorem eg_cutS {ns : List Int} {k : Nat} {p2 : Pos} (ha : EG X a σ H (SqW X.K ns)) (hb : EG X b σ H (IsI (k : Int))) : EG X (.Subscript a (.Slice none (some b) none p2) pos) σ H (IsL IsI (ns.take k)) :=
  eg_of (pe_slice sl_list pe_W po_none (po_some pe_W)) fun H1 e1 Q q => ha H1 e1 _ fun v H2 e2 ⟨d, h1, h2⟩ => hb H2 (e1.trans e2) _ fun y H3 e3 py => by
    refine ⟨k, py, d, _, h1, h2.ext (fun b o h => e3 b o h), fun l hl => ?_⟩
    have cut : cutV (ns.map V.int) none (some (k : Int)) = (ns.take k).map V.int := by
      unfold cutV
      rw [HT.sIx_none, HT.sIx_nat, List.drop_zero, Nat.sub_zero, List.map_take, List.take_eq_take_iff, List.length_map]
      omega
    rw [cut]
    exact q _ _ ((e2.trans e3).trans (Ex.new hl)) ⟨l, _, rfl, upd_same, ints_all2⟩
end
section
variable {P : Program} {w : World} {K : PySem.W.Frag} {mg : Str → Option Value} {base : Heap} {f : Addr} {fd : FuncData} {C : Addr} {cl : Str → Addr}
theorem fn_pen {x qual : Str} {params : Arguments} {body : List Stmt} {scope : Scope} {dvs : List V} {kws : List (Str × V)} {N ps : List Str} {k : Nat} {α : Type} {kk : Nat} {Ps : α → List Rep} {Post : α → Rep} (F : FunD K x qual params body scope dvs kws f fd) (S : FnScope N ps scope) (hl : ∀ a, (Ps a).length + 1 = ps.length)
    (h : ∀ (t : α) cdv A outer s H E p c cs n args Q, Room k (A.deeper (envOfC qual scope s.heap.objs.size f cdv)) → Pen p c n H → n + kk ≤ 4000 → IsL IsI cs (.ref c) (hid H p) → cs.length ≤ 63 → Args (Ps t) args (hid H p) →
      (∀ v H', Ex (hid H p) (hid H' p) → Pen p c (n + kk) H' → Post t v (hid H' p) → Q v H') → BW (ctx P w K mg base N qual scope f cdv A outer s H E) body { nx := fun _ H' => Q .non H', rt := Q } (start N (.ref p :: args)) H) :
    FnOk P w K mg base CX0 (k + 1) f fd ps (PnSp kk Ps Post) :=
  fn_any F S (fun vs H Q E ⟨p, c, cs, n, t, args, h1, _, _, _, _, h2, _⟩ => by rw [h1, List.length_cons, args_len h2]; exact hl t) fun cdv A outer s H E vs Q hr ⟨p, c, cs, n, t, args, h1, h2, h3, h4, h5, h6, h7⟩ => by
    subst h1
    exact h t cdv A outer s H E p c cs n args Q hr h2 h3 h4 h5 h6 h7
abbrev SpPen (K : PySem.W.Frag) : Sp := PSp (fun ns : {ns : List Int // ns.length ≤ 63} => [SqW K ns.1]) fun ns => LstOf [IsL IsI (ns.1.take 60), IsI 0, IsI 0]
theorem sc_pen : FnScope ["_law_script", "_law_cell"] ["_law_script"] (defScope (top 32)) := ⟨rfl, rfl, rfl, by decide +kernel, rfl, by decide +kernel, by decide +kernel⟩
theorem ok_pen (A : Free mg) (F : FnP K "_law_pen" "_law_pen" (top 32) [] f fd) : FnOk P w K mg base CX0 1 f fd ["_law_script"] (SpPen K) := by
  refine fn_pure F sc_pen (fun _ => rfl) fun t cdv Ar outer s H E vs Q hr ha hq => ?_
  obtain ⟨ns, hl⟩ := t
  obtain ⟨v, r, rfl, hv, hr2⟩ := ha
  cases (show r = [] from hr2)
  refine b_ret (P := LstOf [IsL IsI (ns.take 60), IsI 0, IsI 0]) ?_ fun v5 H5 e5 h5 => hq v5 H5 e5 h5
  refine eg_lst (ag_cons ?_ (ag_cons eg_int (ag_cons eg_int ag_nil))) (show 3 ≤ 1000 by decide)
  refine eg_lc 1 (R := IsI) (S := IsI) (as := ns.take 60) (fun x => x) sc_pen.nd (ip_list ?_) (by rw [List.length_take]; omega) (fun a hm u H4 e4 ra s2' H0 Cc cl fp => ?_) (fun _ _ _ _ _ => pg_name sc_pen.nd rfl (Or.inl rfl)) (hp := ?_)
  · exact eg_cutS (ns := ns) (k := 60) (eg_var 0 rfl hv) eg_int
  · exact eg_intI A.int (eg_var 1 rfl ra)
  · intro v H h
    rwa [List.map_id'] at h
/-! ### _law_value -/
def WV (T : Addr) : Rep := fun v H => (∃ i, v = .int i) ∨ (∃ z, v = .str z) ∨ v = .non ∨ v = .bl true ∨ (∃ q xs, v = .ref q ∧ H q = some (.lst xs) ∧ xs ≠ []) ∨ (∃ q xs, v = .ref q ∧ H q = some (.tup xs)) ∨ (∃ q kvs, v = .ref q ∧ H q = some (.dK kvs)) ∨ ∃ z, XO T [("name", .str z)] v H
instance {T : Addr} : Mono (WV T) := ⟨fun e h => by
  rcases h with h | h | h | h | ⟨q, xs, h1, h2, h3⟩ | ⟨q, xs, h1, h2⟩ | ⟨q, xs, h1, h2⟩ | ⟨z, h⟩
  · exact .inl h
  · exact .inr (.inl h)
  · exact .inr (.inr (.inl h))
  · exact .inr (.inr (.inr (.inl h)))
  · exact .inr (.inr (.inr (.inr (.inl ⟨q, xs, h1, e _ _ h2, h3⟩))))
  · exact .inr (.inr (.inr (.inr (.inr (.inl ⟨q, xs, h1, e _ _ h2⟩)))))
  · exact .inr (.inr (.inr (.inr (.inr (.inr (.inl ⟨q, xs, h1, e _ _ h2⟩))))))
  · exact .inr (.inr (.inr (.inr (.inr (.inr (.inr ⟨z, Mono.up e h⟩))))))⟩
abbrev SpVal (T : Addr) : Sp := PnSp 3 (fun _ : Unit => []) fun _ => WV T
theorem sc_value : FnScope ["_law_pen_here", "_law_way"] ["_law_pen_here"] (defScope (top 34)) := ⟨rfl, rfl, rfl, by decide +kernel, rfl, by decide +kernel, by decide +kernel⟩
theorem small_str {i : Int} (h : i.natAbs < 10 ^ 12) : i.natAbs.log2 < 1920 ∧ ((toString i : Str)).length ≤ 13 := by
  refine ⟨?_, ?_⟩
  · have : i.natAbs.log2 < 64 := by
      rcases Nat.eq_zero_or_pos i.natAbs with z | z
      · rw [z]; decide
      · exact (Nat.log2_lt (by omega)).mpr (Nat.lt_of_lt_of_le h (by decide))
    omega
  · have e := PySem.int_text_length_le10 (k := 12) (by decide) h
    show (Str.ofString (toString i)).length ≤ 13
    rw [PySem.ofString_length]
    exact e
theorem ok_value (A : Free mg) (D1 : Cal P w K mg base "_law_draw" 1 [] SpTake) (D2 : XCal P w K mg base "Twice" C ["name"]) (F : FnP K "_law_value" "_law_value" (top 34) [] f fd) : FnOk P w K mg base CX0 3 f fd ["_law_pen_here"] (SpVal C) := by
  refine fn_pen F sc_value (fun _ => rfl) fun t cdv Ar outer s H E p c cs n args Q hr hp hn hc hcl ha hq => ?_
  cases (show args = [] from ha)
  have mC : Mono (IsL IsI cs) := inferInstance
  have dr : ∀ {m : Nat} {many : Int} {Hw : Hp} {o : Option V} {e : Expr} {pp pq pos : Pos} (hm : 0 < many ∧ many < 2 ^ 60), m + 1 ≤ 4000 → IsL IsI cs (.ref c) Hw → EG (ctx P w K mg base ["_law_pen_here", "_law_way"] "_law_value" (defScope (top 34)) f cdv Ar outer s H E) e [some (.ref p), o] Hw (IsI many) →
      starEach [e] (ctx P w K mg base ["_law_pen_here", "_law_way"] "_law_value" (defScope (top 34)) f cdv Ar outer s H E).env = (false, eval e (ctx P w K mg base ["_law_pen_here", "_law_way"] "_law_value" (defScope (top 34)) f cdv Ar outer s H E).env) :: starEach [] (ctx P w K mg base ["_law_pen_here", "_law_way"] "_law_value" (defScope (top 34)) f cdv Ar outer s H E).env →
      (backTo pos (starEach [e] (ctx P w K mg base ["_law_pen_here", "_law_way"] "_law_value" (defScope (top 34)) f cdv Ar outer s H E).env)).any (·.1) = false →
      QG (ctx P w K mg base ["_law_pen_here", "_law_way"] "_law_value" (defScope (top 34)) f cdv Ar outer s H E) p c (.Call (.Name "_law_draw" pp) [.Name "_law_pen_here" pq, e] [] pos) [some (.ref p), o] Hw m (m + 1) (IsP fun i => 0 ≤ i ∧ i < many) := fun hm hle hcc he hs hpl => by
    refine qg_pen (⟨_, hm⟩ : Many) D1 (hr.mono (by decide)) hcc hcl hle (qa_cons (qg_of (eg_var 0 rfl rfl)) (qa_cons (P := IsI _) (qg_of he) qa_nil hs)) rfl (by decide) rfl hpl
  refine qb_asg (P := IsP fun i => 0 ≤ i ∧ i < 9) (m := n + 1) 1 sc_value.nd (dr ⟨by decide, by decide⟩ (by omega) hc eg_int rfl rfl) hp fun v1 H1 e1 p1 h1 => ?_
  obtain ⟨y, rfl, y1, y2⟩ := h1
  have hc1 := mC.up e1 hc
  have fin : ∀ {m : Nat} {H2 : Hp}, m ≤ n + 3 → Ex (hid H1 p) (hid H2 p) → ∀ v H5, Ex (hid H2 p) (hid H5 p) → Pen p c m H5 → WV C v (hid H5 p) → Q v H5 := fun hm e2 v5 H5 e5 p5 h5 => hq v5 H5 (e1.trans (e2.trans e5)) (p5.mono (by omega)) h5
  have ten9 : (10 : Int) ^ 9 = 1000000000 := by decide
  have ten6 : (10 : Int) ^ 6 = 1000000 := by decide
  have p64 : (2 : Nat) ^ 64 = 18446744073709551616 := by decide
  have p12 : (10 : Nat) ^ 12 = 1000000000000 := by decide
  refine b_if (bb := decide (y = 0)) (tg_cm (cg_eqI (eg_var 1 rfl rfl) eg_int)) (fun q0 H2 e2 => ?_) fun q0 H2 e2 => b_nil ?_
  · have hc2 := mC.up (ex_hid2 e2) hc1
    refine qb_ret (P := WV C) (m := n + 3) ?_ (p1.up e2) (fin (by omega) (ex_hid2 e2))
    refine (qg_sub (f3 := fun _ => True) (m := n + 2) (qg_int2 (f3 := fun _ => True) op_pow (dr (many := 10 ^ 9) ⟨by decide, by decide⟩ (by omega) hc2 (eg_pow (i := 10) (k := 9) (by decide) (by decide) eg_int eg_int) rfl rfl) (qg_isP (f1 := fun i => i = 4) eg_int rfl) fun i j h1 h2 => ⟨⟨by omega, by omega, ?_⟩, True.intro⟩) (qg_int2 (f3 := fun _ => True) op_pow (dr (m := n + 2) (many := 10 ^ 9) ⟨by decide, by decide⟩ (by omega) hc2 (eg_pow (i := 10) (k := 9) (by decide) (by decide) eg_int eg_int) rfl rfl) (qg_isP (f1 := fun i => i = 4) eg_int rfl) fun i j h1 h2 => ⟨⟨by omega, by omega, ?_⟩, True.intro⟩) fun _ _ _ _ => True.intro).imp (Nat.le_refl _) fun v H ⟨i, hv, _⟩ => .inl ⟨i, hv⟩
    · have : 0 ≤ i ∧ i < 10 ^ 9 := h1
      omega
    · have : 0 ≤ i ∧ i < 10 ^ 9 := h1
      omega
  refine b_if (bb := decide (y = 1)) (tg_cm (cg_eqI (eg_var 1 rfl rfl) eg_int)) (fun q1 H3 e3 => ?_) fun q1 H3 e3 => b_nil ?_
  · have hc3 := mC.up (ex_hid2 (e2.trans e3)) hc1
    refine qb_ret (P := WV C) (m := n + 2) ?_ (p1.up (e2.trans e3)) (fin (by omega) (ex_hid2 (e2.trans e3)))
    refine (qg_addS (z := "w") (ψ := fun _ => True) eg_str (qg_strI (φ := fun u => u.length ≤ 13) A.str (dr (many := 10 ^ 6) ⟨by decide, by decide⟩ (by omega) hc3 (eg_pow (i := 10) (k := 6) (by decide) (by decide) eg_int eg_int) rfl rfl) fun i h1 => ?_) fun u hu => ⟨?_, True.intro⟩).imp (Nat.le_refl _) fun v H ⟨z, hv, _⟩ => .inr (.inl ⟨z, hv⟩)
    · have : 0 ≤ i ∧ i < 10 ^ 6 := h1
      exact small_str (by omega)
    · have : ("w" : Str).length = 1 := by rfl
      omega
  refine b_if (bb := decide (y < 5)) (tg_cm (cg_lt (eg_var 1 rfl rfl) eg_int)) (fun q2 H4 e4 => ?_) fun q2 H4 e4 => b_nil ?_
  · have x4 := (e2.trans e3).trans e4
    refine qb_ret (P := WV C) (m := n + 1) (qg_of ?_) (p1.up x4) (fin (by omega) (ex_hid2 x4))
    have y5 : y < 5 := of_decide_eq_true q2
    have n0 : y ≠ 0 := of_decide_eq_false q0
    have n1 : y ≠ 1 := of_decide_eq_false q1
    have hy : y = 2 ∨ y = 3 ∨ y = 4 := by omega
    rcases hy with rfl | rfl | rfl
    · exact EvP.imp (eg_ixA (P := IsV .non) (n := 0) (eg_lst (ag_cons (P := IsV .non) eg_non (ag_cons (P := IsB true) eg_bl (ag_cons (P := IsS "") eg_str ag_nil)))) (EvP.int (eg_sub (eg_var 1 rfl rfl) eg_int) rfl) rfl) fun v _ _ h => .inr (.inr (.inl h))
    · exact EvP.imp (eg_ixA (P := IsB true) (n := 1) (eg_lst (ag_cons (P := IsV .non) eg_non (ag_cons (P := IsB true) eg_bl (ag_cons (P := IsS "") eg_str ag_nil)))) (EvP.int (eg_sub (eg_var 1 rfl rfl) eg_int) rfl) rfl) fun v _ _ h => .inr (.inr (.inr (.inl h)))
    · exact EvP.imp (eg_ixA (P := IsS "") (n := 2) (eg_lst (ag_cons (P := IsV .non) eg_non (ag_cons (P := IsB true) eg_bl (ag_cons (P := IsS "") eg_str ag_nil)))) (EvP.int (eg_sub (eg_var 1 rfl rfl) eg_int) rfl) rfl) fun v _ _ h => .inr (.inl ⟨_, h⟩)
  refine b_if (bb := decide (y = 5)) (tg_cm (cg_eqI (eg_var 1 rfl rfl) eg_int)) (fun q5 H5 e5 => ?_) fun q5 H5 e5 => b_nil ?_
  · have x5 := ((e2.trans e3).trans e4).trans e5
    refine qb_ret (P := WV C) (m := n + 2) ?_ (p1.up x5) (fin (by omega) (ex_hid2 x5))
    refine (qg_lst (qa_cons (dr (many := 100) ⟨by decide, by decide⟩ (by omega) (mC.up (ex_hid2 x5) hc1) eg_int rfl rfl) (qa_cons (P := IsS "a") (qg_of eg_str) (qa_cons (P := LstOf [IsV .non]) (qg_of (eg_lst (ag_cons (P := IsV .non) eg_non ag_nil))) qa_nil))) (show 3 ≤ 1000 by decide)).imp (Nat.le_refl _) fun v H ⟨q, xs, h1, h2, x1, x2, x3, _⟩ => .inr (.inr (.inr (.inr (.inl ⟨q, xs, h1, h2, by rw [x3]; exact List.cons_ne_nil _ _⟩))))
  refine b_if (bb := decide (y = 6)) (tg_cm (cg_eqI (eg_var 1 rfl rfl) eg_int)) (fun q6 H6 e6 => ?_) fun q6 H6 e6 => b_nil ?_
  · have x6 := (((e2.trans e3).trans e4).trans e5).trans e6
    refine qb_ret (P := WV C) (m := n + 2) ?_ (p1.up x6) (fin (by omega) (ex_hid2 x6))
    refine (qg_tup (qa_cons (dr (many := 100) ⟨by decide, by decide⟩ (by omega) (mC.up (ex_hid2 x6) hc1) eg_int rfl rfl) (qa_cons (P := TupOf [IsS "b", IsI (-1)]) (qg_of (eg_tup (ag_cons (P := IsS "b") eg_str (ag_cons (P := IsI (-1)) (eg_neg eg_int) ag_nil)))) qa_nil)) (show 2 ≤ 1000 by decide)).imp (Nat.le_refl _) fun v H ⟨q, xs, h1, h2, _⟩ => .inr (.inr (.inr (.inr (.inr (.inl ⟨q, xs, h1, h2⟩)))))
  refine b_if (bb := decide (y = 7)) (tg_cm (cg_eqI (eg_var 1 rfl rfl) eg_int)) (fun q7 H7 e7 => ?_) fun q7 H7 e7 => b_nil ?_
  · have x7 := ((((e2.trans e3).trans e4).trans e5).trans e6).trans e7
    refine qb_ret (P := WV C) (m := n + 2) ?_ (p1.up x7) (fin (by omega) (ex_hid2 x7))
    refine (qg_dict1 (dr (many := 100) ⟨by decide, by decide⟩ (by omega) (mC.up (ex_hid2 x7) hc1) eg_int rfl rfl)).imp (Nat.le_refl _) fun v H ⟨q, i, h1, h2, _⟩ => .inr (.inr (.inr (.inr (.inr (.inr (.inl ⟨q, _, h1, h2⟩))))))
  have x7 := ((((e2.trans e3).trans e4).trans e5).trans e6).trans e7
  refine qb_ret (P := WV C) (m := n + 2) ?_ (p1.up x7) (fin (by omega) (ex_hid2 x7))
  refine (qg_mkX (φ := fun _ => True) D2 (hr.mono (by decide)) (qg_addS (z := "t") (ψ := fun _ => True) eg_str (qg_strI (φ := fun u => u.length ≤ 13) A.str (dr (many := 100) ⟨by decide, by decide⟩ (by omega) (mC.up (ex_hid2 x7) hc1) eg_int rfl rfl) fun i h1 => ?_) fun u hu => ⟨?_, True.intro⟩)).imp (Nat.le_refl _) fun v H ⟨z, _, hv⟩ => .inr (.inr (.inr (.inr (.inr (.inr (.inr ⟨z, hv⟩))))))
  · have : 0 ≤ i ∧ i < 100 := h1
    exact small_str (by omega)
  · have : ("t" : Str).length = 1 := by rfl
    omega
end
end G
set_option maxHeartbeats 4000000
namespace G
open PySem PySem.Spec PyProof.Rows L2 Evl
theorem isV_args {H : Hp} : ∀ {ws : List V}, Args (ws.map IsV) ws H
  | [] => rfl
  | w :: ws => ⟨w, ws, rfl, rfl, isV_args⟩
instance instMapV {ws : List V} : MonoA (ws.map IsV) := ⟨fun e h => by
  rw [args_isV h]
  exact isV_args⟩
/-! ### the classes -/
structure Tab (K : PySem.W.Frag) (mg : Str → Option Value) (cl : Str → Addr) : Prop where
  kk : IsK K
  mgx : ∀ x ∈ nAll, mg x = some (.ref (cl x))
  mgF : mg "FirstError" = some (.ref (cl "FirstError"))
  xr : ∀ x ∈ nAll, XrC K (cl x)
  kit : ∀ x ∈ nAll, ∀ y ∈ nAll, PySem.W.kitOne K (.ref (cl x)) (.ref (cl y)) = some (subN x y)
  first : ∀ x ∈ nAll, PySem.W.kitOne K (.ref (cl x)) (.ref (cl "FirstError")) = some true
  ve : ∀ x ∈ nAll, PySem.W.kitOne K (.ref (cl x)) (.type "ValueError") = some true
  ke : ∀ x ∈ nAll, PySem.W.kitAny K (.ref (cl x)) keT = some false
def ErW (C : Addr) : Rep := fun v H => XN C v H ∨ ∃ fs, XO C fs v H
instance {C : Addr} : Mono (ErW C) := ⟨fun e h => by
  rcases h with h | ⟨fs, h⟩
  · exact .inl (Mono.up e h)
  · exact .inr ⟨fs, Mono.up e h⟩⟩
theorem er_ty {K : PySem.W.Frag} {C : Addr} (c : XrC K C) {v : V} {H : Hp} (h : ErW C v H) : TyE K H v (.ref C) := by
  rcases h with ⟨a, h1, h2⟩ | ⟨fs, a, d, h1, h2, h3⟩
  · subst h1
    exact .exc h2 c
  · subst h1
    exact .excd h2 h3 c
theorem xo_er {C : Addr} {fs : List (Str × V)} {v : V} {H : Hp} (h : XO C fs v H) : ErW C v H := .inr ⟨fs, h⟩
theorem ble {n m : Nat} (h : Nat.ble n m = true) : n ≤ m := Nat.le_of_ble_eq_true h
theorem args_all2 {α : Type} {R : α → Rep} {H : Hp} : ∀ {as : List α} {xs : List V}, Args (as.map R) xs H → All2 R as xs H
  | [], _, h => h
  | a :: as, _, ⟨x, r, h1, h2, h3⟩ => ⟨x, r, h1, h2, args_all2 h3⟩
theorem lst_isL {α : Type} {R : α → Rep} {as : List α} {v : V} {H : Hp} (h : LstOf (as.map R) v H) : IsL R as v H := let ⟨a, xs, h1, h2, h3⟩ := h; ⟨a, xs, h1, h2, args_all2 h3⟩
section
variable {X : Cx} {σ : L2.St} {H : Hp} {a b c e : Expr} {es : List Expr} {pos p : Pos} {P P1 P2 : Rep} {Ps : List Rep}
theorem eg_lst2 [hm : MonoA Ps] (h : AG X es σ H Ps) (hl : Ps.length ≤ 1000 := by exact ble rfl) : EG X (.List es pos) σ H (LstOf Ps) := eg_lst h hl
/-- x = [e, ..]: the list at a new address -/
theorem b_asgL (i : Nat) {y : Str} {rest : List Stmt} {En : Ends} (hN : X.N.Nodup) (hm : MonoA Ps) (ha : AG X es σ H Ps) (hl : Ps.length ≤ 1000) (k : ∀ D xs H1, H D = none → Ex H (hid H1 D) → H1 D = some (.lst xs) → Args Ps xs (hid H1 D) → BW X rest En (σ.set i (some (.ref D))) H1) {lp spos : Pos}
    (hi : X.N[i]? = some y := by rfl) (hlc : Loc X.env.scope y := by first | exact Or.inl rfl | exact Or.inr rfl)
    (hs : swapsWith (.List es lp) (some (.Name y p)) spos.line X.env = pure false := by rfl) (hf : X.fn y = true ∨ X.env.scope.names.lookup y = some .local := by first | exact .inl rfl | exact .inr rfl) : BW X (.Assign [.Name y p] (.List es lp) spos :: rest) En σ H :=
  b_of (ps_set hN hi hlc (pe_lst pa_W) hs hf) (ha H (Ex.refl H) _ fun vs H2 e2 pv => ⟨sz_of (Nat.le_trans (Nat.le_of_eq (args_len pv)) (Nat.le_trans hl (by decide))), fun D hD => by
    refine k D vs _ ?_ ?_ upd_same ?_
    · cases q : H D with
      | none => rfl
      | some o => rw [e2 _ _ q] at hD; cases hD
    · rw [hid_upd hD]
      exact e2
    · rw [hid_upd hD]
      exact pv⟩)
/-- [elt for x, y in l if y] over a list of pairs that are lists -/
def Pl2 {α γ : Type} (R : α → Rep) (S : γ → Rep) (q : α × γ) : Rep := LstOf [R q.1, S q.2]
instance {α γ : Type} {R : α → Rep} {S : γ → Rep} [hR : ∀ a, Mono (R a)] [hS : ∀ a, Mono (S a)] {q : α × γ} : Mono (Pl2 R S q) := by unfold Pl2; infer_instance
theorem tgt_pl {α γ : Type} {R : α → Rep} {S : γ → Rep} [hR : ∀ a, Mono (R a)] [hS : ∀ a, Mono (S a)] {j k : Nat} : TgtG (Pl2 R S) (gUnl X.K 2 (gCons (gName j) (gCons (gName k) gNil))) (TPr R S (wipe σ [j, k]) j k) (wipe σ [j, k]) [j, k] H where
  st := fun a x H' _ ⟨p, xs, hx, hp, y1, r1, e1, h1, y2, r2, e2, h2, e3⟩ H2 Qs hq hH => by
    refine ⟨p, xs, hx, SqL.of (hH p _ hp), by rw [e1, e2, show r2 = [] from e3]; rfl, y1, r1, e1, y2, r2, e2, e3, hq _ ⟨y1, y2, rfl, h1, h2⟩⟩
  wp := fun a σ2 H' ⟨x, y, h, _⟩ => by rw [h]; exact wipe2 σ j k _ _
  up := fun a σ2 H' H2 e ⟨x, y, h, r, r'⟩ => ⟨x, y, h, (hR _).up e r, (hS _).up e r'⟩
theorem eg_lcL2T {α γ β : Type} {R : α → Rep} {R2 : γ → Rep} {S : β → Rep} {qs : List (α × γ)} {x z : Str} {scope : Scope} {elt t iter : Expr} (j k : Nat) {px pz tp : Pos} {kk : Nat} [hR : ∀ a, Mono (R a)] [hR2 : ∀ a, Mono (R2 a)] [hS : ∀ b, Mono (S b)] (f : α × γ → β) (q : α × γ → Bool) (hN : X.N.Nodup) (hi : IterP X (.Tuple [.Name x px, .Name z pz] kk tp) iter σ H (Pl2 R R2) qs) (hz : qs.length ≤ 1000000)
    (ht : ∀ a ∈ qs, ∀ v w H', Ex H H' → R a.1 v H' → R2 a.2 w H' → ∀ s H0 C cl fp, TG (X.blk s H0 scope (compEnvC scope cl C X.env) fp) t ((((σ.set k none).set j none).set j (some v)).set k (some w)) H' (q a))
    (he : ∀ a ∈ qs, q a = true → ∀ v w H', Ex H H' → R a.1 v H' → R2 a.2 w H' → ∀ s H0 C cl fp, EG (X.blk s H0 scope (compEnvC scope cl C X.env) fp) elt ((((σ.set k none).set j none).set j (some v)).set k (some w)) H' (S (f a)))
    (hg : ∀ (s : Shared) (H : Hp) (C : Addr) (cl : List (Str × Addr)) (fp : List Addr), PG (X.blk s H scope (compEnvC scope cl C X.env) fp) (.Tuple [.Name x px, .Name z pz] kk tp) (gUnl X.K 2 (gCons (gName j) (gCons (gName k) gNil))))
    (ok : BlkOk X.N X.env.scope scope [(x, j), (z, k)] := by exact blkOk_by (by rfl)) (hc : X.calm = true := by rfl)
    (hs : ∀ x, foldedSetIterable iter X.env x = pure x := by intro _; rfl) : EG X (.ListComp elt [⟨.Tuple [.Name x px, .Name z pz] kk tp, iter, [t], 0⟩] scope pos) σ H (IsL S ((qs.filter q).map f)) := by
  obtain ⟨wi, hpi, h⟩ := lc_read (q := q) (vs := [j, k]) hi hz (tgt_pl (X := X)) (test_read (t := t) fun a ha σ2 H' e ⟨v, w, hv, hr, hr2⟩ H1 e1 Q hQ s H0 C cl fp => by
    subst hv
    exact (ht a ha v w H' e hr hr2 s H0 C cl fp) H1 e1 Q hQ) (scope := scope) (elt := elt) (S := S) (f := f) fun a ha hq σ2 H' e ⟨v, w, hv, hr, hr2⟩ H1 e1 Q hQ s H0 C cl fp => by
    subst hv
    exact (he a ha hq v w H' e hr hr2 s H0 C cl fp) H1 e1 Q hQ
  exact eg_of (pe_lc (own := [(x, j), (z, k)]) hc hN hpi ok hg (fun _ _ _ _ _ => pts_one (ut_pt _ _ _ _ _)) ue_pe hs) h
end
/-! ### _law_classes -/
def nO : List Str := ["BadRatio", "BadStep", "BadSpan", "BadBook", "BadPace", "BadRow", "BadSaying", "BadOrder", "BadRider", "BadStory", "BadTable", "BadEye", "BadWeave", "BadReport", "BadTour", "BadNumber", "BadPaper", "BadDesk", "Missing", "NoHappening", "NoTraveller", "Twice", "Unlike", "Impossible", "SameSpot", "TooMany", "Nothing", "BadText", "BadLine"]
def sb (x y : Str) : Str × Bool := (y, subN x y)
def kb : Str × Bool := ("KeyError", false)
def foundN (x : Str) : List (Str × Bool) := (nO.map (sb x)) ++ [kb]
def dueN (x : Str) : List Str := if x = "NoHappening" ∨ x = "NoTraveller" then ["Missing", x] else [x]
theorem found_due : ∀ x ∈ nAll, ((foundN x).filter fun q => q.2).map (fun q => q.1) = dueN x := by decide +kernel
abbrev EA := {x : Str // x ∈ nAll}
abbrev RF : Str × Bool → Rep := Pl2 IsS IsB
section
variable {P : Program} {w : World} {K : PySem.W.Frag} {mg : Str → Option Value} {base : Heap} {f : Addr} {fd : FuncData} {C : Addr} {cl : Str → Addr}
abbrev SpCls (cl : Str → Addr) : Sp := PSp (fun x : EA => [ErW (cl x.1)]) fun x => IsL IsS (dueN x.1)
theorem sc_classes : FnScope ["_law_error", "_law_found", "_law_name", "_law_is_one_here"] ["_law_error"] (defScope (top 36)) := ⟨rfl, rfl, rfl, by decide +kernel, rfl, by decide +kernel, by decide +kernel⟩
theorem ok_classes (A : Free mg) (T : Tab K mg cl) (F : FnP K "_law_classes" "_law_classes" (top 36) [] f fd) : FnOk P w K mg base CX0 1 f fd ["_law_error"] (SpCls cl) := by
  refine fn_pure F sc_classes (fun _ => rfl) fun t cdv Ar outer s H E vs Q hr ha hq => ?_
  obtain ⟨x, hx⟩ := t
  obtain ⟨v, r, rfl, hv, hr2⟩ := ha
  cases (show r = [] from hr2)
  have mE : Mono (ErW (cl x)) := inferInstance
  have hty : ∀ y ∈ nAll, ∀ u H, ErW (cl x) u H → ∃ t, TyE K H u t ∧ PySem.W.kitOne K t (.ref (cl y)) = some (subN x y) := fun y hy u H h => ⟨_, er_ty (T.xr x hx) h, T.kit x hx y hy⟩
  refine b_asgL 1 sc_classes.nd inferInstance (Ps := [RF (sb x "BadRatio"), RF (sb x "BadStep"), RF (sb x "BadSpan")]) (ag_cons (P := RF (sb x "BadRatio")) (eg_lst2 (ag_cons (P := IsS "BadRatio") eg_str (ag_cons (P := IsB (subN x "BadRatio")) (eg_isE T.kk A.isi (eg_var 0 rfl hv) (eg_cls (T.mgx "BadRatio" (by decide +kernel))) (.own _) (hty "BadRatio" (by decide +kernel))) ag_nil))) (ag_cons (P := RF (sb x "BadStep")) (eg_lst2 (ag_cons (P := IsS "BadStep") eg_str (ag_cons (P := IsB (subN x "BadStep")) (eg_isE T.kk A.isi (eg_var 0 rfl hv) (eg_cls (T.mgx "BadStep" (by decide +kernel))) (.own _) (hty "BadStep" (by decide +kernel))) ag_nil))) (ag_cons (P := RF (sb x "BadSpan")) (eg_lst2 (ag_cons (P := IsS "BadSpan") eg_str (ag_cons (P := IsB (subN x "BadSpan")) (eg_isE T.kk A.isi (eg_var 0 rfl hv) (eg_cls (T.mgx "BadSpan" (by decide +kernel))) (.own _) (hty "BadSpan" (by decide +kernel))) ag_nil))) ag_nil))) (ble rfl) fun D xs H1 n1 e1 d1 a1 => ?_
  replace a1 : All2 RF [sb x "BadRatio", sb x "BadStep", sb x "BadSpan"] xs (hid H1 D) := args_all2 a1
  have l1 := a1.length
  have v1 := mE.up e1 hv
  refine b_ext (R := RF) (as := [sb x "BadBook", sb x "BadPace", sb x "BadRow"]) (fun _ => inferInstance) d1 (by rw [l1]; exact ble rfl) (ble rfl) (fun _ _ => eg_var 1 rfl rfl) (EvP.imp (eg_lst2 (ag_cons (P := RF (sb x "BadBook")) (eg_lst2 (ag_cons (P := IsS "BadBook") eg_str (ag_cons (P := IsB (subN x "BadBook")) (eg_isE T.kk A.isi (eg_var 0 rfl v1) (eg_cls (T.mgx "BadBook" (by decide +kernel))) (.own _) (hty "BadBook" (by decide +kernel))) ag_nil))) (ag_cons (P := RF (sb x "BadPace")) (eg_lst2 (ag_cons (P := IsS "BadPace") eg_str (ag_cons (P := IsB (subN x "BadPace")) (eg_isE T.kk A.isi (eg_var 0 rfl v1) (eg_cls (T.mgx "BadPace" (by decide +kernel))) (.own _) (hty "BadPace" (by decide +kernel))) ag_nil))) (ag_cons (P := RF (sb x "BadRow")) (eg_lst2 (ag_cons (P := IsS "BadRow") eg_str (ag_cons (P := IsB (subN x "BadRow")) (eg_isE T.kk A.isi (eg_var 0 rfl v1) (eg_cls (T.mgx "BadRow" (by decide +kernel))) (.own _) (hty "BadRow" (by decide +kernel))) ag_nil))) ag_nil)))) fun v H2 _ h => lst_isL (R := RF) (as := [sb x "BadBook", sb x "BadPace", sb x "BadRow"]) h) fun ys2 H2 e2 d2 b2 => ?_
  have a2 := all2_app b2 (a1.up (fun _ => inferInstance) e2)
  have l2 := a2.length
  have v2 := mE.up e2 v1
  refine b_ext (R := RF) (as := [sb x "BadSaying", sb x "BadOrder"]) (fun _ => inferInstance) d2 (by rw [l2]; exact ble rfl) (ble rfl) (fun _ _ => eg_var 1 rfl rfl) (EvP.imp (eg_lst2 (ag_cons (P := RF (sb x "BadSaying")) (eg_lst2 (ag_cons (P := IsS "BadSaying") eg_str (ag_cons (P := IsB (subN x "BadSaying")) (eg_isE T.kk A.isi (eg_var 0 rfl v2) (eg_cls (T.mgx "BadSaying" (by decide +kernel))) (.own _) (hty "BadSaying" (by decide +kernel))) ag_nil))) (ag_cons (P := RF (sb x "BadOrder")) (eg_lst2 (ag_cons (P := IsS "BadOrder") eg_str (ag_cons (P := IsB (subN x "BadOrder")) (eg_isE T.kk A.isi (eg_var 0 rfl v2) (eg_cls (T.mgx "BadOrder" (by decide +kernel))) (.own _) (hty "BadOrder" (by decide +kernel))) ag_nil))) ag_nil))) fun v H2 _ h => lst_isL (R := RF) (as := [sb x "BadSaying", sb x "BadOrder"]) h) fun ys3 H3 e3 d3 b3 => ?_
  have a3 := all2_app b3 (a2.up (fun _ => inferInstance) e3)
  have l3 := a3.length
  have v3 := mE.up e3 v2
  refine b_ext (R := RF) (as := [sb x "BadRider", sb x "BadStory"]) (fun _ => inferInstance) d3 (by rw [l3]; exact ble rfl) (ble rfl) (fun _ _ => eg_var 1 rfl rfl) (EvP.imp (eg_lst2 (ag_cons (P := RF (sb x "BadRider")) (eg_lst2 (ag_cons (P := IsS "BadRider") eg_str (ag_cons (P := IsB (subN x "BadRider")) (eg_isE T.kk A.isi (eg_var 0 rfl v3) (eg_cls (T.mgx "BadRider" (by decide +kernel))) (.own _) (hty "BadRider" (by decide +kernel))) ag_nil))) (ag_cons (P := RF (sb x "BadStory")) (eg_lst2 (ag_cons (P := IsS "BadStory") eg_str (ag_cons (P := IsB (subN x "BadStory")) (eg_isE T.kk A.isi (eg_var 0 rfl v3) (eg_cls (T.mgx "BadStory" (by decide +kernel))) (.own _) (hty "BadStory" (by decide +kernel))) ag_nil))) ag_nil))) fun v H2 _ h => lst_isL (R := RF) (as := [sb x "BadRider", sb x "BadStory"]) h) fun ys4 H4 e4 d4 b4 => ?_
  have a4 := all2_app b4 (a3.up (fun _ => inferInstance) e4)
  have l4 := a4.length
  have v4 := mE.up e4 v3
  refine b_ext (R := RF) (as := [sb x "BadTable", sb x "BadEye"]) (fun _ => inferInstance) d4 (by rw [l4]; exact ble rfl) (ble rfl) (fun _ _ => eg_var 1 rfl rfl) (EvP.imp (eg_lst2 (ag_cons (P := RF (sb x "BadTable")) (eg_lst2 (ag_cons (P := IsS "BadTable") eg_str (ag_cons (P := IsB (subN x "BadTable")) (eg_isE T.kk A.isi (eg_var 0 rfl v4) (eg_cls (T.mgx "BadTable" (by decide +kernel))) (.own _) (hty "BadTable" (by decide +kernel))) ag_nil))) (ag_cons (P := RF (sb x "BadEye")) (eg_lst2 (ag_cons (P := IsS "BadEye") eg_str (ag_cons (P := IsB (subN x "BadEye")) (eg_isE T.kk A.isi (eg_var 0 rfl v4) (eg_cls (T.mgx "BadEye" (by decide +kernel))) (.own _) (hty "BadEye" (by decide +kernel))) ag_nil))) ag_nil))) fun v H2 _ h => lst_isL (R := RF) (as := [sb x "BadTable", sb x "BadEye"]) h) fun ys5 H5 e5 d5 b5 => ?_
  have a5 := all2_app b5 (a4.up (fun _ => inferInstance) e5)
  have l5 := a5.length
  have v5 := mE.up e5 v4
  refine b_ext (R := RF) (as := [sb x "BadWeave", sb x "BadReport"]) (fun _ => inferInstance) d5 (by rw [l5]; exact ble rfl) (ble rfl) (fun _ _ => eg_var 1 rfl rfl) (EvP.imp (eg_lst2 (ag_cons (P := RF (sb x "BadWeave")) (eg_lst2 (ag_cons (P := IsS "BadWeave") eg_str (ag_cons (P := IsB (subN x "BadWeave")) (eg_isE T.kk A.isi (eg_var 0 rfl v5) (eg_cls (T.mgx "BadWeave" (by decide +kernel))) (.own _) (hty "BadWeave" (by decide +kernel))) ag_nil))) (ag_cons (P := RF (sb x "BadReport")) (eg_lst2 (ag_cons (P := IsS "BadReport") eg_str (ag_cons (P := IsB (subN x "BadReport")) (eg_isE T.kk A.isi (eg_var 0 rfl v5) (eg_cls (T.mgx "BadReport" (by decide +kernel))) (.own _) (hty "BadReport" (by decide +kernel))) ag_nil))) ag_nil))) fun v H2 _ h => lst_isL (R := RF) (as := [sb x "BadWeave", sb x "BadReport"]) h) fun ys6 H6 e6 d6 b6 => ?_
  have a6 := all2_app b6 (a5.up (fun _ => inferInstance) e6)
  have l6 := a6.length
  have v6 := mE.up e6 v5
  refine b_ext (R := RF) (as := [sb x "BadTour", sb x "BadNumber"]) (fun _ => inferInstance) d6 (by rw [l6]; exact ble rfl) (ble rfl) (fun _ _ => eg_var 1 rfl rfl) (EvP.imp (eg_lst2 (ag_cons (P := RF (sb x "BadTour")) (eg_lst2 (ag_cons (P := IsS "BadTour") eg_str (ag_cons (P := IsB (subN x "BadTour")) (eg_isE T.kk A.isi (eg_var 0 rfl v6) (eg_cls (T.mgx "BadTour" (by decide +kernel))) (.own _) (hty "BadTour" (by decide +kernel))) ag_nil))) (ag_cons (P := RF (sb x "BadNumber")) (eg_lst2 (ag_cons (P := IsS "BadNumber") eg_str (ag_cons (P := IsB (subN x "BadNumber")) (eg_isE T.kk A.isi (eg_var 0 rfl v6) (eg_cls (T.mgx "BadNumber" (by decide +kernel))) (.own _) (hty "BadNumber" (by decide +kernel))) ag_nil))) ag_nil))) fun v H2 _ h => lst_isL (R := RF) (as := [sb x "BadTour", sb x "BadNumber"]) h) fun ys7 H7 e7 d7 b7 => ?_
  have a7 := all2_app b7 (a6.up (fun _ => inferInstance) e7)
  have l7 := a7.length
  have v7 := mE.up e7 v6
  refine b_ext (R := RF) (as := [sb x "BadPaper", sb x "BadDesk"]) (fun _ => inferInstance) d7 (by rw [l7]; exact ble rfl) (ble rfl) (fun _ _ => eg_var 1 rfl rfl) (EvP.imp (eg_lst2 (ag_cons (P := RF (sb x "BadPaper")) (eg_lst2 (ag_cons (P := IsS "BadPaper") eg_str (ag_cons (P := IsB (subN x "BadPaper")) (eg_isE T.kk A.isi (eg_var 0 rfl v7) (eg_cls (T.mgx "BadPaper" (by decide +kernel))) (.own _) (hty "BadPaper" (by decide +kernel))) ag_nil))) (ag_cons (P := RF (sb x "BadDesk")) (eg_lst2 (ag_cons (P := IsS "BadDesk") eg_str (ag_cons (P := IsB (subN x "BadDesk")) (eg_isE T.kk A.isi (eg_var 0 rfl v7) (eg_cls (T.mgx "BadDesk" (by decide +kernel))) (.own _) (hty "BadDesk" (by decide +kernel))) ag_nil))) ag_nil))) fun v H2 _ h => lst_isL (R := RF) (as := [sb x "BadPaper", sb x "BadDesk"]) h) fun ys8 H8 e8 d8 b8 => ?_
  have a8 := all2_app b8 (a7.up (fun _ => inferInstance) e8)
  have l8 := a8.length
  have v8 := mE.up e8 v7
  refine b_ext (R := RF) (as := [sb x "Missing", sb x "NoHappening"]) (fun _ => inferInstance) d8 (by rw [l8]; exact ble rfl) (ble rfl) (fun _ _ => eg_var 1 rfl rfl) (EvP.imp (eg_lst2 (ag_cons (P := RF (sb x "Missing")) (eg_lst2 (ag_cons (P := IsS "Missing") eg_str (ag_cons (P := IsB (subN x "Missing")) (eg_isE T.kk A.isi (eg_var 0 rfl v8) (eg_cls (T.mgx "Missing" (by decide +kernel))) (.own _) (hty "Missing" (by decide +kernel))) ag_nil))) (ag_cons (P := RF (sb x "NoHappening")) (eg_lst2 (ag_cons (P := IsS "NoHappening") eg_str (ag_cons (P := IsB (subN x "NoHappening")) (eg_isE T.kk A.isi (eg_var 0 rfl v8) (eg_cls (T.mgx "NoHappening" (by decide +kernel))) (.own _) (hty "NoHappening" (by decide +kernel))) ag_nil))) ag_nil))) fun v H2 _ h => lst_isL (R := RF) (as := [sb x "Missing", sb x "NoHappening"]) h) fun ys9 H9 e9 d9 b9 => ?_
  have a9 := all2_app b9 (a8.up (fun _ => inferInstance) e9)
  have l9 := a9.length
  have v9 := mE.up e9 v8
  refine b_ext (R := RF) (as := [sb x "NoTraveller", sb x "Twice"]) (fun _ => inferInstance) d9 (by rw [l9]; exact ble rfl) (ble rfl) (fun _ _ => eg_var 1 rfl rfl) (EvP.imp (eg_lst2 (ag_cons (P := RF (sb x "NoTraveller")) (eg_lst2 (ag_cons (P := IsS "NoTraveller") eg_str (ag_cons (P := IsB (subN x "NoTraveller")) (eg_isE T.kk A.isi (eg_var 0 rfl v9) (eg_cls (T.mgx "NoTraveller" (by decide +kernel))) (.own _) (hty "NoTraveller" (by decide +kernel))) ag_nil))) (ag_cons (P := RF (sb x "Twice")) (eg_lst2 (ag_cons (P := IsS "Twice") eg_str (ag_cons (P := IsB (subN x "Twice")) (eg_isE T.kk A.isi (eg_var 0 rfl v9) (eg_cls (T.mgx "Twice" (by decide +kernel))) (.own _) (hty "Twice" (by decide +kernel))) ag_nil))) ag_nil))) fun v H2 _ h => lst_isL (R := RF) (as := [sb x "NoTraveller", sb x "Twice"]) h) fun ys10 H10 e10 d10 b10 => ?_
  have a10 := all2_app b10 (a9.up (fun _ => inferInstance) e10)
  have l10 := a10.length
  have v10 := mE.up e10 v9
  refine b_ext (R := RF) (as := [sb x "Unlike", sb x "Impossible"]) (fun _ => inferInstance) d10 (by rw [l10]; exact ble rfl) (ble rfl) (fun _ _ => eg_var 1 rfl rfl) (EvP.imp (eg_lst2 (ag_cons (P := RF (sb x "Unlike")) (eg_lst2 (ag_cons (P := IsS "Unlike") eg_str (ag_cons (P := IsB (subN x "Unlike")) (eg_isE T.kk A.isi (eg_var 0 rfl v10) (eg_cls (T.mgx "Unlike" (by decide +kernel))) (.own _) (hty "Unlike" (by decide +kernel))) ag_nil))) (ag_cons (P := RF (sb x "Impossible")) (eg_lst2 (ag_cons (P := IsS "Impossible") eg_str (ag_cons (P := IsB (subN x "Impossible")) (eg_isE T.kk A.isi (eg_var 0 rfl v10) (eg_cls (T.mgx "Impossible" (by decide +kernel))) (.own _) (hty "Impossible" (by decide +kernel))) ag_nil))) ag_nil))) fun v H2 _ h => lst_isL (R := RF) (as := [sb x "Unlike", sb x "Impossible"]) h) fun ys11 H11 e11 d11 b11 => ?_
  have a11 := all2_app b11 (a10.up (fun _ => inferInstance) e11)
  have l11 := a11.length
  have v11 := mE.up e11 v10
  refine b_ext (R := RF) (as := [sb x "SameSpot", sb x "TooMany", sb x "Nothing"]) (fun _ => inferInstance) d11 (by rw [l11]; exact ble rfl) (ble rfl) (fun _ _ => eg_var 1 rfl rfl) (EvP.imp (eg_lst2 (ag_cons (P := RF (sb x "SameSpot")) (eg_lst2 (ag_cons (P := IsS "SameSpot") eg_str (ag_cons (P := IsB (subN x "SameSpot")) (eg_isE T.kk A.isi (eg_var 0 rfl v11) (eg_cls (T.mgx "SameSpot" (by decide +kernel))) (.own _) (hty "SameSpot" (by decide +kernel))) ag_nil))) (ag_cons (P := RF (sb x "TooMany")) (eg_lst2 (ag_cons (P := IsS "TooMany") eg_str (ag_cons (P := IsB (subN x "TooMany")) (eg_isE T.kk A.isi (eg_var 0 rfl v11) (eg_cls (T.mgx "TooMany" (by decide +kernel))) (.own _) (hty "TooMany" (by decide +kernel))) ag_nil))) (ag_cons (P := RF (sb x "Nothing")) (eg_lst2 (ag_cons (P := IsS "Nothing") eg_str (ag_cons (P := IsB (subN x "Nothing")) (eg_isE T.kk A.isi (eg_var 0 rfl v11) (eg_cls (T.mgx "Nothing" (by decide +kernel))) (.own _) (hty "Nothing" (by decide +kernel))) ag_nil))) ag_nil)))) fun v H2 _ h => lst_isL (R := RF) (as := [sb x "SameSpot", sb x "TooMany", sb x "Nothing"]) h) fun ys12 H12 e12 d12 b12 => ?_
  have a12 := all2_app b12 (a11.up (fun _ => inferInstance) e12)
  have l12 := a12.length
  have v12 := mE.up e12 v11
  refine b_ext (R := RF) (as := [sb x "BadText", sb x "BadLine"]) (fun _ => inferInstance) d12 (by rw [l12]; exact ble rfl) (ble rfl) (fun _ _ => eg_var 1 rfl rfl) (EvP.imp (eg_lst2 (ag_cons (P := RF (sb x "BadText")) (eg_lst2 (ag_cons (P := IsS "BadText") eg_str (ag_cons (P := IsB (subN x "BadText")) (eg_isE T.kk A.isi (eg_var 0 rfl v12) (eg_cls (T.mgx "BadText" (by decide +kernel))) (.own _) (hty "BadText" (by decide +kernel))) ag_nil))) (ag_cons (P := RF (sb x "BadLine")) (eg_lst2 (ag_cons (P := IsS "BadLine") eg_str (ag_cons (P := IsB (subN x "BadLine")) (eg_isE T.kk A.isi (eg_var 0 rfl v12) (eg_cls (T.mgx "BadLine" (by decide +kernel))) (.own _) (hty "BadLine" (by decide +kernel))) ag_nil))) ag_nil))) fun v H2 _ h => lst_isL (R := RF) (as := [sb x "BadText", sb x "BadLine"]) h) fun ys13 H13 e13 d13 b13 => ?_
  have a13 := all2_app b13 (a12.up (fun _ => inferInstance) e13)
  have l13 := a13.length
  have v13 := mE.up e13 v12
  refine b_ext (R := RF) (as := [kb]) (fun _ => inferInstance) d13 (by rw [l13]; exact ble rfl) (ble rfl) (fun _ _ => eg_var 1 rfl rfl) (EvP.imp (eg_lst2 (ag_cons (P := RF kb) (eg_lst2 (ag_cons (P := IsS "KeyError") eg_str (ag_cons (P := IsB false) (eg_isET (ws := [.ty "KeyError", .ty "IndexError", .ty "LookupError", .ty "TypeError", .ty "ArithmeticError", .ty "RuntimeError"]) (us := keT) T.kk A.isi (eg_var 0 rfl v13) (eg_tup (ag_cons (P := IsV (.ty "KeyError")) (eg_tyN A.ke rfl) (ag_cons (P := IsV (.ty "IndexError")) (eg_tyN A.ie rfl) (ag_cons (P := IsV (.ty "LookupError")) (eg_tyN A.le rfl) (ag_cons (P := IsV (.ty "TypeError")) (eg_tyN A.te rfl) (ag_cons (P := IsV (.ty "ArithmeticError")) (eg_tyN A.ae rfl) (ag_cons (P := IsV (.ty "RuntimeError")) (eg_tyN A.re rfl) ag_nil))))))) (.cons (.ty _) (.cons (.ty _) (.cons (.ty _) (.cons (.ty _) (.cons (.ty _) (.cons (.ty _) .nil)))))) (fun u H h => ⟨_, er_ty (T.xr x hx) h, T.ke x hx⟩) (hma := inferInstance)) ag_nil))) ag_nil)) fun v H2 _ h => lst_isL (R := RF) (as := [kb]) h) fun ys14 H14 e14 d14 b14 => ?_
  have a14 := all2_app b14 (a13.up (fun _ => inferInstance) e14)
  have l14 := a14.length
  have v14 := mE.up e14 v13
  refine b_ret (P := IsL IsS (dueN x)) ?_ fun u H' e' h => hq u H' (fun b o hb => e' b o ?_) h
  · rw [← found_due x hx]
    refine eg_lcL2T (qs := foundN x) 2 3 (R := IsS) (R2 := IsB) (S := IsS) (fun q => q.1) (fun q => q.2) sc_classes.nd (ip_list (eg_var 1 rfl ⟨D, _, rfl, d14, ?_⟩)) (by rw [show (foundN x).length = 30 from rfl]; decide) (fun a ha u w H' e hu hw s' H0 Cc cl fp => ?_) (fun a ha hqa u w H' e hu hw s' H0 Cc cl fp => ?_) (fun _ _ _ _ _ => pg_unl rfl (pgs_cons (pg_name sc_classes.nd rfl (Or.inl rfl)) (pgs_cons (pg_name sc_classes.nd rfl (Or.inl rfl)) pgs_nil)))
    · exact a14.up (fun _ => inferInstance) ex_hid1
    · exact tg_val (eg_var 3 rfl hw)
    · exact eg_var 2 rfl hu
  · exact ex_hid1 _ _ ((((((((((((((e1.trans e2).trans e3).trans e4).trans e5).trans e6).trans e7).trans e8).trans e9).trans e10).trans e11).trans e12).trans e13).trans e14) b o hb)
end
end G
set_option maxHeartbeats 4000000
namespace G
open PySem PySem.Spec PyProof.Rows L2 Evl
section
variable {P : Program} {w : World} {K : PySem.W.Frag} {mg : Str → Option Value} {base : Heap} {f : Addr} {fd : FuncData} {C : Addr} {cl : Str → Addr}
/-! ### _law_is_one -/
theorem all2_dp {K : PySem.W.Frag} {H : Hp} : ∀ {zs : List Str} {xs : List V}, All2 IsS zs xs H → DpAll K H xs (zs.map .str)
  | [], _, h => by rw [show _ = _ from h]; exact .nil
  | z :: zs, _, ⟨x, r, hx, h, t⟩ => by
    rw [hx, show x = _ from h]
    exact .cons (.str z) (all2_dp t)
theorem strs_plain : ∀ zs : List Str, PyData.plainAll (zs.map .str) = true
  | [] => rfl
  | c :: cs => by
    show (true && PyData.plainAll (cs.map .str)) = true
    rw [strs_plain cs]
    rfl
theorem strs_dep : ∀ zs : List Str, PyData.depthAll (zs.map .str) = 0
  | [] => rfl
  | c :: cs => by
    show max 0 (PyData.depthAll (cs.map .str)) = 0
    rw [strs_dep cs]
    rfl
theorem strs_d1 (zs : List Str) : PyData.depth (.list (zs.map .str)) ≤ 60 := by
  show PyData.depthAll (zs.map .str) + 1 ≤ 60
  rw [strs_dep]
  decide
abbrev SpOne (cl : Str → Addr) : Sp := PSp (fun x : EA => [IsS x.1, ErW (cl x.1)]) fun _ => IsB true
theorem sc_one : FnScope ["_law_name", "_law_error", "_law_due"] ["_law_name", "_law_error"] (defScope (top 38)) := ⟨rfl, rfl, rfl, by decide +kernel, rfl, by decide +kernel, by decide +kernel⟩
theorem inV_two {z a b : Str} : inV (.str z) [.str a, .str b] = (decide (z = a) || decide (z = b)) := by
  have e : ∀ p q : Str, eqV (.str p) (.str q) = decide (p = q) := fun p q => by
    show (p == q) = _
    exact Bool.beq_eq_decide_eq p q
  show (eqV (.str a) (.str z) || (eqV (.str b) (.str z) || false)) = _
  rw [e, e, Bool.or_false]
  congr 1 <;> (rw [decide_eq_decide]; exact eq_comm)
theorem ok_one (A : Free mg) (T : Tab K mg cl) (D1 : Cal P w K mg base "_law_classes" 1 [] (SpCls cl)) (F : FnP K "_law_is_one" "_law_is_one" (top 38) [] f fd) : FnOk P w K mg base CX0 2 f fd ["_law_name", "_law_error"] (SpOne cl) := by
  refine fn_pure F sc_one (fun _ => rfl) fun t cdv Ar outer s H E vs Q hr ha hq => ?_
  obtain ⟨x, hx⟩ := t
  obtain ⟨v0, r0, rfl, h0, v, r, rfl, hv, hr2⟩ := ha
  cases (show r = [] from hr2)
  have mE : Mono (ErW (cl x)) := inferInstance
  refine b_asg (P := IsL IsS (dueN x)) 2 sc_one.nd ?_ fun v1 H1 e1 h1 => ?_
  · refine eg_if (bb := decide (x = "NoHappening") || decide (x = "NoTraveller")) (tg_cm (cg_inT (w := .str x) (ws := [.str "NoHappening", .str "NoTraveller"]) inferInstance (eg_var 0 rfl h0) (eg_tup (ag_cons (P := IsS "NoHappening") eg_str (ag_cons (P := IsS "NoTraveller") eg_str ag_nil))) rfl rfl inV_two)) (fun q => ?_) fun q => ?_
    · have e : dueN x = ([("Missing" : Str), x] : List Str) := by
        unfold dueN
        rw [if_pos (by rcases Bool.or_eq_true_iff.mp q with q | q; exact .inl (of_decide_eq_true q); exact .inr (of_decide_eq_true q))]
      rw [e]
      exact EvP.imp (eg_lst2 (ag_cons (P := IsS "Missing") eg_str (ag_cons (P := IsS x) (eg_var 0 rfl h0) ag_nil))) fun v H2 _ h => lst_isL (R := IsS) (as := [("Missing" : Str), x]) h
    · have e : dueN x = [x] := by
        unfold dueN
        rw [if_neg]
        intro z
        rcases z with z | z
        · rw [decide_eq_true z] at q; cases q
        · rw [decide_eq_true z, Bool.or_true] at q; cases q
      rw [e]
      exact EvP.imp (eg_lst2 (ag_cons (P := IsS x) (eg_var 0 rfl h0) ag_nil)) fun v H2 _ h => lst_isL (R := IsS) (as := [x]) h
  have hv1 := mE.up e1 hv
  refine b_skip (tg_w (wg_or (bb := false) (tg_cm ?_) fun _ => wg_or (bb := false) (tg_not (bb := true) (tg_val ?_)) fun _ => wg_or1 (bb := false) (tg_not (bb := true) (tg_val ?_)))) fun H2 e2 => ?_
  · refine cg_neD (P1 := IsL IsS (dueN x)) (P2 := IsL IsS (dueN x)) (d := .list ((dueN x).map .str)) (d2 := .list ((dueN x).map .str)) hr.units (eg_callP (⟨x, hx⟩ : EA) D1 (hr.mono (by decide)) (ag_cons (P := ErW (cl x)) (eg_var 1 rfl hv1) ag_nil)) (eg_var 2 rfl h1) (fun v H ⟨a, xs, q1, q2, q3⟩ => by rw [q1]; exact .lst (SqL.of q2) (all2_dp q3)) (fun v H ⟨a, xs, q1, q2, q3⟩ => by rw [q1]; exact .lst (SqL.of q2) (all2_dp q3)) (strs_plain _) (strs_plain _) (strs_d1 _) ?_
    rw [SeqAt.eqv_refl_plain (.list ((dueN x).map .str)) (strs_plain (dueN x))]
    rfl
  · exact eg_isE T.kk A.isi (eg_var 1 rfl hv1) (eg_cls T.mgF) (.own _) fun u H h => ⟨_, er_ty (T.xr x hx) h, T.first x hx⟩
  · exact eg_isE T.kk A.isi (eg_var 1 rfl hv1) (eg_tyN A.ve rfl) (.ty _) fun u H h => ⟨_, er_ty (T.xr x hx) h, T.ve x hx⟩
  refine b_ret (P := IsB true) eg_bl fun v3 H3 e3 h3 => hq v3 H3 ((e1.trans e2).trans e3) h3
/-! ### _law_field -/
def Nof (K : PySem.W.Frag) (cl : Str → Addr) : Prop := ∀ x ∈ nA, PySem.W.findIn K (.ref (cl x)) (fdN x) = some none
theorem nA_all : ∀ x ∈ nA, x ∈ nAll := by decide +kernel
theorem fd_cases : ∀ x ∈ nA, (subN x "Missing" || subN x "Twice") = decide (fdN x = "name") ∧ subN x "Unlike" = decide (fdN x = "what") ∧ subN x "Impossible" = decide (fdN x = "paper") ∧ (fdN x ≠ "name" → fdN x ≠ "what" → fdN x ≠ "paper" → fdN x = "part") := by decide +kernel
abbrev NA := {x : Str // x ∈ nA}
abbrev SpField (cl : Str → Addr) : Sp := PSp (fun t : NA × V => [XO (cl t.1.1) [(fdN t.1.1, t.2)]]) fun t => IsV t.2
theorem sc_field : FnScope ["_law_error"] ["_law_error"] (defScope (top 37)) := ⟨rfl, rfl, rfl, by decide +kernel, rfl, by decide +kernel, by decide +kernel⟩
theorem lk1 {g : Str} {u : V} : List.lookup g [(g, u)] = some u := by simp [List.lookup]
theorem ok_field (A : Free mg) (T : Tab K mg cl) (N : Nof K cl) (F : FnP K "_law_field" "_law_field" (top 37) [] f fd) : FnOk P w K mg base CX0 1 f fd ["_law_error"] (SpField cl) := by
  refine fn_pure F sc_field (fun _ => rfl) fun t cdv Ar outer s H E vs Q hr ha hq => ?_
  obtain ⟨⟨x, hx⟩, u⟩ := t
  obtain ⟨v, r, rfl, hv, hr2⟩ := ha
  cases (show r = [] from hr2)
  have hxa := nA_all x hx
  obtain ⟨c1, c2, c3, c4⟩ := fd_cases x hx
  have no := N x hx
  have mX : Mono (XO (cl x) [(fdN x, u)]) := inferInstance
  have ty : ∀ {v : V} {H : Hp}, XO (cl x) [(fdN x, u)] v H → TyE K H v (.ref (cl x)) := fun h => er_ty (T.xr x hxa) (xo_er h)
  have kt2 : PySem.W.kitAny K (.ref (cl x)) [.ref (cl "Missing"), .ref (cl "Twice")] = some (subN x "Missing" || subN x "Twice") := by
    refine kitAny_cons (T.kit x hxa "Missing" (by decide +kernel)) (fun q => ?_) fun q => by rw [q]; rfl
    rw [q, Bool.false_or]
    exact kitAny_cons (T.kit x hxa "Twice" (by decide +kernel)) (fun q2 => by rw [q2]; rfl) fun q2 => q2
  refine b_if (bb := decide (fdN x = "name")) (tg_val ?_) (fun q H1 e1 => ?_) fun q H1 e1 => b_nil ?_
  · exact eg_isET (ws := [.ref (cl "Missing"), .ref (cl "Twice")]) (us := [.ref (cl "Missing"), .ref (cl "Twice")]) T.kk A.isi (eg_var 0 rfl hv) (eg_tup (ag_cons (P := IsV (.ref (cl "Missing"))) (eg_cls (T.mgx "Missing" (by decide +kernel))) (ag_cons (P := IsV (.ref (cl "Twice"))) (eg_cls (T.mgx "Twice" (by decide +kernel))) ag_nil)) (ble rfl)) (.cons (.own _) (.cons (.own _) .nil)) (fun v H h => ⟨_, ty h, by rw [← c1]; exact kt2⟩) (hma := inferInstance)
  · have e : fdN x = "name" := of_decide_eq_true q
    exact b_ret (P := IsV u) (eg_xrd (T.xr x hxa) (by rw [← e]; exact no) (eg_var 0 rfl (mX.up e1 hv)) (by rw [e]; exact lk1)) fun v2 H2 e2 h2 => hq v2 H2 (e1.trans e2) h2
  have n1 : fdN x ≠ "name" := of_decide_eq_false q
  refine b_if (bb := decide (fdN x = "what")) (tg_val ?_) (fun q2 H2 e2 => ?_) fun q2 H2 e2 => b_nil ?_
  · exact EvP.bl (eg_isE T.kk A.isi (eg_var 0 rfl (mX.up e1 hv)) (eg_cls (T.mgx "Unlike" (by decide +kernel))) (.own _) fun v H h => ⟨_, ty h, T.kit x hxa "Unlike" (by decide +kernel)⟩) c2
  · have e : fdN x = "what" := of_decide_eq_true q2
    exact b_ret (P := IsV u) (eg_xrd (T.xr x hxa) (by rw [← e]; exact no) (eg_var 0 rfl (mX.up (e1.trans e2) hv)) (by rw [e]; exact lk1)) fun v2 H3 e3 h2 => hq v2 H3 ((e1.trans e2).trans e3) h2
  have n2 : fdN x ≠ "what" := of_decide_eq_false q2
  have hv2 := mX.up (e1.trans e2) hv
  refine b_ret (P := IsV u) (eg_if (bb := decide (fdN x = "paper")) (tg_val ?_) (fun q3 => ?_) fun q3 => ?_) fun v2 H3 e3 h2 => hq v2 H3 ((e1.trans e2).trans e3) h2
  · exact EvP.bl (eg_isE T.kk A.isi (eg_var 0 rfl hv2) (eg_cls (T.mgx "Impossible" (by decide +kernel))) (.own _) fun v H h => ⟨_, ty h, T.kit x hxa "Impossible" (by decide +kernel)⟩) c3
  · have e : fdN x = "paper" := of_decide_eq_true q3
    exact eg_xrd (T.xr x hxa) (by rw [← e]; exact no) (eg_var 0 rfl hv2) (by rw [e]; exact lk1)
  · have e : fdN x = "part" := c4 n1 n2 (of_decide_eq_false q3)
    exact eg_xrd (T.xr x hxa) (by rw [← e]; exact no) (eg_var 0 rfl hv2) (by rw [e]; exact lk1)
end
end G
set_option maxHeartbeats 4000000
namespace G
open PySem PySem.Spec PyProof.Rows L2 Evl
/-! ### _law_pairs, _law_fields -/
theorem nB_all : ∀ x ∈ nB, x ∈ nAll := by decide +kernel
def XP (cl : Str → Addr) (t : V × V) (x : Str) : Rep := XO (cl x) [(f2N x, t.2), (f1N x, t.1)]
instance {cl : Str → Addr} {t : V × V} {x : Str} : Mono (XP cl t x) := by unfold XP; infer_instance
def RP (cl : Str → Addr) (t : V × V) (x : Str) : Rep := LstOf [IsS x, XP cl t x, XP cl t x]
instance {cl : Str → Addr} {t : V × V} {x : Str} : Mono (RP cl t x) := by unfold RP; infer_instance
section
variable {P : Program} {w : World} {K : PySem.W.Frag} {mg : Str → Option Value} {base : Heap} {f : Addr} {fd : FuncData} {C : Addr} {cl : Str → Addr}
abbrev SpPairs (cl : Str → Addr) : Sp := PSp (fun t : V × V => [IsV t.1, IsV t.2]) fun t => IsL (RP cl t) nB
theorem sc_pairs : FnScope ["_law_one", "_law_other", "_law_made"] ["_law_one", "_law_other"] (defScope (top 39)) := ⟨rfl, rfl, rfl, by decide +kernel, rfl, by decide +kernel, by decide +kernel⟩
theorem ok_pairs (A : Free mg) (S1 : XCal P w K mg base "SameSpot" (cl "SameSpot") ["one", "other"]) (S2 : XCal P w K mg base "TooMany" (cl "TooMany") ["what", "most"]) (S3 : XCal P w K mg base "BadText" (cl "BadText") ["line", "word"]) (S4 : XCal P w K mg base "BadLine" (cl "BadLine") ["line", "error"])
    (F : FnP K "_law_pairs" "_law_pairs" (top 39) [] f fd) : FnOk P w K mg base CX0 3 f fd ["_law_one", "_law_other"] (SpPairs cl) := by
  refine fn_pure F sc_pairs (fun _ => rfl) fun t cdv Ar outer s H E vs Q hr ha hq => ?_
  obtain ⟨u1, u2⟩ := t
  obtain ⟨v1, r1, rfl, h1, v2, r2, rfl, h2, h3⟩ := ha
  cases (show r2 = [] from h3)
  cases (show v1 = u1 from h1)
  cases (show v2 = u2 from h2)
  have hr2 : Room 2 (Ar.deeper (envOfC "_law_pairs" (defScope (top 39)) s.heap.objs.size f cdv)) := hr
  refine b_asgL 2 sc_pairs.nd (Ps := [RP cl (u1, u2) "SameSpot", RP cl (u1, u2) "TooMany"]) inferInstance (ag_cons ?_ (ag_cons ?_ ag_nil)) (ble rfl) fun D xs H1 n1 e1 d1 a1 => ?_
  · exact eg_lst2 (ag_cons (P := IsS "SameSpot") eg_str (ag_cons (P := XP cl (u1, u2) "SameSpot") (eg_mkX (ws := [u1, u2]) S1 hr2 (ag_cons (P := IsV u1) (eg_var 0 rfl rfl) (ag_cons (P := IsV u2) (eg_var 1 rfl rfl) ag_nil)) rfl (by decide)) (ag_cons (P := XP cl (u1, u2) "SameSpot") (eg_mkXK (ws := [u1, u2]) S1 hr2 (kg_cons (P := IsV u2) (eg_var 1 rfl rfl) (kg_cons (P := IsV u1) (eg_var 0 rfl rfl) kg_nil)) rfl) ag_nil)))
  · exact eg_lst2 (ag_cons (P := IsS "TooMany") eg_str (ag_cons (P := XP cl (u1, u2) "TooMany") (eg_mkX (ws := [u1, u2]) S2 hr2 (ag_cons (P := IsV u1) (eg_var 0 rfl rfl) (ag_cons (P := IsV u2) (eg_var 1 rfl rfl) ag_nil)) rfl (by decide)) (ag_cons (P := XP cl (u1, u2) "TooMany") (eg_mkXK (ws := [u1, u2]) S2 hr2 (kg_cons (P := IsV u2) (eg_var 1 rfl rfl) (kg_cons (P := IsV u1) (eg_var 0 rfl rfl) kg_nil)) rfl) ag_nil)))
  replace a1 : All2 (RP cl (u1, u2)) ["SameSpot", "TooMany"] xs (hid H1 D) := args_all2 a1
  have l1 := a1.length
  refine b_ext (R := RP cl (u1, u2)) (as := ["BadText", "BadLine"]) (fun _ => inferInstance) d1 (by rw [l1]; exact ble rfl) (ble rfl) (fun _ _ => eg_var 2 rfl rfl) (EvP.imp (eg_lst2 (ag_cons (P := RP cl (u1, u2) "BadText") ?_ (ag_cons (P := RP cl (u1, u2) "BadLine") ?_ ag_nil))) fun v H2 _ h => lst_isL (R := RP cl (u1, u2)) (as := ["BadText", "BadLine"]) h) fun ys H2 e2 d2 b2 => ?_
  · exact eg_lst2 (ag_cons (P := IsS "BadText") eg_str (ag_cons (P := XP cl (u1, u2) "BadText") (eg_mkX (ws := [u1, u2]) S3 hr2 (ag_cons (P := IsV u1) (eg_var 0 rfl rfl) (ag_cons (P := IsV u2) (eg_var 1 rfl rfl) ag_nil)) rfl (by decide)) (ag_cons (P := XP cl (u1, u2) "BadText") (eg_mkXK (ws := [u1, u2]) S3 hr2 (kg_cons (P := IsV u2) (eg_var 1 rfl rfl) (kg_cons (P := IsV u1) (eg_var 0 rfl rfl) kg_nil)) rfl) ag_nil)))
  · exact eg_lst2 (ag_cons (P := IsS "BadLine") eg_str (ag_cons (P := XP cl (u1, u2) "BadLine") (eg_mkX (ws := [u1, u2]) S4 hr2 (ag_cons (P := IsV u1) (eg_var 0 rfl rfl) (ag_cons (P := IsV u2) (eg_var 1 rfl rfl) ag_nil)) rfl (by decide)) (ag_cons (P := XP cl (u1, u2) "BadLine") (eg_mkXK (ws := [u1, u2]) S4 hr2 (kg_cons (P := IsV u2) (eg_var 1 rfl rfl) (kg_cons (P := IsV u1) (eg_var 0 rfl rfl) kg_nil)) rfl) ag_nil)))
  have a2 := all2_app b2 (a1.up (fun _ => inferInstance) e2)
  refine b_ret (P := IsL (RP cl (u1, u2)) nB) (eg_var 2 rfl ⟨D, _, rfl, d2, a2.up (fun _ => inferInstance) ex_hid1⟩) fun v3 H3 e3 h3 => hq v3 H3 (fun b o hb => e3 b o (ex_hid1 _ _ ((e1.trans e2) b o hb))) h3
/-- what an error of two fields tells -/
def Nof2 (K : PySem.W.Frag) (cl : Str → Addr) : Prop := ∀ x ∈ nB, PySem.W.findIn K (.ref (cl x)) (f1N x) = some none ∧ PySem.W.findIn K (.ref (cl x)) (f2N x) = some none
abbrev NB := {x : Str // x ∈ nB}
abbrev SpFields (cl : Str → Addr) : Sp := PSp (fun t : NB × (V × V) => [XP cl t.2 t.1.1]) fun t => LstOf [IsV t.2.1, IsV t.2.2]
theorem sc_fields : FnScope ["_law_error"] ["_law_error"] (defScope (top 40)) := ⟨rfl, rfl, rfl, by decide +kernel, rfl, by decide +kernel, by decide +kernel⟩
theorem lk2 {g h : Str} {u v : V} (n : g ≠ h) : List.lookup h [(g, u), (h, v)] = some v := by
  have e : (h == g) = false := by simpa using Ne.symm n
  simp [List.lookup, e]
theorem lk0 {g h : Str} {u v : V} : List.lookup g [(g, u), (h, v)] = some u := by simp [List.lookup]
theorem ok_fields (A : Free mg) (T : Tab K mg cl) (N : Nof2 K cl) (F : FnP K "_law_fields" "_law_fields" (top 40) [] f fd) : FnOk P w K mg base CX0 1 f fd ["_law_error"] (SpFields cl) := by
  refine fn_pure F sc_fields (fun _ => rfl) fun t cdv Ar outer s H E vs Q hr ha hq => ?_
  obtain ⟨⟨x, hx⟩, u1, u2⟩ := t
  obtain ⟨v, r, rfl, hv, hr2⟩ := ha
  cases (show r = [] from hr2)
  have hxa := nB_all x hx
  obtain ⟨no1, no2⟩ := N x hx
  have mX : Mono (XP cl (u1, u2) x) := inferInstance
  have ty : ∀ {v : V} {H : Hp}, XP cl (u1, u2) x v H → TyE K H v (.ref (cl x)) := fun h => er_ty (T.xr x hxa) (xo_er h)
  have cs : x = "SameSpot" ∨ x = "TooMany" ∨ x = "BadText" ∨ x = "BadLine" := by
    have z : x ∈ (["SameSpot", "TooMany", "BadText", "BadLine"] : List Str) := hx
    simpa using z
  have at2 : ∀ {n1 n2 : Str} {e1 e2 : Expr} {p1 p2 p3 : Pos} {H1 : Hp} {σ : L2.St} {X : Cx}, f1N x = n1 → f2N x = n2 → n2 ≠ n1 → X.K = K → EG X e1 σ H1 (XP cl (u1, u2) x) → EG X e2 σ H1 (XP cl (u1, u2) x) → attributeBase e1 n1 X.env (eval e1 X.env) = eval e1 X.env → attributeBase e2 n2 X.env (eval e2 X.env) = eval e2 X.env →
      starEach [.Attribute e1 n1 p1, .Attribute e2 n2 p2] X.env = (false, eval (.Attribute e1 n1 p1) X.env) :: starEach [.Attribute e2 n2 p2] X.env → starEach [.Attribute e2 n2 p2] X.env = (false, eval (.Attribute e2 n2 p2) X.env) :: starEach [] X.env → EG X (.List [.Attribute e1 n1 p1, .Attribute e2 n2 p2] p3) σ H1 (LstOf [IsV u1, IsV u2]) := fun q1 q2 nq hK h1 h2 b1 b2 s1 s2 => by
    subst q1 q2
    subst hK
    exact eg_lst2 (ag_cons (P := IsV u1) (eg_xrd (fs := [(f2N x, u2), (f1N x, u1)]) (T.xr x hxa) no1 h1 (lk2 nq) b1) (ag_cons (P := IsV u2) (eg_xrd (fs := [(f2N x, u2), (f1N x, u1)]) (T.xr x hxa) no2 h2 lk0 b2) ag_nil s2) s1)
  refine b_if (bb := subN x "SameSpot") (tg_val (eg_isE T.kk A.isi (eg_var 0 rfl hv) (eg_cls (T.mgx "SameSpot" (by decide +kernel))) (.own _) fun v H h => ⟨_, ty h, T.kit x hxa "SameSpot" (by decide +kernel)⟩)) (fun q H1 e1 => ?_) fun q H1 e1 => b_nil ?_
  · have e : x = "SameSpot" := by
      rcases cs with rfl | rfl | rfl | rfl
      · rfl
      · exact absurd q (by decide +kernel)
      · exact absurd q (by decide +kernel)
      · exact absurd q (by decide +kernel)
    refine b_ret (P := LstOf [IsV u1, IsV u2]) (at2 (by rw [e]; rfl) (by rw [e]; rfl) (by decide) rfl (eg_var 0 rfl (mX.up e1 hv)) (eg_var 0 rfl (mX.up e1 hv)) rfl rfl rfl rfl) fun v2 H2 e2 h2 => hq v2 H2 (e1.trans e2) h2
  refine b_if (bb := subN x "TooMany") (tg_val (eg_isE T.kk A.isi (eg_var 0 rfl (mX.up e1 hv)) (eg_cls (T.mgx "TooMany" (by decide +kernel))) (.own _) fun v H h => ⟨_, ty h, T.kit x hxa "TooMany" (by decide +kernel)⟩)) (fun q2 H2 e2 => ?_) fun q2 H2 e2 => b_nil ?_
  · have e : x = "TooMany" := by
      rcases cs with rfl | rfl | rfl | rfl
      · exact absurd q2 (by decide +kernel)
      · rfl
      · exact absurd q2 (by decide +kernel)
      · exact absurd q2 (by decide +kernel)
    refine b_ret (P := LstOf [IsV u1, IsV u2]) (at2 (by rw [e]; rfl) (by rw [e]; rfl) (by decide) rfl (eg_var 0 rfl (mX.up (e1.trans e2) hv)) (eg_var 0 rfl (mX.up (e1.trans e2) hv)) rfl rfl rfl rfl) fun v2 H3 e3 h2 => hq v2 H3 ((e1.trans e2).trans e3) h2
  have hv2 := mX.up (e1.trans e2) hv
  refine b_ret (P := LstOf [IsV u1, IsV u2]) (eg_if (bb := subN x "BadText") (tg_val (eg_isE T.kk A.isi (eg_var 0 rfl hv2) (eg_cls (T.mgx "BadText" (by decide +kernel))) (.own _) fun v H h => ⟨_, ty h, T.kit x hxa "BadText" (by decide +kernel)⟩)) (fun q3 => ?_) fun q3 => ?_) fun v2 H3 e3 h2 => hq v2 H3 ((e1.trans e2).trans e3) h2
  · have e : x = "BadText" := by
      rcases cs with rfl | rfl | rfl | rfl
      · exact absurd q3 (by decide +kernel)
      · exact absurd q3 (by decide +kernel)
      · rfl
      · exact absurd q3 (by decide +kernel)
    exact at2 (by rw [e]; rfl) (by rw [e]; rfl) (by decide) rfl (eg_var 0 rfl hv2) (eg_var 0 rfl hv2) rfl rfl rfl rfl
  · have e : x = "BadLine" := by
      rcases cs with rfl | rfl | rfl | rfl
      · exact absurd q (by decide +kernel)
      · exact absurd q2 (by decide +kernel)
      · exact absurd q3 (by decide +kernel)
      · rfl
    exact at2 (by rw [e]; rfl) (by rw [e]; rfl) (by decide) rfl (eg_var 0 rfl hv2) (eg_var 0 rfl hv2) rfl rfl rfl rfl
end
end G
set_option maxHeartbeats 4000000
namespace G
open PySem PySem.Spec PyProof.Rows L2 Evl
theorem hid_comm {H : Hp} {p D : Addr} : hid (hid H p) D = hid (hid H D) p := by
  funext b
  by_cases h1 : b = p
  · rw [h1, hid_same]
    by_cases h2 : p = D
    · rw [h2, hid_same]
    · rw [hid_ne h2, hid_same]
  · rw [hid_ne (H := hid H D) h1]
    by_cases h2 : b = D
    · rw [h2, hid_same, hid_same]
    · rw [hid_ne h2, hid_ne h2, hid_ne h1]
section
variable {X : Cx} {σ : L2.St} {H : Hp} {e : Expr} {P : Rep} {p c D : Addr} {acc : List V} {n : Nat}
theorem eg_hidp (hp : H p = some (.lst acc)) (h : EG X e σ (hid H p) P) : EG X e σ H (fun v H2 => P v (hid H2 p)) := fun H1 e1 Q q => by
  have h1 := e1 _ _ hp
  refine ew_hid h1 (h (hid H1 p) (ex_hid2 e1) _ fun v H2 e2 pv n2 => q v _ (fun b o hb => ?_) ?_)
  · by_cases z : b = p
    · rw [z, h1] at hb
      rw [z, upd_same]
      exact hb
    · rw [upd_ne z]
      exact e2 b o (by rw [hid_ne z]; exact hb)
  · show P v (hid (upd H2 p _) p)
    rw [hid_upd n2]
    exact pv
theorem b_appP {rest : List Stmt} {En : Ends} {o : Expr} {ap cp sp : Pos} (hD : H D = some (.lst acc)) (hl : acc.length ≤ 1000) (hp : Pen p c n H) (hDp : D ≠ p) (ho : ∀ H1, Ex H H1 → EG X o σ H1 (IsV (.ref D))) (he : EG X e σ (hid (hid H p) D) P)
    (k : ∀ v H1, Ex (hid (hid H p) D) (hid (hid H1 p) D) → H1 D = some (.lst (acc ++ [v])) → Pen p c n H1 → P v (hid (hid H1 p) D) → BW X rest En σ H1)
    (hs : swapsWith (.Call (.Attribute o "append" ap) [e] [] cp) none sp.line X.env = pure false := by rfl) (hbase : attributeBase o "append" X.env (eval o X.env) = eval o X.env := by rfl)
    (hfew : ((backTo cp (starEach [e] X.env)).all (fun x => !x.1) && (backToKw cp (keywordEach [] X.env)).all (fun x => x.1.isSome) && decide ([e].length + ([] : List Keyword).length + (if ([] : List Keyword).isEmpty then 0 else 1) < 30)) = true := by rfl)
    (hline : (ap.endLine == cp.line) = true := by rfl) (hst : starEach [e] X.env = (false, eval e X.env) :: starEach [] X.env := by rfl) (hpl : (backTo cp (starEach [] X.env)).any (·.1) = false := by rfl) : BW X (.Expr (.Call (.Attribute o "append" ap) [e] [] cp) sp :: rest) En σ H := by
  obtain ⟨t, r, h1, h2⟩ := hp
  have hp2 : (hid H D) p = some (.lst [.ref c, .int t, .int r]) := by
    rw [hid_ne (Ne.symm hDp)]
    exact h1
  rw [hid_comm] at he
  refine b_app hD hl ho (eg_hidp hp2 he) (fun v H1 e1 d1 pv => ?_) hs hbase hfew hline hst hpl
  have z := e1 _ _ hp2
  rw [hid_ne (Ne.symm hDp)] at z
  refine k v H1 ?_ d1 ⟨t, r, z, h2⟩ ?_
  · rw [hid_comm (H := H), hid_comm (H := H1)]
    exact ex_hid2 e1
  · rw [hid_comm]
    exact pv
end
theorem exo_lst {e C : Addr} {d : Option Addr} {xs : List V} : exo e C d ≠ .lst xs := fun z => by
  have z' : HO.ext _ = HO.lst xs := z
  cases z'
theorem exd_lst {e : Addr} {fs : List (Str × V)} {xs : List V} : exd e fs ≠ .lst xs := fun z => by
  have z' : HO.ext _ = HO.lst xs := z
  cases z'
theorem ne_obj {H : Hp} {D a : Addr} {o u : HO} (hD : H D = some o) (ha : H a = some u) (n : u ≠ o) : a ≠ D := fun z => by
  rw [z, hD] at ha
  exact n (Option.some.inj ha).symm
/-- values do not know an empty list -/
theorem wv_hid {T D : Addr} {v : V} {H : Hp} (hD : H D = some (.lst [])) (h : WV T v H) : WV T v (hid H D) := by
  rcases h with h | h | h | h | ⟨q, xs, h1, h2, h3⟩ | ⟨q, xs, h1, h2⟩ | ⟨q, xs, h1, h2⟩ | ⟨z, a, d, h1, h2, h3⟩
  · exact .inl h
  · exact .inr (.inl h)
  · exact .inr (.inr (.inl h))
  · exact .inr (.inr (.inr (.inl h)))
  · exact .inr (.inr (.inr (.inr (.inl ⟨q, xs, h1, by rw [hid_ne (ne_obj hD h2 fun z => h3 (by injection z))]; exact h2, h3⟩))))
  · exact .inr (.inr (.inr (.inr (.inr (.inl ⟨q, xs, h1, by rw [hid_ne (ne_obj hD h2 fun z => nomatch z)]; exact h2⟩)))))
  · exact .inr (.inr (.inr (.inr (.inr (.inr (.inl ⟨q, xs, h1, by rw [hid_ne (ne_obj hD h2 fun z => nomatch z)]; exact h2⟩))))))
  · exact .inr (.inr (.inr (.inr (.inr (.inr (.inr ⟨z, a, d, h1, by rw [hid_ne (ne_obj hD h2 exo_lst)]; exact h2, by rw [hid_ne (ne_obj hD h3 exd_lst)]; exact h3⟩))))))
theorem qg_use {X : Cx} {σ : L2.St} {H H1 : Hp} {e : Expr} {P : Rep} {p c : Addr} {n m : Nat} {Q : VK} (hq : Ex H (hid H1 p)) (hp : Pen p c n H1) (h : QG X p c e σ H n m P) (k : ∀ v H2, Ex (hid H1 p) (hid H2 p) → Pen p c m H2 → P v (hid H2 p) → Q v H2) : EW X e σ H1 Q := h H1 hq hp Q k
def RI (cl : Str → Addr) (t : Str × V) : Rep := LstOf [IsS t.1, XO (cl t.1) [(fdN t.1, t.2)], XO (cl t.1) [(fdN t.1, t.2)], IsV t.2]
instance {cl : Str → Addr} {t : Str × V} : Mono (RI cl t) := by unfold RI; infer_instance
section
variable {P : Program} {w : World} {K : PySem.W.Frag} {mg : Str → Option Value} {base : Heap} {f : Addr} {fd : FuncData} {C : Addr} {cl : Str → Addr}
def PlainW (cl : Str → Addr) : Rep := fun v H => ∃ ws : List V, ws.length = 24 ∧ IsL (RI cl) (nA.zip ws) v H ∧ ∀ w ∈ ws, WV (cl "Twice") w H
abbrev SpPlain (cl : Str → Addr) : Sp := PnSp 72 (fun _ : Unit => []) fun _ => PlainW cl
theorem sc_plain : FnScope ["_law_pen_here", "_law_made", "_law_worth", "_law_spot"] ["_law_pen_here"] (defScope (top 35)) := ⟨rfl, rfl, rfl, by decide +kernel, rfl, by decide +kernel, by decide +kernel⟩
theorem ok_plain (A : Free mg) (D1 : Cal P w K mg base "_law_value" 3 [] (SpVal (cl "Twice"))) (S : ∀ x ∈ nA, XCal P w K mg base x (cl x) [fdN x]) (F : FnP K "_law_plain" "_law_plain" (top 35) [] f fd) : FnOk P w K mg base CX0 4 f fd ["_law_pen_here"] (SpPlain cl) := by
  refine fn_pen F sc_plain (fun _ => rfl) fun t cdv Ar outer s H E p c cs n args Q hr hp hn hc hcl ha hq => ?_
  cases (show args = [] from ha)
  have mC : Mono (IsL IsI cs) := inferInstance
  have mM : Mono (fun (v : V) (H : Hp) => ∃ ws : List V, ws.length = 24 ∧ IsL (SelfR (WV (cl "Twice"))) ws v H) := ⟨fun e ⟨ws, h1, h2⟩ => ⟨ws, h1, Mono.up e h2⟩⟩
  refine b_of (ps_par (i := 1) (j := 2) rfl sc_plain.nd rfl rfl (by decide) rfl rfl pa_W rfl rfl) ?_
  intro pos pins s2 I
  refine (pa_cons (pe_lst pa_nil) (pa_cons pe_W pa_nil)).run pos pins s2 _ H _ I ⟨Nat.zero_le _, fun D hDn => ?_⟩
  have hDp : D ≠ p := hp.ne hDn
  refine qg_use (H := hid H p) (p := p) (c := c) (n := n) (m := n + 24 * 3) (ex_hid2 (Ex.new hDn)) ((hp.new hDn).1) (qg_lcV (W := WV (cl "Twice")) 3 3 sc_plain.nd (ir_range (k := 24) A.range eg_int (by decide)) (by decide) (by omega) (fun i hi n' hn' s2 H0 Cc cl2 fp H' e' => ?_) (fun _ _ _ _ _ => pg_name sc_plain.nd rfl (Or.inl rfl))) fun v2 H1 e1 p1 h2 => ?_
  · exact qg_pen (() : Unit) D1 (hr.mono (by decide)) (mC.up e' hc) hcl hn' (qa_cons (qg_of (eg_var 0 rfl rfl)) qa_nil)
  refine ⟨_, _, rfl, ?_⟩
  obtain ⟨ws, hw, L, ys, rfl, hL, hy⟩ := h2
  have hD : (hid H1 p) D = some (.lst []) := e1 D _ (by rw [hid_ne hDp, upd_same])
  have hD1 : H1 D = some (.lst []) := ex_hid1 _ _ hD
  have eys : ys = ws := by
    clear hL hw
    induction ws generalizing ys with
    | nil => exact hy
    | cons u ws ih =>
      obtain ⟨x, r, q1, ⟨q2, _⟩, q3⟩ := hy
      rw [q1, q2, ih _ q3]
  subst eys
  have hLD : L ≠ D := ne_obj hD hL fun z => by
    injection z with z
    rw [z] at hw
    cases hw
  have wvs : ∀ u ∈ ys, WV (cl "Twice") u (hid (hid H1 p) D) := by
    have all : ∀ {as xs : List V}, All2 (SelfR (WV (cl "Twice"))) as xs (hid H1 p) → ∀ u ∈ as, WV (cl "Twice") u (hid H1 p) := by
      intro as
      induction as with
      | nil => intro xs _ u hu; cases hu
      | cons a as ih =>
        intro xs ⟨x, r, q1, ⟨q2, q4⟩, q3⟩ u hu
        rcases List.mem_cons.mp hu with hu | hu
        · rw [hu, ← q2]
          exact q2 ▸ q4
        · exact ih q3 u hu
    exact fun u hu => wv_hid hD (all hy u hu)
  have hLG : (hid (hid H1 p) D) L = some (.lst ys) := by
    rw [hid_ne hLD]
    exact hL
  generalize hG : hid (hid H1 p) D = G0 at *
  have e0 : Ex (hid H p) G0 := by
    rw [← hG]
    intro b o hb
    have q : b ≠ D := fun z => by
      rw [z, hid_ne hDp, hDn] at hb
      cases hb
    rw [hid_ne q]
    refine e1 b o ?_
    by_cases z : b = p
    · rw [z, hid_same] at hb; cases hb
    · rw [hid_ne z] at hb ⊢
      rw [upd_ne q]
      exact hb
  have hzl : (nA.zip ys).length = 24 := by
    rw [List.length_zip, hw]
    rfl
  let St : Nat → Hp → Prop := fun j H2 => ∃ acc, H2 D = some (.lst acc) ∧ All2 (RI cl) ((nA.zip ys).take j) acc (hid (hid H2 p) D) ∧ Pen p c (n + 72) H2 ∧ Ex G0 (hid (hid H2 p) D)
  have ap : ∀ (j : Nat) (x g : Str) (hx : nA[j]? = some x) (hgx : fdN x = g) (H2 : Hp) {j1 j2 j3 j4 : Nat} {sp a1 a2 a3 a4 a5 a6 a7 a8 a9 b1 b2 b3 b4 b5 b6 b7 b8 b9 c1 : Pos} {rest : List Stmt} {En : Ends}, Gl (ctx P w K mg base ["_law_pen_here", "_law_made", "_law_worth", "_law_spot"] "_law_plain" (defScope (top 35)) f cdv Ar outer s H E) x → (x == ("__debug__" : Str)) = false → (a9.endLine == b9.line) = true →
      St j H2 → (∀ H3, St (j + 1) H3 → BW (ctx P w K mg base ["_law_pen_here", "_law_made", "_law_worth", "_law_spot"] "_law_plain" (defScope (top 35)) f cdv Ar outer s H E) rest En [some (.ref p), some (.ref D), some (.ref L), none] H3) →
      BW (ctx P w K mg base ["_law_pen_here", "_law_made", "_law_worth", "_law_spot"] "_law_plain" (defScope (top 35)) f cdv Ar outer s H E) (.Expr (.Call (.Attribute (.Name "_law_made" a1) "append" a9) [.List [.Constant (.str x) j1 a2, .Call (.Name x a3) [.Subscript (.Name "_law_worth" a4) (.Constant (.int (j : Int)) j2 a5) a6] [] a7,
        .Call (.Name x a8) [] [{ arg := some g, value := .Subscript (.Name "_law_worth" b1) (.Constant (.int (j : Int)) j3 b2) b3, pos := b4 }] b5, .Subscript (.Name "_law_worth" b6) (.Constant (.int (j : Int)) j4 b7) b8] c1] [] b9) sp :: rest) En [some (.ref p), some (.ref D), some (.ref L), none] H2 := by
    intro j x g hx hgx H2 j1 j2 j3 j4 sp a1 a2 a3 a4 a5 a6 a7 a8 a9 b1 b2 b3 b4 b5 b6 b7 b8 b9 c1 rest En hg hdb hln ⟨acc, d, a, pn, ex⟩ hk
    have hj : j < 24 := (List.getElem?_eq_some_iff.mp hx).1
    obtain ⟨u, hu⟩ : ∃ u, ys[j]? = some u := ⟨ys[j]'(by omega), List.getElem?_eq_getElem _⟩
    have hxm : x ∈ nA := List.mem_of_getElem? hx
    have tk : (nA.zip ys).take (j + 1) = (nA.zip ys).take j ++ [(x, u)] := by
      have z : (nA.zip ys)[j]? = some (x, u) := List.getElem?_zip_eq_some.mpr ⟨hx, hu⟩
      rw [List.take_succ, z]
      rfl
    have hr2 : Room 2 (Ar.deeper (envOfC "_law_plain" (defScope (top 35)) s.heap.objs.size f cdv)) := hr.mono (by decide)
    have hL2 := ex _ _ hLG
    subst hgx
    have ix : ∀ {jj : Nat} {q1 q2 q3 : Pos}, EG (ctx P w K mg base ["_law_pen_here", "_law_made", "_law_worth", "_law_spot"] "_law_plain" (defScope (top 35)) f cdv Ar outer s H E) (.Subscript (.Name "_law_worth" q1) (.Constant (.int (j : Int)) jj q2) q3) [some (.ref p), some (.ref D), some (.ref L), none] (hid (hid H2 p) D) (IsV u) := fun {jj q1 q2 q3} =>
      eg_ixA (Ps := ys.map IsV) (n := j) (P := IsV u) (eg_var 2 rfl (⟨L, ys, rfl, hL2, isV_args⟩ : LstOf (ys.map IsV) (.ref L) _)) eg_int (by rw [List.getElem?_map, hu]; rfl)
    refine b_appP (P := RI cl (x, u)) d (by have := a.length; rw [List.length_take] at this; omega) pn hDp (fun _ _ => eg_var 1 rfl rfl) ?_ (fun v H3 e3 d3 p3 pv => hk H3 ⟨acc ++ [v], d3, by rw [tk]; exact (a.up (fun _ => inferInstance) e3).snoc pv, p3, ex.trans e3⟩) rfl rfl rfl hln rfl rfl
    exact eg_lst2 (ag_cons (P := IsS x) eg_str (ag_cons (P := XO (cl x) [(fdN x, u)]) (eg_mkX (ws := [u]) (S x hxm) hr2 (ag_cons (P := IsV u) ix ag_nil) rfl (ble rfl) hg hdb) (ag_cons (P := XO (cl x) [(fdN x, u)]) (eg_mkXK (ws := [u]) (S x hxm) hr2 (kg_cons (P := IsV u) ix kg_nil) rfl hg rfl rfl hdb) (ag_cons (P := IsV u) ix ag_nil))))
  have h0 : St 0 H1 := ⟨[], hD1, rfl, p1, by rw [hG]; exact Ex.refl _⟩
  have last : ∀ {En : Ends} {e1 : Pos} {e2 : Pos} {H2 : Hp}, En.rt = Q → St 24 H2 → BW (ctx P w K mg base ["_law_pen_here", "_law_made", "_law_worth", "_law_spot"] "_law_plain" (defScope (top 35)) f cdv Ar outer s H E) [.Return (some (.Name "_law_made" e1)) e2] En [some (.ref p), some (.ref D), some (.ref L), none] H2 := by
    intro En e1 e2 H2 hEn ⟨acc, d, a, pn, ex⟩
    refine b_ret (P := IsV (.ref D)) (eg_var 1 rfl rfl) fun v5 H5 e5 h5 => ?_
    rw [hEn]
    refine hq v5 H5 (fun b o hb => ?_) (pn.up e5) ⟨ys, hw, ?_, fun u hu => ?_⟩
    · have z := ex b o (e0 b o hb)
      have hbp : b ≠ p := fun q => by
        rw [q, hid_same] at hb
        cases hb
      rw [hid_ne hbp]
      refine e5 b o ?_
      by_cases q : b = D
      · rw [q, hid_same] at z
        cases z
      · rw [hid_ne q, hid_ne hbp] at z
        exact z
    · rw [show v5 = _ from h5]
      refine ⟨D, acc, rfl, by rw [hid_ne hDp]; exact e5 _ _ d, ?_⟩
      have ey : (nA.zip ys).take 24 = nA.zip ys := List.take_of_length_le (by rw [hzl]; exact Nat.le_refl _)
      rw [← ey]
      exact a.up (fun _ => inferInstance) (ex_hid1.trans (ex_hid2 e5))
    · exact Mono.up ((ex.trans ex_hid1).trans (ex_hid2 e5)) (wvs u hu)
  refine ap 0 "BadRatio" "part" rfl (by decide +kernel) _ rfl (by decide) rfl h0 fun K1 h1 => ?_
  refine ap 1 "BadStep" "part" rfl (by decide +kernel) _ rfl (by decide) rfl h1 fun K2 h2 => ?_
  refine ap 2 "BadSpan" "part" rfl (by decide +kernel) _ rfl (by decide) rfl h2 fun K3 h3 => ?_
  refine ap 3 "BadBook" "part" rfl (by decide +kernel) _ rfl (by decide) rfl h3 fun K4 h4 => ?_
  refine ap 4 "BadPace" "part" rfl (by decide +kernel) _ rfl (by decide) rfl h4 fun K5 h5 => ?_
  refine ap 5 "BadRow" "part" rfl (by decide +kernel) _ rfl (by decide) rfl h5 fun K6 h6 => ?_
  refine ap 6 "BadSaying" "part" rfl (by decide +kernel) _ rfl (by decide) rfl h6 fun K7 h7 => ?_
  refine ap 7 "BadOrder" "part" rfl (by decide +kernel) _ rfl (by decide) rfl h7 fun K8 h8 => ?_
  refine ap 8 "BadRider" "part" rfl (by decide +kernel) _ rfl (by decide) rfl h8 fun K9 h9 => ?_
  refine ap 9 "BadStory" "part" rfl (by decide +kernel) _ rfl (by decide) rfl h9 fun K10 h10 => ?_
  refine ap 10 "BadTable" "part" rfl (by decide +kernel) _ rfl (by decide) rfl h10 fun K11 h11 => ?_
  refine ap 11 "BadEye" "part" rfl (by decide +kernel) _ rfl (by decide) rfl h11 fun K12 h12 => ?_
  refine ap 12 "BadWeave" "part" rfl (by decide +kernel) _ rfl (by decide) rfl h12 fun K13 h13 => ?_
  refine ap 13 "BadReport" "part" rfl (by decide +kernel) _ rfl (by decide) rfl h13 fun K14 h14 => ?_
  refine ap 14 "BadTour" "part" rfl (by decide +kernel) _ rfl (by decide) rfl h14 fun K15 h15 => ?_
  refine ap 15 "BadNumber" "part" rfl (by decide +kernel) _ rfl (by decide) rfl h15 fun K16 h16 => ?_
  refine ap 16 "BadPaper" "part" rfl (by decide +kernel) _ rfl (by decide) rfl h16 fun K17 h17 => ?_
  refine ap 17 "BadDesk" "part" rfl (by decide +kernel) _ rfl (by decide) rfl h17 fun K18 h18 => ?_
  refine ap 18 "Missing" "name" rfl (by decide +kernel) _ rfl (by decide) rfl h18 fun K19 h19 => ?_
  refine ap 19 "NoHappening" "name" rfl (by decide +kernel) _ rfl (by decide) rfl h19 fun K20 h20 => ?_
  refine ap 20 "NoTraveller" "name" rfl (by decide +kernel) _ rfl (by decide) rfl h20 fun K21 h21 => ?_
  refine ap 21 "Twice" "name" rfl (by decide +kernel) _ rfl (by decide) rfl h21 fun K22 h22 => ?_
  refine ap 22 "Unlike" "what" rfl (by decide +kernel) _ rfl (by decide) rfl h22 fun K23 h23 => ?_
  refine ap 23 "Impossible" "paper" rfl (by decide +kernel) _ rfl (by decide) rfl h23 fun K24 h24 => ?_
  exact last rfl h24
end
end G
set_option maxHeartbeats 4000000
namespace G
open PySem PySem.Spec PyProof.Rows L2 Evl
section
variable {P : Program} {w : World} {K : PySem.W.Frag} {mg : Str → Option Value} {base : Heap} {f fR : Addr} {fd fdR : FuncData} {C : Addr} {cl : Str → Addr}
/-! ### _law_raise -/
def raN : List Str := ["NoHappening", "NoTraveller", "Twice"]
def SpRaise (cl : Str → Addr) : Sp := fun vs H Q E => ∃ (j : Nat) (u : V), j < 4 ∧ vs = [.int (j : Int), u] ∧ (∀ x, raN[j]? = some x → ∀ d H', Ex H H' → H' d = none → E (.ref (cl x)) (some d) (upd H' d (.xd [("name", u)]))) ∧ (j = 3 → ∀ H', Ex H H' → E (.ref (cl "Nothing")) none H')
theorem sc_raise : FnScope ["_law_number", "_law_worth"] ["_law_number", "_law_worth"] (defScope (top 41)) := ⟨rfl, rfl, rfl, by decide +kernel, rfl, by decide +kernel, by decide +kernel⟩
structure NoC (K : PySem.W.Frag) (C : Addr) : Prop where
  ex : ∃ bmB B newId initId, ExcBaseFacts B newId initId bmB ∧ PySem.W.excIn K C bmB newId = true
  kp : PySem.W.keepIn K (.ref C) = true
  sub : PySem.W.subIn K (.ref C) (.type "BaseException") = some true
  ty : PySem.W.typeIn K (.ref C) = some (.type "type")
theorem ok_raise (T : Tab K mg cl) (N : NoC K (cl "Nothing")) (S : ∀ x ∈ nA, XCal P w K mg base x (cl x) [fdN x]) (F : FnP K "_law_raise" "_law_raise" (top 41) [] f fd) : FnOk P w K mg base (L2.CX P w) 3 f fd ["_law_number", "_law_worth"] (SpRaise cl) := by
  refine fn_exc F sc_raise (fun vs H Q E ⟨j, u, _, h, _⟩ => by rw [h]; rfl) fun cdv Ar outer s H E vs Q hr ⟨j, u, hj, hvs, hx, h3⟩ => ?_
  subst hvs
  have hr2 : Room 2 (Ar.deeper (envOfC "_law_raise" (defScope (top 41)) s.heap.objs.size f cdv)) := hr
  have nm : ∀ x ∈ raN, fdN x = "name" := by decide +kernel
  have S1 : XCal P w K mg base "NoHappening" (cl "NoHappening") ["name"] := by
    have := S "NoHappening" (by decide +kernel)
    rwa [nm "NoHappening" (by decide +kernel)] at this
  have S2 : XCal P w K mg base "NoTraveller" (cl "NoTraveller") ["name"] := by
    have := S "NoTraveller" (by decide +kernel)
    rwa [nm "NoTraveller" (by decide +kernel)] at this
  have S3 : XCal P w K mg base "Twice" (cl "Twice") ["name"] := by
    have := S "Twice" (by decide +kernel)
    rwa [nm "Twice" (by decide +kernel)] at this
  refine b_if (bb := decide ((j : Int) = 0)) (tg_cm (cg_eqI (eg_var 0 rfl rfl) eg_int)) (fun q H1 e1 => ?_) fun q H1 e1 => b_nil ?_
  · have e : j = 0 := by have := of_decide_eq_true q; omega
    subst e
    exact b_raiseX (ws := [u]) S1 hr2 (takes_of rfl rfl rfl rfl) (ag_cons (P := IsV u) (eg_var 1 rfl rfl) ag_nil) rfl (ble rfl) fun d H2 e2 hd => hx _ rfl d H2 (e1.trans e2) hd
  refine b_if (bb := decide ((j : Int) = 1)) (tg_cm (cg_eqI (eg_var 0 rfl rfl) eg_int)) (fun q2 H2 e2 => ?_) fun q2 H2 e2 => b_nil ?_
  · have e : j = 1 := by have := of_decide_eq_true q2; omega
    subst e
    exact b_raiseXK (ws := [u]) S2 hr2 (takes_of rfl rfl rfl rfl) (kg_cons (P := IsV u) (eg_var 1 rfl rfl) kg_nil) rfl fun d H3 e3 hd => hx _ rfl d H3 ((e1.trans e2).trans e3) hd
  refine b_if (bb := decide ((j : Int) = 2)) (tg_cm (cg_eqI (eg_var 0 rfl rfl) eg_int)) (fun q3 H3 e3 => ?_) fun q3 H3 e3 => b_nil ?_
  · have e : j = 2 := by have := of_decide_eq_true q3; omega
    subst e
    exact b_raiseX (ws := [u]) S3 hr2 (takes_of rfl rfl rfl rfl) (ag_cons (P := IsV u) (eg_var 1 rfl rfl) ag_nil) rfl (ble rfl) fun d H4 e4 hd => hx _ rfl d H4 (((e1.trans e2).trans e3).trans e4) hd
  have e : j = 3 := by
    have a := of_decide_eq_false q
    have b := of_decide_eq_false q2
    have c := of_decide_eq_false q3
    omega
  obtain ⟨bmB, B, newId, initId, FX, q5⟩ := N.ex
  exact b_raise0 FX q5 (T.mgx "Nothing" (by decide +kernel)) N.kp (raises_own N.sub N.ty) (takes_of rfl rfl rfl rfl) (h3 e H3 ((e1.trans e2).trans e3))
/-! ### _law_caught -/
def caW (u : Str) (j : Nat) : Rep := if j < 2 then LstOf [IsS "missing", IsS u] else IsS "first"
instance {u : Str} {j : Nat} : Mono (caW u j) := by unfold caW; split <;> infer_instance
abbrev SpCaught : Sp := PSp (fun t : {j : Nat // j < 4} × Str => [IsI (t.1.1 : Int), IsS t.2]) fun t => caW t.2 t.1.1
theorem sc_caught : FnScope ["_law_number", "_law_worth", "_law_error"] ["_law_number", "_law_worth"] (defScope (top 42)) := ⟨rfl, rfl, rfl, by decide +kernel, rfl, by decide +kernel, by decide +kernel⟩
/-- the suite of an except clause -/
def SuT (X : Cx) (su : List Stmt) : HTs := fun a cls d D σ H => ∀ oe pn, Zc cls d oe → (∃ vs, oe.data = .fields vs) → BW (X.suite a ((a, oe) :: pn)) su D σ H
theorem suT {X : Cx} {su : List Stmt} (a : Addr) (oe : Obj) (cls : Value) (d : Option Addr) (pn : List (Addr × Obj)) (hz : Zc cls d oe) (hf : ∃ vs, oe.data = .fields vs) : PSs (X.suite a ((a, oe) :: pn)) su (SuT X su a cls d) := ⟨fun pins s σ H D I h => h oe pn hz hf pins s I⟩
structure ExmT (K : PySem.W.Frag) (cl : Str → Addr) : Prop where
  tu : ∀ x ∈ (["NoHappening", "NoTraveller", "Twice", "Nothing"] : List Str), PySem.W.exmAny K (.ref (cl x)) (tu7 cl) = some false
  mi : ∀ x ∈ (["NoHappening", "NoTraveller", "Twice", "Nothing"] : List Str), PySem.W.exmOne K (.ref (cl x)) (.ref (cl "Missing")) = some (subN x "Missing")
  fi : ∀ x ∈ (["NoHappening", "NoTraveller", "Twice", "Nothing"] : List Str), PySem.W.exmOne K (.ref (cl x)) (.ref (cl "FirstError")) = some true
theorem ok_caught (T : Tab K mg cl) (N : Nof K cl) (M : ExmT K cl) (R : FnOk P w K mg base (L2.CX P w) 3 fR fdR ["_law_number", "_law_worth"] (SpRaise cl)) (mR : mg "_law_raise" = some (.ref fR)) (kR : PySem.W.keepIn K (.ref fR) = true) (bR : Binds K fdR ["_law_number", "_law_worth"] [])
    (F : FnP K "_law_caught" "_law_caught" (top 42) [] f fd) : FnOk P w K mg base CX0 4 f fd ["_law_number", "_law_worth"] SpCaught := by
  refine fn_pure F sc_caught (fun _ => rfl) fun t cdv Ar outer s H E vs Q hr ha hq => ?_
  obtain ⟨⟨j, hj⟩, u⟩ := t
  obtain ⟨v1, r1, rfl, h1, v2, r2, rfl, h2, h3⟩ := ha
  cases (show r2 = [] from h3)
  cases (show v1 = _ from h1)
  cases (show v2 = _ from h2)
  have hr3 : Room 3 (Ar.deeper (envOfC "_law_caught" (defScope (top 42)) s.heap.objs.size f cdv)) := hr
  have nb : ∀ {b : Str}, b ∈ nAll → Gl (ctx P w K mg base ["_law_number", "_law_worth", "_law_error"] "_law_caught" (defScope (top 42)) f cdv Ar outer s H E) b → (b == ("__debug__" : Str)) = false → Names (ctx P w K mg base ["_law_number", "_law_worth", "_law_error"] "_law_caught" (defScope (top 42)) f cdv Ar outer s H E) b (.ref (cl b)) := fun hb hg hd => ⟨hg, hd, .inl (T.mgx _ hb)⟩
  refine b_of (ps_try_mix (Wo := fun _ _ _ _ => False) (tb := fun W => tDrop (tCallS (SpRaise cl) (WE W) (tCons (tVar 0) (tCons (tVar 1) tNil)))) rfl rfl sc_caught.nd takes_none5 (fun W pn xe tk _ => pss_one (ps_expr (pe_callS R hr3 rfl mR kR bR (fun σ => passAt tk σ) (pa_cons (pv 0) (pa_cons (pv 1) pa_nil)))))
    (.tup (cs := tu7 cl) (ts := SuT (ctx P w K mg base ["_law_number", "_law_worth", "_law_error"] "_law_caught" (defScope (top 42)) f cdv Ar outer s H E) _) (.cons (nb (by decide +kernel) rfl (by decide)) (.cons (nb (by decide +kernel) rfl (by decide)) (.cons (nb (by decide +kernel) rfl (by decide)) (.cons (nb (by decide +kernel) rfl (by decide)) (.cons (nb (by decide +kernel) rfl (by decide)) (.cons (nb (by decide +kernel) rfl (by decide)) (.cons (nb (by decide +kernel) rfl (by decide)) .nil))))))) (ble rfl) suT
    (.asn (i := 2) (c := .ref (cl "Missing")) (ts := SuT (ctx P w K mg base ["_law_number", "_law_worth", "_law_error"] "_law_caught" (defScope (top 42)) f cdv Ar outer s H E) _) (nb (by decide +kernel) rfl (by decide)) rfl rfl suT
    (.one (c := .ref (cl "FirstError")) (ts := SuT (ctx P w K mg base ["_law_number", "_law_worth", "_law_error"] "_law_caught" (defScope (top 42)) f cdv Ar outer s H E) _) ⟨rfl, by decide, .inl T.mgF⟩ suT .nil)))) ?_
  refine ⟨_, rfl, _, rfl, j, .str u, hj, rfl, fun x hx d H1 e1 hd => ?_, fun e3 H1 e1 => ?_⟩
  · have hxm : x ∈ (["NoHappening", "NoTraveller", "Twice", "Nothing"] : List Str) := by
      have : x ∈ raN := List.mem_of_getElem? hx
      have sub : ∀ y ∈ raN, y ∈ (["NoHappening", "NoTraveller", "Twice", "Nothing"] : List Str) := by decide +kernel
      exact sub x this
    have hxa : x ∈ nA := by
      have sub : ∀ y ∈ raN, y ∈ nA := by decide +kernel
      exact sub x (List.mem_of_getElem? hx)
    have nmx : fdN x = "name" := by
      have sub : ∀ y ∈ raN, fdN y = "name" := by decide +kernel
      exact sub x (List.mem_of_getElem? hx)
    have hmi : subN x "Missing" = decide (j < 2) := by
      have sub : ∀ i, i < 3 → ∀ y, raN[i]? = some y → subN y "Missing" = decide (i < 2) := by
        intro i hi y hy
        have c : i = 0 ∨ i = 1 ∨ i = 2 := by omega
        rcases c with rfl | rfl | rfl
        · cases hy; decide +kernel
        · cases hy; decide +kernel
        · cases hy; decide +kernel
      exact sub j ((List.getElem?_eq_some_iff.mp hx).1) x hx
    have ex2 : Ex H (upd H1 d (.xd [("name", .str u)])) := e1.trans (Ex.new hd)
    have n2 : j = 2 ∨ j < 2 := by
      have := (List.getElem?_eq_some_iff.mp hx).1
      have l3 : raN.length = 3 := rfl
      omega
    refine ⟨false, M.tu x hxm, (fun z => nomatch z), fun _ => ⟨_, M.mi x hxm, fun q a na oe pn hz hf => ?_, fun q => ⟨true, M.fi x hxm, fun _ a na oe pn hz hf => ?_, fun z => nomatch z⟩⟩⟩
    · have j2 : j < 2 := by
        rw [hmi] at q
        exact of_decide_eq_true q
      refine b_ret (P := LstOf [IsS "missing", IsS u]) (eg_lst2 (ag_cons (P := IsS "missing") eg_str (ag_cons (P := IsS u) ?_ ag_nil))) fun v3 H3 e3 h3 => hq v3 H3 (ex2.trans e3) ?_
      · refine eg_of (pe_xf (T.xr x (nA_all x hxa)).toXfC (by rw [← nmx]; exact N x hxa) hz hf (pv 2)) fun H4 e4 Q4 q4 => ?_
        exact ⟨.ref a, rfl, rfl, rfl, d, _, .str u, rfl, e4 _ _ upd_same, lk1, q4 _ H4 (Ex.refl _) rfl⟩
      · show caW u j v3 H3
        unfold caW
        rw [if_pos j2]
        exact h3
    · have j2 : ¬ j < 2 := by
        rw [hmi] at q
        exact of_decide_eq_false q
      refine b_ret (P := IsS "first") eg_str fun v3 H3 e3 h3 => hq v3 H3 (ex2.trans e3) ?_
      show caW u j v3 H3
      unfold caW
      rw [if_neg j2]
      exact h3
  · subst e3
    refine ⟨false, M.tu "Nothing" (by decide +kernel), (fun z => nomatch z), fun _ => ⟨_, M.mi "Nothing" (by decide +kernel), fun q => absurd q (by decide +kernel), fun _ => ⟨true, M.fi "Nothing" (by decide +kernel), fun _ a na oe pn hz hf => ?_, fun z => nomatch z⟩⟩⟩
    exact b_ret (P := IsS "first") eg_str fun v3 H3 e3 h3 => hq v3 H3 (e1.trans e3) h3
end
end G
set_option maxHeartbeats 4000000
namespace G
open PySem PySem.Spec PyProof.Rows L2 Evl
/-- this value, from this heap on -/
def At (u : V) (H0 : Hp) : Rep := fun v H => v = u ∧ Ex H0 H
instance {u : V} {H0 : Hp} : Mono (At u H0) := ⟨fun e ⟨h1, h2⟩ => ⟨h1, h2.trans e⟩⟩
theorem kit_bool {a : String} {r : Bool} {K : PySem.W.Frag} (h : kitB a "bool" = some r) : PySem.W.kitOne K (.type a) (.type "bool") = some r := kit_ty h
structure TwT (K : PySem.W.Frag) (cl : Str → Addr) : Prop where
  tw : ∀ T ∈ ["int", "str", "NoneType", "bool", "list", "tuple", "dict"], PySem.W.kitOne K (.type T) (.ref (cl "Twice")) = some false
theorem wv_tw {K : PySem.W.Frag} {cl : Str → Addr} {mg : Str → Option Value} (T : Tab K mg cl) (B : TwT K cl) {u : V} {H : Hp} (h : WV (cl "Twice") u H) :
    ∃ tw : Bool, (∀ H', Ex H H' → ∃ t, TyE K H' u t ∧ PySem.W.kitOne K t (.ref (cl "Twice")) = some tw) ∧ (tw = false → sameB u ∧ ∃ bo : Bool, ∀ H', Ex H H' → ∃ t, TyE K H' u t ∧ PySem.W.kitOne K t (.type "bool") = some bo) ∧ (tw = true → ∃ z, ∀ H', Ex H H' → XO (cl "Twice") [("name", .str z)] u H') := by
  rcases h with ⟨i, rfl⟩ | ⟨z, rfl⟩ | rfl | rfl | ⟨q, xs, rfl, h2, h3⟩ | ⟨q, xs, rfl, h2⟩ | ⟨q, kvs, rfl, h2⟩ | ⟨z, h⟩
  · exact ⟨false, fun H' e => ⟨_, .base (.base (.int i)), B.tw _ (by decide)⟩, fun _ => ⟨.inl rfl, false, fun H' e => ⟨_, .base (.base (.int i)), kit_bool (by decide +kernel)⟩⟩, fun z => nomatch z⟩
  · exact ⟨false, fun H' e => ⟨_, .base (.base (.str z)), B.tw _ (by decide)⟩, fun _ => ⟨.inl rfl, false, fun H' e => ⟨_, .base (.base (.str z)), kit_bool (by decide +kernel)⟩⟩, fun z => nomatch z⟩
  · exact ⟨false, fun H' e => ⟨_, .base (.base .non), B.tw _ (by decide)⟩, fun _ => ⟨.inl rfl, false, fun H' e => ⟨_, .base (.base .non), kit_bool (by decide +kernel)⟩⟩, fun z => nomatch z⟩
  · exact ⟨false, fun H' e => ⟨_, .base (.base (.bl true)), B.tw _ (by decide)⟩, fun _ => ⟨.inl rfl, true, fun H' e => ⟨_, .base (.base (.bl true)), kit_bool (by decide +kernel)⟩⟩, fun z => nomatch z⟩
  · exact ⟨false, fun H' e => ⟨_, .base (.base (.lst (e _ _ h2))), B.tw _ (by decide)⟩, fun _ => ⟨.inr ⟨q, rfl⟩, false, fun H' e => ⟨_, .base (.base (.lst (e _ _ h2))), kit_bool (by decide +kernel)⟩⟩, fun z => nomatch z⟩
  · exact ⟨false, fun H' e => ⟨_, .base (.base (.tup (e _ _ h2))), B.tw _ (by decide)⟩, fun _ => ⟨.inr ⟨q, rfl⟩, false, fun H' e => ⟨_, .base (.base (.tup (e _ _ h2))), kit_bool (by decide +kernel)⟩⟩, fun z => nomatch z⟩
  · exact ⟨false, fun H' e => ⟨_, .base (.base (.dK (e _ _ h2))), B.tw _ (by decide)⟩, fun _ => ⟨.inr ⟨q, rfl⟩, false, fun H' e => ⟨_, .base (.base (.dK (e _ _ h2))), kit_bool (by decide +kernel)⟩⟩, fun z => nomatch z⟩
  · have tx : ("Twice" : Str) ∈ nAll := by decide +kernel
    refine ⟨true, fun H' e => ⟨_, er_ty (T.xr _ tx) (xo_er (Mono.up e h)), ?_⟩, (fun z => nomatch z), fun _ => ⟨z, fun H' e => Mono.up e h⟩⟩
    have := T.kit _ tx _ tx
    rw [this]
    decide +kernel
section
variable {X : Cx} {σ : L2.St} {H : Hp} {a b c e : Expr} {es : List Expr} {pos p : Pos} {P P1 P2 : Rep} {Ps : List Rep} {x : Str} {C : Addr}
theorem eg_mkX0 {bmB : List Value} {B newId initId : String} (FX : ExcBaseFacts B newId initId bmB) (q : PySem.W.excIn X.K C bmB newId = true) (gC : X.mg x = some (.ref C)) (kC : PySem.W.keepIn X.K (.ref C) = true) (hg : Gl X x := by rfl) (hdb : (x == ("__debug__" : Str)) = false := by decide) : EG X (.Call (.Name x p) [] [] pos) σ H (XN C) :=
  eg_of (pe_mkX0 FX q gC kC hg hdb) fun H1 e1 Q q a na => q _ _ (Ex.new na) ⟨a, rfl, upd_same⟩
theorem eg_rep4 [hm : Mono P] (ha : EG X a σ H (LstOf [P])) (hb : EG X b σ H (IsI 4)) : EG X (.BinOp a .Mult b pos) σ H (LstOf [P, P, P, P]) :=
  eg_of (pe_op op_rep pe_W pe_W) (ep_op ha hb fun x y H1 _ ⟨q, xs, h1, h2, v, r, h3, h4, h5⟩ py Q qq => by
    cases (show r = [] from h5)
    subst h3
    refine ⟨q, 4, [v], h1, py, h2, by decide, by decide, by rw [sizeLine_eq]; exact ble rfl, fun d hd => qq _ _ (Ex.new hd) ⟨d, _, rfl, upd_same, ?_⟩⟩
    have up := hm.up (Ex.new (o := .lst (List.replicate (4 : Int).toNat [v]).flatten) hd) h4
    exact ⟨v, _, rfl, up, v, _, rfl, up, v, _, rfl, up, v, _, rfl, up, rfl⟩)
variable {g : L2.TG}
theorem b_forE {α : Type} {R : α → Rep} {tg iter : Expr} {g : L2.TG} {body rest : List Stmt} {D : Ends} (hR : ∀ a, Mono (R a)) (hg : PG X tg g) (hm : GMono g)
    (hE : EW X iter σ H fun v H1 => ∃ (as : List α) (Pv : Nat → L2.St → Hp → Prop), IsL R as v H1 ∧ Pv 0 σ H1 ∧ (∀ i a v σ' Ha, as[i]? = some a → Ex H1 Ha → Pv i σ' Ha → R a v Ha → g v σ' Ha fun σ2 H2 => BW X body { nx := Nxt Ha (Pv (i + 1)), ct := Nxt Ha (Pv (i + 1)), bk := BW X rest D, rt := D.rt } σ2 H2) ∧ (∀ σ' H', Ex H1 H' → Pv as.length σ' H' → BW X rest D σ' H'))
    (hxe : PassesOwn (model X.prog X.w) X.A X.env X.xe := by exact PassesOwn.never) (hc : X.calm = true := by rfl) (hf : ∀ x, foldedSetIterable iter X.env x = pure x := by intro _; rfl) : BW X (.For tg iter body [] pos :: rest) D σ H := by
  refine b_of (ps_for hxe hc (pi_list pe_W) hg pss_W hf) ?_
  intro pins s I
  refine thn (hE pins s I) fun u s1 ⟨v, H1, I1, r1, as, Pv, ⟨q, xs, hv, hq, h2⟩, h0, hs, hd⟩ => ?_
  refine ⟨v, H1, I1, r1, q, hv, ⟨xs, SqL.of hq⟩, ?_⟩
  have W : Walk (Itl X.K q) as.length (fun H => SqL X.K H q xs) (YAt xs) := by
    rw [← h2.length]
    exact walk_list
  refine for_it W (fun i σ' H' => Ex H1 H' ∧ Pv i σ' H') ⟨Ex.refl _, h0⟩ (fun i σ' H' _ p => SqL.of (p.1 _ _ hq)) (fun i v σ' Ha Hb hi p y => ?_) (fun σ' H' p => hd σ' H' p.1 p.2)
  obtain ⟨eb, hx⟩ := y
  subst eb
  obtain ⟨c, hc2, rc⟩ := h2.get hx
  refine hm _ _ _ _ _ (hs i c v σ' Hb hc2 p.1 p.2 ((hR c).up p.1 rc)) fun σ2 H2 z => ?_
  intro pins s I
  refine thn (z pins s I) fun f s1 q => ?_
  cases f with
  | next =>
    obtain ⟨σ2, H3, I3, q1, q2⟩ := q
    exact ⟨σ2, H3, I3, p.1.trans q1, q2⟩
  | cont =>
    obtain ⟨σ2, H3, I3, q1, q2⟩ := q
    exact ⟨σ2, H3, I3, p.1.trans q1, q2⟩
  | brk => exact q
  | ret u => exact q
theorem tg_is {bb bc : Bool} (h : TG X e σ H bb) (q : bb = bc) : TG X e σ H bc := q ▸ h
end
abbrev RQ (cl : Str → Addr) (q : Str × (V × V)) : Rep := RP cl q.2 q.1
theorem isL_map {α β : Type} {R : α → Rep} {S : β → Rep} {f : α → β} {as : List α} {v : V} {H : Hp} (h : IsL R as v H) (hf : ∀ a v, R a v H → S (f a) v H) : IsL S (as.map f) v H := let ⟨a, xs, h1, h2, h3⟩ := h; ⟨a, xs, h1, h2, h3.map hf⟩
theorem dp2 {K : PySem.W.Frag} {u v : V} {d e : PyData} {w : V} {H : Hp} (h : LstOf [IsV u, IsV v] w H) (h1 : ∀ H, Dp K H u d) (h2 : ∀ H, Dp K H v e) : Dp K H w (.list [d, e]) := by
  obtain ⟨a, xs, q1, q2, x, r, q3, q4, y, r2, q5, q6, q7⟩ := h
  cases (show r2 = [] from q7)
  subst q5 q3
  rw [q1]
  exact .lst (SqL.of q2) (.cons (by rw [show x = u from q4]; exact h1 H) (.cons (by rw [show y = v from q6]; exact h2 H) .nil))
section
variable {P : Program} {w : World} {K : PySem.W.Frag} {mg : Str → Option Value} {base : Heap} {f : Addr} {fd : FuncData} {C : Addr} {cl : Str → Addr}
def SpLaw (K : PySem.W.Frag) : Sp := fun vs H Q _ => ∃ (a : Addr) (ns : List Int), vs = [.ref a] ∧ ns.length ≤ 63 ∧ SqL K H a (ns.map V.int) ∧ ∀ H', Q (.bl true) H'
theorem sc_law : FnScope ["_law_script", "_law_pen_here", "_law_name", "_law_one", "_law_other", "_law_worth", "_law_told", "_law_first", "_law_second", "_law_due", "_law_row", "_law_number"] ["_law_script"] (defScope (top 43)) := ⟨rfl, rfl, rfl, by decide +kernel, rfl, by decide +kernel, by decide +kernel⟩
abbrev LN : List Str := ["_law_script", "_law_pen_here", "_law_name", "_law_one", "_law_other", "_law_worth", "_law_told", "_law_first", "_law_second", "_law_due", "_law_row", "_law_number"]
theorem ok_law (A : Free mg) (T : Tab K mg cl) (B : TwT K cl) (N : Nof K cl) (NC : NoC K (cl "Nothing")) (D0 : Cal P w K mg base "_law_pen" 1 [] (SpPen K)) (D1 : Cal P w K mg base "_law_draw" 1 [] SpTake) (D2 : Cal P w K mg base "_law_plain" 4 [] (SpPlain cl)) (D3 : Cal P w K mg base "_law_is_one" 2 [] (SpOne cl))
    (D4 : Cal P w K mg base "_law_field" 1 [] (SpField cl)) (D5 : Cal P w K mg base "_law_pairs" 3 [] (SpPairs cl)) (D6 : Cal P w K mg base "_law_fields" 1 [] (SpFields cl)) (D7 : Cal P w K mg base "_law_caught" 4 [] SpCaught) (F : FnP K "law" "law" (top 43) [] f fd) : FnOk P w K mg base CX0 6 f fd ["_law_script"] (SpLaw K) := by
  refine fn_any F sc_law (fun vs H Q E ⟨a, ns, h1, _⟩ => by rw [h1]; rfl) fun cdv Ar outer s H E vs Q hr ⟨a, ns, hvs, hl, hs, hq⟩ => ?_
  subst hvs
  refine b_asg (P := LstOf [IsL IsI (ns.take 60), IsI 0, IsI 0]) 1 sc_law.nd ?_ fun v1 H1 e1 h1 => ?_
  · exact eg_callP (⟨ns, hl⟩ : {ns : List Int // ns.length ≤ 63}) D0 (hr.mono (by decide)) (ag_cons (P := SqW K ns) (eg_var 0 rfl ⟨a, rfl, hs⟩) ag_nil)
  obtain ⟨p, xs, rfl, hp, y1, t1, rfl, ⟨c, ys, rfl, hcc, hci⟩, y2, t2, rfl, h2, y3, t3, rfl, h3, h4⟩ := h1
  cases (show t3 = [] from h4)
  cases (show y2 = _ from h2)
  cases (show y3 = _ from h3)
  have eys := all2_ints hci
  subst eys
  have hne : c ≠ p := fun z => by
    rw [z, hp] at hcc
    cases ns with
    | nil => cases hcc
    | cons n ns => cases hcc
  have hpn : Pen p c 0 H1 := ⟨0, 0, hp, by decide, by decide⟩
  have hc : IsL IsI (ns.take 60) (.ref c) (hid H1 p) := ⟨c, _, rfl, by rw [hid_ne hne]; exact hcc, ints_all2⟩
  have hcl : (ns.take 60).length ≤ 63 := by rw [List.length_take]; omega
  generalize ns.take 60 = cs at *
  have mC : Mono (IsL IsI cs) := inferInstance
  have hr1 : Room 1 (Ar.deeper (envOfC "law" (defScope (top 43)) s.heap.objs.size f cdv)) := hr.mono (by decide)
  have hr2 : Room 2 (Ar.deeper (envOfC "law" (defScope (top 43)) s.heap.objs.size f cdv)) := hr.mono (by decide)
  have tx : ("Twice" : Str) ∈ nAll := by decide +kernel
  refine b_forE (R := RI cl) (g := gUnl K 4 (gCons (gName 2) (gCons (gName 3) (gCons (gName 4) (gCons (gName 5) gNil))))) (fun _ => inferInstance) (pg_unl rfl (pgs_cons (pg_name sc_law.nd rfl (Or.inl rfl)) (pgs_cons (pg_name sc_law.nd rfl (Or.inl rfl)) (pgs_cons (pg_name sc_law.nd rfl (Or.inr rfl)) (pgs_cons (pg_name sc_law.nd rfl (Or.inl rfl)) pgs_nil))))) (gm_unl (gm_cons gm_name (gm_cons gm_name (gm_cons gm_name (gm_cons gm_name gm_nil))))) ?_
  refine qg_use (P := PlainW cl) (H := hid H1 p) (p := p) (c := c) (n := 0) (m := 0 + 72) (Ex.refl _) hpn (qg_pen (n := 0) (m := 0) (kk := 72) (() : Unit) D2 (hr.mono (by decide)) hc hcl (by decide) (qa_cons (qg_of (eg_var 1 rfl rfl)) qa_nil)) fun v H2 e2 p2 hP => ?_
  obtain ⟨ws, hw, hL, hws⟩ := hP
  refine ⟨nA.zip ws, fun i σ' H' => ∃ o2 o3 o4 o5 o6, σ' = [some (.ref a), some (.ref p), o2, o3, o4, o5, o6, none, none, none, none, none] ∧ Ex H2 H', Mono.up ex_hid1 hL, ⟨none, none, none, none, none, rfl, Ex.refl _⟩, fun i q v σ' Ha hi eH ⟨o2, o3, o4, o5, o6, hσ, ex⟩ hR => ?_, fun σ' H' eH ⟨o2, o3, o4, o5, o6, hσ, ex⟩ => ?_⟩
  · subst hσ
    obtain ⟨x, u⟩ := q
    obtain ⟨z1, z2⟩ := List.getElem?_zip_eq_some.mp hi
    have hx : x ∈ nA := List.mem_of_getElem? z1
    have hxa := nA_all x hx
    have hu : u ∈ ws := List.mem_of_getElem? z2
    obtain ⟨la, xs, rfl, hla, y1, r1, rfl, g1, y2, r2, rfl, g2, y3, r3, rfl, g3, y4, r4, rfl, g4, g5⟩ := hR
    cases (show r4 = [] from g5)
    refine ⟨la, _, rfl, SqL.of hla, rfl, y1, _, rfl, y2, _, rfl, y3, _, rfl, y4, _, rfl, rfl, ?_⟩
    have hy4 : y4 = u := g4
    subst hy4
    have wv : WV (cl "Twice") y4 Ha := Mono.up (ex_hid1.trans ex) (hws y4 hu)
    obtain ⟨tw, w1, w2, w3⟩ := wv_tw T B wv
    have mX : Mono (XO (cl x) [(fdN x, y4)]) := inferInstance
    show BW _ _ _ [some (.ref a), some (.ref p), some y1, some y2, some y3, some y4, o6, none, none, none, none, none] Ha
    refine b_skip (tg_w (wg_or (bb := false) (tg_not (bb := true) (tg_val ?_)) fun _ => wg_or1 (bb := false) (tg_not (bb := true) (tg_val ?_)))) fun H3 e3 => ?_
    · exact eg_callP (⟨x, hxa⟩ : EA) D3 hr2 (ag_cons (P := IsS x) (eg_var 2 rfl g1) (ag_cons (P := ErW (cl x)) (eg_var 3 rfl (xo_er g2)) ag_nil))
    · exact eg_callP (⟨x, hxa⟩ : EA) D3 hr2 (ag_cons (P := IsS x) (eg_var 2 rfl g1) (ag_cons (P := ErW (cl x)) (eg_var 4 rfl (xo_er g3)) ag_nil))
    refine b_asg (P := LstOf ([y4, y4].map IsV)) 6 sc_law.nd ?_ fun v5 H4 e4 h4 => ?_
    · exact eg_lst2 (ag_cons (P := IsV y4) (eg_callP ((⟨x, hx⟩, y4) : NA × V) D4 hr1 (ag_cons (P := XO (cl x) [(fdN x, y4)]) (eg_var 3 rfl (mX.up e3 g2)) ag_nil)) (ag_cons (P := IsV y4) (eg_callP ((⟨x, hx⟩, y4) : NA × V) D4 hr1 (ag_cons (P := XO (cl x) [(fdN x, y4)]) (eg_var 4 rfl (mX.up e3 g3)) ag_nil)) ag_nil))
    have x4 := e3.trans e4
    have told : ∀ {n : Nat} {H5 : Hp} {jj : Nat} {q1 q2 q3 : Pos} {σ5 : L2.St}, n < 2 → Ex H4 H5 → σ5 = [some (.ref a), some (.ref p), some y1, some y2, some y3, some y4, some v5, none, none, none, none, none] → EG (ctx P w K mg base LN "law" (defScope (top 43)) f cdv Ar outer s H E) (.Subscript (.Name "_law_told" q1) (.Constant (.int (n : Int)) jj q2) q3) σ5 H5 (IsV y4) := fun {n H5 jj q1 q2 q3 σ5} hn e5 hσ => by
      subst hσ
      have hx : ([y4, y4].map IsV)[n]? = some (IsV y4) := by
        have c : n = 0 ∨ n = 1 := by omega
        rcases c with rfl | rfl <;> rfl
      exact eg_ixA (Ps := [y4, y4].map IsV) (n := n) (P := IsV y4) (eg_var 6 rfl (Mono.up e5 h4)) eg_int hx
    have isi : ∀ v H, At y4 Ha v H → ∃ t, TyE K H v t ∧ PySem.W.kitOne K t (.ref (cl "Twice")) = some tw := fun v H h => by
      obtain ⟨rfl, e⟩ := h
      exact w1 H e
    show BW _ _ _ [some (.ref a), some (.ref p), some y1, some y2, some y3, some y4, some v5, none, none, none, none, none] H4
    refine b_skip (tg_w (wg_or (bb := false) (tg_is (bb := !decide (y4 = .non) && decide (y4 = .non)) (tg_w (wg_and (tg_cm (cg_isNot (told (n := 0) (by decide) (Ex.refl _) rfl))) fun _ => wg_and1 (tg_cm (cg_isN (eg_var 5 rfl rfl))))) (by cases decide (y4 = .non) <;> rfl)) fun _ => wg_or1 (bb := false) (tg_is (bb := tw && !tw) (tg_w (wg_and (tg_val ?_) fun _ => wg_and1 (tg_not (tg_val ?_)))) (by cases tw <;> rfl)))) fun H5 e5 => ?_
    · exact eg_isE (P1 := At y4 Ha) T.kk A.isi (eg_var 5 rfl ⟨rfl, x4⟩) (eg_cls (T.mgx "Twice" tx)) (.own _) isi
    · exact eg_isE (P1 := At y4 Ha) T.kk A.isi (EvP.imp (told (n := 0) (by decide) (Ex.refl _) rfl) fun v H' e' h => ⟨h, x4.trans e'⟩) (eg_cls (T.mgx "Twice" tx)) (.own _) isi
    have x5 := x4.trans e5
    refine b_skip (tg_is (bb := !tw && false) (tg_w (wg_and (tg_not (tg_val ?_)) fun q => wg_and1 ?_)) (by cases tw <;> rfl)) fun H6 e6 => ?_
    · exact eg_isE (P1 := At y4 Ha) T.kk A.isi (eg_var 5 rfl ⟨rfl, x5⟩) (eg_cls (T.mgx "Twice" tx)) (.own _) isi
    · have tf : tw = false := by
        cases tw with
        | false => rfl
        | true => cases q
      obtain ⟨sb, bo, hb⟩ := w2 tf
      have isb : ∀ v H, At y4 Ha v H → ∃ t, TyE K H v t ∧ PySem.W.kitOne K t (.type "bool") = some bo := fun v H h => by
        obtain ⟨rfl, e⟩ := h
        exact hb H e
      have two : ∀ v ∈ [y4, y4], sameB v := by
        intro v hv
        simp at hv
        rw [hv]
        exact sb
      refine tg_w (wg_or (bb := false) (tg_cm (cg_neL (ws := [y4, y4]) hr.units0 inferInstance (eg_var 6 rfl (Mono.up e5 h4)) (eg_lst2 (ag_cons (P := IsV y4) (eg_var 5 rfl rfl) (ag_cons (P := IsV y4) (eg_var 5 rfl rfl) ag_nil))) two)) fun _ => wg_or1 (bb := false) (tg_is (tg_cm (cg_neV (v := .bl bo) (w := .bl bo) rfl ?_ ?_)) (by rw [decide_eq_true rfl]; rfl)))
      · exact eg_isE (P1 := At y4 Ha) T.kk A.isi (EvP.imp (told (n := 0) (by decide) e5 rfl) fun v H' e' h => ⟨h, x5.trans e'⟩) (eg_tyN A.bool boot_bool) (.ty _) isb
      · exact eg_isE (P1 := At y4 Ha) T.kk A.isi (eg_var 5 rfl ⟨rfl, x5⟩) (eg_tyN A.bool boot_bool) (.ty _) isb
    have x6 := x5.trans e6
    refine b_skip (tg_is (bb := tw && false) (tg_w (wg_and (tg_val ?_) fun q => wg_and1 ?_)) (by cases tw <;> rfl)) fun H7 e7 => ?_
    · exact eg_isE (P1 := At y4 Ha) T.kk A.isi (eg_var 5 rfl ⟨rfl, x6⟩) (eg_cls (T.mgx "Twice" tx)) (.own _) isi
    · obtain ⟨z, hz⟩ := w3 q
      have xr := T.xr "Twice" tx
      have no : PySem.W.findIn K (.ref (cl "Twice")) "name" = some none := by
        have e : fdN "Twice" = "name" := by decide +kernel
        have := N "Twice" (by decide +kernel)
        rwa [e] at this
      have wn : ∀ {q1 q2 : Pos}, EG (ctx P w K mg base LN "law" (defScope (top 43)) f cdv Ar outer s H E) (.Attribute (.Name "_law_worth" q1) "name" q2) [some (.ref a), some (.ref p), some y1, some y2, some y3, some y4, some v5, none, none, none, none, none] H6 (IsS z) := fun {q1 q2} => eg_xrd (C := cl "Twice") (fs := [("name", .str z)]) xr no (eg_var 5 rfl (hz H6 x6)) lk1
      refine tg_w (wg_or (bb := false) (tg_is (tg_cm (cg_neS (z := z) (w := z) ?_ wn)) (by rw [decide_eq_true rfl]; rfl)) fun _ => wg_or1 (bb := false) (tg_is (tg_cm (cg_neS (z := z) (w := z) ?_ wn)) (by rw [decide_eq_true rfl]; rfl)))
      · exact eg_xrd (C := cl "Twice") (fs := [("name", .str z)]) xr no (EvP.imp (told (n := 0) (by decide) (e5.trans e6) rfl) fun v H' e' h => by rw [show v = y4 from h]; exact hz H' (x6.trans e')) lk1
      · exact eg_xrd (C := cl "Twice") (fs := [("name", .str z)]) xr no (EvP.imp (told (n := 1) (by decide) (e5.trans e6) rfl) fun v H' e' h => by rw [show v = y4 from h]; exact hz H' (x6.trans e')) lk1
    refine b_nil ⟨x6.trans e7, _, _, _, _, _, rfl, ex.trans (x6.trans e7)⟩
  · subst hσ
    have p3 := p2.up ex
    have hc3 := mC.up (e2.trans (ex_hid2 ex)) hc
    refine qb_two (P1 := IsP fun i => 0 ≤ i ∧ i < 10 ^ 9) (P2 := IsZ fun _ => True) (m := 72 + 1 + 1) 3 4 sc_law.nd (qg_tup (qa_cons (m := 72 + 1) ?_ (qa_cons ?_ qa_nil)) (by decide)) p3 fun w1 w2 H3 e3 p4 k1 k2 => ?_
    · exact qg_pen (n := 72) (m := 72) (kk := 1) (⟨10 ^ 9, by decide, by decide⟩ : Many) D1 hr1 hc3 hcl (by decide) (qa_cons (qg_of (eg_var 1 rfl rfl)) (qa_cons (P := IsI (10 ^ 9)) (qg_of (eg_pow (i := 10) (k := 9) (by decide) (by decide) eg_int eg_int)) qa_nil))
    · refine qg_addS (z := "x") (ψ := fun _ => True) eg_str (qg_strI (φ := fun u => u.length ≤ 13) (f1 := fun i => 0 ≤ i ∧ i < 10 ^ 9) A.str (qg_pen (n := 72 + 1) (m := 72 + 1) (kk := 1) (⟨10 ^ 9, by decide, by decide⟩ : Many) D1 hr1 hc3 hcl (by decide) (qa_cons (qg_of (eg_var 1 rfl rfl)) (qa_cons (P := IsI (10 ^ 9)) (qg_of (eg_pow (i := 10) (k := 9) (by decide) (by decide) eg_int eg_int)) qa_nil))) fun i h1 => ?_) fun u hu => ⟨?_, True.intro⟩
      · have p9 : (10 : Int) ^ 9 = 1000000000 := by decide
        have p12 : (10 : Nat) ^ 12 = 1000000000000 := by decide
        have h1' : 0 ≤ i ∧ i < 10 ^ 9 := h1
        exact small_str (by omega)
      · have : ("x" : Str).length = 1 := by rfl
        omega
    obtain ⟨i, rfl, hi⟩ := k1
    obtain ⟨z, rfl, _⟩ := k2
    have pw : ∀ {H5 : Hp} {u v : V} {s1 s2 : Str} {e1 e2 : Expr} {q1 q2 : Pos} {σ5 : L2.St}, EG (ctx P w K mg base LN "law" (defScope (top 43)) f cdv Ar outer s H E) e1 σ5 H5 (IsV u) → EG (ctx P w K mg base LN "law" (defScope (top 43)) f cdv Ar outer s H E) e2 σ5 H5 (IsV v) →
        starEach [e1, e2] (ctx P w K mg base LN "law" (defScope (top 43)) f cdv Ar outer s H E).env = (false, eval e1 (ctx P w K mg base LN "law" (defScope (top 43)) f cdv Ar outer s H E).env) :: starEach [e2] (ctx P w K mg base LN "law" (defScope (top 43)) f cdv Ar outer s H E).env → starEach [e2] (ctx P w K mg base LN "law" (defScope (top 43)) f cdv Ar outer s H E).env = (false, eval e2 (ctx P w K mg base LN "law" (defScope (top 43)) f cdv Ar outer s H E).env) :: starEach [] (ctx P w K mg base LN "law" (defScope (top 43)) f cdv Ar outer s H E).env → (backTo q2 (starEach [e2] (ctx P w K mg base LN "law" (defScope (top 43)) f cdv Ar outer s H E).env)).any (·.1) = false →
        EG (ctx P w K mg base LN "law" (defScope (top 43)) f cdv Ar outer s H E) (.Call (.Name "_law_pairs" q1) [e1, e2] [] q2) σ5 H5 (IsL (RP cl (u, v)) nB) := fun h1 h2 s1 s2 s3 => by
      exact eg_callP ((_, _) : V × V) D5 (hr.mono (by decide)) (ag_cons (P := IsV _) h1 (ag_cons (P := IsV _) h2 ag_nil s2) s1) rfl (by decide) s1 s3
    generalize hqs : (nB.map fun x => (x, ((V.int i, V.str z) : V × V))) ++ (nB.map fun x => (x, ((V.str z, V.int i) : V × V))) = qs at *
    have hqm : ∀ q ∈ qs, q.1 ∈ nB ∧ (q.2 = (V.int i, V.str z) ∨ q.2 = (V.str z, V.int i)) := by
      intro q hq
      rw [← hqs] at hq
      rcases List.mem_append.mp hq with h | h
      · obtain ⟨x, hx, rfl⟩ := List.mem_map.mp h
        exact ⟨hx, .inl rfl⟩
      · obtain ⟨x, hx, rfl⟩ := List.mem_map.mp h
        exact ⟨hx, .inr rfl⟩
    refine b_forE (R := RQ cl) (g := gUnl K 3 (gCons (gName 2) (gCons (gName 7) (gCons (gName 8) gNil)))) (fun _ => inferInstance) (pg_unl rfl (pgs_cons (pg_name sc_law.nd rfl (Or.inl rfl)) (pgs_cons (pg_name sc_law.nd rfl (Or.inl rfl)) (pgs_cons (pg_name sc_law.nd rfl (Or.inl rfl)) pgs_nil)))) (gm_unl (gm_cons gm_name (gm_cons gm_name (gm_cons gm_name gm_nil)))) ?_
    have cat : ∀ {e1 e2 : Expr} {q1 : Pos} {σ5 : L2.St} {H5 : Hp}, EG (ctx P w K mg base LN "law" (defScope (top 43)) f cdv Ar outer s H E) e1 σ5 H5 (IsL (RP cl (V.int i, V.str z)) nB) → EG (ctx P w K mg base LN "law" (defScope (top 43)) f cdv Ar outer s H E) e2 σ5 H5 (IsL (RP cl (V.str z, V.int i)) nB) → EG (ctx P w K mg base LN "law" (defScope (top 43)) f cdv Ar outer s H E) (.BinOp e1 .Add e2 q1) σ5 H5 (IsL (RQ cl) qs) := fun h1 h2 => by
      rw [← hqs]
      exact eg_catL (ble rfl) (EvP.imp h1 fun v H' _ h => isL_map h fun _ _ h => h) (EvP.imp h2 fun v H' _ h => isL_map h fun _ _ h => h)
    refine cat (pw (u := .int i) (v := .str z) (s1 := "") (s2 := "") (eg_var 3 rfl rfl) (eg_var 4 rfl rfl) rfl rfl rfl) (pw (u := .str z) (v := .int i) (s1 := "") (s2 := "") (eg_var 4 rfl rfl) (eg_var 3 rfl rfl) rfl rfl rfl) H3 (Ex.refl _) _ fun v H4 e4 h4 => ?_
    refine ⟨qs, fun j σ'' H'' => ∃ o2 o7 o8, σ'' = [some (.ref a), some (.ref p), o2, some (.int i), some (.str z), o5, o6, o7, o8, none, none, none] ∧ Ex H4 H'', h4, ⟨_, _, _, rfl, Ex.refl _⟩, fun j q v σ'' Ha hj eH ⟨o2, o7, o8, hσ, ex2⟩ hR => ?_, fun σ'' H'' eH ⟨o2, o7, o8, hσ, ex2⟩ => ?_⟩
    · subst hσ
      obtain ⟨x, t⟩ := q
      obtain ⟨hx, ht⟩ := hqm _ (List.mem_of_getElem? hj)
      have hxa := nB_all x hx
      obtain ⟨la, xs, rfl, hla, y1, r1, rfl, g1, y2, r2, rfl, g2, y3, r3, rfl, g3, g5⟩ := hR
      cases (show r3 = [] from g5)
      refine ⟨la, _, rfl, SqL.of hla, rfl, y1, _, rfl, y2, _, rfl, y3, _, rfl, rfl, ?_⟩
      have mX : Mono (XP cl t x) := inferInstance
      show BW _ _ _ [some (.ref a), some (.ref p), some y1, some (.int i), some (.str z), o5, o6, some y2, some y3, none, none, none] Ha
      have two : ∀ v ∈ [t.1, t.2], sameB v := by
        intro v hv
        have : v = t.1 ∨ v = t.2 := by simpa using hv
        rcases ht with rfl | rfl <;> rcases this with rfl | rfl <;> exact .inl rfl
      refine b_skip (tg_w (wg_or (bb := false) (tg_not (bb := true) (tg_val ?_)) fun _ => wg_or (bb := false) (tg_not (bb := true) (tg_val ?_)) fun _ => wg_or1 (bb := false) (tg_cm (cg_neL (ws := [t.1, t.2]) hr.units0 inferInstance ?_ ?_ two)))) fun H5 e5 => ?_
      · exact eg_callP (⟨x, hxa⟩ : EA) D3 hr2 (ag_cons (P := IsS x) (eg_var 2 rfl g1) (ag_cons (P := ErW (cl x)) (eg_var 7 rfl (xo_er g2)) ag_nil))
      · exact eg_callP (⟨x, hxa⟩ : EA) D3 hr2 (ag_cons (P := IsS x) (eg_var 2 rfl g1) (ag_cons (P := ErW (cl x)) (eg_var 8 rfl (xo_er g3)) ag_nil))
      · exact eg_callP ((⟨x, hx⟩, t) : NB × (V × V)) D6 hr1 (ag_cons (P := XP cl t x) (eg_var 7 rfl g2) ag_nil)
      · exact eg_callP ((⟨x, hx⟩, t) : NB × (V × V)) D6 hr1 (ag_cons (P := XP cl t x) (eg_var 8 rfl g3) ag_nil)
      refine b_skip (tg_cm (cg_niT (P1 := LstOf [IsV t.1, IsV t.2]) (P2 := TupOf [LstOf [IsI i, IsS z], LstOf [IsS z, IsI i]]) (d := if t.1 = .int i then .list [.int i, .str z] else .list [.str z, .int i]) (ds := [.list [.int i, .str z], .list [.str z, .int i]]) hr.units ?_ ?_ (fun v H h => ?_) (fun v H h => ?_) rfl ?_ ?_ ?_)) fun H6 e6 => b_nil ⟨e5.trans e6, _, _, _, rfl, ex2.trans (e5.trans e6)⟩
      · exact eg_callP ((⟨x, hx⟩, t) : NB × (V × V)) D6 hr1 (ag_cons (P := XP cl t x) (eg_var 7 rfl (mX.up e5 g2)) ag_nil)
      · exact eg_tup (ag_cons (P := LstOf [IsI i, IsS z]) (eg_lst2 (ag_cons (P := IsI i) (eg_var 3 rfl rfl) (ag_cons (P := IsS z) (eg_var 4 rfl rfl) ag_nil))) (ag_cons (P := LstOf [IsS z, IsI i]) (eg_lst2 (ag_cons (P := IsS z) (eg_var 4 rfl rfl) (ag_cons (P := IsI i) (eg_var 3 rfl rfl) ag_nil))) ag_nil)) (ble rfl)
      · rcases ht with rfl | rfl
        · rw [if_pos rfl]
          exact dp2 h (fun _ => .int i) fun _ => .str z
        · rw [if_neg (fun z => nomatch z)]
          exact dp2 h (fun _ => .str z) fun _ => .int i
      · obtain ⟨b, xs, q1, q2, b1, s1, q3, q4, b2, s2, q5, q6, q7⟩ := h
        cases (show s2 = [] from q7)
        subst q5 q3
        rw [q1]
        exact .tup (SqT.of q2) (.cons (dp2 q4 (fun _ => .int i) fun _ => .str z) (.cons (dp2 q6 (fun _ => .str z) fun _ => .int i) .nil))
      · split <;> rfl
      · split <;> exact ble rfl
      · split <;> simp [PyData.eqv, PyData.eqvAll]
    · subst hσ
      have hn := NC.ex
      obtain ⟨bmB, B0, newId, initId, FX, q5⟩ := hn
      have nx : ("Nothing" : Str) ∈ nAll := by decide +kernel
      refine b_skip (tg_w (wg_or (bb := false) (tg_cm (cg_neD (P1 := IsL (fun _ : Str => LstOf [IsV (.int i), IsV (.str z)]) nB) (P2 := LstOf [LstOf [IsV (.int i), IsV (.str z)], LstOf [IsV (.int i), IsV (.str z)], LstOf [IsV (.int i), IsV (.str z)], LstOf [IsV (.int i), IsV (.str z)]]) (d := .list (nB.map fun _ => .list [.int i, .str z])) (d2 := .list (nB.map fun _ => .list [.int i, .str z])) hr.units ?_ ?_ (fun v H h => ?_) (fun v H h => ?_) rfl rfl (ble rfl) ?_)) fun _ => wg_or1 (bb := false) (tg_not (bb := true) (tg_val ?_)))) fun H5 e5 => ?_
      · refine EvP.imp (eg_lc 10 (R := RP cl (V.int i, V.str z)) (S := fun _ : Str => LstOf [IsV (.int i), IsV (.str z)]) (as := nB) (fun x => x) sc_law.nd (ip_list (pw (u := .int i) (v := .str z) (s1 := "") (s2 := "") (eg_var 3 rfl rfl) (eg_var 4 rfl rfl) rfl rfl rfl)) (ble rfl) (fun x hx v H' e' hR s' H0 Cc c2 fp => ?_) (fun _ _ _ _ _ => pg_name sc_law.nd rfl (Or.inl rfl))) fun v H' _ h => by rwa [List.map_id'] at h
        exact eg_callP ((⟨x, hx⟩, (V.int i, V.str z)) : NB × (V × V)) D6 hr1 (ag_cons (P := XP cl (V.int i, V.str z) x) (eg_ixA (Ps := [IsS x, XP cl (V.int i, V.str z) x, XP cl (V.int i, V.str z) x]) (n := 1) (P := XP cl (V.int i, V.str z) x) (eg_var 10 rfl hR) eg_int rfl) ag_nil)
      · exact eg_rep4 (P := LstOf [IsV (.int i), IsV (.str z)]) (eg_lst2 (ag_cons (P := LstOf [IsV (.int i), IsV (.str z)]) (eg_lst2 (ag_cons (P := IsV (.int i)) (eg_var 3 rfl rfl) (ag_cons (P := IsV (.str z)) (eg_var 4 rfl rfl) ag_nil))) ag_nil)) eg_int
      · obtain ⟨b, xs, q1, q2, q3⟩ := h
        rw [q1]
        refine .lst (SqL.of q2) ?_
        have all : ∀ {as : List Str} {xs : List V}, All2 (fun _ : Str => LstOf [IsV (.int i), IsV (.str z)]) as xs H → DpAll K H xs (as.map fun _ => .list [.int i, .str z]) := by
          intro as
          induction as with
          | nil => intro xs h; rw [show xs = [] from h]; exact .nil
          | cons x as ih =>
            intro xs ⟨y, r, q1, q2, q3⟩
            rw [q1]
            exact .cons (dp2 q2 (fun _ => .int i) fun _ => .str z) (ih q3)
        exact all q3
      · obtain ⟨b, xs, q1, q2, b1, s1, q3, q4, b2, s2, q5, q6, b3, s3, q7, q8, b4, s4, q9, q10, q11⟩ := h
        cases (show s4 = [] from q11)
        subst q9 q7 q5 q3
        rw [q1]
        exact .lst (SqL.of q2) (.cons (dp2 q4 (fun _ => .int i) fun _ => .str z) (.cons (dp2 q6 (fun _ => .int i) fun _ => .str z) (.cons (dp2 q8 (fun _ => .int i) fun _ => .str z) (.cons (dp2 q10 (fun _ => .int i) fun _ => .str z) .nil))))
      · rw [SeqAt.eqv_refl_plain _ rfl]
        rfl
      · exact eg_callP (⟨"Nothing", nx⟩ : EA) D3 hr2 (ag_cons (P := IsS "Nothing") eg_str (ag_cons (P := ErW (cl "Nothing")) (EvP.imp (eg_mkX0 FX q5 (T.mgx _ nx) NC.kp) fun v H' _ h => .inl h) ag_nil))
      refine b_asg (P := LstOf [LstOf [IsV (.str "missing"), IsV (.str z)], LstOf [IsV (.str "missing"), IsV (.str z)], IsS "first", IsS "first"]) 9 sc_law.nd ?_ fun v6 H6 e6 h6 => ?_
      · exact eg_lst2 (ag_cons (P := LstOf [IsV (.str "missing"), IsV (.str z)]) (eg_lst2 (ag_cons (P := IsV (.str "missing")) eg_str (ag_cons (P := IsV (.str z)) (eg_var 4 rfl rfl) ag_nil))) (ag_cons (P := LstOf [IsV (.str "missing"), IsV (.str z)]) (eg_lst2 (ag_cons (P := IsV (.str "missing")) eg_str (ag_cons (P := IsV (.str z)) (eg_var 4 rfl rfl) ag_nil))) (ag_cons (P := IsS "first") eg_str (ag_cons (P := IsS "first") eg_str ag_nil))))
      refine b_ret (P := IsB true) (eg_cm (cg_eqD (P1 := IsL (caW z) (List.range 4)) (P2 := LstOf [LstOf [IsV (.str "missing"), IsV (.str z)], LstOf [IsV (.str "missing"), IsV (.str z)], IsS "first", IsS "first"]) (d := .list [.list [.str "missing", .str z], .list [.str "missing", .str z], .str "first", .str "first"]) (d2 := .list [.list [.str "missing", .str z], .list [.str "missing", .str z], .str "first", .str "first"]) hr.units ?_ (eg_var 9 rfl h6) (fun v H h => ?_) (fun v H h => ?_) rfl rfl (ble rfl) (SeqAt.eqv_refl_plain _ rfl))) fun v7 H7 e7 h7 => by
        rw [show v7 = _ from h7]
        exact hq H7
      · refine EvP.imp (eg_lc 11 (R := fun k : Nat => IsI (k : Int)) (S := caW z) (as := List.range 4) (fun x => x) sc_law.nd (ip_range (n := 4) A.range (by decide) eg_int) (by decide) (fun k hk v H' e' hR s' H0 Cc c2 fp => ?_) (fun _ _ _ _ _ => pg_name sc_law.nd rfl (Or.inl rfl))) fun v H' _ h => by rwa [List.map_id'] at h
        exact eg_callP ((⟨k, by simpa using hk⟩, z) : {j : Nat // j < 4} × Str) D7 (hr.mono (by decide)) (ag_cons (P := IsI (k : Int)) (eg_var 11 rfl hR) (ag_cons (P := IsS z) (eg_var 4 rfl rfl) ag_nil))
      · obtain ⟨b, xs, q1, q2, q3⟩ := h
        obtain ⟨b1, s1, r1, k1, b2, s2, r2, k2, b3, s3, r3, k3, b4, s4, r4, k4, k5⟩ := q3
        cases (show s4 = [] from k5)
        subst r4 r3 r2 r1
        rw [q1]
        refine .lst (SqL.of q2) (.cons (dp2 (u := .str "missing") (v := .str z) k1 (fun _ => .str _) fun _ => .str z) (.cons (dp2 (u := .str "missing") (v := .str z) k2 (fun _ => .str _) fun _ => .str z) (.cons ?_ (.cons ?_ .nil))))
        · rw [show b3 = .str "first" from k3]; exact .str _
        · rw [show b4 = .str "first" from k4]; exact .str _
      · obtain ⟨b, xs, q1, q2, b1, s1, r1, k1, b2, s2, r2, k2, b3, s3, r3, k3, b4, s4, r4, k4, k5⟩ := h
        cases (show s4 = [] from k5)
        subst r4 r3 r2 r1
        rw [q1]
        refine .lst (SqL.of q2) (.cons (dp2 k1 (fun _ => .str _) fun _ => .str z) (.cons (dp2 k2 (fun _ => .str _) fun _ => .str z) (.cons ?_ (.cons ?_ .nil))))
        · rw [show b3 = .str "first" from k3]; exact .str _
        · rw [show b4 = .str "first" from k4]; exact .str _
end
end G
set_option maxHeartbeats 4000000
/-! the __init__s of the classes -/
namespace G
open PySem PySem.Spec PyProof.Rows L2 Evl
theorem paired_app {α β : Type} {R : α → β → Prop} : ∀ {xs : List α} {ys : List β} {as : List α} {bs : List β}, Paired R xs ys → Paired R as bs → Paired R (xs ++ as) (ys ++ bs)
  | _, _, _, _, .nil, h => h
  | _, _, _, _, .cons r t, h => .cons r (paired_app t h)
theorem paired_rev {α β : Type} {R : α → β → Prop} : ∀ {xs : List α} {ys : List β}, Paired R xs ys → Paired R xs.reverse ys.reverse
  | _, _, .nil => .nil
  | _, _, .cons r t => by
    rw [List.reverse_cons, List.reverse_cons]
    exact paired_app (paired_rev t) (.cons r .nil)
section
variable {P : Program} {w : World} {K : PySem.W.Frag} {mg : Str → Option Value} {base : Heap} {f : Addr} {fd : FuncData} {x q g g1 g2 : Str} {sc : Scope} {args : Arguments} {body : List Stmt}
/-- an __init__ of a class that keeps its fields -/
structure IniK (P : Program) (w : World) (K : PySem.W.Frag) (mg : Str → Option Value) (base : Heap) (f : Addr) (fd : FuncData) (fl : List Str) : Prop where
  ok : FnOk P w K mg base CX0 1 f fd ("self" :: fl) (XSp K fl)
  b : Binds K fd ("self" :: fl) []
  kb : KBn K fd ("self" :: fl) 1 fl.reverse (fun us ws => us ++ ws.reverse) (fun vs zs => vs ++ zs.reverse)
theorem ini1 (F : FunD K x q args body sc [] [] f fd) (ok : FnOk P w K mg base CX0 1 f fd ["self", g] (XSp K [g]))
    (h : ∀ (kV doc pm : Value) (an : Option Addr) (cdv ct : Value) (u v : Value), bindArgs (PySem.W.fnOf x q args body sc .none kV doc pm an cdv ct) ⟨[u, v], []⟩ = pure [(("self" : Str), u), (g, v)])
    (h2 : ∀ (kV doc pm : Value) (an : Option Addr) (cdv ct : Value) (u v : Value), bindArgs (PySem.W.fnOf x q args body sc .none kV doc pm an cdv ct) ⟨[u], [(g, v)]⟩ = pure [(("self" : Str), u), (g, v)]) : IniK P w K mg base f fd [g] := by
  refine ⟨ok, F.bindsN fun kV doc pm an cdv ct us hl => match us, hl with | [u, v], _ => h kV doc pm an cdv ct u v, ⟨fun s us ws _ hl hw => ?_, fun r rz => paired_app r (paired_rev rz)⟩⟩
  obtain ⟨oc, od, dV, kV, doc, pm, an, cdv, ct, osl, e, lk, hcd, hD, hK⟩ := F.ex
  rcases hD with ⟨_, e2⟩ | ⟨e2, _⟩
  · subst e e2
    match us, ws, hl, hw with
    | [u], [v], _, _ => exact .of_eq (h2 kV doc pm an cdv ct u v)
  · exact absurd rfl e2
theorem ini2 (F : FunD K x q args body sc [] [] f fd) (ok : FnOk P w K mg base CX0 1 f fd ["self", g1, g2] (XSp K [g1, g2]))
    (h : ∀ (kV doc pm : Value) (an : Option Addr) (cdv ct : Value) (u v z : Value), bindArgs (PySem.W.fnOf x q args body sc .none kV doc pm an cdv ct) ⟨[u, v, z], []⟩ = pure [(("self" : Str), u), (g1, v), (g2, z)])
    (h2 : ∀ (kV doc pm : Value) (an : Option Addr) (cdv ct : Value) (u v z : Value), bindArgs (PySem.W.fnOf x q args body sc .none kV doc pm an cdv ct) ⟨[u], [(g2, z), (g1, v)]⟩ = pure [(("self" : Str), u), (g1, v), (g2, z)]) : IniK P w K mg base f fd [g1, g2] := by
  refine ⟨ok, F.bindsN fun kV doc pm an cdv ct us hl => match us, hl with | [u, v, z], _ => h kV doc pm an cdv ct u v z, ⟨fun s us ws _ hl hw => ?_, fun r rz => paired_app r (paired_rev rz)⟩⟩
  obtain ⟨oc, od, dV, kV, doc, pm, an, cdv, ct, osl, e, lk, hcd, hD, hK⟩ := F.ex
  rcases hD with ⟨_, e2⟩ | ⟨e2, _⟩
  · subst e e2
    match us, ws, hl, hw with
    | [u], [z, v], _, _ => exact .of_eq (h2 kV doc pm an cdv ct u v z)
  · exact absurd rfl e2
theorem two_heap {H : Hp} {a d C : Addr} {u v : V} (hda : d ≠ a) : upd (upd (upd H d (exd d [(g1, u)])) a (exo a C (some d))) d (exd d [(g2, v), (g1, u)]) = upd (upd H d (exd d (([g1, g2] : List Str).zip [u, v]).reverse)) a (exo a C (some d)) := by
  funext b
  by_cases h1 : b = d
  · rw [h1, upd_same, upd_ne hda, upd_same]
    rfl
  · rw [upd_ne h1]
    by_cases h2 : b = a
    · rw [h2, upd_same, upd_same]
    · rw [upd_ne h2, upd_ne h1, upd_ne h2, upd_ne h1]
theorem sc_iBadRatio : FnScope ["self", "part"] ["self", "part"] (defScope (inClass (top 2) 0)) := ⟨rfl, rfl, rfl, by decide +kernel, rfl, by decide +kernel, by decide +kernel⟩
theorem ok_iBadRatio (F : FnP K "__init__" "BadRatio.__init__" (inClass (top 2) 0) [] f fd) : IniK P w K mg base f fd ["part"] := by
  refine ini1 F (fn_any F sc_iBadRatio (fun vs H Q E ⟨a, C, ws, h1, h2, _⟩ => by rw [h1, List.length_cons, h2]; rfl) fun cdv Ar outer s H E vs Q hr ⟨a, C, ws, hvs, hl, T, hno, ha, hq⟩ => ?_) (fun _ _ _ _ _ _ _ _ => rfl) (fun _ _ _ _ _ _ _ _ => rfl)
  match ws, hl with
  | [u], _ =>
    subst hvs
    exact b_of (ps_ost (pv 0) (pv 1)) ⟨u, rfl, .ref a, rfl, a, C, rfl, T, hno _ (List.mem_cons_self ..), .inl ⟨ha, fun dx n ne => b_nil (hq dx n ne)⟩⟩
theorem sc_iBadStep : FnScope ["self", "part"] ["self", "part"] (defScope (inClass (top 3) 0)) := ⟨rfl, rfl, rfl, by decide +kernel, rfl, by decide +kernel, by decide +kernel⟩
theorem ok_iBadStep (F : FnP K "__init__" "BadStep.__init__" (inClass (top 3) 0) [] f fd) : IniK P w K mg base f fd ["part"] := by
  refine ini1 F (fn_any F sc_iBadStep (fun vs H Q E ⟨a, C, ws, h1, h2, _⟩ => by rw [h1, List.length_cons, h2]; rfl) fun cdv Ar outer s H E vs Q hr ⟨a, C, ws, hvs, hl, T, hno, ha, hq⟩ => ?_) (fun _ _ _ _ _ _ _ _ => rfl) (fun _ _ _ _ _ _ _ _ => rfl)
  match ws, hl with
  | [u], _ =>
    subst hvs
    exact b_of (ps_ost (pv 0) (pv 1)) ⟨u, rfl, .ref a, rfl, a, C, rfl, T, hno _ (List.mem_cons_self ..), .inl ⟨ha, fun dx n ne => b_nil (hq dx n ne)⟩⟩
theorem sc_iBadSpan : FnScope ["self", "part"] ["self", "part"] (defScope (inClass (top 4) 0)) := ⟨rfl, rfl, rfl, by decide +kernel, rfl, by decide +kernel, by decide +kernel⟩
theorem ok_iBadSpan (F : FnP K "__init__" "BadSpan.__init__" (inClass (top 4) 0) [] f fd) : IniK P w K mg base f fd ["part"] := by
  refine ini1 F (fn_any F sc_iBadSpan (fun vs H Q E ⟨a, C, ws, h1, h2, _⟩ => by rw [h1, List.length_cons, h2]; rfl) fun cdv Ar outer s H E vs Q hr ⟨a, C, ws, hvs, hl, T, hno, ha, hq⟩ => ?_) (fun _ _ _ _ _ _ _ _ => rfl) (fun _ _ _ _ _ _ _ _ => rfl)
  match ws, hl with
  | [u], _ =>
    subst hvs
    exact b_of (ps_ost (pv 0) (pv 1)) ⟨u, rfl, .ref a, rfl, a, C, rfl, T, hno _ (List.mem_cons_self ..), .inl ⟨ha, fun dx n ne => b_nil (hq dx n ne)⟩⟩
theorem sc_iBadBook : FnScope ["self", "part"] ["self", "part"] (defScope (inClass (top 5) 0)) := ⟨rfl, rfl, rfl, by decide +kernel, rfl, by decide +kernel, by decide +kernel⟩
theorem ok_iBadBook (F : FnP K "__init__" "BadBook.__init__" (inClass (top 5) 0) [] f fd) : IniK P w K mg base f fd ["part"] := by
  refine ini1 F (fn_any F sc_iBadBook (fun vs H Q E ⟨a, C, ws, h1, h2, _⟩ => by rw [h1, List.length_cons, h2]; rfl) fun cdv Ar outer s H E vs Q hr ⟨a, C, ws, hvs, hl, T, hno, ha, hq⟩ => ?_) (fun _ _ _ _ _ _ _ _ => rfl) (fun _ _ _ _ _ _ _ _ => rfl)
  match ws, hl with
  | [u], _ =>
    subst hvs
    exact b_of (ps_ost (pv 0) (pv 1)) ⟨u, rfl, .ref a, rfl, a, C, rfl, T, hno _ (List.mem_cons_self ..), .inl ⟨ha, fun dx n ne => b_nil (hq dx n ne)⟩⟩
theorem sc_iBadPace : FnScope ["self", "part"] ["self", "part"] (defScope (inClass (top 6) 0)) := ⟨rfl, rfl, rfl, by decide +kernel, rfl, by decide +kernel, by decide +kernel⟩
theorem ok_iBadPace (F : FnP K "__init__" "BadPace.__init__" (inClass (top 6) 0) [] f fd) : IniK P w K mg base f fd ["part"] := by
  refine ini1 F (fn_any F sc_iBadPace (fun vs H Q E ⟨a, C, ws, h1, h2, _⟩ => by rw [h1, List.length_cons, h2]; rfl) fun cdv Ar outer s H E vs Q hr ⟨a, C, ws, hvs, hl, T, hno, ha, hq⟩ => ?_) (fun _ _ _ _ _ _ _ _ => rfl) (fun _ _ _ _ _ _ _ _ => rfl)
  match ws, hl with
  | [u], _ =>
    subst hvs
    exact b_of (ps_ost (pv 0) (pv 1)) ⟨u, rfl, .ref a, rfl, a, C, rfl, T, hno _ (List.mem_cons_self ..), .inl ⟨ha, fun dx n ne => b_nil (hq dx n ne)⟩⟩
theorem sc_iBadRow : FnScope ["self", "part"] ["self", "part"] (defScope (inClass (top 7) 0)) := ⟨rfl, rfl, rfl, by decide +kernel, rfl, by decide +kernel, by decide +kernel⟩
theorem ok_iBadRow (F : FnP K "__init__" "BadRow.__init__" (inClass (top 7) 0) [] f fd) : IniK P w K mg base f fd ["part"] := by
  refine ini1 F (fn_any F sc_iBadRow (fun vs H Q E ⟨a, C, ws, h1, h2, _⟩ => by rw [h1, List.length_cons, h2]; rfl) fun cdv Ar outer s H E vs Q hr ⟨a, C, ws, hvs, hl, T, hno, ha, hq⟩ => ?_) (fun _ _ _ _ _ _ _ _ => rfl) (fun _ _ _ _ _ _ _ _ => rfl)
  match ws, hl with
  | [u], _ =>
    subst hvs
    exact b_of (ps_ost (pv 0) (pv 1)) ⟨u, rfl, .ref a, rfl, a, C, rfl, T, hno _ (List.mem_cons_self ..), .inl ⟨ha, fun dx n ne => b_nil (hq dx n ne)⟩⟩
theorem sc_iBadSaying : FnScope ["self", "part"] ["self", "part"] (defScope (inClass (top 8) 0)) := ⟨rfl, rfl, rfl, by decide +kernel, rfl, by decide +kernel, by decide +kernel⟩
theorem ok_iBadSaying (F : FnP K "__init__" "BadSaying.__init__" (inClass (top 8) 0) [] f fd) : IniK P w K mg base f fd ["part"] := by
  refine ini1 F (fn_any F sc_iBadSaying (fun vs H Q E ⟨a, C, ws, h1, h2, _⟩ => by rw [h1, List.length_cons, h2]; rfl) fun cdv Ar outer s H E vs Q hr ⟨a, C, ws, hvs, hl, T, hno, ha, hq⟩ => ?_) (fun _ _ _ _ _ _ _ _ => rfl) (fun _ _ _ _ _ _ _ _ => rfl)
  match ws, hl with
  | [u], _ =>
    subst hvs
    exact b_of (ps_ost (pv 0) (pv 1)) ⟨u, rfl, .ref a, rfl, a, C, rfl, T, hno _ (List.mem_cons_self ..), .inl ⟨ha, fun dx n ne => b_nil (hq dx n ne)⟩⟩
theorem sc_iBadOrder : FnScope ["self", "part"] ["self", "part"] (defScope (inClass (top 9) 0)) := ⟨rfl, rfl, rfl, by decide +kernel, rfl, by decide +kernel, by decide +kernel⟩
theorem ok_iBadOrder (F : FnP K "__init__" "BadOrder.__init__" (inClass (top 9) 0) [] f fd) : IniK P w K mg base f fd ["part"] := by
  refine ini1 F (fn_any F sc_iBadOrder (fun vs H Q E ⟨a, C, ws, h1, h2, _⟩ => by rw [h1, List.length_cons, h2]; rfl) fun cdv Ar outer s H E vs Q hr ⟨a, C, ws, hvs, hl, T, hno, ha, hq⟩ => ?_) (fun _ _ _ _ _ _ _ _ => rfl) (fun _ _ _ _ _ _ _ _ => rfl)
  match ws, hl with
  | [u], _ =>
    subst hvs
    exact b_of (ps_ost (pv 0) (pv 1)) ⟨u, rfl, .ref a, rfl, a, C, rfl, T, hno _ (List.mem_cons_self ..), .inl ⟨ha, fun dx n ne => b_nil (hq dx n ne)⟩⟩
theorem sc_iBadRider : FnScope ["self", "part"] ["self", "part"] (defScope (inClass (top 10) 0)) := ⟨rfl, rfl, rfl, by decide +kernel, rfl, by decide +kernel, by decide +kernel⟩
theorem ok_iBadRider (F : FnP K "__init__" "BadRider.__init__" (inClass (top 10) 0) [] f fd) : IniK P w K mg base f fd ["part"] := by
  refine ini1 F (fn_any F sc_iBadRider (fun vs H Q E ⟨a, C, ws, h1, h2, _⟩ => by rw [h1, List.length_cons, h2]; rfl) fun cdv Ar outer s H E vs Q hr ⟨a, C, ws, hvs, hl, T, hno, ha, hq⟩ => ?_) (fun _ _ _ _ _ _ _ _ => rfl) (fun _ _ _ _ _ _ _ _ => rfl)
  match ws, hl with
  | [u], _ =>
    subst hvs
    exact b_of (ps_ost (pv 0) (pv 1)) ⟨u, rfl, .ref a, rfl, a, C, rfl, T, hno _ (List.mem_cons_self ..), .inl ⟨ha, fun dx n ne => b_nil (hq dx n ne)⟩⟩
theorem sc_iBadStory : FnScope ["self", "part"] ["self", "part"] (defScope (inClass (top 11) 0)) := ⟨rfl, rfl, rfl, by decide +kernel, rfl, by decide +kernel, by decide +kernel⟩
theorem ok_iBadStory (F : FnP K "__init__" "BadStory.__init__" (inClass (top 11) 0) [] f fd) : IniK P w K mg base f fd ["part"] := by
  refine ini1 F (fn_any F sc_iBadStory (fun vs H Q E ⟨a, C, ws, h1, h2, _⟩ => by rw [h1, List.length_cons, h2]; rfl) fun cdv Ar outer s H E vs Q hr ⟨a, C, ws, hvs, hl, T, hno, ha, hq⟩ => ?_) (fun _ _ _ _ _ _ _ _ => rfl) (fun _ _ _ _ _ _ _ _ => rfl)
  match ws, hl with
  | [u], _ =>
    subst hvs
    exact b_of (ps_ost (pv 0) (pv 1)) ⟨u, rfl, .ref a, rfl, a, C, rfl, T, hno _ (List.mem_cons_self ..), .inl ⟨ha, fun dx n ne => b_nil (hq dx n ne)⟩⟩
theorem sc_iBadTable : FnScope ["self", "part"] ["self", "part"] (defScope (inClass (top 12) 0)) := ⟨rfl, rfl, rfl, by decide +kernel, rfl, by decide +kernel, by decide +kernel⟩
theorem ok_iBadTable (F : FnP K "__init__" "BadTable.__init__" (inClass (top 12) 0) [] f fd) : IniK P w K mg base f fd ["part"] := by
  refine ini1 F (fn_any F sc_iBadTable (fun vs H Q E ⟨a, C, ws, h1, h2, _⟩ => by rw [h1, List.length_cons, h2]; rfl) fun cdv Ar outer s H E vs Q hr ⟨a, C, ws, hvs, hl, T, hno, ha, hq⟩ => ?_) (fun _ _ _ _ _ _ _ _ => rfl) (fun _ _ _ _ _ _ _ _ => rfl)
  match ws, hl with
  | [u], _ =>
    subst hvs
    exact b_of (ps_ost (pv 0) (pv 1)) ⟨u, rfl, .ref a, rfl, a, C, rfl, T, hno _ (List.mem_cons_self ..), .inl ⟨ha, fun dx n ne => b_nil (hq dx n ne)⟩⟩
theorem sc_iBadEye : FnScope ["self", "part"] ["self", "part"] (defScope (inClass (top 13) 0)) := ⟨rfl, rfl, rfl, by decide +kernel, rfl, by decide +kernel, by decide +kernel⟩
theorem ok_iBadEye (F : FnP K "__init__" "BadEye.__init__" (inClass (top 13) 0) [] f fd) : IniK P w K mg base f fd ["part"] := by
  refine ini1 F (fn_any F sc_iBadEye (fun vs H Q E ⟨a, C, ws, h1, h2, _⟩ => by rw [h1, List.length_cons, h2]; rfl) fun cdv Ar outer s H E vs Q hr ⟨a, C, ws, hvs, hl, T, hno, ha, hq⟩ => ?_) (fun _ _ _ _ _ _ _ _ => rfl) (fun _ _ _ _ _ _ _ _ => rfl)
  match ws, hl with
  | [u], _ =>
    subst hvs
    exact b_of (ps_ost (pv 0) (pv 1)) ⟨u, rfl, .ref a, rfl, a, C, rfl, T, hno _ (List.mem_cons_self ..), .inl ⟨ha, fun dx n ne => b_nil (hq dx n ne)⟩⟩
theorem sc_iBadWeave : FnScope ["self", "part"] ["self", "part"] (defScope (inClass (top 14) 0)) := ⟨rfl, rfl, rfl, by decide +kernel, rfl, by decide +kernel, by decide +kernel⟩
theorem ok_iBadWeave (F : FnP K "__init__" "BadWeave.__init__" (inClass (top 14) 0) [] f fd) : IniK P w K mg base f fd ["part"] := by
  refine ini1 F (fn_any F sc_iBadWeave (fun vs H Q E ⟨a, C, ws, h1, h2, _⟩ => by rw [h1, List.length_cons, h2]; rfl) fun cdv Ar outer s H E vs Q hr ⟨a, C, ws, hvs, hl, T, hno, ha, hq⟩ => ?_) (fun _ _ _ _ _ _ _ _ => rfl) (fun _ _ _ _ _ _ _ _ => rfl)
  match ws, hl with
  | [u], _ =>
    subst hvs
    exact b_of (ps_ost (pv 0) (pv 1)) ⟨u, rfl, .ref a, rfl, a, C, rfl, T, hno _ (List.mem_cons_self ..), .inl ⟨ha, fun dx n ne => b_nil (hq dx n ne)⟩⟩
theorem sc_iBadReport : FnScope ["self", "part"] ["self", "part"] (defScope (inClass (top 15) 0)) := ⟨rfl, rfl, rfl, by decide +kernel, rfl, by decide +kernel, by decide +kernel⟩
theorem ok_iBadReport (F : FnP K "__init__" "BadReport.__init__" (inClass (top 15) 0) [] f fd) : IniK P w K mg base f fd ["part"] := by
  refine ini1 F (fn_any F sc_iBadReport (fun vs H Q E ⟨a, C, ws, h1, h2, _⟩ => by rw [h1, List.length_cons, h2]; rfl) fun cdv Ar outer s H E vs Q hr ⟨a, C, ws, hvs, hl, T, hno, ha, hq⟩ => ?_) (fun _ _ _ _ _ _ _ _ => rfl) (fun _ _ _ _ _ _ _ _ => rfl)
  match ws, hl with
  | [u], _ =>
    subst hvs
    exact b_of (ps_ost (pv 0) (pv 1)) ⟨u, rfl, .ref a, rfl, a, C, rfl, T, hno _ (List.mem_cons_self ..), .inl ⟨ha, fun dx n ne => b_nil (hq dx n ne)⟩⟩
theorem sc_iBadTour : FnScope ["self", "part"] ["self", "part"] (defScope (inClass (top 16) 0)) := ⟨rfl, rfl, rfl, by decide +kernel, rfl, by decide +kernel, by decide +kernel⟩
theorem ok_iBadTour (F : FnP K "__init__" "BadTour.__init__" (inClass (top 16) 0) [] f fd) : IniK P w K mg base f fd ["part"] := by
  refine ini1 F (fn_any F sc_iBadTour (fun vs H Q E ⟨a, C, ws, h1, h2, _⟩ => by rw [h1, List.length_cons, h2]; rfl) fun cdv Ar outer s H E vs Q hr ⟨a, C, ws, hvs, hl, T, hno, ha, hq⟩ => ?_) (fun _ _ _ _ _ _ _ _ => rfl) (fun _ _ _ _ _ _ _ _ => rfl)
  match ws, hl with
  | [u], _ =>
    subst hvs
    exact b_of (ps_ost (pv 0) (pv 1)) ⟨u, rfl, .ref a, rfl, a, C, rfl, T, hno _ (List.mem_cons_self ..), .inl ⟨ha, fun dx n ne => b_nil (hq dx n ne)⟩⟩
theorem sc_iBadNumber : FnScope ["self", "part"] ["self", "part"] (defScope (inClass (top 17) 0)) := ⟨rfl, rfl, rfl, by decide +kernel, rfl, by decide +kernel, by decide +kernel⟩
theorem ok_iBadNumber (F : FnP K "__init__" "BadNumber.__init__" (inClass (top 17) 0) [] f fd) : IniK P w K mg base f fd ["part"] := by
  refine ini1 F (fn_any F sc_iBadNumber (fun vs H Q E ⟨a, C, ws, h1, h2, _⟩ => by rw [h1, List.length_cons, h2]; rfl) fun cdv Ar outer s H E vs Q hr ⟨a, C, ws, hvs, hl, T, hno, ha, hq⟩ => ?_) (fun _ _ _ _ _ _ _ _ => rfl) (fun _ _ _ _ _ _ _ _ => rfl)
  match ws, hl with
  | [u], _ =>
    subst hvs
    exact b_of (ps_ost (pv 0) (pv 1)) ⟨u, rfl, .ref a, rfl, a, C, rfl, T, hno _ (List.mem_cons_self ..), .inl ⟨ha, fun dx n ne => b_nil (hq dx n ne)⟩⟩
theorem sc_iBadPaper : FnScope ["self", "part"] ["self", "part"] (defScope (inClass (top 18) 0)) := ⟨rfl, rfl, rfl, by decide +kernel, rfl, by decide +kernel, by decide +kernel⟩
theorem ok_iBadPaper (F : FnP K "__init__" "BadPaper.__init__" (inClass (top 18) 0) [] f fd) : IniK P w K mg base f fd ["part"] := by
  refine ini1 F (fn_any F sc_iBadPaper (fun vs H Q E ⟨a, C, ws, h1, h2, _⟩ => by rw [h1, List.length_cons, h2]; rfl) fun cdv Ar outer s H E vs Q hr ⟨a, C, ws, hvs, hl, T, hno, ha, hq⟩ => ?_) (fun _ _ _ _ _ _ _ _ => rfl) (fun _ _ _ _ _ _ _ _ => rfl)
  match ws, hl with
  | [u], _ =>
    subst hvs
    exact b_of (ps_ost (pv 0) (pv 1)) ⟨u, rfl, .ref a, rfl, a, C, rfl, T, hno _ (List.mem_cons_self ..), .inl ⟨ha, fun dx n ne => b_nil (hq dx n ne)⟩⟩
theorem sc_iBadDesk : FnScope ["self", "part"] ["self", "part"] (defScope (inClass (top 19) 0)) := ⟨rfl, rfl, rfl, by decide +kernel, rfl, by decide +kernel, by decide +kernel⟩
theorem ok_iBadDesk (F : FnP K "__init__" "BadDesk.__init__" (inClass (top 19) 0) [] f fd) : IniK P w K mg base f fd ["part"] := by
  refine ini1 F (fn_any F sc_iBadDesk (fun vs H Q E ⟨a, C, ws, h1, h2, _⟩ => by rw [h1, List.length_cons, h2]; rfl) fun cdv Ar outer s H E vs Q hr ⟨a, C, ws, hvs, hl, T, hno, ha, hq⟩ => ?_) (fun _ _ _ _ _ _ _ _ => rfl) (fun _ _ _ _ _ _ _ _ => rfl)
  match ws, hl with
  | [u], _ =>
    subst hvs
    exact b_of (ps_ost (pv 0) (pv 1)) ⟨u, rfl, .ref a, rfl, a, C, rfl, T, hno _ (List.mem_cons_self ..), .inl ⟨ha, fun dx n ne => b_nil (hq dx n ne)⟩⟩
theorem sc_iMissing : FnScope ["self", "name"] ["self", "name"] (defScope (inClass (top 20) 0)) := ⟨rfl, rfl, rfl, by decide +kernel, rfl, by decide +kernel, by decide +kernel⟩
theorem ok_iMissing (F : FnP K "__init__" "Missing.__init__" (inClass (top 20) 0) [] f fd) : IniK P w K mg base f fd ["name"] := by
  refine ini1 F (fn_any F sc_iMissing (fun vs H Q E ⟨a, C, ws, h1, h2, _⟩ => by rw [h1, List.length_cons, h2]; rfl) fun cdv Ar outer s H E vs Q hr ⟨a, C, ws, hvs, hl, T, hno, ha, hq⟩ => ?_) (fun _ _ _ _ _ _ _ _ => rfl) (fun _ _ _ _ _ _ _ _ => rfl)
  match ws, hl with
  | [u], _ =>
    subst hvs
    exact b_of (ps_ost (pv 0) (pv 1)) ⟨u, rfl, .ref a, rfl, a, C, rfl, T, hno _ (List.mem_cons_self ..), .inl ⟨ha, fun dx n ne => b_nil (hq dx n ne)⟩⟩
theorem sc_iTwice : FnScope ["self", "name"] ["self", "name"] (defScope (inClass (top 23) 0)) := ⟨rfl, rfl, rfl, by decide +kernel, rfl, by decide +kernel, by decide +kernel⟩
theorem ok_iTwice (F : FnP K "__init__" "Twice.__init__" (inClass (top 23) 0) [] f fd) : IniK P w K mg base f fd ["name"] := by
  refine ini1 F (fn_any F sc_iTwice (fun vs H Q E ⟨a, C, ws, h1, h2, _⟩ => by rw [h1, List.length_cons, h2]; rfl) fun cdv Ar outer s H E vs Q hr ⟨a, C, ws, hvs, hl, T, hno, ha, hq⟩ => ?_) (fun _ _ _ _ _ _ _ _ => rfl) (fun _ _ _ _ _ _ _ _ => rfl)
  match ws, hl with
  | [u], _ =>
    subst hvs
    exact b_of (ps_ost (pv 0) (pv 1)) ⟨u, rfl, .ref a, rfl, a, C, rfl, T, hno _ (List.mem_cons_self ..), .inl ⟨ha, fun dx n ne => b_nil (hq dx n ne)⟩⟩
theorem sc_iUnlike : FnScope ["self", "what"] ["self", "what"] (defScope (inClass (top 24) 0)) := ⟨rfl, rfl, rfl, by decide +kernel, rfl, by decide +kernel, by decide +kernel⟩
theorem ok_iUnlike (F : FnP K "__init__" "Unlike.__init__" (inClass (top 24) 0) [] f fd) : IniK P w K mg base f fd ["what"] := by
  refine ini1 F (fn_any F sc_iUnlike (fun vs H Q E ⟨a, C, ws, h1, h2, _⟩ => by rw [h1, List.length_cons, h2]; rfl) fun cdv Ar outer s H E vs Q hr ⟨a, C, ws, hvs, hl, T, hno, ha, hq⟩ => ?_) (fun _ _ _ _ _ _ _ _ => rfl) (fun _ _ _ _ _ _ _ _ => rfl)
  match ws, hl with
  | [u], _ =>
    subst hvs
    exact b_of (ps_ost (pv 0) (pv 1)) ⟨u, rfl, .ref a, rfl, a, C, rfl, T, hno _ (List.mem_cons_self ..), .inl ⟨ha, fun dx n ne => b_nil (hq dx n ne)⟩⟩
theorem sc_iImpossible : FnScope ["self", "paper"] ["self", "paper"] (defScope (inClass (top 26) 0)) := ⟨rfl, rfl, rfl, by decide +kernel, rfl, by decide +kernel, by decide +kernel⟩
theorem ok_iImpossible (F : FnP K "__init__" "Impossible.__init__" (inClass (top 26) 0) [] f fd) : IniK P w K mg base f fd ["paper"] := by
  refine ini1 F (fn_any F sc_iImpossible (fun vs H Q E ⟨a, C, ws, h1, h2, _⟩ => by rw [h1, List.length_cons, h2]; rfl) fun cdv Ar outer s H E vs Q hr ⟨a, C, ws, hvs, hl, T, hno, ha, hq⟩ => ?_) (fun _ _ _ _ _ _ _ _ => rfl) (fun _ _ _ _ _ _ _ _ => rfl)
  match ws, hl with
  | [u], _ =>
    subst hvs
    exact b_of (ps_ost (pv 0) (pv 1)) ⟨u, rfl, .ref a, rfl, a, C, rfl, T, hno _ (List.mem_cons_self ..), .inl ⟨ha, fun dx n ne => b_nil (hq dx n ne)⟩⟩
theorem sc_iSameSpot : FnScope ["self", "one", "other"] ["self", "one", "other"] (defScope (inClass (top 25) 0)) := ⟨rfl, rfl, rfl, by decide +kernel, rfl, by decide +kernel, by decide +kernel⟩
theorem ok_iSameSpot (F : FnP K "__init__" "SameSpot.__init__" (inClass (top 25) 0) [] f fd) : IniK P w K mg base f fd ["one", "other"] := by
  refine ini2 F (fn_any F sc_iSameSpot (fun vs H Q E ⟨a, C, ws, h1, h2, _⟩ => by rw [h1, List.length_cons, h2]; rfl) fun cdv Ar outer s H E vs Q hr ⟨a, C, ws, hvs, hl, T, hno, ha, hq⟩ => ?_) (fun _ _ _ _ _ _ _ _ _ => rfl) (fun _ _ _ _ _ _ _ _ _ => rfl)
  match ws, hl with
  | [u, v], _ =>
    subst hvs
    refine b_of (ps_ost (pv 0) (pv 1)) ⟨u, rfl, .ref a, rfl, a, C, rfl, T, hno _ (List.mem_cons_self ..), .inl ⟨ha, fun dx n ne => ?_⟩⟩
    refine b_of (ps_ost (pv 0) (pv 2)) ⟨v, rfl, .ref a, rfl, a, C, rfl, T, hno _ (List.mem_cons_of_mem _ (List.mem_cons_self ..)), .inr ⟨dx, [("one", u)], upd_same, by rw [upd_ne ne, upd_same], (by decide : 1 ≤ 900), b_nil ?_⟩⟩
    rw [two_heap ne]
    exact hq dx n ne
theorem sc_iTooMany : FnScope ["self", "what", "most"] ["self", "what", "most"] (defScope (inClass (top 27) 0)) := ⟨rfl, rfl, rfl, by decide +kernel, rfl, by decide +kernel, by decide +kernel⟩
theorem ok_iTooMany (F : FnP K "__init__" "TooMany.__init__" (inClass (top 27) 0) [] f fd) : IniK P w K mg base f fd ["what", "most"] := by
  refine ini2 F (fn_any F sc_iTooMany (fun vs H Q E ⟨a, C, ws, h1, h2, _⟩ => by rw [h1, List.length_cons, h2]; rfl) fun cdv Ar outer s H E vs Q hr ⟨a, C, ws, hvs, hl, T, hno, ha, hq⟩ => ?_) (fun _ _ _ _ _ _ _ _ _ => rfl) (fun _ _ _ _ _ _ _ _ _ => rfl)
  match ws, hl with
  | [u, v], _ =>
    subst hvs
    refine b_of (ps_ost (pv 0) (pv 1)) ⟨u, rfl, .ref a, rfl, a, C, rfl, T, hno _ (List.mem_cons_self ..), .inl ⟨ha, fun dx n ne => ?_⟩⟩
    refine b_of (ps_ost (pv 0) (pv 2)) ⟨v, rfl, .ref a, rfl, a, C, rfl, T, hno _ (List.mem_cons_of_mem _ (List.mem_cons_self ..)), .inr ⟨dx, [("what", u)], upd_same, by rw [upd_ne ne, upd_same], (by decide : 1 ≤ 900), b_nil ?_⟩⟩
    rw [two_heap ne]
    exact hq dx n ne
theorem sc_iBadText : FnScope ["self", "line", "word"] ["self", "line", "word"] (defScope (inClass (top 29) 0)) := ⟨rfl, rfl, rfl, by decide +kernel, rfl, by decide +kernel, by decide +kernel⟩
theorem ok_iBadText (F : FnP K "__init__" "BadText.__init__" (inClass (top 29) 0) [] f fd) : IniK P w K mg base f fd ["line", "word"] := by
  refine ini2 F (fn_any F sc_iBadText (fun vs H Q E ⟨a, C, ws, h1, h2, _⟩ => by rw [h1, List.length_cons, h2]; rfl) fun cdv Ar outer s H E vs Q hr ⟨a, C, ws, hvs, hl, T, hno, ha, hq⟩ => ?_) (fun _ _ _ _ _ _ _ _ _ => rfl) (fun _ _ _ _ _ _ _ _ _ => rfl)
  match ws, hl with
  | [u, v], _ =>
    subst hvs
    refine b_of (ps_ost (pv 0) (pv 1)) ⟨u, rfl, .ref a, rfl, a, C, rfl, T, hno _ (List.mem_cons_self ..), .inl ⟨ha, fun dx n ne => ?_⟩⟩
    refine b_of (ps_ost (pv 0) (pv 2)) ⟨v, rfl, .ref a, rfl, a, C, rfl, T, hno _ (List.mem_cons_of_mem _ (List.mem_cons_self ..)), .inr ⟨dx, [("line", u)], upd_same, by rw [upd_ne ne, upd_same], (by decide : 1 ≤ 900), b_nil ?_⟩⟩
    rw [two_heap ne]
    exact hq dx n ne
theorem sc_iBadLine : FnScope ["self", "line", "error"] ["self", "line", "error"] (defScope (inClass (top 30) 0)) := ⟨rfl, rfl, rfl, by decide +kernel, rfl, by decide +kernel, by decide +kernel⟩
theorem ok_iBadLine (F : FnP K "__init__" "BadLine.__init__" (inClass (top 30) 0) [] f fd) : IniK P w K mg base f fd ["line", "error"] := by
  refine ini2 F (fn_any F sc_iBadLine (fun vs H Q E ⟨a, C, ws, h1, h2, _⟩ => by rw [h1, List.length_cons, h2]; rfl) fun cdv Ar outer s H E vs Q hr ⟨a, C, ws, hvs, hl, T, hno, ha, hq⟩ => ?_) (fun _ _ _ _ _ _ _ _ _ => rfl) (fun _ _ _ _ _ _ _ _ _ => rfl)
  match ws, hl with
  | [u, v], _ =>
    subst hvs
    refine b_of (ps_ost (pv 0) (pv 1)) ⟨u, rfl, .ref a, rfl, a, C, rfl, T, hno _ (List.mem_cons_self ..), .inl ⟨ha, fun dx n ne => ?_⟩⟩
    refine b_of (ps_ost (pv 0) (pv 2)) ⟨v, rfl, .ref a, rfl, a, C, rfl, T, hno _ (List.mem_cons_of_mem _ (List.mem_cons_self ..)), .inr ⟨dx, [("line", u)], upd_same, by rw [upd_ne ne, upd_same], (by decide : 1 ≤ 900), b_nil ?_⟩⟩
    rw [two_heap ne]
    exact hq dx n ne
end
end G
set_option maxHeartbeats 4000000
namespace GH
open PySem PySem.Spec PyProof.Rows L2 He
theorem DefE.funD {K : PySem.W.Frag} {d : DefE} (e : fnE K (d.adr K) = d.val) (c : d.ok K = true) : ∃ fd, G.FnP K d.name d.qual d.st d.dvs (d.adr K) fd := by
  obtain ⟨kp, c2⟩ := ba c
  unfold fnE at e
  cases q : K.lookup (d.adr K) with
  | none =>
    rw [q] at c2
    cases c2
  | some o =>
    obtain ⟨oc, od, dt, osl⟩ := o
    rw [q] at c2 e
    cases dt with
    | func fd =>
      obtain ⟨n1, n2, n3, n4, n5, n6, n7, n8, n9, n10, n11, n12, n13, n14, n15⟩ := fd
      have e2 : (some (n1, n2, n3, n4, n5, n6, n7, n15) : FnW) = some (d.name, d.qual, defArgs d.st, .stmts (defBody d.st), defScope d.st, mainGlobals, [], builtinsNs) := e
      simp only [Option.some.injEq, Prod.mk.injEq] at e2
      obtain ⟨h1, h2, h3, h4, h5, h6, h7, h8⟩ := e2
      subst h1 h2 h3 h4 h5 h6 h7 h8
      obtain ⟨k1, k3⟩ := ba (show (PySem.W.codeIn K n13 d.qual && dflB K n8 d.dvs) = true from c2)
      exact ⟨_, ⟨oc, od, n8, n9, n10, n11, n12, n13, n14, osl, rfl, q, k1, dflB_ok k3, .inl rfl⟩, kp⟩
    | _ => cases c2
section
variable {fa : List FaE} {fn : List DefE} {K : PySem.W.Frag}
theorem SaysE.fact (c : SaysE fa fn K) (i : Nat) {f : FaE} (h : fa[i]? = some f := by rfl) : f K = true := by
  have c1 := (ba (show ((fa.all fun f => f K) && fn.all fun d => d.ok K) = true from congrArg (fun z : AlD => z.1) c)).1
  exact List.all_eq_true.mp c1 f (List.mem_of_getElem? h)
theorem SaysE.def_ (c : SaysE fa fn K) (i : Nat) {d : DefE} (h : fn[i]? = some d := by rfl) : ∃ fd, G.FnP K d.name d.qual d.st d.dvs (d.adr K) fd := by
  have c2 := (ba (show ((fa.all fun f => f K) && fn.all fun d => d.ok K) = true from congrArg (fun z : AlD => z.1) c)).2
  have e : fn.map (fun d => fnE K (d.adr K)) = fn.map DefE.val := congrArg (fun z : AlD => z.2) c
  have e2 : (fn.map fun d => fnE K (d.adr K))[i]? = (fn.map DefE.val)[i]? := by rw [e]
  rw [List.getElem?_map, List.getElem?_map, h] at e2
  exact DefE.funD (Option.some.inj e2) (List.all_eq_true.mp c2 d (List.mem_of_getElem? h))
end
/-! ### facts about classes -/
theorem allN {p : Str → Bool} {l : List Str} (h : l.all p = true) {x : Str} (hx : x ∈ l) : p x = true := List.all_eq_true.mp h x hx
theorem oexB_ok {K : PySem.W.Frag} {C : Addr} (h : oexB K C = true) : ∃ nm q N bs bm sn sub ab col dd k0 k1 k2 k3 k5, K.lookup C = some (excClassObj nm q C N bs bm true sn sub ab col dd k0 k1 k2 k3 k5 "ValueError.__new__") ∧ PySem.HandSPX.refsVE bm = true := by
  unfold oexB at h
  split at h
  · rename_i t od cd sl e
    obtain ⟨h1, h2⟩ := ba h
    split at h2
    · rename_i C' bm k0 k1 k2 k3 n k5 e1 e2
      obtain ⟨h3, h4⟩ := ba h2
      obtain ⟨h5, h6⟩ := ba h3
      obtain ⟨h7, h8⟩ := ba h4
      obtain ⟨h9, h10⟩ := ba h8
      obtain ⟨c1, c2, c3, c4, c5, c6, c7, c8, c9, c10, c11⟩ := cd
      obtain ⟨sl⟩ := sl
      dsimp only at e1 e2 h7 h9
      have g1 := of_decide_eq_true h1
      have g5 := of_decide_eq_true h5
      have g6 := of_decide_eq_true h6
      have g9 : c11 = false := by cases c11 <;> first | rfl | cases h9
      subst g1 g5 g6 g9 e1 e2 h7
      exact ⟨c1, c5, c4, c2, bm, c7, c8, c9, c10, od, k0, k1, k2, k3, k5, e, h10⟩
    · cases h2
  · cases h
theorem xr_ok {K : PySem.W.Frag} {C : Addr} (h : xrB K C = true) : XrC K C := by
  obtain ⟨h1, h⟩ := ba h
  obtain ⟨h2, h⟩ := ba h
  obtain ⟨h3, h4⟩ := ba h
  exact ⟨xfB_ok h1, h2, eqO_ok h3, of_decide_eq_true h4⟩
theorem ex_ok {K : PySem.W.Frag} {C : Addr} (x : XrC K C) (h : exB K C = true) : OexC K C := by
  obtain ⟨h1, h⟩ := ba h
  obtain ⟨h2, h⟩ := ba h
  obtain ⟨h3, h4⟩ := ba h
  exact ⟨oexB_ok h1, eqO_ok h2, x.exC, of_decide_eq_true h3, h4⟩
theorem xcal {P : Program} {w : World} {K : PySem.W.Frag} {mg : Str → Option Value} {base : Heap} {x : Str} {fl : List Str} {fd : FuncData} (xr : XrC K (ga K x)) (m : mg x = some (.ref (ga K x))) (h1 : exB K (ga K x) = true) (h2 : inB K (ga K x) = true) (no : ∀ f ∈ fl, PySem.W.findIn K (.ref (ga K x)) f = some none)
    (I : G.IniK P w K mg base (ma K (ga K x) "__init__") fd fl) : G.XCal P w K mg base x (ga K x) fl := by
  obtain ⟨h3, h4⟩ := ba h2
  exact ⟨ex_ok xr h1, no, m, xr, ⟨_, fd, _, eqO_ok h3, of_decide_eq_true h4, I.ok, I.b, I.kb⟩⟩
theorem all_cons {p : Str → Prop} {x : Str} {l : List Str} (h : p x) (t : ∀ y ∈ l, p y) : ∀ y ∈ (x :: l), p y := fun y hy => by
  rcases List.mem_cons.mp hy with e | hy
  · rw [e]
    exact h
  · exact t y hy
theorem all_nil {p : Str → Prop} : ∀ y ∈ ([] : List Str), p y := fun y hy => by cases hy
end GH
set_option maxHeartbeats 4000000
namespace GH
open PySem PySem.Spec PyProof.Rows L2 He
section
variable {P : Program} {w : World} {K : PySem.W.Frag} {mg : Str → Option Value} {base h : Heap} {x m qual : Str} {st : Stmt} {f C : Addr} {fd : FuncData} {ps : List Str} {k : Nat} {sp : Sp}
theorem cal_of (F : G.FnP K x qual st [] f fd) (ok : FnOk P w K mg base CX0 k f fd ps sp) (hm : mg x = some (.ref f)) (b : Binds K fd ps []) : G.Cal P w K mg base x k [] sp := ⟨f, fd, ps, [], ok, hm, F.kp, b, .nil⟩
theorem b1 {a : Str} {q : Str} {sc : Scope} {args : Arguments} {body : List Stmt} (F : FunD K x q args body sc [] [] f fd) (h : ∀ (kV doc pm : Value) (an : Option Addr) (cdv ct u : Value), bindArgs (PySem.W.fnOf x q args body sc .none kV doc pm an cdv ct) ⟨[u], []⟩ = pure [(a, u)]) : Binds K fd [a] [] :=
  F.bindsN fun kV doc pm an cdv ct us hl => match us, hl with | [u], _ => h kV doc pm an cdv ct u
theorem b2 {a b : Str} {q : Str} {sc : Scope} {args : Arguments} {body : List Stmt} (F : FunD K x q args body sc [] [] f fd) (h : ∀ (kV doc pm : Value) (an : Option Addr) (cdv ct u v : Value), bindArgs (PySem.W.fnOf x q args body sc .none kV doc pm an cdv ct) ⟨[u, v], []⟩ = pure [(a, u), (b, v)]) : Binds K fd [a, b] [] :=
  F.bindsN fun kV doc pm an cdv ct us hl => match us, hl with | [u, v], _ => h kV doc pm an cdv ct u v
end
theorem inis {P : Program} {w : World} {K : PySem.W.Frag} {mg : Str → Option Value} {base : Heap} (c : SaysE fa fn K) (mgx : ∀ x ∈ G.nAll, mg x = some (.ref (ga K x))) (xr : ∀ x ∈ G.nAll, XrC K (ga K x)) : (∀ x ∈ G.nA, G.XCal P w K mg base x (ga K x) [G.fdN x]) ∧ (∀ x ∈ G.nB, G.XCal P w K mg base x (ga K x) [G.f1N x, G.f2N x]) := by
  have ex : ∀ x ∈ nI, exB K (ga K x) = true := fun x hx => allN (show (nI.all fun x => exB K (ga K x)) = true from c.fact 5 rfl) hx
  have iB : ∀ x ∈ nI, inB K (ga K x) = true := fun x hx => allN (show (nI.all fun x => inB K (ga K x)) = true from c.fact 6 rfl) hx
  have n1 : ∀ x ∈ G.nA, nfB K x (G.fdN x) = true := fun x hx => allN (show (G.nA.all fun x => nfB K x (G.fdN x)) = true from c.fact 7 rfl) hx
  have n2 : ∀ x ∈ G.nB, (nfB K x (G.f1N x) && nfB K x (G.f2N x)) = true := fun x hx => allN (show (G.nB.all fun x => nfB K x (G.f1N x) && nfB K x (G.f2N x)) = true from c.fact 8 rfl) hx
  have sA : ∀ x (hx : x ∈ G.nA) (fd : FuncData), G.IniK P w K mg base (ma K (ga K x) "__init__") fd [G.fdN x] → G.XCal P w K mg base x (ga K x) [G.fdN x] := fun x hx fd I =>
    xcal (xr x (G.nA_all x hx)) (mgx x (G.nA_all x hx)) (ex x (List.mem_append_left _ hx)) (iB x (List.mem_append_left _ hx)) (fun g hg => by
      rw [List.mem_singleton.mp hg]
      exact eqO_ok (n1 x hx)) I
  have sB : ∀ x (hx : x ∈ G.nB) (fd : FuncData), G.IniK P w K mg base (ma K (ga K x) "__init__") fd [G.f1N x, G.f2N x] → G.XCal P w K mg base x (ga K x) [G.f1N x, G.f2N x] := fun x hx fd I =>
    xcal (xr x (G.nB_all x hx)) (mgx x (G.nB_all x hx)) (ex x (List.mem_append_right _ hx)) (iB x (List.mem_append_right _ hx)) (fun g hg => by
      obtain ⟨q1, q2⟩ := ba (n2 x hx)
      rcases List.mem_cons.mp hg with e | hg
      · rw [e]; exact eqO_ok q1
      · rw [List.mem_singleton.mp hg]; exact eqO_ok q2) I
  obtain ⟨d_BadRatio, F_BadRatio⟩ : ∃ fd, G.FnP K "__init__" "BadRatio.__init__" (inClass (G.top 2) 0) [] (ma K (ga K "BadRatio") "__init__") fd := c.def_ 12 rfl
  have I_BadRatio : G.IniK P w K mg base (ma K (ga K "BadRatio") "__init__") d_BadRatio [G.fdN "BadRatio"] := by
    rw [show G.fdN "BadRatio" = "part" from by decide +kernel]
    exact G.ok_iBadRatio F_BadRatio
  obtain ⟨d_BadStep, F_BadStep⟩ : ∃ fd, G.FnP K "__init__" "BadStep.__init__" (inClass (G.top 3) 0) [] (ma K (ga K "BadStep") "__init__") fd := c.def_ 13 rfl
  have I_BadStep : G.IniK P w K mg base (ma K (ga K "BadStep") "__init__") d_BadStep [G.fdN "BadStep"] := by
    rw [show G.fdN "BadStep" = "part" from by decide +kernel]
    exact G.ok_iBadStep F_BadStep
  obtain ⟨d_BadSpan, F_BadSpan⟩ : ∃ fd, G.FnP K "__init__" "BadSpan.__init__" (inClass (G.top 4) 0) [] (ma K (ga K "BadSpan") "__init__") fd := c.def_ 14 rfl
  have I_BadSpan : G.IniK P w K mg base (ma K (ga K "BadSpan") "__init__") d_BadSpan [G.fdN "BadSpan"] := by
    rw [show G.fdN "BadSpan" = "part" from by decide +kernel]
    exact G.ok_iBadSpan F_BadSpan
  obtain ⟨d_BadBook, F_BadBook⟩ : ∃ fd, G.FnP K "__init__" "BadBook.__init__" (inClass (G.top 5) 0) [] (ma K (ga K "BadBook") "__init__") fd := c.def_ 15 rfl
  have I_BadBook : G.IniK P w K mg base (ma K (ga K "BadBook") "__init__") d_BadBook [G.fdN "BadBook"] := by
    rw [show G.fdN "BadBook" = "part" from by decide +kernel]
    exact G.ok_iBadBook F_BadBook
  obtain ⟨d_BadPace, F_BadPace⟩ : ∃ fd, G.FnP K "__init__" "BadPace.__init__" (inClass (G.top 6) 0) [] (ma K (ga K "BadPace") "__init__") fd := c.def_ 16 rfl
  have I_BadPace : G.IniK P w K mg base (ma K (ga K "BadPace") "__init__") d_BadPace [G.fdN "BadPace"] := by
    rw [show G.fdN "BadPace" = "part" from by decide +kernel]
    exact G.ok_iBadPace F_BadPace
  obtain ⟨d_BadRow, F_BadRow⟩ : ∃ fd, G.FnP K "__init__" "BadRow.__init__" (inClass (G.top 7) 0) [] (ma K (ga K "BadRow") "__init__") fd := c.def_ 17 rfl
  have I_BadRow : G.IniK P w K mg base (ma K (ga K "BadRow") "__init__") d_BadRow [G.fdN "BadRow"] := by
    rw [show G.fdN "BadRow" = "part" from by decide +kernel]
    exact G.ok_iBadRow F_BadRow
  obtain ⟨d_BadSaying, F_BadSaying⟩ : ∃ fd, G.FnP K "__init__" "BadSaying.__init__" (inClass (G.top 8) 0) [] (ma K (ga K "BadSaying") "__init__") fd := c.def_ 18 rfl
  have I_BadSaying : G.IniK P w K mg base (ma K (ga K "BadSaying") "__init__") d_BadSaying [G.fdN "BadSaying"] := by
    rw [show G.fdN "BadSaying" = "part" from by decide +kernel]
    exact G.ok_iBadSaying F_BadSaying
  obtain ⟨d_BadOrder, F_BadOrder⟩ : ∃ fd, G.FnP K "__init__" "BadOrder.__init__" (inClass (G.top 9) 0) [] (ma K (ga K "BadOrder") "__init__") fd := c.def_ 19 rfl
  have I_BadOrder : G.IniK P w K mg base (ma K (ga K "BadOrder") "__init__") d_BadOrder [G.fdN "BadOrder"] := by
    rw [show G.fdN "BadOrder" = "part" from by decide +kernel]
    exact G.ok_iBadOrder F_BadOrder
  obtain ⟨d_BadRider, F_BadRider⟩ : ∃ fd, G.FnP K "__init__" "BadRider.__init__" (inClass (G.top 10) 0) [] (ma K (ga K "BadRider") "__init__") fd := c.def_ 20 rfl
  have I_BadRider : G.IniK P w K mg base (ma K (ga K "BadRider") "__init__") d_BadRider [G.fdN "BadRider"] := by
    rw [show G.fdN "BadRider" = "part" from by decide +kernel]
    exact G.ok_iBadRider F_BadRider
  obtain ⟨d_BadStory, F_BadStory⟩ : ∃ fd, G.FnP K "__init__" "BadStory.__init__" (inClass (G.top 11) 0) [] (ma K (ga K "BadStory") "__init__") fd := c.def_ 21 rfl
  have I_BadStory : G.IniK P w K mg base (ma K (ga K "BadStory") "__init__") d_BadStory [G.fdN "BadStory"] := by
    rw [show G.fdN "BadStory" = "part" from by decide +kernel]
    exact G.ok_iBadStory F_BadStory
  obtain ⟨d_BadTable, F_BadTable⟩ : ∃ fd, G.FnP K "__init__" "BadTable.__init__" (inClass (G.top 12) 0) [] (ma K (ga K "BadTable") "__init__") fd := c.def_ 22 rfl
  have I_BadTable : G.IniK P w K mg base (ma K (ga K "BadTable") "__init__") d_BadTable [G.fdN "BadTable"] := by
    rw [show G.fdN "BadTable" = "part" from by decide +kernel]
    exact G.ok_iBadTable F_BadTable
  obtain ⟨d_BadEye, F_BadEye⟩ : ∃ fd, G.FnP K "__init__" "BadEye.__init__" (inClass (G.top 13) 0) [] (ma K (ga K "BadEye") "__init__") fd := c.def_ 23 rfl
  have I_BadEye : G.IniK P w K mg base (ma K (ga K "BadEye") "__init__") d_BadEye [G.fdN "BadEye"] := by
    rw [show G.fdN "BadEye" = "part" from by decide +kernel]
    exact G.ok_iBadEye F_BadEye
  obtain ⟨d_BadWeave, F_BadWeave⟩ : ∃ fd, G.FnP K "__init__" "BadWeave.__init__" (inClass (G.top 14) 0) [] (ma K (ga K "BadWeave") "__init__") fd := c.def_ 24 rfl
  have I_BadWeave : G.IniK P w K mg base (ma K (ga K "BadWeave") "__init__") d_BadWeave [G.fdN "BadWeave"] := by
    rw [show G.fdN "BadWeave" = "part" from by decide +kernel]
    exact G.ok_iBadWeave F_BadWeave
  obtain ⟨d_BadReport, F_BadReport⟩ : ∃ fd, G.FnP K "__init__" "BadReport.__init__" (inClass (G.top 15) 0) [] (ma K (ga K "BadReport") "__init__") fd := c.def_ 25 rfl
  have I_BadReport : G.IniK P w K mg base (ma K (ga K "BadReport") "__init__") d_BadReport [G.fdN "BadReport"] := by
    rw [show G.fdN "BadReport" = "part" from by decide +kernel]
    exact G.ok_iBadReport F_BadReport
  obtain ⟨d_BadTour, F_BadTour⟩ : ∃ fd, G.FnP K "__init__" "BadTour.__init__" (inClass (G.top 16) 0) [] (ma K (ga K "BadTour") "__init__") fd := c.def_ 26 rfl
  have I_BadTour : G.IniK P w K mg base (ma K (ga K "BadTour") "__init__") d_BadTour [G.fdN "BadTour"] := by
    rw [show G.fdN "BadTour" = "part" from by decide +kernel]
    exact G.ok_iBadTour F_BadTour
  obtain ⟨d_BadNumber, F_BadNumber⟩ : ∃ fd, G.FnP K "__init__" "BadNumber.__init__" (inClass (G.top 17) 0) [] (ma K (ga K "BadNumber") "__init__") fd := c.def_ 27 rfl
  have I_BadNumber : G.IniK P w K mg base (ma K (ga K "BadNumber") "__init__") d_BadNumber [G.fdN "BadNumber"] := by
    rw [show G.fdN "BadNumber" = "part" from by decide +kernel]
    exact G.ok_iBadNumber F_BadNumber
  obtain ⟨d_BadPaper, F_BadPaper⟩ : ∃ fd, G.FnP K "__init__" "BadPaper.__init__" (inClass (G.top 18) 0) [] (ma K (ga K "BadPaper") "__init__") fd := c.def_ 28 rfl
  have I_BadPaper : G.IniK P w K mg base (ma K (ga K "BadPaper") "__init__") d_BadPaper [G.fdN "BadPaper"] := by
    rw [show G.fdN "BadPaper" = "part" from by decide +kernel]
    exact G.ok_iBadPaper F_BadPaper
  obtain ⟨d_BadDesk, F_BadDesk⟩ : ∃ fd, G.FnP K "__init__" "BadDesk.__init__" (inClass (G.top 19) 0) [] (ma K (ga K "BadDesk") "__init__") fd := c.def_ 29 rfl
  have I_BadDesk : G.IniK P w K mg base (ma K (ga K "BadDesk") "__init__") d_BadDesk [G.fdN "BadDesk"] := by
    rw [show G.fdN "BadDesk" = "part" from by decide +kernel]
    exact G.ok_iBadDesk F_BadDesk
  obtain ⟨d_Missing, F_Missing⟩ : ∃ fd, G.FnP K "__init__" "Missing.__init__" (inClass (G.top 20) 0) [] (ma K (ga K "Missing") "__init__") fd := c.def_ 30 rfl
  have I_Missing : G.IniK P w K mg base (ma K (ga K "Missing") "__init__") d_Missing [G.fdN "Missing"] := by
    rw [show G.fdN "Missing" = "name" from by decide +kernel]
    exact G.ok_iMissing F_Missing
  obtain ⟨d_NoHappening, F_NoHappening⟩ : ∃ fd, G.FnP K "__init__" "Missing.__init__" (inClass (G.top 20) 0) [] (ma K (ga K "NoHappening") "__init__") fd := c.def_ 31 rfl
  have I_NoHappening : G.IniK P w K mg base (ma K (ga K "NoHappening") "__init__") d_NoHappening [G.fdN "NoHappening"] := by
    rw [show G.fdN "NoHappening" = "name" from by decide +kernel]
    exact G.ok_iMissing F_NoHappening
  obtain ⟨d_NoTraveller, F_NoTraveller⟩ : ∃ fd, G.FnP K "__init__" "Missing.__init__" (inClass (G.top 20) 0) [] (ma K (ga K "NoTraveller") "__init__") fd := c.def_ 32 rfl
  have I_NoTraveller : G.IniK P w K mg base (ma K (ga K "NoTraveller") "__init__") d_NoTraveller [G.fdN "NoTraveller"] := by
    rw [show G.fdN "NoTraveller" = "name" from by decide +kernel]
    exact G.ok_iMissing F_NoTraveller
  obtain ⟨d_Twice, F_Twice⟩ : ∃ fd, G.FnP K "__init__" "Twice.__init__" (inClass (G.top 23) 0) [] (ma K (ga K "Twice") "__init__") fd := c.def_ 33 rfl
  have I_Twice : G.IniK P w K mg base (ma K (ga K "Twice") "__init__") d_Twice [G.fdN "Twice"] := by
    rw [show G.fdN "Twice" = "name" from by decide +kernel]
    exact G.ok_iTwice F_Twice
  obtain ⟨d_Unlike, F_Unlike⟩ : ∃ fd, G.FnP K "__init__" "Unlike.__init__" (inClass (G.top 24) 0) [] (ma K (ga K "Unlike") "__init__") fd := c.def_ 34 rfl
  have I_Unlike : G.IniK P w K mg base (ma K (ga K "Unlike") "__init__") d_Unlike [G.fdN "Unlike"] := by
    rw [show G.fdN "Unlike" = "what" from by decide +kernel]
    exact G.ok_iUnlike F_Unlike
  obtain ⟨d_Impossible, F_Impossible⟩ : ∃ fd, G.FnP K "__init__" "Impossible.__init__" (inClass (G.top 26) 0) [] (ma K (ga K "Impossible") "__init__") fd := c.def_ 35 rfl
  have I_Impossible : G.IniK P w K mg base (ma K (ga K "Impossible") "__init__") d_Impossible [G.fdN "Impossible"] := by
    rw [show G.fdN "Impossible" = "paper" from by decide +kernel]
    exact G.ok_iImpossible F_Impossible
  obtain ⟨d_SameSpot, F_SameSpot⟩ : ∃ fd, G.FnP K "__init__" "SameSpot.__init__" (inClass (G.top 25) 0) [] (ma K (ga K "SameSpot") "__init__") fd := c.def_ 36 rfl
  have I_SameSpot : G.IniK P w K mg base (ma K (ga K "SameSpot") "__init__") d_SameSpot [G.f1N "SameSpot", G.f2N "SameSpot"] := by
    rw [show G.f1N "SameSpot" = "one" from by decide +kernel, show G.f2N "SameSpot" = "other" from by decide +kernel]
    exact G.ok_iSameSpot F_SameSpot
  obtain ⟨d_TooMany, F_TooMany⟩ : ∃ fd, G.FnP K "__init__" "TooMany.__init__" (inClass (G.top 27) 0) [] (ma K (ga K "TooMany") "__init__") fd := c.def_ 37 rfl
  have I_TooMany : G.IniK P w K mg base (ma K (ga K "TooMany") "__init__") d_TooMany [G.f1N "TooMany", G.f2N "TooMany"] := by
    rw [show G.f1N "TooMany" = "what" from by decide +kernel, show G.f2N "TooMany" = "most" from by decide +kernel]
    exact G.ok_iTooMany F_TooMany
  obtain ⟨d_BadText, F_BadText⟩ : ∃ fd, G.FnP K "__init__" "BadText.__init__" (inClass (G.top 29) 0) [] (ma K (ga K "BadText") "__init__") fd := c.def_ 38 rfl
  have I_BadText : G.IniK P w K mg base (ma K (ga K "BadText") "__init__") d_BadText [G.f1N "BadText", G.f2N "BadText"] := by
    rw [show G.f1N "BadText" = "line" from by decide +kernel, show G.f2N "BadText" = "word" from by decide +kernel]
    exact G.ok_iBadText F_BadText
  obtain ⟨d_BadLine, F_BadLine⟩ : ∃ fd, G.FnP K "__init__" "BadLine.__init__" (inClass (G.top 30) 0) [] (ma K (ga K "BadLine") "__init__") fd := c.def_ 39 rfl
  have I_BadLine : G.IniK P w K mg base (ma K (ga K "BadLine") "__init__") d_BadLine [G.f1N "BadLine", G.f2N "BadLine"] := by
    rw [show G.f1N "BadLine" = "line" from by decide +kernel, show G.f2N "BadLine" = "error" from by decide +kernel]
    exact G.ok_iBadLine F_BadLine
  have X_BadRatio := sA "BadRatio" (by decide +kernel) _ I_BadRatio
  have X_BadStep := sA "BadStep" (by decide +kernel) _ I_BadStep
  have X_BadSpan := sA "BadSpan" (by decide +kernel) _ I_BadSpan
  have X_BadBook := sA "BadBook" (by decide +kernel) _ I_BadBook
  have X_BadPace := sA "BadPace" (by decide +kernel) _ I_BadPace
  have X_BadRow := sA "BadRow" (by decide +kernel) _ I_BadRow
  have X_BadSaying := sA "BadSaying" (by decide +kernel) _ I_BadSaying
  have X_BadOrder := sA "BadOrder" (by decide +kernel) _ I_BadOrder
  have X_BadRider := sA "BadRider" (by decide +kernel) _ I_BadRider
  have X_BadStory := sA "BadStory" (by decide +kernel) _ I_BadStory
  have X_BadTable := sA "BadTable" (by decide +kernel) _ I_BadTable
  have X_BadEye := sA "BadEye" (by decide +kernel) _ I_BadEye
  have X_BadWeave := sA "BadWeave" (by decide +kernel) _ I_BadWeave
  have X_BadReport := sA "BadReport" (by decide +kernel) _ I_BadReport
  have X_BadTour := sA "BadTour" (by decide +kernel) _ I_BadTour
  have X_BadNumber := sA "BadNumber" (by decide +kernel) _ I_BadNumber
  have X_BadPaper := sA "BadPaper" (by decide +kernel) _ I_BadPaper
  have X_BadDesk := sA "BadDesk" (by decide +kernel) _ I_BadDesk
  have X_Missing := sA "Missing" (by decide +kernel) _ I_Missing
  have X_NoHappening := sA "NoHappening" (by decide +kernel) _ I_NoHappening
  have X_NoTraveller := sA "NoTraveller" (by decide +kernel) _ I_NoTraveller
  have X_Twice := sA "Twice" (by decide +kernel) _ I_Twice
  have X_Unlike := sA "Unlike" (by decide +kernel) _ I_Unlike
  have X_Impossible := sA "Impossible" (by decide +kernel) _ I_Impossible
  have X_SameSpot := sB "SameSpot" (by decide +kernel) _ I_SameSpot
  have X_TooMany := sB "TooMany" (by decide +kernel) _ I_TooMany
  have X_BadText := sB "BadText" (by decide +kernel) _ I_BadText
  have X_BadLine := sB "BadLine" (by decide +kernel) _ I_BadLine
  clear sA sB ex iB n1 n2 mgx xr
  exact ⟨(all_cons (p := fun x => G.XCal P w K mg base x (ga K x) [G.fdN x]) X_BadRatio (all_cons (p := fun x => G.XCal P w K mg base x (ga K x) [G.fdN x]) X_BadStep (all_cons (p := fun x => G.XCal P w K mg base x (ga K x) [G.fdN x]) X_BadSpan (all_cons (p := fun x => G.XCal P w K mg base x (ga K x) [G.fdN x]) X_BadBook (all_cons (p := fun x => G.XCal P w K mg base x (ga K x) [G.fdN x]) X_BadPace (all_cons (p := fun x => G.XCal P w K mg base x (ga K x) [G.fdN x]) X_BadRow (all_cons (p := fun x => G.XCal P w K mg base x (ga K x) [G.fdN x]) X_BadSaying (all_cons (p := fun x => G.XCal P w K mg base x (ga K x) [G.fdN x]) X_BadOrder (all_cons (p := fun x => G.XCal P w K mg base x (ga K x) [G.fdN x]) X_BadRider (all_cons (p := fun x => G.XCal P w K mg base x (ga K x) [G.fdN x]) X_BadStory (all_cons (p := fun x => G.XCal P w K mg base x (ga K x) [G.fdN x]) X_BadTable (all_cons (p := fun x => G.XCal P w K mg base x (ga K x) [G.fdN x]) X_BadEye (all_cons (p := fun x => G.XCal P w K mg base x (ga K x) [G.fdN x]) X_BadWeave (all_cons (p := fun x => G.XCal P w K mg base x (ga K x) [G.fdN x]) X_BadReport (all_cons (p := fun x => G.XCal P w K mg base x (ga K x) [G.fdN x]) X_BadTour (all_cons (p := fun x => G.XCal P w K mg base x (ga K x) [G.fdN x]) X_BadNumber (all_cons (p := fun x => G.XCal P w K mg base x (ga K x) [G.fdN x]) X_BadPaper (all_cons (p := fun x => G.XCal P w K mg base x (ga K x) [G.fdN x]) X_BadDesk (all_cons (p := fun x => G.XCal P w K mg base x (ga K x) [G.fdN x]) X_Missing (all_cons (p := fun x => G.XCal P w K mg base x (ga K x) [G.fdN x]) X_NoHappening (all_cons (p := fun x => G.XCal P w K mg base x (ga K x) [G.fdN x]) X_NoTraveller (all_cons (p := fun x => G.XCal P w K mg base x (ga K x) [G.fdN x]) X_Twice (all_cons (p := fun x => G.XCal P w K mg base x (ga K x) [G.fdN x]) X_Unlike (all_cons (p := fun x => G.XCal P w K mg base x (ga K x) [G.fdN x]) X_Impossible (all_nil (p := fun x => G.XCal P w K mg base x (ga K x) [G.fdN x])))))))))))))))))))))))))), (all_cons (p := fun x => G.XCal P w K mg base x (ga K x) [G.f1N x, G.f2N x]) X_SameSpot (all_cons (p := fun x => G.XCal P w K mg base x (ga K x) [G.f1N x, G.f2N x]) X_TooMany (all_cons (p := fun x => G.XCal P w K mg base x (ga K x) [G.f1N x, G.f2N x]) X_BadText (all_cons (p := fun x => G.XCal P w K mg base x (ga K x) [G.f1N x, G.f2N x]) X_BadLine (all_nil (p := fun x => G.XCal P w K mg base x (ga K x) [G.f1N x, G.f2N x]))))))⟩
theorem facts {P : Program} {w : World} {K : PySem.W.Frag} {h : Heap} {mg : Str → Option Value} {f : Addr} (X : K.In h) (Gn : h.Ns mainGlobals mg) (hfa : mg ("law" : Str) = some (.ref f)) (c : SaysE fa fn K) :
    ∃ fd : FuncData, (∀ (s : Shared) (v : Value), BindsTo s fd ⟨[v], []⟩ [("_law_script", v)]) ∧ ∀ base : Heap, K.In base → base.Ns mainGlobals mg → FnOk P w K mg base CX0 6 f fd ["_law_script"] (G.SpLaw K) := by
  have fr : ∀ x ∈ frN, mg x = none := fun x hx => free_ok X Gn (allN (p := fun x => (Fa.free x).ok K) (show (frN.all fun x => (Fa.free x).ok K) = true from c.fact 0 rfl) hx)
  have mgx : ∀ x ∈ G.nAll, mg x = some (.ref (ga K x)) := fun x hx => glo_ok X Gn (allN (p := fun x => (Fa.glo x).ok K) (show (G.nAll.all fun x => (Fa.glo x).ok K) = true from c.fact 1 rfl) hx)
  have mgd : ∀ x ∈ dfN, mg x = some (.ref (ga K x)) := fun x hx => glo_ok X Gn (allN (p := fun x => (Fa.glo x).ok K) (show (dfN.all fun x => (Fa.glo x).ok K) = true from c.fact 2 rfl) hx)
  have mgF : mg "FirstError" = some (.ref (ga K "FirstError")) := glo_ok X Gn (show (Fa.glo "FirstError").ok K = true from c.fact 3 rfl)
  have xr : ∀ x ∈ G.nAll, XrC K (ga K x) := fun x hx => xr_ok (allN (p := fun x => xrB K (ga K x)) (show (G.nAll.all fun x => xrB K (ga K x)) = true from c.fact 4 rfl) hx)
  have n1 : ∀ x ∈ G.nA, nfB K x (G.fdN x) = true := fun x hx => allN (p := fun x => nfB K x (G.fdN x)) (show (G.nA.all fun x => nfB K x (G.fdN x)) = true from c.fact 7 rfl) hx
  have n2 : ∀ x ∈ G.nB, (nfB K x (G.f1N x) && nfB K x (G.f2N x)) = true := fun x hx => allN (p := fun x => nfB K x (G.f1N x) && nfB K x (G.f2N x)) (show (G.nB.all fun x => nfB K x (G.f1N x) && nfB K x (G.f2N x)) = true from c.fact 8 rfl) hx
  have kit : ∀ x ∈ G.nAll, ∀ y ∈ G.nAll, PySem.W.kitOne K (.ref (ga K x)) (.ref (ga K y)) = some (G.subN x y) := fun x hx y hy =>
    of_decide_eq_true (allN (p := fun y => decide (PySem.W.kitOne K (.ref (ga K x)) (.ref (ga K y)) = some (G.subN x y))) (allN (p := fun x => G.nAll.all fun y => decide (PySem.W.kitOne K (.ref (ga K x)) (.ref (ga K y)) = some (G.subN x y))) (show (G.nAll.all fun x => G.nAll.all fun y => decide (PySem.W.kitOne K (.ref (ga K x)) (.ref (ga K y)) = some (G.subN x y))) = true from c.fact 9 rfl) hx) hy)
  have first : ∀ x ∈ G.nAll, PySem.W.kitOne K (.ref (ga K x)) (.ref (ga K "FirstError")) = some true := fun x hx => of_decide_eq_true (allN (p := fun x => decide (PySem.W.kitOne K (.ref (ga K x)) (.ref (ga K "FirstError")) = some true)) (show (G.nAll.all fun x => decide (PySem.W.kitOne K (.ref (ga K x)) (.ref (ga K "FirstError")) = some true)) = true from c.fact 10 rfl) hx)
  have ve : ∀ x ∈ G.nAll, PySem.W.kitOne K (.ref (ga K x)) (.type "ValueError") = some true := fun x hx => of_decide_eq_true (allN (p := fun x => decide (PySem.W.kitOne K (.ref (ga K x)) (.type "ValueError") = some true)) (show (G.nAll.all fun x => decide (PySem.W.kitOne K (.ref (ga K x)) (.type "ValueError") = some true)) = true from c.fact 11 rfl) hx)
  have ke : ∀ x ∈ G.nAll, PySem.W.kitAny K (.ref (ga K x)) G.keT = some false := fun x hx => of_decide_eq_true (allN (p := fun x => decide (PySem.W.kitAny K (.ref (ga K x)) G.keT = some false)) (show (G.nAll.all fun x => decide (PySem.W.kitAny K (.ref (ga K x)) G.keT = some false)) = true from c.fact 12 rfl) hx)
  have kk0 : (eqO (PySem.W.specialIn K (.builtin "object.__class__") "__get__") (some (some (.builtin "getset_descriptor.__get__"))) && decide (PySem.W.takesIn K (.builtin "object.__class__") = some true)) = true := c.fact 13 rfl
  have kk : IsK K := ⟨eqO_ok (ba kk0).1, of_decide_eq_true (ba kk0).2⟩
  have tw : G.TwT K (ga K) := ⟨fun T hT => of_decide_eq_true (List.all_eq_true.mp (show (twN.all fun T => decide (PySem.W.kitOne K (.type T) (.ref (ga K "Twice")) = some false)) = true from c.fact 14 rfl) T hT)⟩
  obtain ⟨e1, e2, e3, e4⟩ := exc_ok (show (Fa.exc "Nothing").ok K = true from c.fact 15 rfl)
  have NC : G.NoC K (ga K "Nothing") := ⟨⟨_, _, _, _, PySem.F.excBase_ValueError, e1⟩, e2, e3, e4⟩
  have M : G.ExmT K (ga K) := ⟨fun x hx => of_decide_eq_true (allN (p := fun x => decide (PySem.W.exmAny K (.ref (ga K x)) (G.tu7 (ga K)) = some false)) (show (thN.all fun x => decide (PySem.W.exmAny K (.ref (ga K x)) (G.tu7 (ga K)) = some false)) = true from c.fact 16 rfl) hx),
    fun x hx => of_decide_eq_true (allN (p := fun x => decide (PySem.W.exmOne K (.ref (ga K x)) (.ref (ga K "Missing")) = some (G.subN x "Missing"))) (show (thN.all fun x => decide (PySem.W.exmOne K (.ref (ga K x)) (.ref (ga K "Missing")) = some (G.subN x "Missing"))) = true from c.fact 17 rfl) hx),
    fun x hx => of_decide_eq_true (allN (p := fun x => decide (PySem.W.exmOne K (.ref (ga K x)) (.ref (ga K "FirstError")) = some true)) (show (thN.all fun x => decide (PySem.W.exmOne K (.ref (ga K x)) (.ref (ga K "FirstError")) = some true)) = true from c.fact 18 rfl) hx)⟩
  have T : G.Tab K mg (ga K) := ⟨kk, mgx, mgF, xr, kit, first, ve, ke⟩
  have N : G.Nof K (ga K) := fun x hx => eqO_ok (n1 x hx)
  have N2 : G.Nof2 K (ga K) := fun x hx => ⟨eqO_ok (ba (n2 x hx)).1, eqO_ok (ba (n2 x hx)).2⟩
  have A : G.Free mg := ⟨fr "len" (by decide +kernel), fr "int" (by decide +kernel), fr "bool" (by decide +kernel), fr "isinstance" (by decide +kernel), fr "str" (by decide +kernel), fr "abs" (by decide +kernel), fr "range" (by decide +kernel), fr "ValueError" (by decide +kernel), fr "KeyError" (by decide +kernel), fr "IndexError" (by decide +kernel), fr "LookupError" (by decide +kernel), fr "TypeError" (by decide +kernel), fr "ArithmeticError" (by decide +kernel), fr "RuntimeError" (by decide +kernel)⟩
  obtain ⟨d_law_pen, F_law_pen⟩ : ∃ fd, G.FnP K "_law_pen" "_law_pen" (G.top 32) [] (ga K "_law_pen") fd := c.def_ 0 rfl
  have g_law_pen : mg "_law_pen" = some (.ref (ga K "_law_pen")) := mgd "_law_pen" (by decide +kernel)
  obtain ⟨d_law_draw, F_law_draw⟩ : ∃ fd, G.FnP K "_law_draw" "_law_draw" (G.top 33) [] (ga K "_law_draw") fd := c.def_ 1 rfl
  have g_law_draw : mg "_law_draw" = some (.ref (ga K "_law_draw")) := mgd "_law_draw" (by decide +kernel)
  obtain ⟨d_law_value, F_law_value⟩ : ∃ fd, G.FnP K "_law_value" "_law_value" (G.top 34) [] (ga K "_law_value") fd := c.def_ 2 rfl
  have g_law_value : mg "_law_value" = some (.ref (ga K "_law_value")) := mgd "_law_value" (by decide +kernel)
  obtain ⟨d_law_plain, F_law_plain⟩ : ∃ fd, G.FnP K "_law_plain" "_law_plain" (G.top 35) [] (ga K "_law_plain") fd := c.def_ 3 rfl
  have g_law_plain : mg "_law_plain" = some (.ref (ga K "_law_plain")) := mgd "_law_plain" (by decide +kernel)
  obtain ⟨d_law_classes, F_law_classes⟩ : ∃ fd, G.FnP K "_law_classes" "_law_classes" (G.top 36) [] (ga K "_law_classes") fd := c.def_ 4 rfl
  have g_law_classes : mg "_law_classes" = some (.ref (ga K "_law_classes")) := mgd "_law_classes" (by decide +kernel)
  obtain ⟨d_law_field, F_law_field⟩ : ∃ fd, G.FnP K "_law_field" "_law_field" (G.top 37) [] (ga K "_law_field") fd := c.def_ 5 rfl
  have g_law_field : mg "_law_field" = some (.ref (ga K "_law_field")) := mgd "_law_field" (by decide +kernel)
  obtain ⟨d_law_is_one, F_law_is_one⟩ : ∃ fd, G.FnP K "_law_is_one" "_law_is_one" (G.top 38) [] (ga K "_law_is_one") fd := c.def_ 6 rfl
  have g_law_is_one : mg "_law_is_one" = some (.ref (ga K "_law_is_one")) := mgd "_law_is_one" (by decide +kernel)
  obtain ⟨d_law_pairs, F_law_pairs⟩ : ∃ fd, G.FnP K "_law_pairs" "_law_pairs" (G.top 39) [] (ga K "_law_pairs") fd := c.def_ 7 rfl
  have g_law_pairs : mg "_law_pairs" = some (.ref (ga K "_law_pairs")) := mgd "_law_pairs" (by decide +kernel)
  obtain ⟨d_law_fields, F_law_fields⟩ : ∃ fd, G.FnP K "_law_fields" "_law_fields" (G.top 40) [] (ga K "_law_fields") fd := c.def_ 8 rfl
  have g_law_fields : mg "_law_fields" = some (.ref (ga K "_law_fields")) := mgd "_law_fields" (by decide +kernel)
  obtain ⟨d_law_raise, F_law_raise⟩ : ∃ fd, G.FnP K "_law_raise" "_law_raise" (G.top 41) [] (ga K "_law_raise") fd := c.def_ 9 rfl
  have g_law_raise : mg "_law_raise" = some (.ref (ga K "_law_raise")) := mgd "_law_raise" (by decide +kernel)
  obtain ⟨d_law_caught, F_law_caught⟩ : ∃ fd, G.FnP K "_law_caught" "_law_caught" (G.top 42) [] (ga K "_law_caught") fd := c.def_ 10 rfl
  have g_law_caught : mg "_law_caught" = some (.ref (ga K "_law_caught")) := mgd "_law_caught" (by decide +kernel)
  obtain ⟨dlaw, Flaw⟩ : ∃ fd, G.FnP K "law" "law" (G.top 43) [] (ga K "law") fd := c.def_ 11 rfl
  have glaw : mg "law" = some (.ref (ga K "law")) := mgd "law" (by decide +kernel)
  have ef := hfa.symm.trans glaw
  cases ef
  refine ⟨dlaw, fun s v => FunD.bindsA (ps := ["_law_script"]) Flaw (fun _ _ _ _ _ _ us hl => match us, hl with | [_], _ => rfl) s [v] rfl, fun base _ _ => ?_⟩
  obtain ⟨S, SB⟩ := inis (P := P) (w := w) (base := base) c mgx xr
  have S1 : G.XCal P w K mg base "SameSpot" (ga K "SameSpot") ["one", "other"] := SB "SameSpot" (by decide +kernel)
  have S2 : G.XCal P w K mg base "TooMany" (ga K "TooMany") ["what", "most"] := SB "TooMany" (by decide +kernel)
  have S3 : G.XCal P w K mg base "BadText" (ga K "BadText") ["line", "word"] := SB "BadText" (by decide +kernel)
  have S4 : G.XCal P w K mg base "BadLine" (ga K "BadLine") ["line", "error"] := SB "BadLine" (by decide +kernel)
  have ST : G.XCal P w K mg base "Twice" (ga K "Twice") ["name"] := S "Twice" (by decide +kernel)
  have cPen := cal_of (P := P) (w := w) (base := base) F_law_pen (G.ok_pen A F_law_pen) g_law_pen (b1 F_law_pen (fun _ _ _ _ _ _ _ => rfl))
  have cDraw := cal_of (P := P) (w := w) (base := base) F_law_draw (G.ok_take A F_law_draw) g_law_draw (b2 F_law_draw (fun _ _ _ _ _ _ _ _ => rfl))
  have cVal := cal_of (P := P) (w := w) (base := base) F_law_value (G.ok_value A cDraw ST F_law_value) g_law_value (b1 F_law_value (fun _ _ _ _ _ _ _ => rfl))
  have cPlain := cal_of (P := P) (w := w) (base := base) F_law_plain (G.ok_plain A cVal S F_law_plain) g_law_plain (b1 F_law_plain (fun _ _ _ _ _ _ _ => rfl))
  have cCls := cal_of (P := P) (w := w) (base := base) F_law_classes (G.ok_classes A T F_law_classes) g_law_classes (b1 F_law_classes (fun _ _ _ _ _ _ _ => rfl))
  have cOne := cal_of (P := P) (w := w) (base := base) F_law_is_one (G.ok_one A T cCls F_law_is_one) g_law_is_one (b2 F_law_is_one (fun _ _ _ _ _ _ _ _ => rfl))
  have cField := cal_of (P := P) (w := w) (base := base) F_law_field (G.ok_field A T N F_law_field) g_law_field (b1 F_law_field (fun _ _ _ _ _ _ _ => rfl))
  have cPairs := cal_of (P := P) (w := w) (base := base) F_law_pairs (G.ok_pairs A S1 S2 S3 S4 F_law_pairs) g_law_pairs (b2 F_law_pairs (fun _ _ _ _ _ _ _ _ => rfl))
  have cFields := cal_of (P := P) (w := w) (base := base) F_law_fields (G.ok_fields A T N2 F_law_fields) g_law_fields (b1 F_law_fields (fun _ _ _ _ _ _ _ => rfl))
  have okR := G.ok_raise (P := P) (w := w) (base := base) T NC S F_law_raise
  have bR := b2 F_law_raise (a := "_law_number") (b := "_law_worth") (fun _ _ _ _ _ _ _ _ => rfl)
  have cCaught := cal_of (P := P) (w := w) (base := base) F_law_caught (G.ok_caught T N M okR g_law_raise F_law_raise.kp bR F_law_caught) g_law_caught (b2 F_law_caught (fun _ _ _ _ _ _ _ _ => rfl))
  exact G.ok_law A T tw N NC cPen cDraw cPlain cOne cField cPairs cFields cCaught Flaw
end GH
set_option maxHeartbeats 0
open PySem PySem.W PySem.Calls PyProof.Rows
set_option maxRecDepth 100000 in
set_option maxHeartbeats 0 in
theorem PySem.Challenge.cw_whosefirst_k00_errors_keep_their_fields_holds : PySem.Challenge.rw_whosefirst_k00_errors_keep_their_fields.Holds := by
  w_on; o_law
  refine HandSHeadRun.head_any (r := OpenLaw.row PySem.Challenge.rw_whosefirst_k00_errors_keep_their_fields) (q := view (OpenLaw.row PySem.Challenge.rw_whosefirst_k00_errors_keep_their_fields).prog [43]) (H := GH.hk) (ob := GH.ob) (M := 20000) (loose := GH.loose) (d := HandSHeadRun.topDef (OpenLaw.row PySem.Challenge.rw_whosefirst_k00_errors_keep_their_fields).prog 43) (kwd := []) GH.ob_eq
    (by kernel_rfl) (fun s => by kernel_rfl) GH.run (by kernel_rfl) (by kernel_rfl) (by kernel_rfl) (by rfl) (by first | assumption | decide +kernel) (by decide +kernel) ⟨rfl, rfl, rfl, rfl, rfl, by decide +kernel⟩ ?hw ?hc
  case hw => w_witness2
  case hc =>
    refine L2.walk_ofE (l := PySem.Challenge.rw_whosefirst_k00_errors_keep_their_fields) (n := 63) (k := 6) (x := "_law_script") (CX := L2.CX0) rfl (by decide) (by kernel_rfl) ⟨rfl, by decide, by decide⟩ ?F (fun _ _ _ _ z => z)
    intro w mg fa h Y G0 hmg0
    obtain ⟨K, KX, c⟩ := Y
    have hmg : mg ("law" : PySem.Str) = some (.ref fa) := by
      have e : (HandSHeadRun.topDef (OpenLaw.row PySem.Challenge.rw_whosefirst_k00_errors_keep_their_fields).prog 43).name = ("law" : PySem.Str) := by kernel_rfl
      rw [← e]
      exact hmg0
    obtain ⟨fd, hb, hF⟩ := GH.facts (P := (PySem.Challenge.rw_whosefirst_k00_errors_keep_their_fields).prog) (w := w) KX G0 hmg c
    exact ⟨K, fd, G.SpLaw K, KX, hb, fun H a ns hl _ hS => ⟨a, ns, rfl, hl, hS, fun _ => rfl⟩, hF⟩
