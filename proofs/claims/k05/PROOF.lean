import PyProof.Rows.All
import Wide.All
import OpenK.AllK
import Wide.FinOn
import HandS.Ends
import HandS.More
import HandS.Words
import HandS.Head0
import HandS.Head1
import HandS.Head2
import HandS.Head3
import HandS.HeadEnd
import HandS.HeadHook1
import HandS.HeadHook2
import KE.KStateDown
import KE.KOpsOwn
import KE.KMathG
import HandS.ForMost
import HandS.Defaults
import HandS.IsInst
import HandS.Star
import HandS.Gcd
import HandS.Wide
import HandS.Evl
import HandS.Zip
import HandS.Walk
import HandS.OwnEq
import HandS.Style
import PySem.Challenge.RW_whosefirst_k05_steps_add_up
set_option Elab.async false
set_option linter.all false
set_option maxRecDepth 100000
set_option exponentiation.threshold 100000
set_option maxHeartbeats 4000000
namespace G
open PySem PySem.Spec PyProof.Rows L2
def top (i : Nat) : Stmt := PySem.Challenge.pw_whosefirst_k05_steps_add_up.main.body.getD i (.Pass ⟨0, 0, 0, 0⟩)
end G
namespace GH
open PySem PySem.Spec PyProof.Rows L2 He
/-! ### defs by any address, facts of any kind -/
structure DefE where
  adr : PySem.W.Frag → Addr
  name : Str
  qual : Str
  st : Stmt
  dvs : List V := []
def fnE (K : PySem.W.Frag) (a : Addr) : FnW := match K.lookup a with
  | some ⟨_, _, .func fd, _⟩ => some (fd.name, fd.qualname, fd.params, fd.body, fd.scope, fd.globals, fd.closure, fd.builtins)
  | _ => none
def DefE.val (d : DefE) : FnW := some (d.name, d.qual, defArgs d.st, .stmts (defBody d.st), defScope d.st, mainGlobals, [], builtinsNs)
def DefE.ok (K : PySem.W.Frag) (d : DefE) : Bool := PySem.W.keepIn K (.ref (d.adr K)) && (match K.lookup (d.adr K) with
  | some ⟨_, _, .func fd, _⟩ => PySem.W.codeIn K fd.code d.qual && dflB K fd.defaults d.dvs
  | _ => false)
abbrev FaE := PySem.W.Frag → Bool
def obsE (fa : List FaE) (fn : List DefE) (K : PySem.W.Frag) : AlD := ((fa.all fun f => f K) && fn.all fun d => d.ok K, fn.map fun d => fnE K (d.adr K))
def valE (fn : List DefE) : AlD := (true, fn.map DefE.val)
def SaysE (fa : List FaE) (fn : List DefE) (K : PySem.W.Frag) : Prop := obsE fa fn K = valE fn
def obsEG (n : Nat) (fa : List FaE) (fn : List DefE) (g : Addr → Option Obj) : AlD := obsE fa fn (frG g (cStatics :: asD g n))
def hookE (n : Nat) (fa : List FaE) (fn : List DefE) : PySem.W.Hook where
  α := AlD
  obs := fun s => obsEG n fa fn s.heap.get?
  val := fun _ => valE fn
  says := fun _ h => ∃ K : PySem.W.Frag, K.In h ∧ SaysE fa fn K
  of := fun _ _ e => ⟨_, frG_in, e⟩
  keeps := fun _ _ _ ⟨K, hK, c⟩ k => ⟨K, PySem.W.Frag.In.keeps hK k, c⟩
theorem obsEG_eq {n : Nat} {fa : List FaE} {fn : List DefE} {g : Addr → Option Obj} {s : Shared} (h : ∀ a, g a = s.heap.get? a) : obsEG n fa fn g = (hookE n fa fn).obs s := by
  have e : g = s.heap.get? := funext h
  rw [e] <;> rfl
def isiB (K : PySem.W.Frag) (C : Addr) : Bool := eqO (PySem.W.findIn K (.ref C) "__class__") (some (some (.builtin "object.__class__"))) && (eqO (PySem.W.specialIn K (.builtin "object.__class__") "__get__") (some (some (.builtin "getset_descriptor.__get__"))) &&
  (decide (PySem.W.takesIn K (.builtin "object.__class__") = some true) && decide (PySem.W.mroIn K C (.type "object") = some true)))
def neB (K : PySem.W.Frag) (C : Addr) : Bool := eqO (PySem.W.findIn K (.ref C) "__ne__") (some (some (.builtin "object.__ne__"))) && decide (PySem.W.subIn K (.ref C) (.type "object") = some true)
def slTB (K : PySem.W.Frag) (C : Addr) : Bool := eqO (PySem.W.findIn K (.ref C) (dunderR "mul")) (some none) && ((PySem.W.findIn K (.type "int") (PySem.dunder "mul")).isSome && ((PySem.W.findIn K (.type "int") (dunderR "mul")).isSome && decide (PySem.W.subIn K (.type "int") (.ref C) = some false)))
def smB (K : PySem.W.Frag) (C : Addr) (m : Str) : Option Addr := match PySem.W.findCls K (.ref C) (.type "type") m with
  | some (.get (.builtin b) (.ref p) .none (.ref c)) => if b = "staticmethod.__get__" ∧ c = C then some p else none
  | _ => none
def smF (K : PySem.W.Frag) (C : Addr) (m : Str) : Addr := match smB K C m with
  | some p => (match PySem.W.recIn K p "staticmethod" with
    | some (.ref f :: _) => f
    | _ => 0)
  | none => 0
def smOk (K : PySem.W.Frag) (C : Addr) (m : Str) : Bool := eqO (PySem.W.specialIn K (.ref C) "__getattribute__") (some (some (.builtin "type.__getattribute__"))) && (decide (PySem.W.typeIn K (.ref C) = some (.type "type")) && (PySem.W.readsIn K C (.type "type") && ((match smB K C m with
  | some p => (match PySem.W.recIn K p "staticmethod" with
    | some (.ref _ :: _) => true
    | _ => false)
  | none => false) && PySem.W.keepIn K (.ref (smF K C m)))))
end GH
set_option maxHeartbeats 0
namespace GH
open PySem PySem.Spec PyProof.Rows L2 He
def fn0 : List DefE := [
  ⟨fun K => ga K "is_integer", "is_integer", "is_integer", G.top 4, []⟩,
  ⟨fun K => ga K "is_within", "is_within", "is_within", G.top 5, []⟩,
  ⟨fun K => ga K "is_listed", "is_listed", "is_listed", G.top 6, []⟩,
  ⟨fun K => ga K "sign_of", "sign_of", "sign_of", G.top 22, []⟩,
  ⟨fun K => ga K "is_ratio", "is_ratio", "is_ratio", G.top 23, []⟩,
  ⟨fun K => ga K "are_ratios", "are_ratios", "are_ratios", G.top 24, []⟩,
  ⟨fun K => ga K "as_ratio", "as_ratio", "as_ratio", G.top 25, []⟩,
  ⟨fun K => ga K "over_one_bottom", "over_one_bottom", "over_one_bottom", G.top 26, []⟩,
  ⟨fun K => ga K "asked_ratio", "asked_ratio", "asked_ratio", G.top 31, []⟩,
  ⟨fun K => ga K "is_axes", "is_axes", "is_axes", G.top 32, []⟩]
def fn1 : List DefE := [
  ⟨fun K => ga K "ask_equal_axes", "ask_equal_axes", "ask_equal_axes", G.top 34, []⟩,
  ⟨fun K => ga K "ask_other", "ask_other", "ask_other", G.top 37, []⟩,
  ⟨fun K => ga K "square_of", "square_of", "square_of", G.top 38, []⟩,
  ⟨fun K => ga K "kind_of", "kind_of", "kind_of", G.top 39, []⟩,
  ⟨fun K => ga K "product_of", "product_of", "product_of", G.top 40, []⟩,
  ⟨fun K => ga K "_law_sack", "_law_sack", "_law_sack", G.top 42, []⟩,
  ⟨fun K => ga K "_law_take", "_law_take", "_law_take", G.top 43, []⟩,
  ⟨fun K => ga K "_law_of", "_law_of", "_law_of", G.top 44, []⟩,
  ⟨fun K => ga K "_law_plain", "_law_plain", "_law_plain", G.top 45, []⟩,
  ⟨fun K => ga K "_law_forward", "_law_forward", "_law_forward", G.top 46, []⟩]
def fn2 : List DefE := [
  ⟨fun K => ga K "_law_made", "_law_made", "_law_made", G.top 47, []⟩,
  ⟨fun K => ga K "_law_is", "_law_is", "_law_is", G.top 48, []⟩,
  ⟨fun K => ga K "_law_times", "_law_times", "_law_times", G.top 49, []⟩,
  ⟨fun K => ga K "_law_kind", "_law_kind", "_law_kind", G.top 50, []⟩,
  ⟨fun K => ga K "_law_step_right", "_law_step_right", "_law_step_right", G.top 51, []⟩,
  ⟨fun K => ga K "_law_sums_right", "_law_sums_right", "_law_sums_right", G.top 52, []⟩,
  ⟨fun K => ga K "_law_shared_right", "_law_shared_right", "_law_shared_right", G.top 53, []⟩,
  ⟨fun K => ga K "_law_forward_right", "_law_forward_right", "_law_forward_right", G.top 54, []⟩,
  ⟨fun K => ga K "law", "law", "law", G.top 55, []⟩,
  ⟨fun K => ma K (ga K "Ratio") "__init__", "__init__", "Ratio.__init__", inClass (G.top 21) 0, [.int 1]⟩]
def fn3 : List DefE := [
  ⟨fun K => ma K (ga K "Ratio") "is_below", "is_below", "Ratio.is_below", inClass (G.top 21) 4, []⟩,
  ⟨fun K => ma K (ga K "Ratio") "__add__", "__add__", "Ratio.__add__", inClass (G.top 21) 5, []⟩,
  ⟨fun K => ma K (ga K "Ratio") "__sub__", "__sub__", "Ratio.__sub__", inClass (G.top 21) 6, []⟩,
  ⟨fun K => ma K (ga K "Ratio") "__mul__", "__mul__", "Ratio.__mul__", inClass (G.top 21) 7, []⟩,
  ⟨fun K => ma K (ga K "Ratio") "__neg__", "__neg__", "Ratio.__neg__", inClass (G.top 21) 8, []⟩,
  ⟨fun K => ma K (ga K "Ratio") "__eq__", "__eq__", "Ratio.__eq__", inClass (G.top 21) 11, []⟩,
  ⟨fun K => ma K (ga K "Step") "__init__", "__init__", "Step.__init__", inClass (G.top 36) 0, []⟩,
  ⟨fun K => ma K (ga K "Step") "__add__", "__add__", "Step.__add__", inClass (G.top 36) 3, []⟩,
  ⟨fun K => ma K (ga K "Step") "__sub__", "__sub__", "Step.__sub__", inClass (G.top 36) 4, []⟩,
  ⟨fun K => ma K (ga K "Step") "__mul__", "__mul__", "Step.__mul__", inClass (G.top 36) 5, []⟩]
def fn4 : List DefE := [
  ⟨fun K => ma K (ga K "Step") "__neg__", "__neg__", "Step.__neg__", inClass (G.top 36) 6, []⟩,
  ⟨fun K => ma K (ga K "Step") "__eq__", "__eq__", "Step.__eq__", inClass (G.top 36) 7, []⟩,
  ⟨fun K => smF K (ga K "Ratio") "of", "of", "Ratio.of", inClass (G.top 21) 1, []⟩]
def fn : List DefE := (fn0 ++ (fn1 ++ (fn2 ++ (fn3 ++ fn4))))
def fa0 : List FaE := [
  fun K => (Fa.free "len").ok K,
  fun K => (Fa.free "int").ok K,
  fun K => (Fa.free "bool").ok K,
  fun K => (Fa.free "isinstance").ok K,
  fun K => (Fa.free "list").ok K,
  fun K => (Fa.free "tuple").ok K,
  fun K => (Fa.free "abs").ok K,
  fun K => (Fa.free "sum").ok K,
  fun K => (Fa.free "all").ok K,
  fun K => (Fa.free "zip").ok K]
def fa1 : List FaE := [
  fun K => (Fa.free "range").ok K,
  fun K => (Fa.free "enumerate").ok K,
  fun K => (Fa.glo "is_integer").ok K,
  fun K => (Fa.glo "is_within").ok K,
  fun K => (Fa.glo "is_listed").ok K,
  fun K => (Fa.glo "sign_of").ok K,
  fun K => (Fa.glo "is_ratio").ok K,
  fun K => (Fa.glo "are_ratios").ok K,
  fun K => (Fa.glo "as_ratio").ok K,
  fun K => (Fa.glo "over_one_bottom").ok K]
def fa2 : List FaE := [
  fun K => (Fa.glo "asked_ratio").ok K,
  fun K => (Fa.glo "is_axes").ok K,
  fun K => (Fa.glo "ask_equal_axes").ok K,
  fun K => (Fa.glo "ask_other").ok K,
  fun K => (Fa.glo "square_of").ok K,
  fun K => (Fa.glo "kind_of").ok K,
  fun K => (Fa.glo "product_of").ok K,
  fun K => (Fa.glo "_law_sack").ok K,
  fun K => (Fa.glo "_law_take").ok K,
  fun K => (Fa.glo "_law_of").ok K]
def fa3 : List FaE := [
  fun K => (Fa.glo "_law_plain").ok K,
  fun K => (Fa.glo "_law_forward").ok K,
  fun K => (Fa.glo "_law_made").ok K,
  fun K => (Fa.glo "_law_is").ok K,
  fun K => (Fa.glo "_law_times").ok K,
  fun K => (Fa.glo "_law_kind").ok K,
  fun K => (Fa.glo "_law_step_right").ok K,
  fun K => (Fa.glo "_law_sums_right").ok K,
  fun K => (Fa.glo "_law_shared_right").ok K,
  fun K => (Fa.glo "_law_forward_right").ok K]
def fa4 : List FaE := [
  fun K => (Fa.glo "law").ok K,
  fun K => (Fa.glo "Ratio").ok K,
  fun K => (Fa.cls "Ratio").ok K,
  fun K => (Fa.mkr "Ratio").ok K,
  fun K => isiB K (ga K "Ratio"),
  fun K => PySem.W.selfFirst K (ga K "Ratio"),
  fun K => neB K (ga K "Ratio"),
  fun K => (Fa.glo "Step").ok K,
  fun K => (Fa.cls "Step").ok K,
  fun K => (Fa.mkr "Step").ok K]
def fa5 : List FaE := [
  fun K => isiB K (ga K "Step"),
  fun K => PySem.W.selfFirst K (ga K "Step"),
  fun K => neB K (ga K "Step"),
  fun K => (Fa.noat "Ratio" "top").ok K,
  fun K => (Fa.noat "Ratio" "bottom").ok K,
  fun K => (Fa.noat "Ratio" "sign").ok K,
  fun K => (Fa.noat "Step" "time").ok K,
  fun K => (Fa.noat "Step" "place").ok K,
  fun K => (Fa.noat "Step" "axes").ok K,
  fun K => (Fa.noat "Step" "square").ok K]
def fa6 : List FaE := [
  fun K => (Fa.noat "Step" "kind").ok K,
  fun K => (Fa.meth "Ratio" "is_below").ok K,
  fun K => (Fa.meth "Ratio" "__add__").ok K,
  fun K => (Fa.meth "Ratio" "__sub__").ok K,
  fun K => (Fa.meth "Ratio" "__mul__").ok K,
  fun K => (Fa.meth "Ratio" "__neg__").ok K,
  fun K => (Fa.meth "Ratio" "__eq__").ok K,
  fun K => (Fa.meth "Step" "__add__").ok K,
  fun K => (Fa.meth "Step" "__sub__").ok K,
  fun K => (Fa.meth "Step" "__mul__").ok K]
def fa7 : List FaE := [
  fun K => (Fa.meth "Step" "__neg__").ok K,
  fun K => (Fa.meth "Step" "__eq__").ok K,
  fun K => eqO (PySem.W.nsIn K mainGlobals "gcd") (some (some (.builtin "math.gcd"))),
  fun K => eqO (PySem.W.nsIn K mainGlobals "lcm") (some (some (.builtin "math.lcm"))),
  fun K => (Fa.int "MOST_AXES" 3).ok K,
  fun K => decide (PySem.W.kitOne K (.type "int") (.ref (ga K "Ratio")) = some false),
  fun K => !(ga K "Ratio" == ga K "Step"),
  fun K => slTB K (ga K "Step"),
  fun K => eqO (PySem.W.findIn K (.ref (ga K "Ratio")) (dunderR "mul")) (some none) && decide (PySem.W.subIn K (.ref (ga K "Ratio")) (.ref (ga K "Step")) = some false),
  fun K => PySem.W.notFirst K (ga K "Ratio") (.type "int")]
def fa8 : List FaE := [
  fun K => smOk K (ga K "Ratio") "of"]
def fa : List FaE := (fa0 ++ (fa1 ++ (fa2 ++ (fa3 ++ (fa4 ++ (fa5 ++ (fa6 ++ (fa7 ++ fa8))))))))
abbrev R : PySem.W.OpenRow := PySem.W.OpenLaw.row PySem.Challenge.rw_whosefirst_k05_steps_add_up
abbrev hk : PySem.W.Hook := hookE 5 fa fn
def ob (s : PySem.W.SharedT) : AlD := obsEG 5 fa fn (HandSHeadRun.getT s)
theorem ob_eq (s : PySem.W.SharedT) : ob s = hk.obs s.abs := obsEG_eq (HandSHeadRun.getT_eq s)
def loose0 : List Str := ["_wall", "DIGITS", "is_integer", "is_within", "is_listed", "FirstError", "BadRatio", "BadStep", "BadNumber", "Unlike", "BadText", "MOST_DIGITS", "BLOCK_LENGTH", "Words", "are_digits", "digits_of", "Ratio", "sign_of", "is_ratio", "are_ratios", "as_ratio", "over_one_bottom", "ratio_of_word", "take_ratio", "MOST_AXES", "asked_ratio", "is_axes", "ask_axes"]
def loose1 : List Str := ["ask_equal_axes", "Step", "ask_other", "square_of", "kind_of", "product_of", "_law_sack", "_law_take", "_law_of", "_law_plain", "_law_forward", "_law_made", "_law_is", "_law_times", "_law_kind", "_law_step_right", "_law_sums_right", "_law_shared_right", "_law_forward_right"]
def loose : List Str := loose0 ++ loose1
end GH
set_option maxHeartbeats 0
namespace GH
open PySem PySem.Spec PyProof.Rows L2 He
theorem run (w : World) : HandSHeadRun.RunEqI R (PySem.W.view R.prog [0, 55]) hk ob 6000 loose w := by
  unfold HandSHeadRun.RunEqI
  kernel_rfl
end GH
set_option maxHeartbeats 4000000
/-! G: what an expression of a def evaluates to, told by a word about the value that heaps which grow keep. -/
namespace G
open PySem PySem.Spec PyProof.Rows L2 Evl

/-! ### readings by meaning -/
def EW (X : Cx) (e : Expr) : TE := fun σ H Q => ∀ pins s, Inv X pins σ H s → wpAny (model X.prog X.w) X.A (eval e X.env) (EP X pins σ Q) X.xe s
def TW (X : Cx) (e : Expr) : TT := fun σ H Q => ∀ pins s, Inv X pins σ H s → wpAny (model X.prog X.w) X.A (isTrue e X.env (eval e X.env)) (TP X pins σ Q) X.xe s
def AW (X : Cx) (es : List Expr) : TA := fun σ H Q => ∀ pos pins s, Inv X pins σ H s → wpAny (model X.prog X.w) X.A (spliced (backTo pos (starEach es X.env))) (AP X pins σ Q) X.xe s
def KW (X : Cx) (kws : List Keyword) : TA := fun σ H Q => ∀ pos pins s, Inv X pins σ H s → wpAny (model X.prog X.w) X.A (evalAll ((backToKw pos (keywordEach kws X.env)).map (·.2))) (AP X pins σ Q) X.xe s
def SW (X : Cx) (st : Stmt) : TS := fun D σ H => ∀ pins s, Inv X pins σ H s → wpAny (model X.prog X.w) X.A (exec st X.env) (SP X pins D) X.xe s
def BW (X : Cx) (ss : List Stmt) : TS := fun D σ H => ∀ pins s, Inv X pins σ H s → wpAny (model X.prog X.w) X.A (execs ss X.env) (SP X pins D) X.xe s
section
variable {X : Cx} {e : Expr} {es : List Expr} {st : Stmt} {ss : List Stmt}
theorem pe_W : PE X e (EW X e) := ⟨fun pins s _ _ _ I h => h pins s I⟩
theorem pt_W : PT X e (TW X e) := ⟨fun pins s _ _ _ I h => h pins s I⟩
theorem pa_W : PA X es (AW X es) := ⟨fun pos pins s _ _ _ I h => h pos pins s I⟩
theorem pk_W {kws : List Keyword} : PK X kws (KW X kws) := ⟨fun pos pins s _ _ _ I h => h pos pins s I⟩
theorem ps_W : PS X st (SW X st) := ⟨fun pins s _ _ _ I h => h pins s I⟩
theorem pss_W : PSs X ss (BW X ss) := ⟨fun pins s _ _ _ I h => h pins s I⟩
end

/-! ### words about values -/
abbrev Rep := V → Hp → Prop
class Mono (P : Rep) : Prop where
  up : ∀ {v : V} {H H' : Hp}, Ex H H' → P v H → P v H'
def IsV (a : V) : Rep := fun v _ => v = a
abbrev IsI (i : Int) : Rep := IsV (.int i)
abbrev IsB (b : Bool) : Rep := IsV (.bl b)
abbrev IsS (z : Str) : Rep := IsV (.str z)
instance {a : V} : Mono (IsV a) := ⟨fun _ h => h⟩
/-- one after another -/
def All2 {α : Type} (R : α → Rep) : List α → List V → Hp → Prop
  | [], xs, _ => xs = []
  | a :: as, xs, H => ∃ x r, xs = x :: r ∧ R a x H ∧ All2 R as r H
theorem All2.up {α : Type} {R : α → Rep} (hR : ∀ a, Mono (R a)) {H H' : Hp} (e : Ex H H') : ∀ {as : List α} {xs : List V}, All2 R as xs H → All2 R as xs H'
  | [], _, h => h
  | a :: as, _, ⟨x, r, hx, h, t⟩ => ⟨x, r, hx, (hR a).up e h, All2.up hR e t⟩
theorem All2.length {α : Type} {R : α → Rep} {H : Hp} : ∀ {as : List α} {xs : List V}, All2 R as xs H → xs.length = as.length
  | [], _, h => by rw [show _ = _ from h]; rfl
  | a :: as, _, ⟨x, r, hx, h, t⟩ => by rw [hx, List.length_cons, List.length_cons, All2.length t]
theorem All2.get {α : Type} {R : α → Rep} {H : Hp} : ∀ {as : List α} {xs : List V} {i : Nat} {x : V}, All2 R as xs H → xs[i]? = some x → ∃ a, as[i]? = some a ∧ R a x H
  | [], _, i, x, h, hx => by rw [show _ = _ from h] at hx; simp at hx
  | a :: as, _, 0, x, ⟨y, r, hy, h, t⟩, hx => by
    subst hy
    cases (Option.some.inj (show some y = some x from by simpa using hx))
    exact ⟨a, rfl, h⟩
  | a :: as, _, i + 1, x, ⟨y, r, hy, h, t⟩, hx => by
    subst hy
    obtain ⟨b, hb, hr⟩ := All2.get t (show r[i]? = some x from by simpa using hx)
    exact ⟨b, by simpa using hb, hr⟩
theorem All2.get2 {α : Type} {R : α → Rep} {H : Hp} : ∀ {as : List α} {xs : List V} {i : Nat} {a : α}, All2 R as xs H → as[i]? = some a → ∃ x, xs[i]? = some x ∧ R a x H
  | [], _, i, a, h, ha => by simp at ha
  | b :: as, _, 0, a, ⟨y, r, hy, h, t⟩, ha => by
    subst hy
    cases (Option.some.inj (show some b = some a from by simpa using ha))
    exact ⟨y, rfl, h⟩
  | b :: as, _, i + 1, a, ⟨y, r, hy, h, t⟩, ha => by
    subst hy
    obtain ⟨x, hx, hr⟩ := All2.get2 t (show as[i]? = some a from by simpa using ha)
    exact ⟨x, by simpa using hx, hr⟩
theorem All2.snoc {α : Type} {R : α → Rep} {H : Hp} {b : α} {y : V} (hb : R b y H) : ∀ {as : List α} {xs : List V}, All2 R as xs H → All2 R (as ++ [b]) (xs ++ [y]) H
  | [], _, h => by rw [show _ = _ from h]; exact ⟨y, [], rfl, hb, rfl⟩
  | a :: as, _, ⟨x, r, hx, h, t⟩ => by
    subst hx
    exact ⟨x, r ++ [y], rfl, h, All2.snoc hb t⟩
theorem All2.drop {α : Type} {R : α → Rep} {H : Hp} : ∀ (n : Nat) {as : List α} {xs : List V}, All2 R as xs H → All2 R (as.drop n) (xs.drop n) H
  | 0, _, _, h => h
  | n + 1, [], _, h => by rw [show _ = _ from h]; exact rfl
  | n + 1, a :: as, _, ⟨x, r, hx, h, t⟩ => by
    subst hx
    exact All2.drop n t
theorem All2.map {α β : Type} {R : α → Rep} {S : β → Rep} {f : α → β} {H : Hp} (hf : ∀ a v, R a v H → S (f a) v H) : ∀ {as : List α} {xs : List V}, All2 R as xs H → All2 S (as.map f) xs H
  | [], _, h => h
  | a :: as, _, ⟨x, r, hx, h, t⟩ => ⟨x, r, hx, hf a x h, All2.map hf t⟩
theorem all2_ints {H : Hp} : ∀ {ns : List Int} {xs : List V}, All2 IsI ns xs H → xs = ns.map V.int
  | [], _, h => h
  | n :: ns, _, ⟨x, r, hx, h, t⟩ => by
    rw [hx, show x = _ from h, all2_ints t]
    rfl
theorem ints_all2 {H : Hp} : ∀ {ns : List Int}, All2 IsI ns (ns.map V.int) H
  | [] => rfl
  | n :: ns => ⟨_, _, rfl, rfl, ints_all2⟩
/-- a list, a tuple of these -/
def IsL {α : Type} (R : α → Rep) (as : List α) : Rep := fun v H => ∃ a xs, v = .ref a ∧ H a = some (.lst xs) ∧ All2 R as xs H
def IsT {α : Type} (R : α → Rep) (as : List α) : Rep := fun v H => ∃ a xs, v = .ref a ∧ H a = some (.tup xs) ∧ All2 R as xs H
instance {α : Type} {R : α → Rep} {as : List α} [hR : ∀ a, Mono (R a)] : Mono (IsL R as) := ⟨fun e ⟨a, xs, hv, ha, h⟩ => ⟨a, xs, hv, e a _ ha, h.up hR e⟩⟩
instance {α : Type} {R : α → Rep} {as : List α} [hR : ∀ a, Mono (R a)] : Mono (IsT R as) := ⟨fun e ⟨a, xs, hv, ha, h⟩ => ⟨a, xs, hv, e a _ ha, h.up hR e⟩⟩
/-- words one by one -/
def Args : List Rep → List V → Hp → Prop
  | [], xs, _ => xs = []
  | P :: Ps, xs, H => ∃ x r, xs = x :: r ∧ P x H ∧ Args Ps r H
def TupOf (Ps : List Rep) : Rep := fun v H => ∃ a xs, v = .ref a ∧ H a = some (.tup xs) ∧ Args Ps xs H
def LstOf (Ps : List Rep) : Rep := fun v H => ∃ a xs, v = .ref a ∧ H a = some (.lst xs) ∧ Args Ps xs H
theorem args_len {H : Hp} : ∀ {Ps : List Rep} {xs : List V}, Args Ps xs H → xs.length = Ps.length
  | [], _, h => by rw [show _ = _ from h]; rfl
  | P :: Ps, _, ⟨x, r, hx, _, t⟩ => by rw [hx, List.length_cons, List.length_cons, args_len t]
class MonoA (Ps : List Rep) : Prop where
  up : ∀ {xs : List V} {H H' : Hp}, Ex H H' → Args Ps xs H → Args Ps xs H'
instance : MonoA [] := ⟨fun _ h => h⟩
instance {P : Rep} {Ps : List Rep} [hP : Mono P] [hR : MonoA Ps] : MonoA (P :: Ps) := ⟨fun e ⟨x, r, hx, h, t⟩ => ⟨x, r, hx, hP.up e h, hR.up e t⟩⟩
instance {Ps : List Rep} [h : MonoA Ps] : Mono (TupOf Ps) := ⟨fun e ⟨a, xs, hv, ha, q⟩ => ⟨a, xs, hv, e a _ ha, h.up e q⟩⟩
instance {Ps : List Rep} [h : MonoA Ps] : Mono (LstOf Ps) := ⟨fun e ⟨a, xs, hv, ha, q⟩ => ⟨a, xs, hv, e a _ ha, h.up e q⟩⟩

/-! ### what evaluates to what -/
def EvP (te : TE) (σ : L2.St) (H : Hp) (P : Rep) : Prop := ∀ H1, Ex H H1 → ∀ Q : VK, (∀ v H2, Ex H1 H2 → P v H2 → Q v H2) → te σ H1 Q
def EvAP (ta : TA) (σ : L2.St) (H : Hp) (P : List V → Hp → Prop) : Prop := ∀ H1, Ex H H1 → ∀ Q : List V → Hp → Prop, (∀ vs H2, Ex H1 H2 → P vs H2 → Q vs H2) → ta σ H1 Q
abbrev EG (X : Cx) (e : Expr) (σ : L2.St) (H : Hp) (P : Rep) : Prop := EvP (EW X e) σ H P
abbrev TG (X : Cx) (e : Expr) (σ : L2.St) (H : Hp) (b : Bool) : Prop := EvT (TW X e) σ H b
abbrev AG (X : Cx) (es : List Expr) (σ : L2.St) (H : Hp) (Ps : List Rep) : Prop := EvAP (AW X es) σ H (Args Ps)
abbrev KG (X : Cx) (ks : List Keyword) (σ : L2.St) (H : Hp) (Ps : List Rep) : Prop := EvAP (KW X ks) σ H (Args Ps)
theorem eg_of {X : Cx} {e : Expr} {t : TE} {σ : L2.St} {H : Hp} {P : Rep} (h : PE X e t) (v : EvP t σ H P) : EG X e σ H P := fun H1 e1 Q q pins s I => h.run pins s σ H1 Q I (v H1 e1 Q q)
theorem tg_of {X : Cx} {e : Expr} {t : TT} {σ : L2.St} {H : Hp} {b : Bool} (h : PT X e t) (v : EvT t σ H b) : TG X e σ H b := fun H1 e1 Q q pins s I => h.run pins s σ H1 Q I (v H1 e1 Q q)
theorem ag_of {X : Cx} {es : List Expr} {t : TA} {σ : L2.St} {H : Hp} {P : List Rep} (h : PA X es t) (v : EvAP t σ H (Args P)) : AG X es σ H P := fun H1 e1 Q q pos pins s I => h.run pos pins s σ H1 Q I (v H1 e1 Q q)
theorem EvP.imp {te : TE} {σ : L2.St} {H : Hp} {P P' : Rep} (h : EvP te σ H P) (i : ∀ v H', Ex H H' → P v H' → P' v H') : EvP te σ H P' := fun H1 e Q q => h H1 e Q fun v H2 e2 p => q v H2 e2 (i v H2 (e.trans e2) p)
theorem EvP.at {te : TE} {σ : L2.St} {H H' : Hp} {P : Rep} (h : EvP te σ H P) (e : Ex H H') : EvP te σ H' P := fun H1 e1 Q q => h H1 (e.trans e1) Q q
theorem TG.is {X : Cx} {e : Expr} {σ : L2.St} {H : Hp} {b c : Bool} (h : TG X e σ H b) (q : b = c) : TG X e σ H c := q ▸ h
theorem EvP.int {te : TE} {σ : L2.St} {H : Hp} {i j : Int} (h : EvP te σ H (IsI i)) (q : i = j) : EvP te σ H (IsI j) := q ▸ h
theorem EvP.bl {te : TE} {σ : L2.St} {H : Hp} {i j : Bool} (h : EvP te σ H (IsB i)) (q : i = j) : EvP te σ H (IsB j) := q ▸ h

section
variable {X : Cx} {σ : L2.St} {H : Hp} {a b c e : Expr} {es : List Expr} {pos p : Pos} {P P1 P2 : Rep} {Ps : List Rep}

/-! ### readings -/
theorem ep_op {r : R2} {ta tb : TE} [hm : Mono P1] (ha : EvP ta σ H P1) (hb : EvP tb σ H P2)
    (hr : ∀ x y H1, Ex H H1 → P1 x H1 → P2 y H1 → ∀ Q : VK, (∀ z H2, Ex H1 H2 → P z H2 → Q z H2) → r x y H1 Q) : EvP (tOp r ta tb) σ H P := fun H1 e Q q =>
  ha H1 e _ fun x H2 e2 px => hb H2 (e.trans e2) _ fun y H3 e3 py => hr x y H3 ((e.trans e2).trans e3) (hm.up e3 px) py Q fun z H4 e4 pz => q z H4 ((e2.trans e3).trans e4) pz
theorem ep_un {r : V → Hp → VK → Prop} {ta : TE} (ha : EvP ta σ H P1) (hr : ∀ x H1, Ex H H1 → P1 x H1 → ∀ Q : VK, (∀ z H2, Ex H1 H2 → P z H2 → Q z H2) → r x H1 Q) : EvP (tUn r ta) σ H P := fun H1 e Q q =>
  ha H1 e _ fun x H2 e2 px => hr x H2 (e.trans e2) px Q fun z H3 e3 pz => q z H3 (e2.trans e3) pz
theorem ep_cb {r : List V → Hp → VK → Prop} {ta : TA} {PA : List V → Hp → Prop} (ha : EvAP ta σ H PA) (hr : ∀ vs H1, Ex H H1 → PA vs H1 → ∀ Q : VK, (∀ z H2, Ex H1 H2 → P z H2 → Q z H2) → r vs H1 Q) : EvP (tCB r ta) σ H P := fun H1 e Q q =>
  ha H1 e _ fun vs H2 e2 pv => hr vs H2 (e.trans e2) pv Q fun z H3 e3 pz => q z H3 (e2.trans e3) pz

/-! ### names, constants -/
theorem eg_var (i : Nat) {x : Str} {v : V} (hv : σ[i]? = some (some v)) (h : P v H) [hm : Mono P] (hN : X.N[i]? = some x := by rfl) (hs : Vis X.env.scope x := by first | exact Or.inl rfl | exact Or.inr (Or.inl rfl) | exact Or.inr (Or.inr rfl))
    (hd : (x == ("__debug__" : Str)) = false := by decide) (hcd : (x == ("__classdict__" : Str)) = false := by decide) : EG X (.Name x pos) σ H P :=
  eg_of (pe_var hN hs hd hcd) fun H1 e Q q => ⟨v, hv, q v H1 (Ex.refl H1) (hm.up e h)⟩
theorem eg_c {v : V} {t : TE} (h : PE X e (tC v)) : EG X e σ H (IsV v) := eg_of h fun H1 _ Q q => q v H1 (Ex.refl H1) rfl
theorem eg_int {i : Int} {j : Nat} : EG X (.Constant (.int i) j pos) σ H (IsI i) := eg_of pe_int fun H1 _ Q q => q _ H1 (Ex.refl H1) rfl
theorem eg_bl {i : Bool} {j : Nat} : EG X (.Constant (.bool i) j pos) σ H (IsB i) := eg_of pe_bl fun H1 _ Q q => q _ H1 (Ex.refl H1) rfl
theorem eg_non {j : Nat} : EG X (.Constant .none j pos) σ H (IsV .non) := eg_of pe_non fun H1 _ Q q => q _ H1 (Ex.refl H1) rfl
theorem eg_str {z : Str} {j : Nat} : EG X (.Constant (.str z) j pos) σ H (IsS z) := eg_of pe_str fun H1 _ Q q => q _ H1 (Ex.refl H1) rfl
theorem eg_glob {x : Str} {v : V} {u : Value} (hm : X.mg x = some u) (r : RelV v u) (hg : Gl X x := by rfl) (hd : (x == ("__debug__" : Str)) = false := by decide) : EG X (.Name x pos) σ H (IsV v) :=
  eg_of (pe_glob hg hm r hd) fun H1 _ Q q => q _ H1 (Ex.refl H1) rfl
theorem eg_bltn {x : Str} {v : V} {u : Value} (hm : X.mg x = none) (hv : bootBuiltins x = some u) (r : RelV v u) (hg : Gl X x := by rfl) (hn : x ≠ "__name__" := by decide) (hd : (x == ("__debug__" : Str)) = false := by decide) : EG X (.Name x pos) σ H (IsV v) :=
  eg_of (pe_bltn hg hm hv r hn hd) fun H1 _ Q q => q _ H1 (Ex.refl H1) rfl

/-! ### ints -/
variable {i j : Int}
theorem eg_add (ha : EG X a σ H (IsI i)) (hb : EG X b σ H (IsI j)) : EG X (.BinOp a .Add b pos) σ H (IsI (i + j)) :=
  eg_of (pe_op op_add pe_W pe_W) (ep_op ha hb fun x y H1 _ px py Q q => ⟨i, j, px, py, q _ H1 (Ex.refl H1) rfl⟩)
theorem eg_sub (ha : EG X a σ H (IsI i)) (hb : EG X b σ H (IsI j)) : EG X (.BinOp a .Sub b pos) σ H (IsI (i - j)) :=
  eg_of (pe_op op_sub pe_W pe_W) (ep_op ha hb fun x y H1 _ px py Q q => ⟨i, j, px, py, q _ H1 (Ex.refl H1) rfl⟩)
theorem eg_mul (hc : CMulW i j) (ha : EG X a σ H (IsI i)) (hb : EG X b σ H (IsI j)) : EG X (.BinOp a .Mult b pos) σ H (IsI (i * j)) :=
  eg_of (pe_op op_mulW pe_W pe_W) (ep_op ha hb fun x y H1 _ px py Q q => ⟨i, j, px, py, hc, q _ H1 (Ex.refl H1) rfl⟩)
theorem eg_pow {k : Nat} (hk : k ≤ 1000) (hi : i.natAbs < 2 ^ 64) (ha : EG X a σ H (IsI i)) (hb : EG X b σ H (IsI (k : Int))) : EG X (.BinOp a .Pow b pos) σ H (IsI (i ^ k)) :=
  eg_of (pe_op op_pow pe_W pe_W) (ep_op ha hb fun x y H1 _ px py Q q => ⟨i, k, px, py, ⟨by omega, by omega, hi⟩, q _ H1 (Ex.refl H1) rfl⟩)
theorem eg_fdiv (hc : CDivW i j) (ha : EG X a σ H (IsI i)) (hb : EG X b σ H (IsI j)) : EG X (.BinOp a .FloorDiv b pos) σ H (IsI (i / j)) :=
  eg_of (pe_op op_fdivW pe_W pe_W) (ep_op ha hb fun x y H1 _ px py Q q => ⟨i, j, px, py, hc, q _ H1 (Ex.refl H1) rfl⟩)
theorem eg_mod (hc : 0 < j) (ha : EG X a σ H (IsI i)) (hb : EG X b σ H (IsI j)) : EG X (.BinOp a .Mod b pos) σ H (IsI (i % j)) :=
  eg_of (pe_op op_mod pe_W pe_W) (ep_op ha hb fun x y H1 _ px py Q q => ⟨i, j, px, py, hc, q _ H1 (Ex.refl H1) rfl⟩)
theorem eg_neg (ha : EG X a σ H (IsI i)) : EG X (.UnaryOp .USub a pos) σ H (IsI (-i)) :=
  eg_of (pe_un un_neg pe_W) (ep_un ha fun x H1 _ px Q q => ⟨i, px, q _ H1 (Ex.refl H1) rfl⟩)

/-! ### comparisons -/
variable {bb bc : Bool}
def CW (X : Cx) (op : CmpOp) : R2 := fun x y H Q => ∀ pins s σ v u, Inv X pins σ H s → RelV x v → RelV y u → wpAny (model X.prog X.w) X.A (compareOp op v u) (EP X pins σ Q) X.xe s
theorem op_W {op : CmpOp} : OpR X (compareOp op) (CW X op) := fun pins s σ H x y v u Q I rx ry h => h pins s σ v u I rx ry
abbrev CG (X : Cx) (op : CmpOp) (a b : Expr) (σ : L2.St) (H : Hp) (bb : Bool) : Prop := EvP (tOp (CW X op) (EW X a) (EW X b)) σ H (IsB bb)
theorem cg_of {op : CmpOp} {r : R2} [Mono P1] (ho : OpR X (compareOp op) r) (ha : EG X a σ H P1) (hb : EG X b σ H P2)
    (hr : ∀ x y H1, Ex H H1 → P1 x H1 → P2 y H1 → ∀ Q : VK, (∀ H2, Ex H1 H2 → Q (.bl bb) H2) → r x y H1 Q) : CG X op a b σ H bb :=
  ep_op ha hb fun x y H1 e px py Q q pins s σ v u I rx ry => ho pins s σ H1 x y v u Q I rx ry (hr x y H1 e px py Q fun H2 e2 => q _ H2 e2 rfl)
theorem eg_cm {op : CmpOp} (h : CG X op a b σ H bb) (hm : behindInMarks op b = false := by first | exact nomark _ | rfl) : EG X (.Compare a [op] [b] pos) σ H (IsB bb) := eg_of (pe_cmpR op_W pe_W pe_W hm) h
theorem tg_cm {op : CmpOp} (h : CG X op a b σ H bb) (hm : behindInMarks op b = false := by first | exact nomark _ | rfl) : TG X (.Compare a [op] [b] pos) σ H bb :=
  tg_of (pt_cmpR op_W pe_W pe_W hm) fun H1 e Q q => h H1 e _ fun v H2 e2 pv => ⟨bb, pv, q H2 e2⟩
theorem cg_lt (ha : EG X a σ H (IsI i)) (hb : EG X b σ H (IsI j)) : CG X .Lt a b σ H (decide (i < j)) := cg_of op_lt ha hb fun x y H1 _ px py Q q => ⟨i, j, px, py, q H1 (Ex.refl H1)⟩
theorem cg_le (ha : EG X a σ H (IsI i)) (hb : EG X b σ H (IsI j)) : CG X .LtE a b σ H (decide (i ≤ j)) := cg_of op_le ha hb fun x y H1 _ px py Q q => ⟨i, j, px, py, q H1 (Ex.refl H1)⟩
theorem cg_gt (ha : EG X a σ H (IsI i)) (hb : EG X b σ H (IsI j)) : CG X .Gt a b σ H (decide (j < i)) := cg_of op_gt ha hb fun x y H1 _ px py Q q => ⟨i, j, px, py, q H1 (Ex.refl H1)⟩
theorem cg_ge (ha : EG X a σ H (IsI i)) (hb : EG X b σ H (IsI j)) : CG X .GtE a b σ H (decide (j ≤ i)) := cg_of op_ge ha hb fun x y H1 _ px py Q q => ⟨i, j, px, py, q H1 (Ex.refl H1)⟩
theorem dec_vint {i j : Int} : decide (V.int i = V.int j) = decide (i = j) := by rw [dec_int, Bool.beq_eq_decide_eq]
theorem dec_vstr {z w : Str} : decide (V.str z = V.str w) = decide (z = w) := by
  by_cases h : z = w
  · subst h; simp
  · rw [decide_eq_false h, decide_eq_false (fun q => h (V.str.inj q))]
theorem cg_eqV {v w : V} (hs : scal v w = true) (ha : EG X a σ H (IsV v)) (hb : EG X b σ H (IsV w)) : CG X .Eq a b σ H (decide (v = w)) := cg_of op_eq ha hb fun x y H1 _ px py Q q => by
  rw [show x = v from px, show y = w from py]
  exact ⟨hs, q H1 (Ex.refl H1)⟩
theorem cg_neV {v w : V} (hs : scal v w = true) (ha : EG X a σ H (IsV v)) (hb : EG X b σ H (IsV w)) : CG X .NotEq a b σ H (!decide (v = w)) := cg_of op_ne ha hb fun x y H1 _ px py Q q => by
  rw [show x = v from px, show y = w from py]
  exact ⟨hs, q H1 (Ex.refl H1)⟩
theorem cg_eqI (ha : EG X a σ H (IsI i)) (hb : EG X b σ H (IsI j)) : CG X .Eq a b σ H (decide (i = j)) := by
  rw [← dec_vint]
  exact cg_eqV rfl ha hb
theorem cg_neI (ha : EG X a σ H (IsI i)) (hb : EG X b σ H (IsI j)) : CG X .NotEq a b σ H (!decide (i = j)) := by
  rw [← dec_vint]
  exact cg_neV rfl ha hb
theorem cg_eqS {z w : Str} (ha : EG X a σ H (IsS z)) (hb : EG X b σ H (IsS w)) : CG X .Eq a b σ H (decide (z = w)) := by
  rw [← dec_vstr]
  exact cg_eqV rfl ha hb
theorem cg_neS {z w : Str} (ha : EG X a σ H (IsS z)) (hb : EG X b σ H (IsS w)) : CG X .NotEq a b σ H (!decide (z = w)) := by
  rw [← dec_vstr]
  exact cg_neV rfl ha hb
theorem cg_isN {v : V} {j : Nat} {p' : Pos} (ha : EG X a σ H (IsV v)) : CG X .Is a (.Constant .none j p') σ H (decide (v = .non)) :=
  cg_of (P2 := IsV .non) op_isN ha eg_non fun x y H1 _ px py Q q => ⟨py, by rw [show x = v from px]; exact q H1 (Ex.refl H1)⟩
theorem cg_isNot {v : V} {j : Nat} {p' : Pos} (ha : EG X a σ H (IsV v)) : CG X .IsNot a (.Constant .none j p') σ H (!decide (v = .non)) :=
  cg_of (P2 := IsV .non) op_notN ha eg_non fun x y H1 _ px py Q q => ⟨py, by rw [show x = v from px]; exact q H1 (Ex.refl H1)⟩
theorem CG.is {op : CmpOp} (h : CG X op a b σ H bb) (q : bb = bc) : CG X op a b σ H bc := q ▸ h

/-! ### tests, and, or -/
theorem tg_val (he : EG X e σ H (IsB bb)) (hp : ∀ whole, isTrue e X.env whole = (do let v ← whole; standAt e.pos; holding [v] (truthy v)) := by intro _; rfl) : TG X e σ H bb :=
  tg_of (pt_val pe_W hp) fun H1 e1 Q q => he H1 e1 _ fun v H2 e2 pv => ⟨bb, pv, q H2 e2⟩
theorem tg_not (h : TG X a σ H bb) : TG X (.UnaryOp .Not a pos) σ H (!bb) := tg_of (pt_not pt_W) (et_not h)
def WW (X : Cx) (e : Expr) : TT := fun σ H Q => ∀ (whole : Sem Value) pins s, Inv X pins σ H s → wpAny (model X.prog X.w) X.A (isTrue e X.env whole) (TP X pins σ Q) X.xe s
theorem pw_W : PW X e (WW X e) := ⟨fun wh pins s _ _ _ I h => h wh pins s I⟩
abbrev WG (X : Cx) (e : Expr) (σ : L2.St) (H : Hp) (b : Bool) : Prop := EvT (WW X e) σ H b
theorem wg_of {t : TT} (h : PW X e t) (v : EvT t σ H bb) : WG X e σ H bb := fun H1 e1 Q q wh pins s I => h.run wh pins s σ H1 Q I (v H1 e1 Q q)
theorem wg_and1 (h : TG X a σ H bb) : WG X (.BoolOp .And [a] pos) σ H bb := wg_of (pw_and1 pt_W) h
theorem wg_or1 (h : TG X a σ H bb) : WG X (.BoolOp .Or [a] pos) σ H bb := wg_of (pw_or1 pt_W) h
theorem wg_and {rest : List Expr} (h : TG X a σ H bb) (h2 : bb = true → WG X (.BoolOp .And (b :: rest) pos) σ H bc) : WG X (.BoolOp .And (a :: b :: rest) pos) σ H (bb && bc) := wg_of (pw_and pt_W pw_W) (et_and h h2)
theorem wg_or {rest : List Expr} (h : TG X a σ H bb) (h2 : bb = false → WG X (.BoolOp .Or (b :: rest) pos) σ H bc) : WG X (.BoolOp .Or (a :: b :: rest) pos) σ H (bb || bc) := wg_of (pw_or pt_W pw_W) (et_or h h2)
theorem tg_w (h : WG X e σ H bb) : TG X e σ H bb := fun H1 e1 Q q pins s I => h H1 e1 Q q _ pins s I
theorem eg_one {op} (h : EG X a σ H P) : EG X (.BoolOp op [a] pos) σ H P := eg_of (pe_one pe_W) h
theorem eg_and {rest : List Expr} (h : EG X a σ H (IsB bb)) (h2 : bb = true → EG X (.BoolOp .And (b :: rest) pos) σ H (IsB bc)) : EG X (.BoolOp .And (a :: b :: rest) pos) σ H (IsB (bb && bc)) :=
  eg_of (pe_and pe_W pe_W) fun H1 e1 Q q => h H1 e1 _ fun v H2 e2 pv => ⟨bb, pv, by
    cases bb with
    | true => rw [if_pos rfl]; exact h2 rfl H2 (e1.trans e2) Q fun w H3 e3 pw => q w H3 (e2.trans e3) pw
    | false => rw [if_neg Bool.false_ne_true]; exact q _ H2 e2 rfl⟩
theorem eg_or {rest : List Expr} (h : EG X a σ H (IsB bb)) (h2 : bb = false → EG X (.BoolOp .Or (b :: rest) pos) σ H (IsB bc)) : EG X (.BoolOp .Or (a :: b :: rest) pos) σ H (IsB (bb || bc)) :=
  eg_of (pe_or pe_W pe_W) fun H1 e1 Q q => h H1 e1 _ fun v H2 e2 pv => ⟨bb, pv, by
    cases bb with
    | false => rw [if_neg Bool.false_ne_true]; exact h2 rfl H2 (e1.trans e2) Q fun w H3 e3 pw => q w H3 (e2.trans e3) pw
    | true => rw [if_pos rfl]; exact q _ H2 e2 rfl⟩
theorem eg_not (h : EG X a σ H (IsB bb)) : EG X (.UnaryOp .Not a pos) σ H (IsB (!bb)) :=
  eg_of (pe_not pe_W) fun H1 e1 Q q => h H1 e1 _ fun v H2 e2 pv => ⟨bb, pv, q _ H2 e2 rfl⟩
theorem eg_if (hc : TG X c σ H bb) (h1 : bb = true → EG X a σ H P) (h2 : bb = false → EG X b σ H P) : EG X (.IfExp c a b pos) σ H P :=
  eg_of (pe_ifExp pt_W pe_W pe_W) fun H1 e1 Q q => hc H1 e1 _ fun H2 e2 => by
    cases bb with
    | true => rw [if_pos rfl]; exact h1 rfl H2 (e1.trans e2) Q fun w H3 e3 pw => q w H3 (e2.trans e3) pw
    | false => rw [if_neg Bool.false_ne_true]; exact h2 rfl H2 (e1.trans e2) Q fun w H3 e3 pw => q w H3 (e2.trans e3) pw

/-! ### arguments, displays -/
theorem ag_nil : AG X [] σ H [] := ag_of pa_nil fun H1 _ Q q => q [] H1 (Ex.refl H1) rfl
theorem ag_cons [hm : Mono P] (h : EG X e σ H P) (hr : AG X es σ H Ps) (hs : starEach (e :: es) X.env = (false, eval e X.env) :: starEach es X.env := by rfl) : AG X (e :: es) σ H (P :: Ps) :=
  ag_of (pa_cons pe_W pa_W hs) fun H1 e1 Q q => h H1 e1 _ fun v H2 e2 pv => hr H2 (e1.trans e2) _ fun vs H3 e3 pvs => q _ H3 (e2.trans e3) ⟨v, vs, rfl, hm.up e3 pv, pvs⟩
theorem eg_tup {x1} [hm : MonoA Ps] (h : AG X es σ H Ps) (hl : Ps.length ≤ 1000 := by decide) : EG X (.Tuple es x1 pos) σ H (TupOf Ps) :=
  eg_of (pe_tup pa_W) fun H1 e1 Q q => h H1 e1 _ fun vs H2 e2 pv => ⟨sz_of (Nat.le_trans (Nat.le_of_eq (args_len pv)) (Nat.le_trans hl (by decide))), fun p hp => q _ _ (e2.trans (Ex.new hp)) ⟨p, vs, rfl, upd_same, hm.up (Ex.new hp) pv⟩⟩
theorem eg_lst [hm : MonoA Ps] (h : AG X es σ H Ps) (hl : Ps.length ≤ 1000 := by decide) : EG X (.List es pos) σ H (LstOf Ps) :=
  eg_of (pe_lst pa_W) fun H1 e1 Q q => h H1 e1 _ fun vs H2 e2 pv => ⟨sz_of (Nat.le_trans (Nat.le_of_eq (args_len pv)) (Nat.le_trans hl (by decide))), fun p hp => q _ _ (e2.trans (Ex.new hp)) ⟨p, vs, rfl, upd_same, hm.up (Ex.new hp) pv⟩⟩
end
end G
set_option maxHeartbeats 4000000
namespace G
open PySem PySem.Spec PyProof.Rows L2 Evl

/-! ### a list that is hidden for a while: what does not know it leaves it -/
def hid (H : Hp) (D : Addr) : Hp := fun b => if b = D then none else H b
theorem hid_same {H : Hp} {D : Addr} : hid H D D = none := if_pos rfl
theorem hid_ne {H : Hp} {D b : Addr} (h : b ≠ D) : hid H D b = H b := if_neg h
theorem hid_upd {H : Hp} {D : Addr} {o : HO} (h : H D = none) : hid (upd H D o) D = H := by
  funext b
  by_cases e : b = D
  · rw [e, hid_same, h]
  · rw [hid_ne e, upd_ne e]
theorem upd_hid {H : Hp} {D : Addr} {o : HO} (h : H D = some o) : upd (hid H D) D o = H := by
  funext b
  by_cases e : b = D
  · rw [e, upd_same, h]
  · rw [upd_ne e, hid_ne e]
section
variable {X : Cx} {pins : List (Addr × Obj)} {σ σ' : L2.St} {H H2 : Hp} {s s2 : Shared} {D : Addr} {acc : List V}
theorem hide_ok (I : Inv X pins σ H s) (hD : H D = some (.lst acc)) : ∃ ob, s.heap.get? D = some ob ∧ Inv X ((D, ob) :: pins) σ (hid H D) s := by
  obtain ⟨hz, its, n, r, e⟩ := (show ObjOk X.prog X.w H s.heap D (.lst acc) from I.hok D _ hD)
  have neN : ∀ b, H b = none → b ≠ D := fun b q z => by rw [z, hD] at q; cases q
  refine ⟨_, e, I.ok, I.os, I.bare, ⟨I.base.keep, I.base.slot, fun b o q n hx => ?_, I.base.there, fun b xs q => ?_, fun b o u q => ?_, fun b ps q => ?_⟩, I.loc, I.cell, ?_, fun x c q => ?_, fun p hp => ?_, fun b u q => ?_, I.len⟩
  · have z := I.base.free b o q n hx
    rw [hid_ne (neN b z)]
    exact z
  · have z := I.base.tups b xs q
    rw [hid_ne (ne_of z hD (by intro y; cases y))]
    exact z
  · have z := I.base.frzs b o u q
    rw [hid_ne (ne_of z hD (by intro y; cases y))]
    exact z
  · obtain ⟨m, z⟩ := I.base.tbls b ps q
    exact ⟨m, by rw [hid_ne (ne_of z hD (by intro y; cases y))]; exact z⟩
  · rw [hid_ne (neN _ I.free)]
    exact I.free
  · rw [hid_ne (neN _ (I.freeC x c q))]
    exact I.freeC x c q
  · rcases List.mem_append.mp hp with hp | hp
    · obtain ⟨a1, a2, a3, a4, a5⟩ := I.pin p (List.mem_append_left _ hp)
      exact ⟨a1, by rw [hid_ne (neN _ a2)]; exact a2, a3, a4, a5⟩
    · rcases List.mem_cons.mp hp with hp | hp
      · subst hp
        refine ⟨e, hid_same, fun z => ?_, fun z => ?_, fun v z => ?_⟩
        · have y := I.free
          rw [← z, hD] at y
          cases y
        · obtain ⟨_, o, ho, _⟩ := I.ok.funs.mem z
          have y := I.base.free _ o ho (I.ok.frf _ z) fun q => I.ok.exfs _ q z
          rw [hD] at y
          cases y
        · cases z
      · obtain ⟨a1, a2, a3, a4, a5⟩ := I.pin p (List.mem_append_right _ hp)
        exact ⟨a1, by rw [hid_ne (neN _ a2)]; exact a2, a3, a4, a5⟩
  · have hb : b ≠ D := fun z => by rw [z, hid_same] at q; cases q
    rw [hid_ne hb] at q
    exact (I.hok b u q).stay (fun _ _ _ y => y) (fun c y => by rw [hid_ne (ne_of y hD (by intro z; cases z))]; exact y) fun c xs y => by rw [hid_ne (ne_of y hD (by intro z; cases z))]; exact y
theorem show_ok {ob : Obj} (I : Inv X pins σ H s) (hD : H D = some (.lst acc)) (e : s.heap.get? D = some ob) (J : Inv X ((D, ob) :: pins) σ' H2 s2) : H2 D = none ∧ Inv X pins σ' (upd H2 D (.lst acc)) s2 := by
  obtain ⟨hz, its, n, r, e'⟩ := (show ObjOk X.prog X.w H s.heap D (.lst acc) from I.hok D _ hD)
  rw [e] at e'
  cases e'
  obtain ⟨p1, p2, p3, p4, p5⟩ := J.pin (D, _) (List.mem_append_right _ (List.mem_cons_self ..))
  have p2' : H2 D = none := p2
  have neS : ∀ {b : Addr} {o : HO}, H2 b = some o → b ≠ D := fun {b o} q z => by rw [z, p2'] at q; cases q
  refine ⟨p2', J.ok, J.os, J.bare, ⟨J.base.keep, J.base.slot, fun b o q n hx => ?_, J.base.there, fun b xs q => ?_, fun b o u q => ?_, fun b ps q => ?_⟩, J.loc, J.cell, ?_, fun x c q => ?_, fun p hp => ?_, fun b u q => ?_, J.len⟩
  · have z := J.base.free b o q n hx
    have hb : b ≠ D := fun y => by
      have w := I.base.free b o q n hx
      rw [y, hD] at w
      cases w
    rw [upd_ne hb]
    exact z
  · have z := J.base.tups b xs q
    rw [upd_ne (neS z)]
    exact z
  · have z := J.base.frzs b o u q
    rw [upd_ne (neS z)]
    exact z
  · obtain ⟨m, z⟩ := J.base.tbls b ps q
    exact ⟨m, by rw [upd_ne (neS z)]; exact z⟩
  · rw [upd_ne (Ne.symm p3)]
    exact J.free
  · have y := J.freeC x c q
    obtain ⟨v, o, ho, hd⟩ := J.cell x c q
    have hc : c ≠ D := fun z => by
      rw [z] at ho
      have w : some o = some _ := ho.symm.trans p1
      cases w
      exact p5 _ hd
    rw [upd_ne hc]
    exact y
  · have hm : p ∈ X.pn ++ (D, { cls := Value.type "list", data := Data.seq its.toArray n }) :: pins := by
      rcases List.mem_append.mp hp with hp | hp
      · exact List.mem_append_left _ hp
      · exact List.mem_append_right _ (List.mem_cons_of_mem _ hp)
    obtain ⟨a1, a2, a3, a4, a5⟩ := J.pin p hm
    have hb : p.1 ≠ D := fun z => by
      obtain ⟨_, w, _⟩ := I.pin p hp
      rw [z, hD] at w
      cases w
    exact ⟨a1, by rw [upd_ne hb]; exact a2, a3, a4, a5⟩
  · by_cases hb : b = D
    · subst hb
      rw [upd_same] at q
      cases q
      exact ⟨hz, its, n, r, p1⟩
    · rw [upd_ne hb] at q
      exact (J.hok b u q).stay (fun _ _ _ y => y) (fun c y => by rw [upd_ne (neS y)]; exact y) fun c xs y => by rw [upd_ne (neS y)]; exact y
/-- THE FRAME RULE for expressions, tests -/
theorem ew_hid {e : Expr} {Q : VK} (hD : H D = some (.lst acc)) (h : EW X e σ (hid H D) fun v H2 => H2 D = none → Q v (upd H2 D (.lst acc))) : EW X e σ H Q := fun pins s I => by
  obtain ⟨ob, e1, J⟩ := hide_ok I hD
  refine thn (h _ s J) fun u s1 ⟨v, H1, J1, r1, q1⟩ => ?_
  obtain ⟨n1, I1⟩ := show_ok I hD e1 J1
  exact ⟨v, _, I1, r1, q1 n1⟩
theorem tw_hid {e : Expr} {Q : Bool → Hp → Prop} (hD : H D = some (.lst acc)) (h : TW X e σ (hid H D) fun v H2 => H2 D = none → Q v (upd H2 D (.lst acc))) : TW X e σ H Q := fun pins s I => by
  obtain ⟨ob, e1, J⟩ := hide_ok I hD
  refine thn (h _ s J) fun u s1 ⟨H1, J1, q1⟩ => ?_
  obtain ⟨n1, I1⟩ := show_ok I hD e1 J1
  exact ⟨_, I1, q1 n1⟩
theorem aw_hid {es : List Expr} {Q : List V → Hp → Prop} (hD : H D = some (.lst acc)) (h : AW X es σ (hid H D) fun v H2 => H2 D = none → Q v (upd H2 D (.lst acc))) : AW X es σ H Q := fun pos pins s I => by
  obtain ⟨ob, e1, J⟩ := hide_ok I hD
  refine thn (h pos _ s J) fun u s1 ⟨v, H1, J1, r1, q1⟩ => ?_
  obtain ⟨n1, I1⟩ := show_ok I hD e1 J1
  exact ⟨v, _, I1, r1, q1 n1⟩
end

/-! ### calls -/
def SpG (sp : Sp) (vs : List V) (H : Hp) (P : Rep) : Prop := ∀ Q : VK, (∀ v H2, Ex H H2 → P v H2 → Q v H2) → sp vs H Q E0
/-- a def under a global's name -/
structure Cal (P : Program) (w : World) (K : PySem.W.Frag) (mg : Str → Option Value) (base : Heap) (x : Str) (k : Nat) (dvs : List V) (sp : Sp) : Prop where
  ex : ∃ f fd ps ds, FnOk P w K mg base CX0 k f fd ps sp ∧ mg x = some (.ref f) ∧ PySem.W.keepIn K (.ref f) = true ∧ Binds K fd ps ds ∧ Vals dvs ds
/-- a method of the class at C -/
structure MCal (P : Program) (w : World) (K : PySem.W.Frag) (mg : Str → Option Value) (base : Heap) (C : Addr) (m : Str) (k : Nat) (dvs : List V) (sp : Sp) : Prop where
  ex : ∃ f fd ps ds, FnOk P w K mg base CX0 k f fd ps sp ∧ Meth K C m f ∧ Binds K fd ps ds ∧ Vals dvs ds
/-- a class that is made -/
structure KCal (P : Program) (w : World) (K : PySem.W.Frag) (mg : Str → Option Value) (base : Heap) (x : Str) (C : Addr) (k : Nat) (dvs : List V) (sp : Sp) : Prop where
  ex : ∃ f fd ps ds, FnOk P w K mg base CX0 k f fd ps sp ∧ Mk K C f ∧ mg x = some (.ref C) ∧ Binds K fd ps ds ∧ Vals dvs ds
/-- what a static method of the class at C must be: p the staticmethod object -/
structure SMeth (K : PySem.W.Frag) (C : Addr) (m : Str) (f : Addr) : Prop where
  ga : PySem.W.specialIn K (.ref C) "__getattribute__" = some (some (.builtin "type.__getattribute__"))
  ty : ∃ mc p rest, PySem.W.typeIn K (.ref C) = some mc ∧ PySem.W.readsIn K C mc = true ∧ PySem.W.findCls K (.ref C) mc m = some (.get (.builtin "staticmethod.__get__") (.ref p) .none (.ref C)) ∧ PySem.W.recIn K p "staticmethod" = some (.ref f :: rest)
  kp : PySem.W.keepIn K (.ref f) = true
structure SCal (P : Program) (w : World) (K : PySem.W.Frag) (mg : Str → Option Value) (base : Heap) (x : Str) (m : Str) (k : Nat) (dvs : List V) (sp : Sp) : Prop where
  ex : ∃ C f fd ps ds, FnOk P w K mg base CX0 k f fd ps sp ∧ mg x = some (.ref C) ∧ SMeth K C m f ∧ Binds K fd ps ds ∧ Vals dvs ds
/-- the promise of what changes nothing: from words about the arguments to a word about the value -/
def PSp {α : Type} (Ps : α → List Rep) (Post : α → Rep) : Sp := fun vs H Q _ => ∃ a, Args (Ps a) vs H ∧ ∀ v H', Ex H H' → Post a v H' → Q v H'
/-- of an __init__ that only sets fields -/
def ISp {α : Type} (C : Addr) (Ps : α → List Rep) (Fl : α → List (Str × V) → Hp → Prop) : Sp := fun vs H Q _ => ∃ a p dx args, vs = .ref p :: args ∧ H p = some (.ins C dx []) ∧ Args (Ps a) args H ∧
  ∀ H' fs, (∀ b o, b ≠ p → H b = some o → H' b = some o) → H' p = some (.ins C dx fs) → Fl a fs H' → Q .non H'
def Ins (C : Addr) (F : List (Str × V) → Hp → Prop) : Rep := fun v H => ∃ a dx fs, v = .ref a ∧ H a = some (.ins C dx fs) ∧ F fs H

section
variable {X : Cx} {σ : L2.St} {H : Hp} {a b c e o : Expr} {es : List Expr} {pos p apos : Pos} {P P1 P2 : Rep} {Ps : List Rep} {x m : Str} {k : Nat} {dvs : List V} {sp : Sp} {C : Addr}
theorem eg_call (D : Cal X.prog X.w X.K X.mg X.base x k dvs sp) (hr : Room k X.A) (ha : AG X (e :: es) σ H Ps) (hs : ∀ vs H1, Ex H H1 → Args Ps vs H1 → SpG sp (vs ++ dvs) H1 P) (hg : Gl X x := by rfl) (hdb : (x == ("__debug__" : Str)) = false := by decide)
    (he : starEach (e :: es) X.env = (false, eval e X.env) :: starEach es X.env := by rfl) (hpl : (backTo pos (starEach es X.env)).any (·.1) = false := by rfl) : EG X (.Call (.Name x p) (e :: es) [] pos) σ H P := by
  obtain ⟨f, fd, ps, ds, F, hm, hk, hb, hd⟩ := D.ex
  refine eg_of (pe_call F hr hg hm hk hb hd pass0 pa_W hdb he hpl) fun H1 e1 Q q => ha H1 e1 _ fun vs H2 e2 pv => ?_
  exact hs vs H2 (e1.trans e2) pv Q fun v H3 e3 pv => q v H3 (e2.trans e3) pv
theorem eg_callP {α : Type} {Qs : α → List Rep} {Post : α → Rep} (t : α) (D : Cal X.prog X.w X.K X.mg X.base x k [] (PSp Qs Post)) (hr : Room k X.A) (ha : AG X (e :: es) σ H (Qs t)) (hg : Gl X x := by rfl) (hdb : (x == ("__debug__" : Str)) = false := by decide)
    (he : starEach (e :: es) X.env = (false, eval e X.env) :: starEach es X.env := by rfl) (hpl : (backTo pos (starEach es X.env)).any (·.1) = false := by rfl) (hp : ∀ v H, Post t v H → P v H := by exact fun _ _ h => h) : EG X (.Call (.Name x p) (e :: es) [] pos) σ H P :=
  eg_call D hr ha (fun vs H1 _ h Q q => ⟨t, by rw [List.append_nil]; exact h, fun v H2 e2 h2 => q v H2 e2 (hp v H2 h2)⟩) hg hdb he hpl
theorem eg_meth {pl : Sem Bool} (c : Cls X.K C) (D : MCal X.prog X.w X.K X.mg X.base C m k dvs sp) (hr : Room k X.A) [h1 : Mono P1] (ho : EG X o σ H P1) (hi : ∀ v H1, P1 v H1 → ∃ a dx fs, v = .ref a ∧ H1 a = some (.ins C dx fs) ∧ fs.lookup m = none)
    (ha : AG X (e :: es) σ H Ps) (hs : ∀ v vs H1, Ex H H1 → P1 v H1 → Args Ps vs H1 → SpG sp (v :: (vs ++ dvs)) H1 P)
    (hst : starEach (e :: es) X.env = (false, eval e X.env) :: starEach es X.env := by rfl) (hpl : (backTo pos (starEach es X.env)).any (·.1) = false := by rfl)
    (ht : eval (.Call (.Attribute o m apos) (e :: es) [] pos) X.env = (do
      let ov ← eval o X.env
      standAt apos.atName
      let (f, first) ← holding [ov] (getMethod ov m pl)
      callWith pos f first (backTo pos (starEach (e :: es) X.env)) (backToKw pos (keywordEach [] X.env))) := by rfl) : EG X (.Call (.Attribute o m apos) (e :: es) [] pos) σ H P := by
  obtain ⟨f, fd, ps, ds, F, hm, hb, hd⟩ := D.ex
  refine eg_of (pe_meth pe_W c hm F hr hb hd pass0 pa_W hst hpl ht) fun H1 e1 Q q => ho H1 e1 _ fun v H2 e2 pv => ?_
  obtain ⟨aa, dx, fs, e3, e4, e5⟩ := hi v H2 pv
  refine ⟨aa, dx, fs, e3, e4, e5, ha H2 (e1.trans e2) _ fun vs H3 e6 pvs => ?_⟩
  exact hs v vs H3 ((e1.trans e2).trans e6) (h1.up e6 pv) pvs Q fun v H3 e7 pv => q v H3 ((e2.trans e6).trans e7) pv
theorem eg_meth0 {pl : Sem Bool} (c : Cls X.K C) (D : MCal X.prog X.w X.K X.mg X.base C m k dvs sp) (hr : Room k X.A) (ho : EG X o σ H P1) (hi : ∀ v H1, P1 v H1 → ∃ a dx fs, v = .ref a ∧ H1 a = some (.ins C dx fs) ∧ fs.lookup m = none)
    (hs : ∀ v H1, Ex H H1 → P1 v H1 → SpG sp (v :: dvs) H1 P)
    (ht : eval (.Call (.Attribute o m apos) [] [] pos) X.env = (do
      let ov ← eval o X.env
      standAt apos.atName
      let (f, first) ← holding [ov] (getMethod ov m pl)
      callWith pos f first (backTo pos (starEach [] X.env)) (backToKw pos (keywordEach [] X.env))) := by rfl) : EG X (.Call (.Attribute o m apos) [] [] pos) σ H P := by
  obtain ⟨f, fd, ps, ds, F, hm, hb, hd⟩ := D.ex
  refine eg_of (pe_meth0 pe_W c hm F hr hb hd pass0 ht) fun H1 e1 Q q => ho H1 e1 _ fun v H2 e2 pv => ?_
  obtain ⟨aa, dx, fs, e3, e4, e5⟩ := hi v H2 pv
  refine ⟨aa, dx, fs, e3, e4, e5, ?_⟩
  exact hs v H2 (e1.trans e2) pv Q fun v H3 e7 pv => q v H3 (e2.trans e7) pv
/-- C.m(e, ..), m a static method -/
theorem pe_smeth {pl : Sem Bool} {f : Addr} {fd : FuncData} {ps : List Str} {ds : List Value} {t : TA} (hm : X.mg x = some (.ref C)) (S : SMeth X.K C m f) (F : FnOk X.prog X.w X.K X.mg X.base CX0 k f fd ps sp) (hr : Room k X.A) (hb : Binds X.K fd ps ds) (hd : Vals dvs ds) (hg : Gl X x) (ha : PA X (e :: es) t)
    (hdb : (x == ("__debug__" : Str)) = false := by decide) (hst : starEach (e :: es) X.env = (false, eval e X.env) :: starEach es X.env := by rfl) (hpl : (backTo pos (starEach es X.env)).any (·.1) = false := by rfl)
    (ht : eval (.Call (.Attribute (.Name x p) m apos) (e :: es) [] pos) X.env = (do
      let ov ← eval (.Name x p) X.env
      standAt apos.atName
      let (f, first) ← holding [ov] (getMethod ov m pl)
      callWith pos f first (backTo pos (starEach (e :: es) X.env)) (backToKw pos (keywordEach [] X.env))) := by rfl) : PE X (.Call (.Attribute (.Name x p) m apos) (e :: es) [] pos) (tCall sp dvs E0 t) := by
  refine ⟨fun pins s σ H Q I h => ?_⟩
  refine PySem.W.methodCall_KW (pl := pl) (ld_glob I hg hm ?_ hdb) ht
  obtain ⟨mm, fr⟩ := I.fr
  obtain ⟨mc, pp, rest, h1, h2, h3, h4⟩ := S.ty
  refine PySem.W.method_of_cls fr I.ok.mod.kin S.ga (PySem.W.cls_sm fr I.ok.mod.kin h1 h2 h3 h4 rfl ?_)
  refine PySem.W.callWith_K (first := []) (h₀ := X.base) I.ok.mod.kin S.kp (thn (ha.run pos pins _ σ H _ (I.tok _) h) fun us s2 ⟨vs, H2, I2, r, q2⟩ => ⟨I2.kIn, ?_⟩) hst hpl
  exact run_fn (us := us) (vs := vs) F hr hb hd pass0 I2 r q2
theorem eg_scall {pl : Sem Bool} (D : SCal X.prog X.w X.K X.mg X.base x m k dvs sp) (hr : Room k X.A) (ha : AG X (e :: es) σ H Ps) (hs : ∀ vs H1, Ex H H1 → Args Ps vs H1 → SpG sp (vs ++ dvs) H1 P) (hg : Gl X x := by rfl) (hdb : (x == ("__debug__" : Str)) = false := by decide)
    (he : starEach (e :: es) X.env = (false, eval e X.env) :: starEach es X.env := by rfl) (hpl : (backTo pos (starEach es X.env)).any (·.1) = false := by rfl)
    (ht : eval (.Call (.Attribute (.Name x p) m apos) (e :: es) [] pos) X.env = (do
      let ov ← eval (.Name x p) X.env
      standAt apos.atName
      let (f, first) ← holding [ov] (getMethod ov m pl)
      callWith pos f first (backTo pos (starEach (e :: es) X.env)) (backToKw pos (keywordEach [] X.env))) := by rfl) : EG X (.Call (.Attribute (.Name x p) m apos) (e :: es) [] pos) σ H P := by
  obtain ⟨C, f, fd, ps, ds, F, hm, S, hb, hd⟩ := D.ex
  refine eg_of (pe_smeth hm S F hr hb hd hg pa_W hdb he hpl ht) fun H1 e1 Q q => ha H1 e1 _ fun vs H2 e2 pv => ?_
  exact hs vs H2 (e1.trans e2) pv Q fun v H3 e3 pv => q v H3 (e2.trans e3) pv
/-- C(e, ..) -/
theorem eg_make {α : Type} {Qs : α → List Rep} {Fl : α → List (Str × V) → Hp → Prop} (t : α) (D : KCal X.prog X.w X.K X.mg X.base x C k dvs (ISp C Qs Fl)) (hr : Room (k + 1) X.A) (ha : AG X (e :: es) σ H Ps) (hm : MonoA (Qs t)) (hv : ∀ vs H1, Args Ps vs H1 → Args (Qs t) (vs ++ dvs) H1) (hg : Gl X x := by rfl)
    (hdb : (x == ("__debug__" : Str)) = false := by decide) (he : starEach (e :: es) X.env = (false, eval e X.env) :: starEach es X.env := by rfl) (hpl : (backTo pos (starEach es X.env)).any (·.1) = false := by rfl) (hp : ∀ v H, Ins C (Fl t) v H → P v H := by exact fun _ _ h => h) : EG X (.Call (.Name x p) (e :: es) [] pos) σ H P := by
  obtain ⟨f, fd, ps, ds, F, M, hmg, hb, hd⟩ := D.ex
  refine eg_of (pe_make M F hr hg hmg hb hd pass0 pa_W hdb he hpl) fun H1 e1 Q q => ha H1 e1 _ fun vs H2 e2 pv => fun y dx ny nd ne => ?_
  have ex1 : Ex H2 (upd (upd H2 dx (.own y)) y (.ins C dx [])) := fun b o hb => by
    rw [upd_ne (ne_of_none hb ny), upd_ne (ne_of_none hb nd)]
    exact hb
  refine ⟨t, y, dx, _, rfl, upd_same, hm.up ex1 (hv vs H2 pv), fun H' fs hk hy hf => ⟨rfl, q _ H' (e2.trans fun b o hb => ?_) (hp _ _ ⟨y, dx, fs, rfl, hy, hf⟩)⟩⟩
  exact hk b o (ne_of_none hb ny) (ex1 b o hb)
/-- e.f -/
theorem eg_fld {f : Str} (c : Cls X.K C) (hn : NoAttr X.K C f) (he : EG X e σ H P1) (hi : ∀ v H1, Ex H H1 → P1 v H1 → ∃ a dx fs y, v = .ref a ∧ H1 a = some (.ins C dx fs) ∧ fs.lookup f = some y ∧ P y H1)
    (hb : attributeBase e f X.env (eval e X.env) = eval e X.env := by rfl) : EG X (.Attribute e f pos) σ H P :=
  eg_of (pe_fld pe_W hb) fun H1 e1 Q q => he H1 e1 _ fun v H2 e2 pv => by
    obtain ⟨aa, dx, fs, y, h1, h2, h3, h4⟩ := hi v H2 (e1.trans e2) pv
    exact ⟨aa, C, dx, fs, y, h1, h2, c, hn, h3, q y H2 e2 h4⟩
/-- a built-in by its name -/
theorem eg_callB {id : String} {r : List V → Hp → VK → Prop} (hc : CallR X (.builtin id) r) (hm : X.mg x = none) (hv : bootBuiltins x = some (.builtin id)) (ha : AG X (e :: es) σ H Ps)
    (hr : ∀ vs H1, Ex H H1 → Args Ps vs H1 → ∀ Q : VK, (∀ v H2, Ex H1 H2 → P v H2 → Q v H2) → r vs H1 Q) (hg : Gl X x := by rfl) (hn : x ≠ "__name__" := by decide) (hdb : (x == ("__debug__" : Str)) = false := by decide)
    (he : starEach (e :: es) X.env = (false, eval e X.env) :: starEach es X.env := by rfl) (hpl : (backTo pos (starEach es X.env)).any (·.1) = false := by rfl) : EG X (.Call (.Name x p) (e :: es) [] pos) σ H P :=
  eg_of (pe_callB hc hg hm hv pa_W hn hdb he hpl) (ep_cb ha hr)
theorem eg_callTy {T : String} {r : List V → Hp → VK → Prop} (hc : CallR X (.type T) r) (hm : X.mg x = none) (hv : bootBuiltins x = some (.type T)) (ha : AG X (e :: es) σ H Ps)
    (hr : ∀ vs H1, Ex H H1 → Args Ps vs H1 → ∀ Q : VK, (∀ v H2, Ex H1 H2 → P v H2 → Q v H2) → r vs H1 Q) (hg : Gl X x := by rfl) (hn : x ≠ "__name__" := by decide) (hdb : (x == ("__debug__" : Str)) = false := by decide)
    (he : starEach (e :: es) X.env = (false, eval e X.env) :: starEach es X.env := by rfl) (hpl : (backTo pos (starEach es X.env)).any (·.1) = false := by rfl) : EG X (.Call (.Name x p) (e :: es) [] pos) σ H P :=
  eg_of (pe_callTy hc hg hm hv pa_W hn hdb he hpl) (ep_cb ha hr)
/-- math's, by the module's name -/
theorem eg_callF {id : String} {r : List V → Hp → VK → Prop} (hc : CallR X (.builtin id) r) (hm : X.mg x = some (.builtin id)) (ha : AG X (e :: es) σ H Ps)
    (hr : ∀ vs H1, Ex H H1 → Args Ps vs H1 → ∀ Q : VK, (∀ v H2, Ex H1 H2 → P v H2 → Q v H2) → r vs H1 Q) (hg : Gl X x := by rfl) (hdb : (x == ("__debug__" : Str)) = false := by decide)
    (he : starEach (e :: es) X.env = (false, eval e X.env) :: starEach es X.env := by rfl) (hpl : (backTo pos (starEach es X.env)).any (·.1) = false := by rfl) : EG X (.Call (.Name x p) (e :: es) [] pos) σ H P :=
  eg_of (pe_callBfun hc hg hm pa_W hdb he hpl) (ep_cb ha hr)
end

/-! ### a def's body -/
theorem bw_self {X : Cx} {ss : List Stmt} : PSs X ss (BW X ss) := pss_W
section
variable {P : Program} {w : World} {K : PySem.W.Frag} {mg : Str → Option Value} {base : Heap} {x qual : Str} {params : Arguments} {body : List Stmt} {scope : Scope} {dvs : List V} {kws : List (Str × V)} {f : Addr} {fd : FuncData} {N ps : List Str} {k : Nat}
abbrev ctx (P : Program) (w : World) (K : PySem.W.Frag) (mg : Str → Option Value) (base : Heap) (N : List Str) (qual : Str) (scope : Scope) (f : Addr) (cdv : Value) (A : Around) (outer : List Env) (s : Shared) (H : Hp) (E : XK) : Cx := (cxOf CX0 P w K mg base N qual scope f cdv A outer s H E).nox
theorem fn_any {sp : Sp} (F : FunD K x qual params body scope dvs kws f fd) (S : FnScope N ps scope) (len : ∀ vs H Q E, sp vs H Q E → vs.length = ps.length)
    (h : ∀ cdv A outer s H E vs Q, Room k (A.deeper (envOfC qual scope s.heap.objs.size f cdv)) → sp vs H Q E → BW (ctx P w K mg base N qual scope f cdv A outer s H E) body { nx := fun _ H' => Q .non H', rt := Q } (start N vs) H) :
    FnOk P w K mg base CX0 (k + 1) f fd ps sp := F.ok S len fun cdv A outer s H vs Q E hr hs => ⟨_, PSs.nox bw_self, h cdv A outer s H E vs Q hr hs⟩
theorem fn_pure {α : Type} {Ps : α → List Rep} {Post : α → Rep} (F : FunD K x qual params body scope dvs kws f fd) (S : FnScope N ps scope) (hl : ∀ a, (Ps a).length = ps.length)
    (h : ∀ (t : α) cdv A outer s H E vs Q, Room k (A.deeper (envOfC qual scope s.heap.objs.size f cdv)) → Args (Ps t) vs H → (∀ v H', Ex H H' → Post t v H' → Q v H') →
      BW (ctx P w K mg base N qual scope f cdv A outer s H E) body { nx := fun _ H' => Q .non H', rt := Q } (start N vs) H) : FnOk P w K mg base CX0 (k + 1) f fd ps (PSp Ps Post) :=
  fn_any F S (fun vs H Q E ⟨t, ha, _⟩ => (args_len ha).trans (hl t)) fun cdv A outer s H E vs Q hr ⟨t, ha, hq⟩ => h t cdv A outer s H E vs Q hr ha hq
end

/-! ### statements -/
section
variable {X : Cx} {σ : L2.St} {H : Hp} {c e o : Expr} {rest A B : List Stmt} {st : Stmt} {pos p : Pos} {P : Rep} {D : Ends} {bb : Bool} {y : Str}
theorem b_nil (h : D.nx σ H) : BW X [] D σ H := fun pins s I => pss_nil.run pins s σ H D I h
theorem b_seq (h : SW X st { D with nx := BW X rest D } σ H) : BW X (st :: rest) D σ H := fun pins s I => (pss_cons ps_W pss_W).run pins s σ H D I h
theorem b_of {t : TS} (h : PS X st t) (q : t { D with nx := BW X rest D } σ H) : BW X (st :: rest) D σ H := fun pins s I => (pss_cons h pss_W).run pins s σ H D I q
theorem b_asg (i : Nat) (hN : X.N.Nodup) (he : EG X e σ H P) (k : ∀ v H1, Ex H H1 → P v H1 → BW X rest D (σ.set i (some v)) H1) (hi : X.N[i]? = some y := by rfl) (hl : Loc X.env.scope y := by first | exact Or.inl rfl | exact Or.inr rfl)
    (hs : swapsWith e (some (.Name y p)) pos.line X.env = pure false := by rfl) (hf : X.fn y = true ∨ X.env.scope.names.lookup y = some .local := by first | exact .inl rfl | exact .inr rfl) : BW X (.Assign [.Name y p] e pos :: rest) D σ H :=
  b_of (ps_set hN hi hl pe_W hs hf) (he H (Ex.refl H) _ k)
theorem b_ret (he : EG X e σ H P) (k : ∀ v H1, Ex H H1 → P v H1 → D.rt v H1) : BW X (.Return (some e) pos :: rest) D σ H := b_of (ps_ret pe_W) (he H (Ex.refl H) _ k)
theorem b_retN (k : D.rt .non H) : BW X (.Return none pos :: rest) D σ H := b_of ps_retN k
theorem b_expr (he : EG X e σ H P) (k : ∀ v H1, Ex H H1 → P v H1 → BW X rest D σ H1) (hs : swapsWith e none pos.line X.env = pure false := by rfl) : BW X (.Expr e pos :: rest) D σ H := b_of (ps_expr pe_W hs) (he H (Ex.refl H) _ k)
theorem b_if (hc : TG X c σ H bb) (h1 : bb = true → ∀ H1, Ex H H1 → BW X A { D with nx := BW X rest D } σ H1) (h2 : bb = false → ∀ H1, Ex H H1 → BW X B { D with nx := BW X rest D } σ H1) : BW X (.If c A B pos :: rest) D σ H :=
  b_of (ps_if pt_W pss_W pss_W) (hc H (Ex.refl H) _ fun H1 e1 => by
    cases bb with
    | true => rw [if_pos rfl]; exact h1 rfl H1 e1
    | false => rw [if_neg Bool.false_ne_true]; exact h2 rfl H1 e1)
/-- an if that is not taken, without else -/
theorem b_skip (hc : TG X c σ H false) (h : ∀ H1, Ex H H1 → BW X rest D σ H1) : BW X (.If c A [] pos :: rest) D σ H := b_if hc (fun q => nomatch q) fun _ H1 e1 => b_nil (h H1 e1)
/-- o.f = e of an instance -/
theorem b_fld {f : Str} {p' : Pos} {C dx a : Addr} {fs : List (Str × V)} [hm : Mono P] (c : Cls X.K C) (hn : NoAttr X.K C f) (he : EG X e σ H P) (ho : ∀ H1, Ex H H1 → EG X o σ H1 (IsV (.ref a))) (ha : H a = some (.ins C dx fs)) (hl : fs.length < 1000)
    (k : ∀ v H1, Ex H H1 → P v H1 → BW X rest D σ (upd H1 a (.ins C dx (putF f v fs)))) (hs : swapsWith e (some (.Attribute o f p')) pos.line X.env = pure false := by rfl) : BW X (.Assign [.Attribute o f p'] e pos :: rest) D σ H :=
  b_of (ps_fld pe_W pe_W hs) (he H (Ex.refl H) _ fun v H1 e1 pv => ho H1 e1 H1 (Ex.refl H1) _ fun w H2 e2 pw => ⟨a, C, dx, fs, pw, (e1.trans e2) a _ ha, c, hn, hl, k v H2 (e1.trans e2) (hm.up e2 pv)⟩)
end
end G
set_option maxHeartbeats 4000000
namespace G
open PySem PySem.Spec PyProof.Rows L2 Evl

theorem ex_hid_self {H H' : Hp} {D : Addr} (hD : H D = none) (e : Ex H H') : Ex H (hid H' D) := fun a o h => by
  rw [hid_ne (fun z => by rw [z, hD] at h; cases h)]
  exact e a o h
theorem hid_none {H : Hp} {D : Addr} (h : H D = none) : hid H D = H := by
  funext b
  by_cases e : b = D
  · rw [e, hid_same, h]
  · rw [hid_ne e]

/-! ### what is walked: n items, the i-th told by the i-th of as -/
structure WalkG {α : Type} (R : α → Rep) (as : List α) (H2 : Hp) (G : Hp → Prop) (Y : Nat → Hp → V → Hp → Prop) : Prop where
  g : ∀ H', (∀ a xs, (H2 a = some (.lst xs) → H' a = some (.lst xs)) ∧ (H2 a = some (.tup xs) → H' a = some (.tup xs))) → G H'
  y : ∀ i Ha x Hb, Ex H2 Ha → Y i Ha x Hb → Ex Ha Hb ∧ ∃ a, as[i]? = some a ∧ R a x Hb
  h : ∀ D o i Ha x Hb, Ha D = some o → H2 D = none → Ex H2 (hid Ha D) → Y i Ha x Hb → Hb D = some o ∧ Ex (hid Ha D) (hid Hb D) ∧ ∃ a, as[i]? = some a ∧ R a x (hid Hb D)
def IterP (X : Cx) {α : Type} (tg iter : Expr) (σ : L2.St) (H : Hp) (R : α → Rep) (as : List α) : Prop := ∃ wi, PI X tg iter wi ∧ ∀ H1, Ex H H1 → ∀ Rr : It → Hp → Prop,
  (∀ J H2 G Y, Ex H1 H2 → Walk J as.length G Y → WalkG R as H2 G Y → Rr J H2) → wi σ H1 Rr
section
variable {X : Cx} {α β : Type} {σ : L2.St} {H : Hp} {tg l l2 : Expr} {R : α → Rep} {S : β → Rep} {as : List α} {bs : List β} {pos p tpos : Pos} {elts : List Expr} {kk : Nat}
theorem wg_at [hR : ∀ a, Mono (R a)] {H2 : Hp} {xs : List V} {G : Hp → Prop} (hg : ∀ H', (∀ a xs, (H2 a = some (.lst xs) → H' a = some (.lst xs)) ∧ (H2 a = some (.tup xs) → H' a = some (.tup xs))) → G H') (h2 : All2 R as xs H2) : WalkG R as H2 G (YAt xs) where
  g := hg
  y := fun i Ha x Hb e y => by
    obtain ⟨rfl, hx⟩ := y
    obtain ⟨c, hc, hr⟩ := h2.get hx
    exact ⟨Ex.refl _, c, hc, (hR c).up e hr⟩
  h := fun D o i Ha x Hb hD n e y => by
    obtain ⟨rfl, hx⟩ := y
    obtain ⟨c, hc, hr⟩ := h2.get hx
    exact ⟨hD, Ex.refl _, c, hc, (hR c).up e hr⟩
theorem ip_list [hR : ∀ a, Mono (R a)] (h : EG X l σ H (IsL R as)) : IterP X tg l σ H R as :=
  ⟨_, pi_list pe_W, fun H1 e1 Rr k => h H1 e1 _ fun v H2 e2 ⟨a, xs, hv, ha, h2⟩ => ⟨a, hv, ⟨xs, SqL.of ha⟩, k _ H2 _ _ e2 (by rw [← h2.length]; exact walk_list) (wg_at (fun H' e => SqL.of ((e a xs).1 ha)) h2)⟩⟩
theorem ip_tup [hR : ∀ a, Mono (R a)] (h : EG X l σ H (IsT R as)) : IterP X tg l σ H R as :=
  ⟨_, pi_tup pe_W, fun H1 e1 Rr k => h H1 e1 _ fun v H2 e2 ⟨a, xs, hv, ha, h2⟩ => ⟨a, hv, ⟨xs, SqT.of ha⟩, k _ H2 _ _ e2 (by rw [← h2.length]; exact walk_tup) (wg_at (fun H' e => SqT.of ((e a xs).2 ha)) h2)⟩⟩
theorem range_get {n i : Nat} (h : i < n) : (List.range n)[i]? = some i := by
  rw [List.getElem?_eq_getElem (by rw [List.length_range]; exact h), List.getElem_range]
theorem ip_range {n : Nat} (hm : X.mg "range" = none) (hn : n ≤ 1000000) (h : EG X l σ H (IsI (n : Int))) (hg : Gl X "range" := by rfl) (hs : starEach [l] X.env = [(false, eval l X.env)] := by rfl) :
    IterP X tg (.Call (.Name "range" p) [l] [] pos) σ H (fun i : Nat => IsI (i : Int)) (List.range n) := by
  refine ⟨_, pi_range1 hg hm pa_W hs, fun H1 e1 Rr k => ?_⟩
  refine (ag_cons h ag_nil (hs := hs)) H1 e1 _ fun vs H2 e2 ⟨v, r, hv, hp, hr⟩ => ⟨(n : Int), by rw [hv, show v = V.int n from hp, show r = [] from hr], by omega, by omega, ?_⟩
  have w : Walk (Itr 0 ((n : Int)).toNat) (List.range n).length (fun _ => True) (fun i H x H' => H' = H ∧ i < n ∧ x = .int (i : Int)) := by
    rw [List.length_range]
    refine ⟨fun i _ hi _ => ?_, fun _ _ => ?_, fun i Ha x Hb hi _ y => ?_⟩
    · show i < ((n : Int)).toNat
      omega
    · show ((n : Int)).toNat ≤ n
      omega
    · obtain ⟨y1, y2⟩ := y
      exact ⟨y1, hi, by rw [y2, Int.zero_add]⟩
  refine k _ H2 _ _ e2 w ⟨fun _ _ => True.intro, fun i Ha x Hb e y => ?_, fun D o i Ha x Hb hD n e y => ?_⟩
  · obtain ⟨rfl, hi, rfl⟩ := y
    exact ⟨Ex.refl _, i, range_get hi, rfl⟩
  · obtain ⟨rfl, hi, rfl⟩ := y
    exact ⟨hD, Ex.refl _, i, range_get hi, rfl⟩
def Pr2 (R : α → Rep) (S : β → Rep) (q : α × β) : Rep := TupOf [R q.1, S q.2]
instance [hR : ∀ a, Mono (R a)] [hS : ∀ a, Mono (S a)] {q : α × β} : Mono (Pr2 R S q) := by unfold Pr2; infer_instance
theorem wg_pair [hR : ∀ a, Mono (R a)] [hS : ∀ a, Mono (S a)] {H2 : Hp} {f g : Nat → Option V} {qs : List (α × β)} {G : Hp → Prop} (hg : ∀ H', (∀ a xs, (H2 a = some (.lst xs) → H' a = some (.lst xs)) ∧ (H2 a = some (.tup xs) → H' a = some (.tup xs))) → G H')
    (hf : ∀ i x y, f i = some x → g i = some y → ∃ q, qs[i]? = some q ∧ R q.1 x H2 ∧ S q.2 y H2) : WalkG (Pr2 R S) qs H2 G (YPair f g) where
  g := hg
  y := fun i Ha v Hb e ⟨T, x, y, hv, hT, hb, hx, hy⟩ => by
    obtain ⟨q, hq, h1, h2⟩ := hf i x y hx hy
    subst hb hv
    have e2 : Ex Ha (upd Ha T (.tup [x, y])) := Ex.new hT
    exact ⟨e2, q, hq, T, _, rfl, upd_same, x, _, rfl, (hR _).up (e.trans e2) h1, y, _, rfl, (hS _).up (e.trans e2) h2, rfl⟩
  h := fun D o i Ha v Hb hD n e ⟨T, x, y, hv, hT, hb, hx, hy⟩ => by
    obtain ⟨q, hq, h1, h2⟩ := hf i x y hx hy
    subst hb hv
    have ne : T ≠ D := fun z => by rw [z, hD] at hT; cases hT
    have eq : hid (upd Ha T (.tup [x, y])) D = upd (hid Ha D) T (.tup [x, y]) := by
      funext b
      by_cases z : b = D
      · rw [z, hid_same, upd_ne (Ne.symm ne), hid_same]
      · rw [hid_ne z]
        by_cases z2 : b = T
        · rw [z2, upd_same, upd_same]
        · rw [upd_ne z2, upd_ne z2, hid_ne z]
    have e2 : Ex (hid Ha D) (upd (hid Ha D) T (.tup [x, y])) := Ex.new (by rw [hid_ne ne]; exact hT)
    refine ⟨by rw [upd_ne (Ne.symm ne)]; exact hD, by rw [eq]; exact e2, q, hq, ?_⟩
    rw [eq]
    exact ⟨T, _, rfl, upd_same, x, _, rfl, (hR _).up (e.trans e2) h1, y, _, rfl, (hS _).up (e.trans e2) h2, rfl⟩
theorem zip_hf {xs ys : List V} {H2 : Hp} (h1 : All2 R as xs H2) (h2 : All2 S bs ys H2) (i : Nat) (x y : V) (hx : xs[i]? = some x) (hy : ys[i]? = some y) : ∃ q, (as.zip bs)[i]? = some q ∧ R q.1 x H2 ∧ S q.2 y H2 := by
  obtain ⟨a, ha, ra⟩ := h1.get hx
  obtain ⟨b, hb, rb⟩ := h2.get hy
  refine ⟨(a, b), ?_, ra, rb⟩
  rw [List.getElem?_zip_eq_some]
  exact ⟨ha, hb⟩
theorem ip_zip [hR : ∀ a, Mono (R a)] [hS : ∀ a, Mono (S a)] (hm : X.mg "zip" = none) (h : EG X l σ H (IsL R as)) (h' : EG X l2 σ H (IsL S bs)) (hg : Gl X "zip" := by rfl)
    (hs : starEach [l, l2] X.env = (false, eval l X.env) :: starEach [l2] X.env := by rfl) (hs2 : starEach [l2] X.env = (false, eval l2 X.env) :: starEach [] X.env := by rfl) (hpl : (backTo pos (starEach [l2] X.env)).any (·.1) = false := by rfl) :
    IterP X (.Tuple elts kk tpos) (.Call (.Name "zip" p) [l, l2] [] pos) σ H (Pr2 R S) (as.zip bs) := by
  refine ⟨_, RZ.pi_zipA hg hm pa_W hs hpl, fun H1 e1 Rr k => ?_⟩
  refine (ag_cons h (ag_cons h' ag_nil (hs := hs2)) (hs := hs)) H1 e1 _ fun vs H2 e2 ⟨v, r, hv, ⟨a, xs, h1, h2, h3⟩, w, r2, hr, ⟨b, ys, h4, h5, h6⟩, hr2⟩ => ?_
  refine ⟨a, b, xs, ys, by rw [hv, hr, show r2 = [] from hr2, h1, h4], .inl ⟨SqL.of h2, SqL.of h5, ?_⟩⟩
  exact k _ H2 _ _ e2 (walk_zip (by rw [List.length_zip, h3.length, h6.length])) (wg_pair (fun H' e => ⟨SqL.of ((e a xs).1 h2), SqL.of ((e b ys).1 h5)⟩) (zip_hf h3 h6))
theorem ip_zipT [hR : ∀ a, Mono (R a)] [hS : ∀ a, Mono (S a)] (hm : X.mg "zip" = none) (h : EG X l σ H (IsT R as)) (h' : EG X l2 σ H (IsT S bs)) (hg : Gl X "zip" := by rfl)
    (hs : starEach [l, l2] X.env = (false, eval l X.env) :: starEach [l2] X.env := by rfl) (hs2 : starEach [l2] X.env = (false, eval l2 X.env) :: starEach [] X.env := by rfl) (hpl : (backTo pos (starEach [l2] X.env)).any (·.1) = false := by rfl) :
    IterP X (.Tuple elts kk tpos) (.Call (.Name "zip" p) [l, l2] [] pos) σ H (Pr2 R S) (as.zip bs) := by
  refine ⟨_, RZ.pi_zipA hg hm pa_W hs hpl, fun H1 e1 Rr k => ?_⟩
  refine (ag_cons h (ag_cons h' ag_nil (hs := hs2)) (hs := hs)) H1 e1 _ fun vs H2 e2 ⟨v, r, hv, ⟨a, xs, h1, h2, h3⟩, w, r2, hr, ⟨b, ys, h4, h5, h6⟩, hr2⟩ => ?_
  refine ⟨a, b, xs, ys, by rw [hv, hr, show r2 = [] from hr2, h1, h4], .inr ⟨SqT.of h2, SqT.of h5, ?_⟩⟩
  have w : Walk (RZ.ItzT X.K a b) (as.zip bs).length (fun H => SqT X.K H a xs ∧ SqT X.K H b ys) (YPair (fun i => xs[i]?) (fun i => ys[i]?)) := by
    rw [List.length_zip, ← h3.length, ← h6.length]
    refine ⟨fun i _ hi q => ?_, fun _ q => ⟨xs, ys, q.1, q.2, by omega⟩, fun i H v H' _ q y => ?_⟩
    · have h1 : i < xs.length := by omega
      have h2 : i < ys.length := by omega
      exact ⟨xs, ys, xs[i], ys[i], q.1, q.2, by simp [h1], by simp [h2]⟩
    · obtain ⟨T, x, z, h1, h2, h3, h4, h5⟩ := y
      exact ⟨T, x, z, h1, h2, h3, h4 xs q.1, h5 ys q.2⟩
  exact k _ H2 _ _ e2 w (wg_pair (fun H' e => ⟨SqT.of ((e a xs).2 h2), SqT.of ((e b ys).2 h5)⟩) (zip_hf h3 h6))
theorem ip_enum [hR : ∀ a, Mono (R a)] (hm : X.mg "enumerate" = none) (h : EG X l σ H (IsL R as)) (hg : Gl X "enumerate" := by rfl) (hs : starEach [l] X.env = [(false, eval l X.env)] := by rfl) :
    IterP X (.Tuple elts kk tpos) (.Call (.Name "enumerate" p) [l] [] pos) σ H (Pr2 (fun i : Nat => IsI (i : Int)) R) ((List.range as.length).zip as) := by
  refine ⟨_, pi_enum hg hm pa_W hs, fun H1 e1 Rr k => ?_⟩
  refine (ag_cons h ag_nil (hs := hs)) H1 e1 _ fun vs H2 e2 ⟨v, r, hv, ⟨a, xs, h1, h2, h3⟩, hr⟩ => ⟨a, xs, by rw [hv, show r = [] from hr, h1], SqL.of h2, ?_⟩
  refine k _ H2 _ _ e2 (by rw [List.length_zip, List.length_range, Nat.min_self, ← h3.length]; exact walk_enum) (wg_pair (fun H' e => SqL.of ((e a xs).1 h2)) fun i x y hx hy => ?_)
  cases hx
  obtain ⟨c, hc, rc⟩ := h3.get hy
  have hi : i < as.length := (List.getElem?_eq_some_iff.mp hc).1
  exact ⟨(i, c), by rw [List.getElem?_zip_eq_some]; exact ⟨range_get hi, hc⟩, rfl, rc⟩
end

/-! ### comprehensions -/
def UE (X : Cx) (scope : Scope) (elt : Expr) : TE := fun σ H Q => ∀ s H0 C cl fp, EW (X.blk s H0 scope (compEnvC scope cl C X.env) fp) elt σ H Q
def UT (X : Cx) (scope : Scope) (t : Expr) : TT := fun σ H Q => ∀ s H0 C cl fp, TW (X.blk s H0 scope (compEnvC scope cl C X.env) fp) t σ H Q
/-- what a target leaves of an item that is told by a -/
structure TgtG {α : Type} (R : α → Rep) (g : L2.TG) (T : α → L2.St → Hp → Prop) (σ0 : L2.St) (vs : List Nat) (H : Hp) : Prop where
  st : ∀ a x H', Ex H H' → R a x H' → ∀ H2 Qs, (∀ σ2, T a σ2 H' → Qs σ2 H2) → (∀ p o, H' p = some o → H2 p = some o) → g x σ0 H2 Qs
  wp : ∀ a σ2 H', T a σ2 H' → wipe σ2 vs = σ0
  up : ∀ a σ2 H' H2, Ex H' H2 → T a σ2 H' → T a σ2 H2
section
variable {X : Cx} {α β : Type} {σ : L2.St} {H : Hp} {tg iter elt t : Expr} {R : α → Rep} {S : β → Rep} {as : List α} {pos : Pos} {scope : Scope} {own : List (Str × Nat)}
theorem ue_pe : ∀ (s : Shared) (H : Hp) (C : Addr) (cl : List (Str × Addr)) (fp : List Addr), PE (X.blk s H scope (compEnvC scope cl C X.env) fp) elt (UE X scope elt) := fun s H0 C cl fp => ⟨fun pins s' σ H Q I h => h s H0 C cl fp pins s' I⟩
theorem ut_pt : ∀ (s : Shared) (H : Hp) (C : Addr) (cl : List (Str × Addr)) (fp : List Addr), PT (X.blk s H scope (compEnvC scope cl C X.env) fp) t (UT X scope t) := fun s H0 C cl fp => ⟨fun pins s' σ H Q I h => h s H0 C cl fp pins s' I⟩
/-- where the list's tests answer q: what is kept, mapped -/
theorem lc_read [hS : ∀ b, Mono (S b)] {f : α → β} {q : α → Bool} {g : L2.TG} {tt : TT} {T : α → L2.St → Hp → Prop} {vs : List Nat} (hi : IterP X tg iter σ H R as) (hz : as.length ≤ 1000000) (TG : TgtG R g T (wipe σ vs) vs H)
    (ht : ∀ a ∈ as, ∀ σ2 H', Ex H H' → T a σ2 H' → ∀ D acc H2, H2 D = some (.lst acc) → hid H2 D = H' → ∀ Q : Bool → Hp → Prop, (∀ H3, H3 D = some (.lst acc) → Ex H' (hid H3 D) → Q (q a) H3) → tt σ2 H2 Q)
    (he : ∀ a ∈ as, q a = true → ∀ σ2 H', Ex H H' → T a σ2 H' → EvP (UE X scope elt) σ2 H' (S (f a))) : ∃ wi, PI X tg iter wi ∧ EvP (tLc wi g tt (UE X scope elt) vs) σ H (IsL S ((as.filter q).map f)) := by
  obtain ⟨wi, hpi, hw⟩ := hi
  refine ⟨wi, hpi, fun H1 e1 Q hQ => hw H1 e1 _ fun J H2 G Y e2 W WG D hD => ?_⟩
  refine lc_it W (fun i H' => ∃ acc, H' D = some (.lst acc) ∧ Ex H2 (hid H' D) ∧ All2 S (((as.take i).filter q).map f) acc (hid H' D)) ⟨[], upd_same, ex_hid_self hD (Ex.new hD), by rw [List.take_zero]; exact rfl⟩ (fun i H' _ ⟨acc, h1, h2, h3⟩ => WG.g H' fun a xs => ⟨fun h => ?_, fun h => ?_⟩)
    (fun i x Ha Hb hi ⟨acc, h1, h2, h3⟩ y => ?_) (fun H' ⟨acc, h1, h2, h3⟩ => ?_)
  · have z := h2 a _ h
    rwa [hid_ne (fun e => by rw [e, hid_same] at z; cases z)] at z
  · have z := h2 a _ h
    rwa [hid_ne (fun e => by rw [e, hid_same] at z; cases z)] at z
  · obtain ⟨hb, eb, a, ha, ra⟩ := WG.h D _ i Ha x Hb h1 hD h2 y
    have ex1 : Ex H (hid Hb D) := (e1.trans e2).trans (h2.trans eb)
    have hmem : a ∈ as := List.mem_of_getElem? ha
    have tk : as.take (i + 1) = as.take i ++ [a] := by
      rw [List.take_succ, ha]
      rfl
    refine TG.st a x (hid Hb D) ex1 ra Hb _ (fun σ2 hT => ⟨TG.wp a σ2 _ hT, ?_⟩) (fun p o hp => by
      rw [hid_ne (fun e => by rw [e, hid_same] at hp; cases hp)] at hp
      exact hp)
    refine ht a hmem σ2 (hid Hb D) ex1 hT D acc Hb hb rfl _ fun H3 h3D e3 => ?_
    cases hq : q a with
    | false =>
      rw [if_neg Bool.false_ne_true]
      refine ⟨acc, h3D, h2.trans (eb.trans e3), ?_⟩
      rw [tk, List.filter_append, List.filter_cons, hq]
      simp only [Bool.false_eq_true, if_false, List.filter_nil, List.append_nil]
      exact h3.up hS (eb.trans e3)
    | true =>
      rw [if_pos rfl]
      have fin := he a hmem hq σ2 (hid H3 D) (ex1.trans e3) (TG.up a σ2 _ _ e3 hT)
      intro s H0 C cl fp
      refine ew_hid h3D ?_
      refine fin (hid H3 D) (Ex.refl _) (fun v H4 => H4 D = none → _) (fun v H4 e4 pv n4 => ⟨acc, upd_same, ?_, acc ++ [v], upd_same, ?_, ?_⟩) s H0 C cl fp
      · have l1 := h3.length
        rw [List.length_map] at l1
        have l2 := List.length_filter_le q (as.take i)
        rw [List.length_take] at l2
        have : acc.length ≤ 1000000 := by omega
        exact Nat.lt_of_le_of_lt this (by decide)
      · rw [upd_upd, hid_upd n4]
        exact h2.trans (eb.trans (e3.trans e4))
      · rw [upd_upd, hid_upd n4, tk, List.filter_append, List.filter_cons, hq]
        simp only [if_true, List.filter_nil, List.map_append, List.map_cons, List.map_nil]
        exact (h3.up hS (eb.trans (e3.trans e4))).snoc pv
  · rw [List.take_length] at h3
    have ex2 : Ex H2 H' := fun b o hb => by
      have z := h2 b o hb
      rwa [hid_ne (fun e => by rw [e, hid_same] at z; cases z)] at z
    have ex3 : Ex (hid H' D) H' := fun b o hb => by rwa [hid_ne (fun e => by rw [e, hid_same] at hb; cases hb)] at hb
    exact hQ _ H' (e2.trans ex2) ⟨D, acc, rfl, h1, h3.up hS ex3⟩
theorem yes_read {q : α → Bool} {T : α → L2.St → Hp → Prop} (hq : ∀ a ∈ as, q a = true) : ∀ a ∈ as, ∀ σ2 H', Ex H H' → T a σ2 H' → ∀ D acc H2, H2 D = some (HO.lst acc) → hid H2 D = H' → ∀ Q : Bool → Hp → Prop, (∀ H3, H3 D = some (HO.lst acc) → Ex H' (hid H3 D) → Q (q a) H3) → tYes σ2 H2 Q :=
  fun a ha σ2 H' _ _ D acc H2 h1 h2 Q hQ => by
    have z := hQ H2 h1 (by rw [h2]; exact Ex.refl _)
    rw [hq a ha] at z
    exact z
theorem test_read {q : α → Bool} {T : α → L2.St → Hp → Prop} (h : ∀ a ∈ as, ∀ σ2 H', Ex H H' → T a σ2 H' → EvT (UT X scope t) σ2 H' (q a)) : ∀ a ∈ as, ∀ σ2 H', Ex H H' → T a σ2 H' → ∀ D acc H2, H2 D = some (HO.lst acc) → hid H2 D = H' → ∀ Q : Bool → Hp → Prop, (∀ H3, H3 D = some (HO.lst acc) → Ex H' (hid H3 D) → Q (q a) H3) → UT X scope t σ2 H2 Q :=
  fun a ha σ2 H' e hT D acc H2 h1 h2 Q hQ s H0 C cl fp => by
    refine tw_hid h1 ?_
    subst h2
    exact h a ha σ2 _ e hT (hid H2 D) (Ex.refl _) _ (fun H3 e3 n3 => hQ _ upd_same (by rw [hid_upd n3]; exact e3)) s H0 C cl fp
/-- targets -/
def TNm (R : α → Rep) (σ0 : L2.St) (j : Nat) (a : α) (σ2 : L2.St) (H' : Hp) : Prop := ∃ x, σ2 = σ0.set j (some x) ∧ R a x H'
def TPr {γ : Type} (R : α → Rep) (S : γ → Rep) (σ0 : L2.St) (j k : Nat) (q : α × γ) (σ2 : L2.St) (H' : Hp) : Prop := ∃ x y, σ2 = (σ0.set j (some x)).set k (some y) ∧ R q.1 x H' ∧ S q.2 y H'
theorem wipe1 (σ : L2.St) (j : Nat) (x : Option V) : wipe ((wipe σ [j]).set j x) [j] = wipe σ [j] := by
  show (((σ.set j none).set j x).set j none) = σ.set j none
  rw [List.set_set, List.set_set]
theorem wipe2 (σ : L2.St) (j k : Nat) (x y : Option V) : wipe (((wipe σ [j, k]).set j x).set k y) [j, k] = wipe σ [j, k] := by
  show ((((((σ.set k none).set j none).set j x).set k y).set k none).set j none) = (σ.set k none).set j none
  by_cases h : j = k
  · subst h
    simp only [List.set_set]
  · simp only [List.set_set]
    rw [List.set_comm (i := j) (j := k) _ _ h]
    simp only [List.set_set]
theorem tgt_nm [hR : ∀ a, Mono (R a)] {j : Nat} : TgtG R (gName j) (TNm R (wipe σ [j]) j) (wipe σ [j]) [j] H where
  st := fun a x H' _ r H2 Qs hq _ => hq _ ⟨x, rfl, r⟩
  wp := fun a σ2 H' ⟨x, h, _⟩ => by rw [h]; exact wipe1 σ j _
  up := fun a σ2 H' H2 e ⟨x, h, r⟩ => ⟨x, h, (hR a).up e r⟩
theorem tgt_pr {γ : Type} {S : γ → Rep} [hR : ∀ a, Mono (R a)] [hS : ∀ a, Mono (S a)] {j k : Nat} : TgtG (Pr2 R S) (gTup X.K 2 (gCons (gName j) (gCons (gName k) gNil))) (TPr R S (wipe σ [j, k]) j k) (wipe σ [j, k]) [j, k] H where
  st := fun a x H' _ ⟨p, xs, hx, hp, y1, r1, e1, h1, y2, r2, e2, h2, e3⟩ H2 Qs hq hH => by
    refine ⟨p, xs, hx, SqT.of (hH p _ hp), by rw [e1, e2, show r2 = [] from e3]; rfl, y1, r1, e1, y2, r2, e2, e3, hq _ ⟨y1, y2, rfl, h1, h2⟩⟩
  wp := fun a σ2 H' ⟨x, y, h, _⟩ => by rw [h]; exact wipe2 σ j k _ _
  up := fun a σ2 H' H2 e ⟨x, y, h, r, r'⟩ => ⟨x, y, h, (hR _).up e r, (hS _).up e r'⟩
end
end G
namespace G
open PySem PySem.Spec PyProof.Rows L2 Evl
section
variable {P : Rep} {X : Cx} {α β γ : Type} {σ : L2.St} {H : Hp} {tg iter elt t : Expr} {R : α → Rep} {S : β → Rep} {R2 : γ → Rep} {as : List α} {qs : List (α × γ)} {pos spos py : Pos} {scope : Scope} {x y z : Str}
theorem filter_true {as : List α} : as.filter (fun _ => true) = as := List.filter_eq_self.mpr fun _ _ => rfl
/-- [elt for x in iter if ..] -/
theorem eg_lc (j : Nat) {px : Pos} [hR : ∀ a, Mono (R a)] [hS : ∀ b, Mono (S b)] (f : α → β) (hN : X.N.Nodup) (hi : IterP X (.Name x px) iter σ H R as) (hz : as.length ≤ 1000000)
    (he : ∀ a ∈ as, ∀ v H', Ex H H' → R a v H' → ∀ s H0 C cl fp, EG (X.blk s H0 scope (compEnvC scope cl C X.env) fp) elt ((σ.set j none).set j (some v)) H' (S (f a)))
    (hg : ∀ (s : Shared) (H : Hp) (C : Addr) (cl : List (Str × Addr)) (fp : List Addr), PG (X.blk s H scope (compEnvC scope cl C X.env) fp) (.Name x px) (gName j)) (ok : BlkOk X.N X.env.scope scope [(x, j)] := by exact blkOk_by (by rfl)) (hc : X.calm = true := by rfl)
    (hs : ∀ x, foldedSetIterable iter X.env x = pure x := by intro _; rfl) (hp : ∀ v H, IsL S (as.map f) v H → P v H := by exact fun _ _ h => h) : EG X (.ListComp elt [⟨.Name x px, iter, [], 0⟩] scope pos) σ H P := by
  obtain ⟨wi, hpi, h⟩ := lc_read (q := fun _ => true) (vs := [j]) hi hz tgt_nm (yes_read fun _ _ => rfl) (scope := scope) (elt := elt) (S := S) (f := f) fun a ha _ σ2 H' e ⟨v, hv, hr⟩ H1 e1 Q hQ s H0 C cl fp => by
    subst hv
    exact (he a ha v H' e hr s H0 C cl fp) H1 e1 Q hQ
  rw [filter_true] at h
  exact eg_of (pe_lc (own := [(x, j)]) hc hN hpi ok hg (fun _ _ _ _ _ => pts_nil) ue_pe hs) (h.imp fun v H' _ => hp v H')
theorem eg_lcT (j : Nat) {px : Pos} [hR : ∀ a, Mono (R a)] [hS : ∀ b, Mono (S b)] (f : α → β) (q : α → Bool) (hN : X.N.Nodup) (hi : IterP X (.Name x px) iter σ H R as) (hz : as.length ≤ 1000000)
    (ht : ∀ a ∈ as, ∀ v H', Ex H H' → R a v H' → ∀ s H0 C cl fp, TG (X.blk s H0 scope (compEnvC scope cl C X.env) fp) t ((σ.set j none).set j (some v)) H' (q a))
    (he : ∀ a ∈ as, q a = true → ∀ v H', Ex H H' → R a v H' → ∀ s H0 C cl fp, EG (X.blk s H0 scope (compEnvC scope cl C X.env) fp) elt ((σ.set j none).set j (some v)) H' (S (f a)))
    (hg : ∀ (s : Shared) (H : Hp) (C : Addr) (cl : List (Str × Addr)) (fp : List Addr), PG (X.blk s H scope (compEnvC scope cl C X.env) fp) (.Name x px) (gName j)) (ok : BlkOk X.N X.env.scope scope [(x, j)] := by exact blkOk_by (by rfl)) (hc : X.calm = true := by rfl)
    (hs : ∀ x, foldedSetIterable iter X.env x = pure x := by intro _; rfl) (hp : ∀ v H, IsL S ((as.filter q).map f) v H → P v H := by exact fun _ _ h => h) : EG X (.ListComp elt [⟨.Name x px, iter, [t], 0⟩] scope pos) σ H P := by
  obtain ⟨wi, hpi, h⟩ := lc_read (q := q) (vs := [j]) hi hz tgt_nm (test_read (t := t) fun a ha σ2 H' e ⟨v, hv, hr⟩ H1 e1 Q hQ s H0 C cl fp => by
    subst hv
    exact (ht a ha v H' e hr s H0 C cl fp) H1 e1 Q hQ) (scope := scope) (elt := elt) (S := S) (f := f) fun a ha hq σ2 H' e ⟨v, hv, hr⟩ H1 e1 Q hQ s H0 C cl fp => by
    subst hv
    exact (he a ha hq v H' e hr s H0 C cl fp) H1 e1 Q hQ
  exact eg_of (pe_lc (own := [(x, j)]) hc hN hpi ok hg (fun _ _ _ _ _ => pts_one (ut_pt _ _ _ _ _)) ue_pe hs) (h.imp fun v H' _ => hp v H')
/-- [elt for x, y in iter if ..] -/
theorem eg_lc2 (j k : Nat) {px pz tp : Pos} {kk : Nat} [hR : ∀ a, Mono (R a)] [hR2 : ∀ a, Mono (R2 a)] [hS : ∀ b, Mono (S b)] (f : α × γ → β) (hN : X.N.Nodup) (hi : IterP X (.Tuple [.Name x px, .Name z pz] kk tp) iter σ H (Pr2 R R2) qs) (hz : qs.length ≤ 1000000)
    (he : ∀ q ∈ qs, ∀ v w H', Ex H H' → R q.1 v H' → R2 q.2 w H' → ∀ s H0 C cl fp, EG (X.blk s H0 scope (compEnvC scope cl C X.env) fp) elt ((((σ.set k none).set j none).set j (some v)).set k (some w)) H' (S (f q)))
    (hg : ∀ (s : Shared) (H : Hp) (C : Addr) (cl : List (Str × Addr)) (fp : List Addr), PG (X.blk s H scope (compEnvC scope cl C X.env) fp) (.Tuple [.Name x px, .Name z pz] kk tp) (gTup X.K 2 (gCons (gName j) (gCons (gName k) gNil))))
    (ok : BlkOk X.N X.env.scope scope [(x, j), (z, k)] := by exact blkOk_by (by rfl)) (hc : X.calm = true := by rfl)
    (hs : ∀ x, foldedSetIterable iter X.env x = pure x := by intro _; rfl) (hp : ∀ v H, IsL S (qs.map f) v H → P v H := by exact fun _ _ h => h) : EG X (.ListComp elt [⟨.Tuple [.Name x px, .Name z pz] kk tp, iter, [], 0⟩] scope pos) σ H P := by
  obtain ⟨wi, hpi, h⟩ := lc_read (q := fun _ => true) (vs := [j, k]) hi hz (tgt_pr (X := X)) (yes_read fun _ _ => rfl) (scope := scope) (elt := elt) (S := S) (f := f) fun a ha _ σ2 H' e ⟨v, w, hv, hr, hr2⟩ H1 e1 Q hQ s H0 C cl fp => by
    subst hv
    exact (he a ha v w H' e hr hr2 s H0 C cl fp) H1 e1 Q hQ
  rw [filter_true] at h
  exact eg_of (pe_lc (own := [(x, j), (z, k)]) hc hN hpi ok hg (fun _ _ _ _ _ => pts_nil) ue_pe hs) (h.imp fun v H' _ => hp v H')
theorem eg_lc2T (j k : Nat) {px pz tp : Pos} {kk : Nat} [hR : ∀ a, Mono (R a)] [hR2 : ∀ a, Mono (R2 a)] [hS : ∀ b, Mono (S b)] (f : α × γ → β) (p : α × γ → Bool) (hN : X.N.Nodup) (hi : IterP X (.Tuple [.Name x px, .Name z pz] kk tp) iter σ H (Pr2 R R2) qs) (hz : qs.length ≤ 1000000)
    (ht : ∀ q ∈ qs, ∀ v w H', Ex H H' → R q.1 v H' → R2 q.2 w H' → ∀ s H0 C cl fp, TG (X.blk s H0 scope (compEnvC scope cl C X.env) fp) t ((((σ.set k none).set j none).set j (some v)).set k (some w)) H' (p q))
    (he : ∀ q ∈ qs, p q = true → ∀ v w H', Ex H H' → R q.1 v H' → R2 q.2 w H' → ∀ s H0 C cl fp, EG (X.blk s H0 scope (compEnvC scope cl C X.env) fp) elt ((((σ.set k none).set j none).set j (some v)).set k (some w)) H' (S (f q)))
    (hg : ∀ (s : Shared) (H : Hp) (C : Addr) (cl : List (Str × Addr)) (fp : List Addr), PG (X.blk s H scope (compEnvC scope cl C X.env) fp) (.Tuple [.Name x px, .Name z pz] kk tp) (gTup X.K 2 (gCons (gName j) (gCons (gName k) gNil))))
    (ok : BlkOk X.N X.env.scope scope [(x, j), (z, k)] := by exact blkOk_by (by rfl)) (hc : X.calm = true := by rfl)
    (hs : ∀ x, foldedSetIterable iter X.env x = pure x := by intro _; rfl) (hp : ∀ v H, IsL S ((qs.filter p).map f) v H → P v H := by exact fun _ _ h => h) : EG X (.ListComp elt [⟨.Tuple [.Name x px, .Name z pz] kk tp, iter, [t], 0⟩] scope pos) σ H P := by
  obtain ⟨wi, hpi, h⟩ := lc_read (q := p) (vs := [j, k]) hi hz (tgt_pr (X := X)) (test_read (t := t) fun a ha σ2 H' e ⟨v, w, hv, hr, hr2⟩ H1 e1 Q hQ s H0 C cl fp => by
    subst hv
    exact (ht a ha v w H' e hr hr2 s H0 C cl fp) H1 e1 Q hQ) (scope := scope) (elt := elt) (S := S) (f := f) fun a ha hq σ2 H' e ⟨v, w, hv, hr, hr2⟩ H1 e1 Q hQ s H0 C cl fp => by
    subst hv
    exact (he a ha hq v w H' e hr hr2 s H0 C cl fp) H1 e1 Q hQ
  exact eg_of (pe_lc (own := [(x, j), (z, k)]) hc hN hpi ok hg (fun _ _ _ _ _ => pts_one (ut_pt _ _ _ _ _)) ue_pe hs) (h.imp fun v H' _ => hp v H')
/-- name = [..]: an assignment of a comprehension's value: by what its value is -/
theorem b_asgLc (i j : Nat) {px p1 : Pos} [hR : ∀ a, Mono (R a)] [hS : ∀ b, Mono (S b)] (f : α → β) {rest : List Stmt} {D : Ends} (hN : X.N.Nodup) (hi : IterP X (.Name x px) iter σ H R as) (hz : as.length ≤ 1000000)
    (he : ∀ a ∈ as, ∀ v H', Ex H H' → R a v H' → ∀ s H0 C cl fp, EG (X.blk s H0 scope (compEnvC scope cl C X.env) fp) elt ((σ.set j none).set j (some v)) H' (S (f a)))
    (hg : ∀ (s : Shared) (H : Hp) (C : Addr) (cl : List (Str × Addr)) (fp : List Addr), PG (X.blk s H scope (compEnvC scope cl C X.env) fp) (.Name x px) (gName j)) (hy : X.N[i]? = some y) (hyl : X.env.scope.names.lookup y = some .local)
    (hsw : swapsWith (.ListComp elt [⟨.Name x px, iter, [], 0⟩] scope pos) (some (.Name y py)) spos.line X.env = pure true) (k : ∀ v H1, Ex H H1 → IsL S (as.map f) v H1 → BW X rest D (σ.set i (some v)) H1)
    (ok : BlkOk X.N X.env.scope scope [(x, j)] := by exact blkOk_by (by rfl)) (hc : X.calm = true := by rfl)
    (hs : ∀ x, foldedSetIterable iter X.env x = pure x := by intro _; rfl) : BW X (.Assign [.Name y py] (.ListComp elt [⟨.Name x px, iter, [], 0⟩] scope pos) spos :: rest) D σ H := by
  obtain ⟨wi, hpi, h⟩ := lc_read (q := fun _ => true) (vs := [j]) hi hz tgt_nm (yes_read fun _ _ => rfl) (scope := scope) (elt := elt) (S := S) (f := f) fun a ha _ σ2 H' e ⟨v, hv, hr⟩ H1 e1 Q hQ s H0 C cl fp => by
    subst hv
    exact (he a ha v H' e hr s H0 C cl fp) H1 e1 Q hQ
  rw [filter_true] at h
  exact b_of (ps_setLc (own := [(x, j)]) hc hN hy hyl hsw hpi ok hg (fun _ _ _ _ _ => pts_nil) ue_pe hs) (h H (Ex.refl H) _ k)

/-! ### loops -/
/-- what a turn is to reach -/
def Nxt (Hb : Hp) (P : L2.St → Hp → Prop) : L2.St → Hp → Prop := fun s h => Ex Hb h ∧ P s h
theorem b_forN (j : Nat) {px : Pos} {body rest : List Stmt} {D : Ends} (Pv : Nat → L2.St → Hp → Prop) (hN : X.N.Nodup) (hi : IterP X (.Name x px) iter σ H R as) (h0 : ∀ H1, Ex H H1 → Pv 0 σ H1)
    (hs : ∀ i a v σ' Ha Hb, as[i]? = some a → Ex H Ha → Pv i σ' Ha → Ex Ha Hb → R a v Hb → BW X body { nx := Nxt Hb (Pv (i + 1)), ct := Nxt Hb (Pv (i + 1)), bk := BW X rest D, rt := D.rt } (σ'.set j (some v)) Hb)
    (hd : ∀ σ' H', Ex H H' → Pv as.length σ' H' → BW X rest D σ' H') (hj : X.N[j]? = some x := by rfl) (hl : Loc X.env.scope x := by first | exact Or.inl rfl | exact Or.inr rfl)
    (hxe : PassesOwn (model X.prog X.w) X.A X.env X.xe := by exact PassesOwn.never) (hc : X.calm = true := by rfl) (hf : ∀ x, foldedSetIterable iter X.env x = pure x := by intro _; rfl)
    (hfn : X.fn x = true ∨ X.env.scope.names.lookup x = some .local := by first | exact .inl rfl | exact .inr rfl) : BW X (.For (.Name x px) iter body [] pos :: rest) D σ H := by
  obtain ⟨wi, hpi, hw⟩ := hi
  refine b_of (ps_for hxe hc hpi (pg_name hN hj hl hfn) pss_W hf) ?_
  refine hw H (Ex.refl H) _ fun J H2 G Y e2 W WG => ?_
  refine for_it W (fun i σ' H' => Ex H2 H' ∧ Pv i σ' H') ⟨Ex.refl _, h0 H2 e2⟩ (fun i σ' H' _ p => WG.g H' fun a xs => ⟨fun h => p.1 a _ h, fun h => p.1 a _ h⟩) (fun i v σ' Ha Hb hi p y => ?_) (fun σ' H' p => hd σ' H' (e2.trans p.1) p.2)
  obtain ⟨eb, a, ha, ra⟩ := WG.y i Ha v Hb p.1 y
  have z := hs i a v σ' Ha Hb ha (e2.trans p.1) p.2 eb ra
  intro pins s I
  refine thn (z pins s I) fun f s1 q => ?_
  cases f with
  | next =>
    obtain ⟨σ2, H3, I3, q1, q2⟩ := q
    exact ⟨σ2, H3, I3, (p.1.trans eb).trans q1, q2⟩
  | cont =>
    obtain ⟨σ2, H3, I3, q1, q2⟩ := q
    exact ⟨σ2, H3, I3, (p.1.trans eb).trans q1, q2⟩
  | brk => exact q
  | ret u => exact q
theorem b_for2 (j k : Nat) {px pz tp : Pos} {kk : Nat} {body rest : List Stmt} {D : Ends} (Pv : Nat → L2.St → Hp → Prop) (hN : X.N.Nodup) (hi : IterP X (.Tuple [.Name x px, .Name z pz] kk tp) iter σ H (Pr2 R R2) qs) (h0 : ∀ H1, Ex H H1 → Pv 0 σ H1)
    (hs : ∀ i q v w σ' Ha Hb, qs[i]? = some q → Ex H Ha → Pv i σ' Ha → Ex Ha Hb → R q.1 v Hb → R2 q.2 w Hb → BW X body { nx := Nxt Hb (Pv (i + 1)), ct := Nxt Hb (Pv (i + 1)), bk := BW X rest D, rt := D.rt } ((σ'.set j (some v)).set k (some w)) Hb)
    (hd : ∀ σ' H', Ex H H' → Pv qs.length σ' H' → BW X rest D σ' H') (hg : PG X (.Tuple [.Name x px, .Name z pz] kk tp) (gTup X.K 2 (gCons (gName j) (gCons (gName k) gNil))))
    (hxe : PassesOwn (model X.prog X.w) X.A X.env X.xe := by exact PassesOwn.never) (hc : X.calm = true := by rfl) (hf : ∀ x, foldedSetIterable iter X.env x = pure x := by intro _; rfl) : BW X (.For (.Tuple [.Name x px, .Name z pz] kk tp) iter body [] pos :: rest) D σ H := by
  obtain ⟨wi, hpi, hw⟩ := hi
  refine b_of (ps_for hxe hc hpi hg pss_W hf) ?_
  refine hw H (Ex.refl H) _ fun J H2 G Y e2 W WG => ?_
  refine for_it W (fun i σ' H' => Ex H2 H' ∧ Pv i σ' H') ⟨Ex.refl _, h0 H2 e2⟩ (fun i σ' H' _ p => WG.g H' fun a xs => ⟨fun h => p.1 a _ h, fun h => p.1 a _ h⟩) (fun i v σ' Ha Hb hi p y => ?_) (fun σ' H' p => hd σ' H' (e2.trans p.1) p.2)
  obtain ⟨eb, a, ha, ⟨pp, xs, hx, hp, y1, r1, e1, h1, y2, r2, e3, h2, e4⟩⟩ := WG.y i Ha v Hb p.1 y
  refine ⟨pp, xs, hx, SqT.of hp, by rw [e1, e3, show r2 = [] from e4]; rfl, y1, r1, e1, y2, r2, e3, e4, ?_⟩
  have z := hs i a y1 y2 σ' Ha Hb ha (e2.trans p.1) p.2 eb h1 h2
  intro pins s I
  refine thn (z pins s I) fun f s1 q => ?_
  cases f with
  | next =>
    obtain ⟨σ2, H3, I3, q1, q2⟩ := q
    exact ⟨σ2, H3, I3, (p.1.trans eb).trans q1, q2⟩
  | cont =>
    obtain ⟨σ2, H3, I3, q1, q2⟩ := q
    exact ⟨σ2, H3, I3, (p.1.trans eb).trans q1, q2⟩
  | brk => exact q
  | ret u => exact q
/-- while: the number falls -/
theorem b_while {c : Expr} {body rest : List Stmt} {D : Ends} (Pv : Nat → L2.St → Hp → Prop) (m0 : Nat) (h0 : Pv m0 σ H)
    (hs : ∀ m σ' H', Pv m σ' H' → ∃ b, TG X c σ' H' b ∧ (b = true → ∀ H1, Ex H' H1 → BW X body { nx := fun s h => ∃ m', m' < m ∧ Pv m' s h, ct := fun s h => ∃ m', m' < m ∧ Pv m' s h, bk := BW X rest D, rt := D.rt } σ' H1) ∧ (b = false → ∀ H1, Ex H' H1 → BW X rest D σ' H1))
    (hxe : PassesOwn (model X.prog X.w) X.A X.env X.xe := by exact PassesOwn.never) : BW X (.While c body [] pos :: rest) D σ H := by
  refine b_of (ps_while hxe pt_W pss_W) ⟨Pv, ⟨m0, h0⟩, fun m σ' H' p => ?_⟩
  obtain ⟨b, ht, h1, h2⟩ := hs m σ' H' p
  refine ht H' (Ex.refl _) _ fun H1 e1 => ?_
  cases b with
  | true => rw [if_pos rfl]; exact ⟨_, fun _ _ q => q, h1 rfl H1 e1⟩
  | false => rw [if_neg Bool.false_ne_true]; exact h2 rfl H1 e1
end
end G
set_option maxHeartbeats 4000000
namespace G
open PySem PySem.Spec PyProof.Rows L2 Evl

/-! ### operators of own classes -/
theorem relV_back {v : V} {u : Value} {Q : Value → Shared → Prop} {s : Shared} (r : RelV v u) (q : Q u s) : PySem.W.CmpBack Q u s := by
  cases v with
  | non => cases (show u = _ from r); exact q
  | bl b => cases (show u = _ from r); exact q
  | int i => obtain ⟨t, e⟩ := (show ∃ t, u = _ from r); cases e; exact q
  | str i => obtain ⟨t, e⟩ := (show ∃ t, u = _ from r); cases e; exact q
  | byt i => obtain ⟨t, e⟩ := (show ∃ t, u = _ from r); cases e; exact q
  | flt i => obtain ⟨t, e⟩ := (show ∃ t, u = _ from r); cases e; exact q
  | ref a => cases (show u = _ from r); exact q
  | ty n => cases (show u = _ from r); exact q
/-- a method that an operator asks for -/
structure OCal (P : Program) (w : World) (K : PySem.W.Frag) (mg : Str → Option Value) (base : Heap) (C : Addr) (m : Str) (k : Nat) (sp : Sp) : Prop where
  ex : ∃ f fd ps, FnOk P w K mg base CX0 k f fd ps sp ∧ PySem.W.findIn K (.ref C) m = some (some (.ref f)) ∧ PySem.W.isFn K (.ref f) = true ∧ Binds K fd ps []
section
variable {X : Cx} {σ : L2.St} {H : Hp} {a b e : Expr} {pos p : Pos} {P P1 P2 : Rep} {k : Nat} {sp : Sp} {C : Addr}
theorem call_own {A : Around} {pins : List (Addr × Obj)} {s : Shared} {f : Addr} {fd : FuncData} {ps : List Str} {vs : List V} {us : List Value} {Q : VK} (F : FnOk X.prog X.w X.K X.mg X.base CX0 k f fd ps sp) (hb : Binds X.K fd ps []) (sb : Sub X k A) (I : Inv X pins σ H s) (r : Vals vs us) (h : sp vs H Q E0) :
    wpAny (model X.prog X.w) A (call (.ref f) us) (EP X pins σ Q) X.xe s := by
  have e0 : Env0 X.prog X.w X.K X.mg X.base A X.stack s H := by
    have e := I.env0
    exact ⟨by rw [sb.fr]; exact e.frames, e.mod, e.bs, e.bsz, e.funs, e.frf, e.hok, e.bare⟩
  have hl := F.len _ _ _ _ h
  refine wpAny_call (codeAny_mono (F.run A X.stack s H ⟨us, []⟩ us vs Q E0 sb.room e0 (by
    have := hb s us I.kIn (by rw [List.append_nil, ← r.length, hl])
    simpa using this) r h) fun z s' hq => ?_)
  cases z with
  | error e => exact pass0 pins σ H s e s' I hq
  | ok fl =>
    cases fl with
    | ret w =>
      obtain ⟨z, H', I', rz, q⟩ := I.after hq
      exact ⟨z, H', I', rz, q⟩
    | next => exact False.elim hq
    | brk => exact False.elim hq
    | cont => exact False.elim hq
/-- a op b by a's own method: b of a's class -/
def rOwn (K : PySem.W.Frag) (C : Addr) (sp : Sp) : R2 := fun x y H Q => ∃ a b dx dy fs gs, x = .ref a ∧ y = .ref b ∧ H a = some (.ins C dx fs) ∧ H b = some (.ins C dy gs) ∧ sp [x, y] H Q E0
theorem op_own {op : Operator} (hc : PySem.W.selfFirst X.K C = true) (D : OCal X.prog X.w X.K X.mg X.base C (PySem.dunder op.info.2) k sp) (hr : Room k X.A) : OpR X (binaryOp op) (rOwn X.K C sp) := by
  intro pins s σ H x y v u Q I rx ry ⟨a, b, dx, dy, fs, gs, h1, h2, h3, h4, h5⟩
  obtain ⟨f, fd, ps, F, hs, hf, hb⟩ := D.ex
  subst h1 h2
  cases rx
  cases ry
  obtain ⟨mA, J, _⟩ := ins_get I.hok h3
  obtain ⟨mB, J', _⟩ := ins_get I.hok h4
  obtain ⟨od, J, _⟩ := J.look
  obtain ⟨od', J', _⟩ := J'.look
  obtain ⟨m, hF⟩ := I.fr
  refine PySem.W.binop_K hF I.ok.mod.kin J J'.type hc hs hf ?_
  refine thn (call_own (vs := [.ref a, .ref b]) (us := [.ref a, .ref b]) F hb ⟨hr, rfl⟩ I (.cons rfl (.cons rfl .nil)) h5) fun w s1 ⟨v, H1, I1, r1, q1⟩ => relV_back r1 ⟨v, H1, I1, r1, q1⟩
/-- the built-in type T as the right one -/
structure SlotT (K : PySem.W.Frag) (C : Addr) (nm T : String) : Prop where
  r : ∃ rc, PySem.W.findIn K (.ref C) (dunderR nm) = some rc ∧ (rc = none ∨ ∃ g : Addr, rc = some (.ref g))
  a : ∃ fo, PySem.W.findIn K (.type T) (PySem.dunder nm) = some fo
  b : ∃ fo, PySem.W.findIn K (.type T) (dunderR nm) = some fo
  s : PySem.W.subIn K (.type T) (.ref C) = some false
def rOwnI (C : Addr) (sp : Sp) : R2 := fun x y H Q => ∃ a dx fs i, x = .ref a ∧ y = .int i ∧ H a = some (.ins C dx fs) ∧ sp [x, y] H Q E0
theorem op_ownI {op : Operator} (hc : PySem.W.selfFirst X.K C = true) (D : OCal X.prog X.w X.K X.mg X.base C (PySem.dunder op.info.2) k sp) (hr : Room k X.A) (S : SlotT X.K C op.info.2 "int") : OpR X (binaryOp op) (rOwnI C sp) := by
  intro pins s σ H x y v u Q I rx ry ⟨a, dx, fs, i, h1, h2, h3, h5⟩
  obtain ⟨f, fd, ps, F, hs, hf, hb⟩ := D.ex
  subst h1 h2
  cases rx
  obtain ⟨t, ry⟩ := ry
  subst ry
  obtain ⟨mA, J, _⟩ := ins_get I.hok h3
  obtain ⟨od, J, _⟩ := J.look
  obtain ⟨m, hF⟩ := I.fr
  obtain ⟨rc, hr1, hr2⟩ := S.r
  obtain ⟨fo, hfo⟩ := S.a
  obtain ⟨ro, hro⟩ := S.b
  refine PySem.W.ksp_binT (T := "int") hF I.ok.mod.kin J rfl hc hs hf hr1 hr2 hfo hro S.s ?_
  refine thn (call_own (vs := [.ref a, .int i]) (us := [.ref a, .int i t]) F hb ⟨hr, rfl⟩ I (.cons rfl (.cons ⟨t, rfl⟩ .nil)) h5) fun w s1 ⟨v, H1, I1, r1, q1⟩ => relV_back r1 ⟨v, H1, I1, r1, q1⟩
/-- a op b by a's own method: b of another own class -/
def rOwnD (C B : Addr) (sp : Sp) : R2 := fun x y H Q => ∃ a b dx dy fs gs, x = .ref a ∧ y = .ref b ∧ H a = some (.ins C dx fs) ∧ H b = some (.ins B dy gs) ∧ sp [x, y] H Q E0
/-- - a by its own method -/
def rOwnN (C : Addr) (sp : Sp) : V → Hp → VK → Prop := fun x H Q => ∃ a dx fs, x = .ref a ∧ H a = some (.ins C dx fs) ∧ sp [x] H Q E0
theorem un_own (D : OCal X.prog X.w X.K X.mg X.base C "__neg__" k sp) (hr : Room k X.A) : UnR X (unaryOp .USub) (rOwnN C sp) := by
  intro pins s σ H x v Q I rx ⟨a, dx, fs, h1, h3, h5⟩
  obtain ⟨f, fd, ps, F, hs, hf, hb⟩ := D.ex
  subst h1
  cases rx
  obtain ⟨mA, J, _⟩ := ins_get I.hok h3
  obtain ⟨od, J, _⟩ := J.look
  obtain ⟨m, hF⟩ := I.fr
  refine PySem.W.ksp_neg hF I.ok.mod.kin J hs hf ?_
  exact call_own (vs := [.ref a]) (us := [.ref a]) F hb ⟨hr, rfl⟩ I (.cons rfl .nil) h5
/-- == of two of one own class by its own == -/
theorem op_eqO (D : OCal X.prog X.w X.K X.mg X.base C "__eq__" k sp) (hr : Room k X.A) : OpR X (compareOp .Eq) (rOwn X.K C sp) := by
  intro pins s σ H x y v u Q I rx ry ⟨a, b, dx, dy, fs, gs, h1, h2, h3, h4, h5⟩
  obtain ⟨f, fd, ps, F, hs, hf, hb⟩ := D.ex
  subst h1 h2
  cases rx
  cases ry
  obtain ⟨mA, J, _⟩ := ins_get I.hok h3
  obtain ⟨mB, J', _⟩ := ins_get I.hok h4
  obtain ⟨od, J, _⟩ := J.look
  obtain ⟨od', J', _⟩ := J'.look
  obtain ⟨m, hF⟩ := I.fr
  show wpAny _ _ (richCompare .Eq _ _) _ _ _
  refine PySem.W.cmp_K (op := .Eq) (tb := .ref C) hr.units0 hF I.ok.mod.kin J J'.type (by simp [PySem.W.notFirst]) hs hf ?_
  refine thn (call_own (vs := [.ref a, .ref b]) (us := [.ref a, .ref b]) F hb ⟨hr, rfl⟩ I (.cons rfl (.cons rfl .nil)) h5) fun w s1 ⟨v, H1, I1, r1, q1⟩ => relV_back r1 ⟨v, H1, I1, r1, q1⟩
/-- == of one of an own class and an int -/
theorem op_eqOI (D : OCal X.prog X.w X.K X.mg X.base C "__eq__" k sp) (hr : Room k X.A) (hn : PySem.W.notFirst X.K C (.type "int") = true) : OpR X (compareOp .Eq) (rOwnI C sp) := by
  intro pins s σ H x y v u Q I rx ry ⟨a, dx, fs, i, h1, h2, h3, h5⟩
  obtain ⟨f, fd, ps, F, hs, hf, hb⟩ := D.ex
  subst h1 h2
  cases rx
  obtain ⟨t, ry⟩ := ry
  subst ry
  obtain ⟨mA, J, _⟩ := ins_get I.hok h3
  obtain ⟨od, J, _⟩ := J.look
  obtain ⟨m, hF⟩ := I.fr
  show wpAny _ _ (richCompare .Eq _ _) _ _ _
  refine PySem.W.cmp_K (op := .Eq) (tb := .type "int") hr.units0 hF I.ok.mod.kin J (PySem.W.Looks.of_pure rfl) hn hs hf ?_
  refine thn (call_own (vs := [.ref a, .int i]) (us := [.ref a, .int i t]) F hb ⟨hr, rfl⟩ I (.cons rfl (.cons ⟨t, rfl⟩ .nil)) h5) fun w s1 ⟨v, H1, I1, r1, q1⟩ => relV_back r1 ⟨v, H1, I1, r1, q1⟩

end
end G
namespace PySem.W
open PySem PySem.Calls PyProof.Rows
section
variable {prog : Program} {w : World} {A : Around} {E : Value → Shared → Prop} {s : Shared} {K : Frag} {x C L f : Addr} {h₀ : Heap} {m : Str → Option Value} {ox : Obj} {od : Option Obj} {b tb : Value}
theorem gne_bound {M : Model} {args : List Value} {Q : Option Value → Shared → Prop} (X : K.In s.heap) (I : InstAt s.heap x ox C od) (hs : findIn K (.ref C) "__ne__" = some (some (.builtin "object.__ne__")))
    (h : wpAny M A (call (.builtin "object.__ne__") (.ref x :: args)) (fun v => Q (some v)) E s) : wpAny M A (callSpecialIfBound? (.ref x) "__ne__" args) Q E s := by
  simp only [callSpecialIfBound?, bindSpecialIfBound?]
  refine wpAny_holding (wpAny_bind (wpAny_bind (wpAny_bind (I.type.here ((looks_findIn X hs).here ?_)))))
  refine wpAny_bind (wpAny_askSetting (wpAny_ite ?_))
  have fin : wpAny M A (call (.builtin "object.__ne__") ([.ref x] ++ args) >>= fun v => pure (some v)) Q E s := wpAny_bind (wpAny_mono h (fun v s' h' => wpAny_pure h') fun _ _ h' => h')
  have L : Looks M s.heap (bindSpecial (.builtin "object.__ne__") (.ref x)) (.builtin "object.__ne__", [.ref x]) := Looks.of_pure (F.cmp_object.ne.bind _)
  split
  · exact wpAny_bind (L.here (wpAny_pure (by exact fin)))
  · exact wpAny_tryCatch (wpAny_bind (L.here (wpAny_pure (by exact fin))))
theorem gne_entry {Q : Fin → Shared → Prop} (X : K.In s.heap) (I : InstAt s.heap x ox C od) (hu : A.units < cLine) (hs : findIn K (.ref C) "__eq__" = some (some (.ref f))) (hf : isFn K (.ref f) = true)
    (h : wpAny (model prog w) A (call (.ref f) [.ref x, b]) (fun v s' => ∃ r, v = .bool r ∧ Q (.done (.ret (.bool (!r)))) s') E s) : wpAny (model prog w) A (Builtin.«object.__ne__» ⟨[.ref x, b], []⟩) Q E s := by
  unfold Builtin.«object.__ne__»
  repeat (first
    | with_reducible refine wpAny_cRoomFor hu ?_
    | (refine wpAny_bind (m := callSpecialIfBound? (.ref x) (Str.ofString "__eq__") [b])
        (ifBound_K X I hs hf (wpAny_mono h (fun r s' hr => by
          obtain ⟨q, rfl, hq⟩ := hr
          repeat (first | exact hq | exact wpAny_pure hq | exact wpAny_truthy_bool hq | (refine wpAny_bind (m := truthy (.bool _)) (wpAny_truthy_bool ?_)) | wp_step)) fun _ _ e => e)))
    | wp_step)
theorem gne_K {Q : Value → Shared → Prop} (hu : A.units + 1 < cLine) (FF : Fr h₀ L s.heap m) (X₀ : K.In h₀) (I : InstAt s.heap x ox C od) (hb : Looks (model prog w) s.heap (typeOf b) tb) (hn : notFirst K C tb = true)
    (hne : findIn K (.ref C) "__ne__" = some (some (.builtin "object.__ne__"))) (hob : subIn K (.ref C) (.type "object") = some true) (hs : findIn K (.ref C) "__eq__" = some (some (.ref f))) (hf : isFn K (.ref f) = true)
    (h : wpAny (model prog w) A.in1 (call (.ref f) [.ref x, b]) (fun v s' => ∃ r, v = .bool r ∧ Q (.bool (!r)) s') E s) : wpAny (model prog w) A (richCompare .NotEq (.ref x) b) Q E s := by
  have X := X₀.keeps FF.keep
  have one : wpAny (model prog w) A (tryCompare (.ref x) "__ne__" b) (fun r s' => ∃ v, r = some v ∧ Q v s') E s := by
    unfold tryCompare
    refine wpAny_bind (gne_bound X I hne (wpAny_call (codeAny_call_builtin F.cmp_object.ne.plain F.cmpEntry_ne (check_slot F.cmpKind_ne F.cmpSplit_ne (I.type.andThen (looks_subIn X hob)) (F.cmpArgs_ne _ _) (gne_entry X I hu hs hf (wpAny_mono h (fun v s' hv => ?_) fun _ _ e => e))))))
    obtain ⟨r, rfl, hq⟩ := hv
    exact ⟨r, rfl, by first | exact wpAny_pure ⟨_, rfl, hq⟩ | exact ⟨_, rfl, hq⟩⟩
  unfold richCompare
  simp only [oneThing_ref]
  refine wpAny_holding (wpAny_bind (wpAny_cRoomFor (Nat.lt_of_succ_lt hu) ?_))
  refine wpAny_bind (I.type.here (wpAny_bind (hb.here ?_)))
  rw [cmpInfo_NotEq]
  dsimp only
  split
  · rename_i q
    have e : subIn K tb (.ref C) = some false := by
      rcases Bool.or_eq_true_iff.mp hn with e | e
      · rw [beq_iff_eq.mp e] at q; simp at q
      · exact beq_iff_eq.mp e
    refine wpAny_bind ((looks_subIn X e).here ?_)
    simp only [Bool.false_eq_true, if_false]
    refine wpAny_bind (wpAny_mono one (fun r s' z => ?_) fun _ _ e => e)
    obtain ⟨v, rfl, hq⟩ := z
    exact wpAny_pure hq
  · refine wpAny_bind (wpAny_pure ?_)
    simp only [Bool.false_eq_true, if_false]
    refine wpAny_bind (wpAny_mono one (fun r s' z => ?_) fun _ _ e => e)
    obtain ⟨v, rfl, hq⟩ := z
    exact wpAny_pure hq
end
end PySem.W
set_option maxHeartbeats 4000000
namespace G
open PySem PySem.Spec PyProof.Rows L2 Evl
section
variable {X : Cx} {σ : L2.St} {H : Hp} {a b e l : Expr} {es : List Expr} {pos p : Pos} {P P1 P2 : Rep} {k : Nat} {sp : Sp} {C : Addr} {α : Type} {Qs : α → List Rep} {Post : α → Rep} {i j : Int}
/-- an instance of the class at C, whatever its fields -/
abbrev AtC (C : Addr) : Rep := fun v H => ∃ a dx fs, v = .ref a ∧ H a = some (.ins C dx fs)
theorem ins_at {F : List (Str × V) → Hp → Prop} {v : V} {H : Hp} (h : Ins C F v H) : AtC C v H := let ⟨a, dx, fs, h1, h2, _⟩ := h; ⟨a, dx, fs, h1, h2⟩
theorem eg_mulO (hc : IntMulOk i j) (ha : EG X a σ H (IsI i)) (hb : EG X b σ H (IsI j)) : EG X (.BinOp a .Mult b pos) σ H (IsI (i * j)) :=
  eg_of (pe_op (r := rI IntMulOk fun i j => .int (i * j)) (opI fun _ _ _ _ _ _ _ hc q => mul_int q hc) pe_W pe_W) (ep_op ha hb fun x y H1 _ px py Q q => ⟨i, j, px, py, hc, q _ H1 (Ex.refl H1) rfl⟩)
/-- a op b, both of the class at C -/
theorem eg_opO {op : Operator} (t : α) [h1 : Mono P1] (D : OCal X.prog X.w X.K X.mg X.base C (PySem.dunder op.info.2) k (PSp Qs Post)) (hr : Room k X.A) (hc : PySem.W.selfFirst X.K C = true) (ha : EG X a σ H P1) (hb : EG X b σ H P2)
    (i1 : ∀ v H, P1 v H → AtC C v H) (i2 : ∀ v H, P2 v H → AtC C v H) (hq : ∀ x y H, P1 x H → P2 y H → Args (Qs t) [x, y] H) (hp : ∀ v H, Post t v H → P v H := by exact fun _ _ h => h) : EG X (.BinOp a op b pos) σ H P :=
  eg_of (pe_op (op_own hc D hr) pe_W pe_W) (ep_op ha hb fun x y H1 _ px py Q q => by
    obtain ⟨a, dx, fs, e1, e2⟩ := i1 x H1 px
    obtain ⟨b, dy, gs, e3, e4⟩ := i2 y H1 py
    exact ⟨a, b, dx, dy, fs, gs, e1, e3, e2, e4, t, hq x y H1 px py, fun v H2 e h => q v H2 e (hp v H2 h)⟩)
theorem eg_opOI {op : Operator} (t : α) [h1 : Mono P1] (D : OCal X.prog X.w X.K X.mg X.base C (PySem.dunder op.info.2) k (PSp Qs Post)) (hr : Room k X.A) (hc : PySem.W.selfFirst X.K C = true) (S : SlotT X.K C op.info.2 "int") (ha : EG X a σ H P1) (hb : EG X b σ H (IsI i))
    (i1 : ∀ v H, P1 v H → AtC C v H) (hq : ∀ x H, P1 x H → Args (Qs t) [x, .int i] H) (hp : ∀ v H, Post t v H → P v H := by exact fun _ _ h => h) : EG X (.BinOp a op b pos) σ H P :=
  eg_of (pe_op (op_ownI hc D hr S) pe_W pe_W) (ep_op ha hb fun x y H1 _ px py Q q => by
    obtain ⟨a, dx, fs, e1, e2⟩ := i1 x H1 px
    have e3 : y = .int i := py
    subst e3
    exact ⟨a, dx, fs, i, e1, rfl, e2, t, hq x H1 px, fun v H2 e h => q v H2 e (hp v H2 h)⟩)
theorem eg_negO (t : α) (D : OCal X.prog X.w X.K X.mg X.base C "__neg__" k (PSp Qs Post)) (hr : Room k X.A) (ha : EG X a σ H P1) (i1 : ∀ v H, P1 v H → AtC C v H) (hq : ∀ x H, P1 x H → Args (Qs t) [x] H) (hp : ∀ v H, Post t v H → P v H := by exact fun _ _ h => h) : EG X (.UnaryOp .USub a pos) σ H P :=
  eg_of (pe_un (un_own D hr) pe_W) (ep_un ha fun x H1 _ px Q q => by
    obtain ⟨a, dx, fs, e1, e2⟩ := i1 x H1 px
    exact ⟨a, dx, fs, e1, e2, t, hq x H1 px, fun v H2 e h => q v H2 e (hp v H2 h)⟩)
/-- == by an own one -/
theorem cg_eqO {bz : Bool} {bb : α → Bool} (t : α) [h1 : Mono P1] (D : OCal X.prog X.w X.K X.mg X.base C "__eq__" k (PSp Qs fun a => IsB (bb a))) (hr : Room k X.A) (ha : EG X a σ H P1) (hb : EG X b σ H P2)
    (i1 : ∀ v H, P1 v H → AtC C v H) (i2 : ∀ v H, P2 v H → AtC C v H) (hq : ∀ x y H, P1 x H → P2 y H → Args (Qs t) [x, y] H) (hbb : bb t = bz) : CG X .Eq a b σ H bz := hbb ▸
  cg_of (op_eqO D hr) ha hb fun x y H1 _ px py Q q => by
    obtain ⟨a, dx, fs, e1, e2⟩ := i1 x H1 px
    obtain ⟨b, dy, gs, e3, e4⟩ := i2 y H1 py
    exact ⟨a, b, dx, dy, fs, gs, e1, e3, e2, e4, t, hq x y H1 px py, fun v H' e hv => by rw [show v = .bl (bb t) from hv]; exact q H' e⟩
theorem cg_eqOI {bz : Bool} {bb : α → Bool} (t : α) [h1 : Mono P1] (D : OCal X.prog X.w X.K X.mg X.base C "__eq__" k (PSp Qs fun a => IsB (bb a))) (hr : Room k X.A) (hn : PySem.W.notFirst X.K C (.type "int") = true) (ha : EG X a σ H P1) (hb : EG X b σ H (IsI i))
    (i1 : ∀ v H, P1 v H → AtC C v H) (hq : ∀ x H, P1 x H → Args (Qs t) [x, .int i] H) (hbb : bb t = bz) : CG X .Eq a b σ H bz := hbb ▸
  cg_of (op_eqOI D hr hn) ha hb fun x y H1 _ px py Q q => by
    obtain ⟨a, dx, fs, e1, e2⟩ := i1 x H1 px
    have e3 : y = .int i := py
    subst e3
    exact ⟨a, dx, fs, i, e1, rfl, e2, t, hq x H1 px, fun v H' e hv => by rw [show v = .bl (bb t) from hv]; exact q H' e⟩
/-- != by an own == -/
structure NeO (K : PySem.W.Frag) (C : Addr) : Prop where
  ne : PySem.W.findIn K (.ref C) "__ne__" = some (some (.builtin "object.__ne__"))
  ob : PySem.W.subIn K (.ref C) (.type "object") = some true
def rOwnNe (C : Addr) (sp : Sp) : R2 := fun x y H Q => ∃ a b dx dy fs gs, x = .ref a ∧ y = .ref b ∧ H a = some (.ins C dx fs) ∧ H b = some (.ins C dy gs) ∧ sp [x, y] H (fun v H' => ∃ r, v = .bl r ∧ Q (.bl (!r)) H') E0
theorem op_neO (N : NeO X.K C) (D : OCal X.prog X.w X.K X.mg X.base C "__eq__" k sp) (hr : Room (k + 1) X.A) : OpR X (compareOp .NotEq) (rOwnNe C sp) := by
  intro pins s σ H x y v u Q I rx ry ⟨a, b, dx, dy, fs, gs, h1, h2, h3, h4, h5⟩
  obtain ⟨f, fd, ps, F, hs, hf, hb⟩ := D.ex
  subst h1 h2
  cases rx
  cases ry
  obtain ⟨mA, J, _⟩ := ins_get I.hok h3
  obtain ⟨mB, J', _⟩ := ins_get I.hok h4
  obtain ⟨od, J, _⟩ := J.look
  obtain ⟨od', J', _⟩ := J'.look
  obtain ⟨m, hF⟩ := I.fr
  show wpAny _ _ (richCompare .NotEq _ _) _ _ _
  have sb : Sub X k X.A.in1 := L2.Sub.in1 ⟨hr, rfl⟩
  refine PySem.W.gne_K (tb := .ref C) sb.room.units0 hF I.ok.mod.kin J J'.type (by simp [PySem.W.notFirst]) N.ne N.ob hs hf ?_
  refine thn (call_own (vs := [.ref a, .ref b]) (us := [.ref a, .ref b]) F hb sb I (.cons rfl (.cons rfl .nil)) h5) fun w s1 ⟨v, H1, I1, r1, r, q1, q2⟩ => ?_
  subst q1
  cases (show w = _ from r1)
  exact ⟨r, rfl, .bl (!r), H1, I1, rfl, q2⟩
theorem cg_neO {bz : Bool} {bb : α → Bool} (t : α) [h1 : Mono P1] (N : NeO X.K C) (D : OCal X.prog X.w X.K X.mg X.base C "__eq__" k (PSp Qs fun a => IsB (bb a))) (hr : Room (k + 1) X.A) (ha : EG X a σ H P1) (hb : EG X b σ H P2)
    (i1 : ∀ v H, P1 v H → AtC C v H) (i2 : ∀ v H, P2 v H → AtC C v H) (hq : ∀ x y H, P1 x H → P2 y H → Args (Qs t) [x, y] H) (hbb : (!bb t) = bz) : CG X .NotEq a b σ H bz := hbb ▸
  cg_of (op_neO N D hr) ha hb fun x y H1 _ px py Q q => by
    obtain ⟨a, dx, fs, e1, e2⟩ := i1 x H1 px
    obtain ⟨b, dy, gs, e3, e4⟩ := i2 y H1 py
    exact ⟨a, b, dx, dy, fs, gs, e1, e3, e2, e4, t, hq x y H1 px py, fun v H' e hv => ⟨bb t, hv, q H' e⟩⟩

/-! ### subscripts, slices -/
theorem all2_at {R : α → Rep} {as : List α} {xs : List V} {n : Nat} {x : α} (h : All2 R as xs H) (hx : as[n]? = some x) : ∃ v, xs[n]? = some v ∧ R x v H := h.get2 hx
theorem eg_ixL {R : α → Rep} {as : List α} {n : Nat} {x : α} [hR : ∀ a, Mono (R a)] (ha : EG X a σ H (IsL R as)) (hb : EG X b σ H (IsI (n : Int))) (hx : as[n]? = some x) (hs : PlainIx b := by exact fun _ _ => rfl) : EG X (.Subscript a b pos) σ H (R x) :=
  eg_of (pe_ix ix_list pe_W pe_W hs) (ep_op ha hb fun v y H1 _ ⟨q, xs, h1, h2, h3⟩ py Q qq => by
    obtain ⟨w, hw, rw⟩ := h3.get2 hx
    exact ⟨q, xs, n, w, h1, py, SqL.of h2, atI_nat hw, qq w H1 (Ex.refl H1) rw⟩)
theorem eg_ixT {R : α → Rep} {as : List α} {n : Nat} {x : α} [hR : ∀ a, Mono (R a)] (ha : EG X a σ H (IsT R as)) (hb : EG X b σ H (IsI (n : Int))) (hx : as[n]? = some x) (hs : PlainIx b := by exact fun _ _ => rfl) : EG X (.Subscript a b pos) σ H (R x) :=
  eg_of (pe_ix ix_tup pe_W pe_W hs) (ep_op ha hb fun v y H1 _ ⟨q, xs, h1, h2, h3⟩ py Q qq => by
    obtain ⟨w, hw, rw⟩ := h3.get2 hx
    exact ⟨q, xs, n, w, h1, py, SqT.of h2, atI_nat hw, qq w H1 (Ex.refl H1) rw⟩)
/-- l[i:] of a list, i a number -/
theorem eg_from {R : α → Rep} {as : List α} {n : Nat} {p2 : Pos} [hR : ∀ a, Mono (R a)] (ha : EG X a σ H (IsL R as)) (hb : EG X b σ H (IsI (n : Int))) : EG X (.Subscript a (.Slice (some b) none none p2) pos) σ H (IsL R (as.drop n)) :=
  eg_of (pe_slice sl_list pe_W (po_some pe_W) po_none) fun H1 e1 Q q => ha H1 e1 _ fun v H2 e2 ⟨c, xs, h1, h2, h3⟩ => hb H2 (e1.trans e2) _ fun y H3 e3 py => by
    refine ⟨n, py, c, xs, h1, SqL.of (e3 _ _ h2), fun d hd => ?_⟩
    have cut : cutV xs (some (n : Int)) none = xs.drop n := by
      unfold cutV
      rw [HT.sIx_none, HT.sIx_nat]
      by_cases hn : n ≤ xs.length
      · rw [Nat.min_eq_left hn]
        exact List.take_of_length_le (by rw [List.length_drop]; omega)
      · rw [Nat.min_eq_right (by omega), List.drop_length, List.drop_of_length_le (by omega)]
        simp
    rw [cut]
    exact q _ _ ((e2.trans e3).trans (Ex.new hd)) ⟨d, _, rfl, upd_same, (h3.drop n).up hR (e3.trans (Ex.new hd))⟩
/-- l[:i] -/
theorem eg_upto {R : α → Rep} {as : List α} {n : Nat} {p2 : Pos} [hR : ∀ a, Mono (R a)] (ha : EG X a σ H (IsL R as)) (hb : EG X b σ H (IsI (n : Int))) (hl : as.length ≤ n) : EG X (.Subscript a (.Slice none (some b) none p2) pos) σ H (IsL R as) :=
  eg_of (pe_slice sl_list pe_W po_none (po_some pe_W)) fun H1 e1 Q q => ha H1 e1 _ fun v H2 e2 ⟨c, xs, h1, h2, h3⟩ => hb H2 (e1.trans e2) _ fun y H3 e3 py => by
    refine ⟨n, py, c, xs, h1, SqL.of (e3 _ _ h2), fun d hd => ?_⟩
    have hx := h3.length
    have cut : cutV xs none (some (n : Int)) = xs := by
      unfold cutV
      rw [HT.sIx_none, HT.sIx_nat, Nat.min_eq_right (by omega), List.drop_zero, Nat.sub_zero, List.take_length]
    rw [cut]
    exact q _ _ ((e2.trans e3).trans (Ex.new hd)) ⟨d, _, rfl, upd_same, h3.up hR (e3.trans (Ex.new hd))⟩

/-! ### built-in calls -/
theorem eg_len {R : α → Rep} {as : List α} (hm : X.mg "len" = none) (ha : EG X e σ H (IsL R as)) (hg : Gl X "len" := by rfl) (he : starEach [e] X.env = (false, eval e X.env) :: starEach [] X.env := by rfl) [hR : ∀ a, Mono (R a)] : EG X (.Call (.Name "len" p) [e] [] pos) σ H (IsI (as.length : Int)) :=
  eg_callB call_len_seq hm rfl (ag_cons ha ag_nil he) (fun vs H1 _ ⟨v, r, h1, ⟨c, xs, h2, h3, h4⟩, h5⟩ Q q => ⟨c, xs, by rw [h1, show r = [] from h5, h2], .inl (SqL.of h3), q _ H1 (Ex.refl H1) (by rw [h4.length]; rfl)⟩) hg (by decide) (by decide) he rfl
theorem eg_lenT {R : α → Rep} {as : List α} (hm : X.mg "len" = none) (ha : EG X e σ H (IsT R as)) (hg : Gl X "len" := by rfl) (he : starEach [e] X.env = (false, eval e X.env) :: starEach [] X.env := by rfl) [hR : ∀ a, Mono (R a)] : EG X (.Call (.Name "len" p) [e] [] pos) σ H (IsI (as.length : Int)) :=
  eg_callB call_len_seq hm rfl (ag_cons ha ag_nil he) (fun vs H1 _ ⟨v, r, h1, ⟨c, xs, h2, h3, h4⟩, h5⟩ Q q => ⟨c, xs, by rw [h1, show r = [] from h5, h2], .inr (SqT.of h3), q _ H1 (Ex.refl H1) (by rw [h4.length]; rfl)⟩) hg (by decide) (by decide) he rfl
theorem eg_sum {ns : List Int} (hm : X.mg "sum" = none) (hc : X.calm = true) (ha : EG X e σ H (IsL IsI ns)) (hg : Gl X "sum" := by rfl) (he : starEach [e] X.env = (false, eval e X.env) :: starEach [] X.env := by rfl) : EG X (.Call (.Name "sum" p) [e] [] pos) σ H (IsI ns.sum) :=
  eg_callB (cr_sum hc) hm rfl (ag_cons ha ag_nil he) (fun vs H1 _ ⟨v, r, h1, ⟨c, xs, h2, h3, h4⟩, h5⟩ Q q => ⟨c, ns, by rw [h1, show r = [] from h5, h2], SqL.of (by rw [h3, all2_ints h4]), q _ H1 (Ex.refl H1) rfl⟩) hg (by decide) (by decide) he rfl
theorem all2_bls {H : Hp} : ∀ {bs : List Bool} {xs : List V}, All2 IsB bs xs H → xs = bs.map V.bl
  | [], _, h => h
  | n :: ns, _, ⟨x, r, hx, h, t⟩ => by
    rw [hx, show x = _ from h, all2_bls t]
    rfl
theorem eg_all {bs : List Bool} (hm : X.mg "all" = none) (hc : X.calm = true) (ha : EG X e σ H (IsL IsB bs)) (hg : Gl X "all" := by rfl) (he : starEach [e] X.env = (false, eval e X.env) :: starEach [] X.env := by rfl) : EG X (.Call (.Name "all" p) [e] [] pos) σ H (IsB (bs.all id)) :=
  eg_callB (cr_all hc) hm rfl (ag_cons ha ag_nil he) (fun vs H1 _ ⟨v, r, h1, ⟨c, xs, h2, h3, h4⟩, h5⟩ Q q => ⟨c, bs, by rw [h1, show r = [] from h5, h2], SqL.of (by rw [h3, all2_bls h4]), q _ H1 (Ex.refl H1) rfl⟩) hg (by decide) (by decide) he rfl
/-- tuple(l) of a list -/
theorem eg_tupleL {R : α → Rep} {as : List α} [hR : ∀ a, Mono (R a)] (hm : X.mg "tuple" = none) (ha : EG X e σ H (IsL R as)) (hg : Gl X "tuple" := by rfl) (he : starEach [e] X.env = (false, eval e X.env) :: starEach [] X.env := by rfl) : EG X (.Call (.Name "tuple" p) [e] [] pos) σ H (IsT R as) :=
  eg_callTy call_tuple_of hm rfl (ag_cons ha ag_nil he) (fun vs H1 _ ⟨v, r, h1, ⟨c, xs, h2, h3, h4⟩, h5⟩ Q q => ⟨c, xs, by rw [h1, show r = [] from h5, h2], .inl ⟨SqL.of h3, fun l hl => q _ _ (Ex.new hl) ⟨l, xs, rfl, upd_same, h4.up hR (Ex.new hl)⟩⟩⟩) hg (by decide) (by decide) he rfl
theorem eg_intI (hm : X.mg "int" = none) (ha : EG X e σ H (IsI i)) (hg : Gl X "int" := by rfl) (he : starEach [e] X.env = (false, eval e X.env) :: starEach [] X.env := by rfl) : EG X (.Call (.Name "int" p) [e] [] pos) σ H (IsI i) :=
  eg_callTy call_int1 hm rfl (ag_cons ha ag_nil he) (fun vs H1 _ ⟨v, r, h1, h2, h5⟩ Q q => .inl ⟨i, by rw [h1, show r = [] from h5, show v = _ from h2], q _ H1 (Ex.refl H1) rfl⟩) hg (by decide) (by decide) he rfl
theorem eg_intB {bb : Bool} (hm : X.mg "int" = none) (ha : EG X e σ H (IsB bb)) (hg : Gl X "int" := by rfl) (he : starEach [e] X.env = (false, eval e X.env) :: starEach [] X.env := by rfl) : EG X (.Call (.Name "int" p) [e] [] pos) σ H (IsI (if bb then 1 else 0)) :=
  eg_callTy call_int1 hm rfl (ag_cons ha ag_nil he) (fun vs H1 _ ⟨v, r, h1, h2, h5⟩ Q q => .inr ⟨bb, by rw [h1, show r = [] from h5, show v = _ from h2], q _ H1 (Ex.refl H1) rfl⟩) hg (by decide) (by decide) he rfl
theorem eg_abs (hm : X.mg "abs" = none) (ha : EG X e σ H (IsI i)) (hg : Gl X "abs" := by rfl) (he : starEach [e] X.env = (false, eval e X.env) :: starEach [] X.env := by rfl) : EG X (.Call (.Name "abs" p) [e] [] pos) σ H (IsI (i.natAbs : Int)) :=
  eg_callB L2.call_abs hm rfl (ag_cons ha ag_nil he) (fun vs H1 _ ⟨v, r, h1, h2, h5⟩ Q q => ⟨i, by rw [h1, show r = [] from h5, show v = _ from h2], q _ H1 (Ex.refl H1) (by show V.int _ = V.int _; congr 1; split <;> omega)⟩) hg (by decide) (by decide) he rfl
theorem eg_gcd {x : Str} (hm : X.mg x = some (.builtin "math.gcd")) (ha : EG X a σ H (IsI i)) (hb : EG X b σ H (IsI j)) (hg : Gl X x := by rfl) (hdb : (x == ("__debug__" : Str)) = false := by decide) (he : starEach [a, b] X.env = (false, eval a X.env) :: starEach [b] X.env := by rfl) (he2 : starEach [b] X.env = (false, eval b X.env) :: starEach [] X.env := by rfl)
    (hpl : (backTo pos (starEach [b] X.env)).any (·.1) = false := by rfl) : EG X (.Call (.Name x p) [a, b] [] pos) σ H (IsI ((Nat.gcd i.natAbs j.natAbs : Nat) : Int)) :=
  eg_callF cr_gcd hm (ag_cons ha (ag_cons hb ag_nil he2) he) (fun vs H1 _ ⟨v, r, h1, h2, w, r2, h3, h4, h5⟩ Q q => ⟨i, j, by rw [h1, h3, show r2 = [] from h5, show v = _ from h2, show w = _ from h4], q _ H1 (Ex.refl H1) rfl⟩) hg hdb he hpl
/-- math.lcm of two ints below 2 ^ 13000 -/
def rLcm : List V → Hp → VK → Prop := fun vs H Q => ∃ a b : Int, vs = [.int a, .int b] ∧ 0 < a ∧ 0 < b ∧ a.natAbs < 2 ^ 6000 ∧ b.natAbs < 2 ^ 6000 ∧ Q (.int ((Nat.lcm a.natAbs b.natAbs : Nat) : Int)) H
end
end G
set_option maxHeartbeats 4000000
namespace G
open PySem PySem.Spec PyProof.Rows L2 Evl
section
variable {X : Cx} {σ : L2.St} {H : Hp} {a b c e l : Expr} {es : List Expr} {pos p : Pos} {P P1 P2 P3 : Rep} {k : Nat} {sp : Sp} {C : Addr} {α : Type} {Qs : α → List Rep} {Post : α → Rep} {i j : Int} {bb : Bool}
/-! ### lcm -/
theorem lcm_log {n : Nat} (h : n < 2 ^ 13000) : ¬ n.log2 / 30 + 1 > 450 := by
  have : n.log2 ≤ 12999 := PySem.W.mg_log h
  omega
theorem cr_lcm : CallR X (.builtin "math.lcm") rLcm := by
  intro pins s σ H vs us Q I r ⟨a, b, h1, ha, hb, h2, h3, q⟩
  subst h1
  obtain ⟨t, u, rfl⟩ := Vals.int2 r
  have pw : (2 : Nat) ^ 6000 * 2 ^ 6000 = 2 ^ 12000 := by rw [← Nat.pow_add]
  have p13 : (2 : Nat) ^ 12000 ≤ 2 ^ 13000 := Nat.pow_le_pow_right (by decide) (by decide)
  have p6 : (2 : Nat) ^ 6000 ≤ 2 ^ 12000 := Nat.pow_le_pow_right (by decide) (by decide)
  have o6 : 1 ≤ (2 : Nat) ^ 6000 := Nat.one_le_two_pow
  have lt : a.natAbs.lcm b.natAbs < 2 ^ 12000 := by
    refine Nat.lt_of_le_of_lt (Nat.le_trans (Nat.div_le_self _ _) (Nat.le_refl _)) ?_
    rw [← pw]
    exact Nat.mul_lt_mul'' h2 h3
  have e1 : Nat.lcm 1 a.natAbs = a.natAbs := PySem.W.mc_lcm_one _
  have l1 : ¬ (max 1 a.natAbs).log2 / 30 + 1 > 450 := lcm_log (by omega)
  have l2 : ¬ (max a.natAbs b.natAbs).log2 / 30 + 1 > 450 := lcm_log (by omega)
  have hsz : ((((Nat.lcm 1 a.natAbs).lcm b.natAbs : Nat) : Int)).natAbs.log2 < bitsLine := by
    rw [e1, Int.natAbs_natCast]
    have z : (a.natAbs.lcm b.natAbs).log2 ≤ 12999 := PySem.W.mg_log (Nat.lt_of_lt_of_le lt p13)
    rw [bitsLine_eq]
    omega
  have g := PySem.W.mg_run_lcm a t b u l1 l2 hsz
  refine call_function_meets PySem.W.MGF.kind_lcm PySem.W.MGF.plain_lcm PySem.W.MGF.entry_lcm (PySem.W.MGF.args_lcm _ _) g.meets ?_
  exact ⟨.int _, H, I.tok _, ⟨_, by rw [e1]⟩, q⟩
theorem eg_lcm {x : Str} (hm : X.mg x = some (.builtin "math.lcm")) (h1 : 0 < i) (h2 : 0 < j) (h3 : i.natAbs < 2 ^ 6000) (h4 : j.natAbs < 2 ^ 6000) (ha : EG X a σ H (IsI i)) (hb : EG X b σ H (IsI j)) (hg : Gl X x := by rfl) (hdb : (x == ("__debug__" : Str)) = false := by decide)
    (he : starEach [a, b] X.env = (false, eval a X.env) :: starEach [b] X.env := by rfl) (he2 : starEach [b] X.env = (false, eval b X.env) :: starEach [] X.env := by rfl)
    (hpl : (backTo pos (starEach [b] X.env)).any (·.1) = false := by rfl) : EG X (.Call (.Name x p) [a, b] [] pos) σ H (IsI ((Nat.lcm i.natAbs j.natAbs : Nat) : Int)) :=
  eg_callF cr_lcm hm (ag_cons ha (ag_cons hb ag_nil he2) he) (fun vs H1 _ ⟨v, r, q1, q2, w, r2, q3, q4, q5⟩ Q q => ⟨i, j, by rw [q1, q3, show r2 = [] from q5, show v = _ from q2, show w = _ from q4], h1, h2, h3, h4, q _ H1 (Ex.refl H1) rfl⟩) hg hdb he hpl

/-! ### isinstance -/
structure IsiC (K : PySem.W.Frag) (C : Addr) : Prop where
  cl : Cls K C
  ha : PySem.W.findIn K (.ref C) "__class__" = some (some (.builtin "object.__class__"))
  hn : PySem.W.specialIn K (.builtin "object.__class__") "__get__" = some (some (.builtin "getset_descriptor.__get__"))
  ht : PySem.W.takesIn K (.builtin "object.__class__") = some true
  hm : PySem.W.mroIn K C (.type "object") = some true
theorem IsiC.ty {K : PySem.W.Frag} {v : V} (c : IsiC K C) (h : AtC C v H) : TyX K H v (.ref C) := by
  obtain ⟨a, dx, fs, h1, h2⟩ := h
  subst h1
  exact .base (.ins h2 c.cl c.ha c.hn c.ht c.hm)
theorem eg_isi {w : V} {u : Value} [h1 : Mono P1] (hm : X.mg "isinstance" = none) (ha : EG X a σ H P1) (hb : EG X b σ H (IsV w)) (hk : ClsV w u) (ht : ∀ v H, P1 v H → ∃ t, TyX X.K H v t ∧ PySem.W.kitOne X.K t u = some bb) (hg : Gl X "isinstance" := by rfl)
    (he : starEach [a, b] X.env = (false, eval a X.env) :: starEach [b] X.env := by rfl) (he2 : starEach [b] X.env = (false, eval b X.env) :: starEach [] X.env := by rfl) (hpl : (backTo pos (starEach [b] X.env)).any (·.1) = false := by rfl) :
    EG X (.Call (.Name "isinstance" p) [a, b] [] pos) σ H (IsB bb) :=
  eg_callB call_isi hm rfl (ag_cons ha (ag_cons hb ag_nil he2) he) (fun vs H1 _ ⟨v, r, q1, q2, x, r2, q3, q4, q5⟩ Q q => by
    obtain ⟨t, h3, h4⟩ := ht v H1 q2
    exact ⟨v, w, t, u, bb, by rw [q1, q3, show r2 = [] from q5, show x = _ from q4], hk, h3, h4, q _ H1 (Ex.refl H1) rfl⟩) hg (by decide) (by decide) he hpl
theorem eg_isiT {w1 w2 : V} {u1 u2 : Value} [h1 : Mono P1] (hm : X.mg "isinstance" = none) (ha : EG X a σ H P1) (hb : EG X b σ H (TupOf [IsV w1, IsV w2])) (k1 : ClsV w1 u1) (k2 : ClsV w2 u2) (ht : ∀ v H, P1 v H → ∃ t, TyX X.K H v t ∧ PySem.W.kitAny X.K t [u1, u2] = some bb) (hg : Gl X "isinstance" := by rfl)
    (he : starEach [a, b] X.env = (false, eval a X.env) :: starEach [b] X.env := by rfl) (he2 : starEach [b] X.env = (false, eval b X.env) :: starEach [] X.env := by rfl) (hpl : (backTo pos (starEach [b] X.env)).any (·.1) = false := by rfl) :
    EG X (.Call (.Name "isinstance" p) [a, b] [] pos) σ H (IsB bb) :=
  eg_callB call_isiT hm rfl (ag_cons ha (ag_cons hb ag_nil he2) he) (fun vs H1 _ ⟨v, r, q1, q2, x, r2, q3, ⟨tp, xs, z1, z2, y1, s1, z3, z4, y2, s2, z5, z6, z7⟩, q5⟩ Q q => by
    obtain ⟨t, h3, h4⟩ := ht v H1 q2
    refine ⟨v, tp, [w1, w2], t, [u1, u2], bb, by rw [q1, q3, show r2 = [] from q5, z1], ?_, .cons k1 (.cons k2 .nil), h3, h4, q _ H1 (Ex.refl H1) rfl⟩
    rw [z2, z3, z5, show s2 = [] from z7, show y1 = _ from z4, show y2 = _ from z6]) hg (by decide) (by decide) he hpl

/-! ### more arguments -/
/-- [.., *l] where l is a tuple, a list: behind it words one by one -/
def Args2 {α : Type} (Ps : List Rep) (R : α → Rep) (as : List α) : List V → Hp → Prop := fun xs H => ∃ ys zs, xs = ys ++ zs ∧ Args Ps ys H ∧ All2 R as zs H
/-- [e, *t] as a list of one kind -/
theorem eg_lstStar {R : α → Rep} {x : α} {as : List α} {px : Pos} [hR : ∀ a, Mono (R a)] (he : EG X e σ H (R x)) (hl : EG X l σ H (IsT R as)) (hz : as.length ≤ 1000) (hs : starEach [e, .Starred l px] X.env = (false, eval e X.env) :: starEach [.Starred l px] X.env := by rfl)
    (hs2 : starEach [.Starred l px] X.env = (true, eval l X.env) :: starEach [] X.env := by rfl) : EG X (.List [e, .Starred l px] pos) σ H (IsL R (x :: as)) :=
  eg_of (pe_lst (pa_cons pe_W (StX.pa_star pe_W pa_nil hs2) hs)) fun H1 e1 Q q => he H1 e1 _ fun v H2 e2 pv => hl H2 (e1.trans e2) _ fun w H3 e3 ⟨c, xs, h1, h2, h3⟩ => by
    have hx := h3.length
    refine ⟨c, xs, h1, .inl (SqT.of h2), ?_⟩
    refine ⟨sz_of ?_, fun d hd => q _ _ ((e2.trans e3).trans (Ex.new hd)) ⟨d, v :: xs, rfl, by rw [upd_same, List.append_nil], v, xs, rfl, (hR x).up (e3.trans (Ex.new hd)) pv, h3.up hR (Ex.new hd)⟩⟩
    rw [List.append_nil, List.length_cons, hx]
    exact Nat.le_trans (Nat.succ_le_succ hz) (by decide)
/-! ### targets -/
section
variable {rest : List Stmt} {D : Ends} {x y z : Str} {px py pz pt : Pos} {kt k2 : Nat} {spos : Pos}
/-- x, y = e, e a tuple of two -/
theorem b_two (i j : Nat) {pt : Pos} (hN : X.N.Nodup) (he : EG X e σ H (TupOf [P1, P2])) (k : ∀ v w H1, Ex H H1 → P1 v H1 → P2 w H1 → BW X rest D ((σ.set i (some v)).set j (some w)) H1)
    (hi : X.N[i]? = some x := by rfl) (hj : X.N[j]? = some y := by rfl) (hl : Loc X.env.scope x := by first | exact Or.inl rfl | exact Or.inr rfl) (hl2 : Loc X.env.scope y := by first | exact Or.inl rfl | exact Or.inr rfl) (hc : X.calm = true := by rfl)
    (hf : X.fn x = true ∨ X.env.scope.names.lookup x = some .local := by first | exact .inl rfl | exact .inr rfl) (hf2 : X.fn y = true ∨ X.env.scope.names.lookup y = some .local := by first | exact .inl rfl | exact .inr rfl)
    (hn : (assignEach [.Name x px, .Name y py] X.env).length = 2 := by rfl) (hst : (assignEach [.Name x px, .Name y py] X.env).findIdx? (·.1) = none := by rfl)
    (hs1 : (assignEach [.Name x px, .Name y py] X.env).map (·.2) = assign (.Name x px) X.env :: (assignEach [.Name y py] X.env).map (·.2) := by rfl) (hs2 : (assignEach [.Name y py] X.env).map (·.2) = assign (.Name y py) X.env :: (assignEach [] X.env).map (·.2) := by rfl)
    (hs : swapsWithSole [.Tuple [.Name x px, .Name y py] kt pt] e spos.line X.env = pure false := by rfl) (hw : swappedStores [.Tuple [.Name x px, .Name y py] kt pt] e X.env = pure none := by rfl)
    (h1 : (assignEach [.Tuple [.Name x px, .Name y py] kt pt] X.env).map (·.2) = [assign (.Tuple [.Name x px, .Name y py] kt pt) X.env] := by rfl) : BW X (.Assign [.Tuple [.Name x px, .Name y py] kt pt] e spos :: rest) D σ H :=
  b_of (ps_asg pe_W (pg_tup hc (pgs_cons (pg_name hN hi hl hf) (pgs_cons (pg_name hN hj hl2 hf2) pgs_nil hs2) hs1) hn hst) hs hw h1) (he H (Ex.refl H) _ fun v H1 e1 ⟨c, xs, q1, q2, v1, r1, q3, q4, v2, r2, q5, q6, q7⟩ => by
    refine ⟨c, xs, q1, SqT.of q2, by rw [q3, q5, show r2 = [] from q7]; rfl, v1, r1, q3, v2, r2, q5, q7, ?_⟩
    exact k v1 v2 H1 e1 q4 q6)
/-- x, y = a, b: right away -/
theorem b_par (i j : Nat) {pt2 : Pos} (hN : X.N.Nodup) [h1 : Mono P1] (ha : EG X a σ H P1) (hb : EG X b σ H P2) (hij : i ≠ j) (k : ∀ v w H1, Ex H H1 → P1 v H1 → P2 w H1 → BW X rest D ((σ.set i (some v)).set j (some w)) H1)
    (hw : swappedStores [.Tuple [.Name x px, .Name y py] kt pt] (.Tuple [a, b] k2 pt2) X.env = pure (some [x, y])) (hi : X.N[i]? = some x := by rfl) (hj : X.N[j]? = some y := by rfl) (hx : X.env.scope.names.lookup x = some .local := by rfl) (hy : X.env.scope.names.lookup y = some .local := by rfl) (hc : X.calm = true := by rfl)
    (he : starEach [a, b] X.env = (false, eval a X.env) :: starEach [b] X.env := by rfl) (he2 : starEach [b] X.env = (false, eval b X.env) :: starEach [] X.env := by rfl)
    (hs : swapsWithSole [.Tuple [.Name x px, .Name y py] kt pt] (.Tuple [a, b] k2 pt2) spos.line X.env = pure false := by rfl) : BW X (.Assign [.Tuple [.Name x px, .Name y py] kt pt] (.Tuple [a, b] k2 pt2) spos :: rest) D σ H :=
  b_of (ps_par hc hN hi hj hij hx hy (pa_cons pe_W (pa_cons pe_W pa_nil he2) he) hw hs) (ha H (Ex.refl H) _ fun v H1 e1 pv => hb H1 e1 _ fun w H2 e2 pw => ⟨v, w, rfl, k v w H2 (e1.trans e2) (h1.up e2 pv) pw⟩)
end
end
end G
set_option maxHeartbeats 4000000
namespace G
/-! ### rationals -/
theorem q_num {a b : Int} (hb : 0 < b) : a / ((Nat.gcd a.natAbs b.natAbs : Nat) : Int) = (Rat.divInt a b).num := by
  rw [Rat.num_divInt, Int.sign_eq_one_of_pos hb, Int.one_mul, Int.gcd, Nat.gcd_comm]
theorem q_den {a b : Int} (hb : 0 < b) : b / ((Nat.gcd a.natAbs b.natAbs : Nat) : Int) = ((Rat.divInt a b).den : Int) := by
  rw [Rat.den_divInt, if_neg (by omega), Int.gcd, Nat.gcd_comm]
  have : ((b.natAbs : Nat) : Int) = b := by omega
  rw [Int.natCast_ediv, this]
/-- of few bits -/
def Sm (n : Nat) (q : Rat) : Prop := q.num.natAbs < 2 ^ n ∧ q.den < 2 ^ n
theorem Sm.mono {n m : Nat} {q : Rat} (h : Sm n q) (k : n ≤ m) : Sm m q := ⟨Nat.lt_of_lt_of_le h.1 (Nat.pow_le_pow_right (by decide) k), Nat.lt_of_lt_of_le h.2 (Nat.pow_le_pow_right (by decide) k)⟩
theorem sm_div {n : Nat} {a b : Int} (hb : 0 < b) (h1 : a.natAbs < 2 ^ n) (h2 : b.natAbs < 2 ^ n) : Sm n (Rat.divInt a b) := by
  refine ⟨?_, ?_⟩
  · rw [← q_num hb]
    refine Nat.lt_of_le_of_lt ?_ h1
    rw [Int.natAbs_ediv_of_dvd (Int.natAbs_dvd_natAbs.mp (by rw [Int.natAbs_natCast]; exact Nat.gcd_dvd_left _ _))]
    exact Nat.div_le_self _ _
  · have e := q_den (a := a) hb
    have h3 : (Rat.divInt a b).den ≤ b.natAbs := by
      rw [Rat.den_divInt, if_neg (by omega)]
      exact Nat.div_le_self _ _
    exact Nat.lt_of_le_of_lt h3 h2
theorem q_dpos (q : Rat) : (0 : Int) < q.den := by
  have := q.den_pos
  omega
theorem q_add (a b : Rat) : Rat.divInt (a.num * b.den + b.num * a.den) (a.den * b.den) = a + b := by
  have e := Rat.divInt_add_divInt a.num b.num (d₁ := a.den) (d₂ := b.den) (by have := q_dpos a; omega) (by have := q_dpos b; omega)
  rw [Rat.num_divInt_den, Rat.num_divInt_den] at e
  exact e.symm
theorem q_sub (a b : Rat) : Rat.divInt (a.num * b.den - b.num * a.den) (a.den * b.den) = a - b := by
  have e := Rat.divInt_sub_divInt a.num b.num (d₁ := a.den) (d₂ := b.den) (by have := q_dpos a; omega) (by have := q_dpos b; omega)
  rw [Rat.num_divInt_den, Rat.num_divInt_den] at e
  exact e.symm
theorem q_mul (a b : Rat) : Rat.divInt (a.num * b.num) (a.den * b.den) = a * b := by
  have e := Rat.divInt_mul_divInt a.num b.num (d₁ := a.den) (d₂ := b.den)
  rw [Rat.num_divInt_den, Rat.num_divInt_den] at e
  exact e.symm
theorem q_neg (a : Rat) : Rat.divInt (-a.num) a.den = -a := by
  rw [← Rat.neg_divInt, Rat.num_divInt_den]
theorem q_int (i : Int) : Rat.divInt i 1 = (i : Rat) := by
  have := Rat.num_divInt_den (i : Rat)
  rwa [Rat.num_intCast, Rat.den_intCast] at this
theorem b_mul {n m : Nat} {i j : Int} (h1 : i.natAbs < 2 ^ n) (h2 : j.natAbs < 2 ^ m) : (i * j).natAbs < 2 ^ (n + m) := L2.wide_lt h1 h2
theorem b_add {n : Nat} {i j : Int} (h1 : i.natAbs < 2 ^ n) (h2 : j.natAbs < 2 ^ n) : (i + j).natAbs < 2 ^ (n + 1) := by
  rw [Nat.pow_succ]; omega
theorem b_sub {n : Nat} {i j : Int} (h1 : i.natAbs < 2 ^ n) (h2 : j.natAbs < 2 ^ n) : (i - j).natAbs < 2 ^ (n + 1) := by
  rw [Nat.pow_succ]; omega
theorem b_up {n m : Nat} {i : Int} (h : i.natAbs < 2 ^ n) (k : n ≤ m) : i.natAbs < 2 ^ m := Nat.lt_of_lt_of_le h (Nat.pow_le_pow_right (by decide) k)
theorem sm_den {n : Nat} {q : Rat} (h : Sm n q) : ((q.den : Int)).natAbs < 2 ^ n := by rw [Int.natAbs_natCast]; exact h.2
theorem add_top {n m : Nat} {a b : Rat} (h1 : Sm n a) (h2 : Sm m b) : (a.num * b.den + b.num * a.den).natAbs < 2 ^ (n + m + 1) := b_add (b_mul h1.1 (sm_den h2)) (by rw [Nat.add_comm n m]; exact b_mul h2.1 (sm_den h1))
theorem sub_top {n m : Nat} {a b : Rat} (h1 : Sm n a) (h2 : Sm m b) : (a.num * b.den - b.num * a.den).natAbs < 2 ^ (n + m + 1) := b_sub (b_mul h1.1 (sm_den h2)) (by rw [Nat.add_comm n m]; exact b_mul h2.1 (sm_den h1))
theorem den_bot {n m : Nat} {a b : Rat} (h1 : Sm n a) (h2 : Sm m b) : ((a.den : Int) * b.den).natAbs < 2 ^ (n + m) := b_mul (sm_den h1) (sm_den h2)
theorem den_pos2 (a b : Rat) : (0 : Int) < (a.den : Int) * b.den := Int.mul_pos (q_dpos a) (q_dpos b)
theorem sm_add {n m : Nat} {a b : Rat} (h1 : Sm n a) (h2 : Sm m b) : Sm (n + m + 1) (a + b) := by
  rw [← q_add]
  exact sm_div (den_pos2 a b) (add_top h1 h2) (b_up (den_bot h1 h2) (by omega))
theorem sm_sub {n m : Nat} {a b : Rat} (h1 : Sm n a) (h2 : Sm m b) : Sm (n + m + 1) (a - b) := by
  rw [← q_sub]
  exact sm_div (den_pos2 a b) (sub_top h1 h2) (b_up (den_bot h1 h2) (by omega))
theorem sm_mul {n m : Nat} {a b : Rat} (h1 : Sm n a) (h2 : Sm m b) : Sm (n + m) (a * b) := by
  rw [← q_mul]
  exact sm_div (den_pos2 a b) (b_mul h1.1 h2.1) (den_bot h1 h2)
theorem sm_neg {n : Nat} {a : Rat} (h : Sm n a) : Sm n (-a) := ⟨by rw [Rat.neg_num, Int.natAbs_neg]; exact h.1, h.2⟩
theorem sm_int {n : Nat} {i : Int} (h : i.natAbs < 2 ^ n) (h0 : 0 < n) : Sm n (i : Rat) := ⟨by rw [Rat.num_intCast]; exact h, by rw [Rat.den_intCast]; exact Nat.one_lt_two_pow (by omega)⟩
/-- signs -/
theorem q_sign_pos {q : Rat} : q.num.sign = 1 ↔ 0 < q := by
  rw [Int.sign_eq_one_iff_pos]
  have := Rat.num_nonneg (q := q)
  have := Rat.num_eq_zero (q := q)
  grind
theorem q_sign_neg {q : Rat} : q.num.sign = -1 ↔ q < 0 := by
  rw [Int.sign_eq_neg_one_iff_neg]
  have := Rat.num_nonneg (q := q)
  have := Rat.num_eq_zero (q := q)
  grind
theorem q_sign_zero {q : Rat} : q.num.sign = 0 ↔ q = 0 := by
  rw [Int.sign_eq_zero_iff_zero]
  exact Rat.num_eq_zero
end G
namespace G
/-! ### one bottom -/
def lcmF (qs : List Rat) : Nat := qs.foldl (fun b q => Nat.lcm b q.den) 1
theorem lcmF_snoc (qs : List Rat) (q : Rat) : lcmF (qs ++ [q]) = Nat.lcm (lcmF qs) q.den := by
  unfold lcmF
  rw [List.foldl_append]
  rfl
theorem lcm_fold_pos : ∀ (qs : List Rat) (b : Nat), 0 < b → 0 < qs.foldl (fun b q => Nat.lcm b q.den) b
  | [], _, h => h
  | q :: qs, b, h => lcm_fold_pos qs _ (Nat.lcm_pos h q.den_pos)
theorem lcmF_pos (qs : List Rat) : 0 < lcmF qs := lcm_fold_pos qs 1 Nat.one_pos
theorem lcm_fold_le {n : Nat} : ∀ (qs : List Rat) (b : Nat), (∀ q ∈ qs, q.den < 2 ^ n) → qs.foldl (fun b q => Nat.lcm b q.den) b ≤ b * 2 ^ (n * qs.length)
  | [], b, _ => by simp
  | q :: qs, b, h => by
    have h1 := lcm_fold_le qs (Nat.lcm b q.den) fun p hp => h p (List.mem_cons_of_mem _ hp)
    have h2 : Nat.lcm b q.den ≤ b * 2 ^ n := Nat.le_trans (Nat.div_le_self _ _) (Nat.mul_le_mul_left _ (Nat.le_of_lt (h q (List.mem_cons_self ..))))
    refine Nat.le_trans h1 (Nat.le_trans (Nat.mul_le_mul_right _ h2) ?_)
    rw [List.length_cons, Nat.mul_add, Nat.mul_one, Nat.pow_add, Nat.mul_assoc, Nat.mul_comm (2 ^ n)]
    exact Nat.le_refl _
theorem lcmF_lt {n k : Nat} {qs : List Rat} (h : ∀ q ∈ qs, Sm n q) (hk : n * qs.length < k) : lcmF qs < 2 ^ k := by
  have h1 := lcm_fold_le qs 1 fun q hq => (h q hq).2
  rw [Nat.one_mul] at h1
  exact Nat.lt_of_le_of_lt h1 (Nat.pow_lt_pow_right (by decide) hk)
theorem lcm_fold_dvd0 : ∀ (qs : List Rat) (b : Nat), b ∣ qs.foldl (fun b q => Nat.lcm b q.den) b
  | [], b => Nat.dvd_refl b
  | q :: qs, b => Nat.dvd_trans (Nat.dvd_lcm_left b q.den) (lcm_fold_dvd0 qs _)
theorem lcm_fold_dvd : ∀ (qs : List Rat) (b : Nat) (q : Rat), q ∈ qs → q.den ∣ qs.foldl (fun b q => Nat.lcm b q.den) b
  | p :: qs, b, q, h => by
    rcases List.mem_cons.mp h with h | h
    · rw [h]
      exact Nat.dvd_trans (Nat.dvd_lcm_right b p.den) (lcm_fold_dvd0 qs _)
    · exact lcm_fold_dvd qs _ q h
theorem lcmF_dvd {qs : List Rat} {q : Rat} (h : q ∈ qs) : q.den ∣ lcmF qs := lcm_fold_dvd qs 1 q h
/-- over the one bottom -/
def overQ (L : Nat) (q : Rat) : Int := q.num * ((L : Int) / q.den)
theorem overQ_eq {L : Nat} {q : Rat} (h : q.den ∣ L) : ((overQ L q : Int) : Rat) = q * (L : Rat) := by
  obtain ⟨c, hc⟩ := h
  have hd := q_dpos q
  have e1 : (L : Int) / q.den = c := by
    rw [hc, Int.natCast_mul, Int.mul_ediv_cancel_left _ (by omega)]
  have e2 : (q.num : Rat) = q * (q.den : Rat) := by
    have e := Rat.num_divInt_den q
    rw [Rat.divInt_eq_div] at e
    have hd2 : ((q.den : Int) : Rat) ≠ 0 := by
      intro z
      have : (q.den : Int) = 0 := by exact_mod_cast z
      omega
    have e3 : (q.num : Rat) = q * ((q.den : Int) : Rat) := by
      have := Rat.div_mul_cancel (a := (q.num : Rat)) hd2
      rw [e] at this
      exact this.symm
    exact e3
  unfold overQ
  rw [e1, hc, Rat.intCast_mul, e2, Rat.natCast_mul]
  rw [Rat.mul_assoc]
  rfl
end G
namespace G
/-! ### squares -/
def sumQ : List Rat → Rat
  | [] => 0
  | q :: qs => q * q + sumQ qs
def sqQ (t : Rat) (ps : List Rat) : Rat := t * t - sumQ ps
theorem sum_int {L : Nat} : ∀ (ps : List Rat), (∀ q ∈ ps, q.den ∣ L) → ((((ps.map (overQ L)).map fun n => n * n).sum : Int) : Rat) = sumQ ps * ((L : Rat) * L)
  | [], _ => by
    show ((0 : Int) : Rat) = 0 * _
    rw [Rat.zero_mul]
    rfl
  | q :: qs, h => by
    have h1 := sum_int qs fun p hp => h p (List.mem_cons_of_mem _ hp)
    have h2 := overQ_eq (h q (List.mem_cons_self ..))
    show (((overQ L q * overQ L q + ((qs.map (overQ L)).map fun n => n * n).sum : Int)) : Rat) = (q * q + sumQ qs) * _
    rw [Rat.intCast_add, Rat.intCast_mul, h1, h2]
    grind
theorem sq_div {L : Nat} {t : Rat} {ps : List Rat} (hL : 0 < L) (ht : t.den ∣ L) (h : ∀ q ∈ ps, q.den ∣ L) :
    Rat.divInt (overQ L t * overQ L t - ((ps.map (overQ L)).map fun n => n * n).sum) ((L : Int) * L) = sqQ t ps := by
  have h1 := sum_int ps h
  have h2 := overQ_eq ht
  rw [Rat.divInt_eq_div, Rat.intCast_sub, Rat.intCast_mul, Rat.intCast_mul, h1, h2]
  have e : ((L : Int) : Rat) = (L : Rat) := rfl
  have hz : (L : Rat) * L ≠ 0 := by
    have : (0 : Rat) < (L : Rat) := by exact_mod_cast (Rat.natCast_pos.mpr hL)
    have := Rat.mul_pos this this
    exact Rat.ne_of_gt this
  rw [e]
  unfold sqQ
  have k : t * ↑L * (t * ↑L) - sumQ ps * (↑L * ↑L) = (t * t - sumQ ps) * ((L : Rat) * L) := by grind
  rw [k, Rat.mul_div_cancel hz]
theorem over_bits {n k : Nat} {L : Nat} {q : Rat} (h : Sm n q) (hL : L < 2 ^ k) : (overQ L q).natAbs < 2 ^ (n + k) := by
  unfold overQ
  refine b_mul h.1 ?_
  have hd := q_dpos q
  refine Nat.lt_of_le_of_lt ?_ hL
  rw [← Int.natCast_ediv, Int.natAbs_natCast]
  exact Nat.div_le_self _ _
theorem sum_bits {k m : Nat} : ∀ (ns : List Int), (∀ n ∈ ns, n.natAbs < 2 ^ k) → ns.length ≤ m → ns.sum.natAbs ≤ m * 2 ^ k
  | [], _, _ => by
    show (0 : Nat) ≤ _
    exact Nat.zero_le _
  | n :: ns, h, hl => by
    have h1 := sum_bits (m := ns.length) ns (fun x hx => h x (List.mem_cons_of_mem _ hx)) (Nat.le_refl _)
    have h2 := h n (List.mem_cons_self ..)
    have h3 : (ns.length + 1) * 2 ^ k ≤ m * 2 ^ k := Nat.mul_le_mul_right _ hl
    rw [Nat.add_mul, Nat.one_mul] at h3
    rw [List.sum_cons]
    omega
def kindQ (t s : Rat) : PySem.Str := if s < 0 then "apart" else if t = 0 then "nothing" else if 0 < t then "forward" else "backward"
/-- products -/
def prodF (qs : List (Rat × Rat)) (a : Rat) : Rat := qs.foldl (fun a q => a - q.1 * q.2) a
theorem prodF_snoc (qs : List (Rat × Rat)) (a : Rat) (q : Rat × Rat) : prodF (qs ++ [q]) a = prodF qs a - q.1 * q.2 := by
  unfold prodF
  rw [List.foldl_append]
  rfl
end G
set_option maxHeartbeats 4000000
namespace G
open PySem PySem.Spec PyProof.Rows L2 Evl
theorem ints_can : ∀ cs : List Int, PyData.canLayAll0 (cs.map PyData.int) = true
  | [] => rfl
  | c :: cs => by
    show (true && PyData.canLayAll0 (cs.map PyData.int)) = true
    rw [ints_can cs]
    rfl
theorem ints_dep : ∀ cs : List Int, PyData.depthAll (cs.map PyData.int) = 0
  | [] => rfl
  | c :: cs => by
    show max 0 (PyData.depthAll (cs.map PyData.int)) = 0
    rw [ints_dep cs]
    rfl
theorem ints_sh (cs : List Int) : SeqAt.shaped (.list (cs.map PyData.int)) = true := by
  unfold SeqAt.shaped
  rw [show PyData.canLay0 (.list (cs.map PyData.int)) = true from ints_can cs, show PyData.depth (.list (cs.map PyData.int)) = 1 from by show PyData.depthAll (cs.map PyData.int) + 1 = 1; rw [ints_dep]]
  rfl
theorem ints_dp {K : PySem.W.Frag} {H : Hp} : ∀ cs : List Int, DpAll K H (cs.map V.int) (cs.map PyData.int)
  | [] => .nil
  | c :: cs => .cons (.int c) (ints_dp cs)
theorem ints_eqv (cs : List Int) : PyData.eqv (.list (cs.map PyData.int)) (.list []) = cs.isEmpty := by
  cases cs <;> rfl
theorem args_at {Ps : List Rep} {xs : List V} {H : Hp} : ∀ {n : Nat} {P : Rep}, Args Ps xs H → Ps[n]? = some P → ∃ v, xs[n]? = some v ∧ P v H := by
  intro n
  induction n generalizing Ps xs with
  | zero =>
    intro P h hp
    cases Ps with
    | nil => simp at hp
    | cons A As =>
      obtain ⟨x, r, h1, h2, _⟩ := h
      simp at hp
      subst hp h1
      exact ⟨x, rfl, h2⟩
  | succ n ih =>
    intro P h hp
    cases Ps with
    | nil => simp at hp
    | cons A As =>
      obtain ⟨x, r, h1, h2, h3⟩ := h
      obtain ⟨v, hv, hP⟩ := ih h3 (show As[n]? = some P by simpa using hp)
      subst h1
      exact ⟨v, by simpa using hv, hP⟩
section
variable {X : Cx} {σ : L2.St} {H : Hp} {a b e : Expr} {pos p : Pos} {P : Rep} {Ps : List Rep} {k : Nat}
theorem cg_neNil {cs : List Int} (hr : Room k X.A) (ha : EG X a σ H (IsL IsI cs)) (hb : EG X b σ H (LstOf [])) : CG X .NotEq a b σ H (!cs.isEmpty) :=
  cg_of (op_neD hr.units) ha hb fun x y H1 _ ⟨c, xs, q1, q2, q3⟩ ⟨d, ys, q4, q5, q6⟩ Q q => by
    have e1 := all2_ints q3
    have e2 : ys = [] := q6
    subst q1 q4 e1 e2
    refine ⟨.list (cs.map .int), .list [], .lst (SqL.of q2) (ints_dp cs), .lst (SqL.of q5) .nil, ints_sh cs, ints_sh [], ?_⟩
    rw [ints_eqv]
    exact q H1 (Ex.refl H1)
/-- a[n], a a list told one by one -/
theorem eg_ixA {n : Nat} (ha : EG X a σ H (LstOf Ps)) [hm : MonoA Ps] (hb : EG X b σ H (IsI (n : Int))) (hx : Ps[n]? = some P) (hs : PlainIx b := by exact fun _ _ => rfl) : EG X (.Subscript a b pos) σ H P :=
  eg_of (pe_ix ix_list pe_W pe_W hs) (ep_op ha hb fun v y H1 _ ⟨q, xs, h1, h2, h3⟩ py Q qq => by
    obtain ⟨w, hw, rw⟩ := args_at h3 hx
    exact ⟨q, xs, n, w, h1, py, SqL.of h2, atI_nat hw, qq w H1 (Ex.refl H1) rw⟩)
theorem eg_ixB {n : Nat} (ha : EG X a σ H (TupOf Ps)) [hm : MonoA Ps] (hb : EG X b σ H (IsI (n : Int))) (hx : Ps[n]? = some P) (hs : PlainIx b := by exact fun _ _ => rfl) : EG X (.Subscript a b pos) σ H P :=
  eg_of (pe_ix ix_tup pe_W pe_W hs) (ep_op ha hb fun v y H1 _ ⟨q, xs, h1, h2, h3⟩ py Q qq => by
    obtain ⟨w, hw, rw⟩ := args_at h3 hx
    exact ⟨q, xs, n, w, h1, py, SqT.of h2, atI_nat hw, qq w H1 (Ex.refl H1) rw⟩)
/-- a[n] = e of a tracked list -/
theorem b_setix {n : Nat} {c : Addr} {xs : List V} {rest : List Stmt} {D : Ends} {spos : Pos} (hm : Mono P) (he : EG X e σ H P) (ha : ∀ H1, Ex H H1 → EG X a σ H1 (IsV (.ref c))) (hb : ∀ H1, Ex H H1 → EG X b σ H1 (IsI (n : Int))) (hc : H c = some (.lst xs)) (hn : n < xs.length)
    (k : ∀ v H1, Ex H H1 → P v H1 → BW X rest D σ (upd H1 c (.lst (xs.set n v)))) (hs : swapsWithSole [.Subscript a b pos] e spos.line X.env = pure false := by rfl) (hw : swappedStores [.Subscript a b pos] e X.env = pure none := by rfl)
    (h1 : (assignEach [.Subscript a b pos] X.env).map (·.2) = [assign (.Subscript a b pos) X.env] := by rfl)
    (hpa : ∀ v, assign (.Subscript a b pos) X.env v = (do
      let ov ← holding [v] (eval a X.env)
      let iv ← holding [v, ov] (eval b X.env)
      standAt pos
      holding [v, ov, iv] (setItem ov iv v)
      release [v, ov, iv] []) := by intro _; rfl) : BW X (.Assign [.Subscript a b pos] e spos :: rest) D σ H :=
  b_of (ps_asg pe_W (pg_sub pe_W pe_W set_list hpa) hs hw h1) (he H (Ex.refl H) _ fun v H1 e1 pv => ha H1 e1 H1 (Ex.refl H1) _ fun o H2 e2 ho => hb H2 (e1.trans e2) H2 (Ex.refl H2) _ fun i H3 e3 hi => by
    have x3 := (e1.trans e2).trans e3
    refine ⟨c, xs, n, n, ho, hi, x3 _ _ hc, ?_, k v H3 x3 (hm.up (e2.trans e3) pv)⟩
    unfold ixN
    rw [if_pos (by omega), if_pos (by omega), Int.toNat_natCast])
end
end G
set_option maxHeartbeats 4000000
namespace G
open PySem PySem.Spec PyProof.Rows L2 Evl
abbrev FnP (K : PySem.W.Frag) (x q : Str) (st : Stmt) (dvs : List V) (f : Addr) (fd : FuncData) : Prop := FunD K x q (defArgs st) (defBody st) (defScope st) dvs [] f fd
/-- the names of built-ins, free -/
structure Free (mg : Str → Option Value) : Prop where
  len : mg "len" = none
  int : mg "int" = none
  bool : mg "bool" = none
  isi : mg "isinstance" = none
  list : mg "list" = none
  tuple : mg "tuple" = none
  abs : mg "abs" = none
  sum : mg "sum" = none
  all : mg "all" = none
  zip : mg "zip" = none
  range : mg "range" = none
  enum : mg "enumerate" = none
  gcd : mg "gcd" = some (.builtin "math.gcd")
  lcm : mg "lcm" = some (.builtin "math.lcm")
theorem boot_int : bootBuiltins "int" = some (.type "int") := by rfl
theorem boot_bool : bootBuiltins "bool" = some (.type "bool") := by rfl
theorem boot_list : bootBuiltins "list" = some (.type "list") := by rfl
theorem boot_tuple : bootBuiltins "tuple" = some (.type "tuple") := by rfl
section
variable {X : Cx} {σ : L2.St} {H : Hp} {pos : Pos} {x : Str}
theorem eg_tyN {T : String} (hm : X.mg x = none) (hv : bootBuiltins x = some (.type T)) (hg : Gl X x := by rfl) (hn : x ≠ "__name__" := by decide) (hd : (x == ("__debug__" : Str)) = false := by decide) : EG X (.Name x pos) σ H (IsV (.ty T)) := eg_bltn (v := .ty T) hm hv rfl hg hn hd
theorem eg_cls {C : Addr} (hm : X.mg x = some (.ref C)) (hg : Gl X x := by rfl) (hd : (x == ("__debug__" : Str)) = false := by decide) : EG X (.Name x pos) σ H (IsV (.ref C)) := eg_glob (v := .ref C) hm rfl hg hd
theorem eg_gint {i : Int} {t : Tok} (hm : X.mg x = some (.int i t)) (hg : Gl X x := by rfl) (hd : (x == ("__debug__" : Str)) = false := by decide) : EG X (.Name x pos) σ H (IsI i) := eg_glob (v := .int i) hm ⟨t, rfl⟩ hg hd
end
/-- an int by its type -/
theorem ty_int {K : PySem.W.Frag} {i : Int} {u : Value} {bb : Bool} (h : PySem.W.kitOne K (.type "int") u = some bb) : ∀ v H, IsI i v H → ∃ t, TyX K H v t ∧ PySem.W.kitOne K t u = some bb := fun v H h1 => ⟨_, .base (by cases (show v = _ from h1); exact .int i), h⟩
theorem ty_at {K : PySem.W.Frag} {C : Addr} {u : Value} {bb : Bool} {P : Rep} (c : IsiC K C) (hP : ∀ v H, P v H → AtC C v H) (h : PySem.W.kitOne K (.ref C) u = some bb) : ∀ v H, P v H → ∃ t, TyX K H v t ∧ PySem.W.kitOne K t u = some bb := fun v H h1 => ⟨_, c.ty (hP v H h1), h⟩
theorem kit_self {K : PySem.W.Frag} {C : Addr} : PySem.W.kitOne K (.ref C) (.ref C) = some true := by
  unfold PySem.W.kitOne
  rw [if_pos (by simp)]
theorem kit_int_int {K : PySem.W.Frag} : PySem.W.kitOne K (.type "int") (.type "int") = some true := kit_ty (by decide +kernel)
theorem kit_int_bool {K : PySem.W.Frag} : PySem.W.kitOne K (.type "int") (.type "bool") = some false := kit_ty (by decide +kernel)
theorem kit_list_list {K : PySem.W.Frag} : PySem.W.kitOne K (.type "list") (.type "list") = some true := kit_ty (by decide +kernel)
theorem kit_tup_list {K : PySem.W.Frag} : PySem.W.kitOne K (.type "tuple") (.type "list") = some false := kit_ty (by decide +kernel)
theorem kit_tup_tup {K : PySem.W.Frag} : PySem.W.kitOne K (.type "tuple") (.type "tuple") = some true := kit_ty (by decide +kernel)

/-! ### words about ratios -/
def fsR (q : Rat) : List (Str × V) := [("top", .int q.num), ("bottom", .int (q.den : Int)), ("sign", .int q.num.sign)]
def IsR (C : Addr) (q : Rat) : Rep := Ins C fun fs _ => fs = fsR q
instance {C : Addr} {q : Rat} : Mono (IsR C q) := ⟨fun e ⟨a, dx, fs, h1, h2, h3⟩ => ⟨a, dx, fs, h1, e _ _ h2, h3⟩⟩
theorem isR_at {C : Addr} {q : Rat} : ∀ v H, IsR C q v H → AtC C v H := fun v H h => ins_at h
/-- an integer, or a ratio -/
abbrev RI := Rat ⊕ Int
def RI.val : RI → Rat
  | .inl q => q
  | .inr i => (i : Rat)
def IsRI (C : Addr) : RI → Rep
  | .inl q => IsR C q
  | .inr i => IsI i
instance {C : Addr} {x : RI} : Mono (IsRI C x) := by
  cases x <;> (unfold IsRI; infer_instance)
/-- what the class Ratio must be -/
structure RatC (K : PySem.W.Frag) (mg : Str → Option Value) (C : Addr) : Prop where
  isi : IsiC K C
  nT : NoAttr K C "top"
  nB : NoAttr K C "bottom"
  nS : NoAttr K C "sign"
  sf : PySem.W.selfFirst K C = true
  ki : PySem.W.kitOne K (.type "int") (.ref C) = some false
  mg : mg "Ratio" = some (.ref C)
section
variable {X : Cx} {σ : L2.St} {H : Hp} {pos : Pos} {e : Expr} {C : Addr} {q : Rat}
theorem eg_top (R : RatC X.K X.mg C) (he : EG X e σ H (IsR C q)) (hb : attributeBase e "top" X.env (eval e X.env) = eval e X.env := by rfl) : EG X (.Attribute e "top" pos) σ H (IsI q.num) :=
  eg_fld R.isi.cl R.nT he (fun v H1 _ ⟨a, dx, fs, h1, h2, h3⟩ => ⟨a, dx, fs, _, h1, h2, by rw [h3]; rfl, rfl⟩) hb
theorem eg_bot (R : RatC X.K X.mg C) (he : EG X e σ H (IsR C q)) (hb : attributeBase e "bottom" X.env (eval e X.env) = eval e X.env := by rfl) : EG X (.Attribute e "bottom" pos) σ H (IsI (q.den : Int)) :=
  eg_fld R.isi.cl R.nB he (fun v H1 _ ⟨a, dx, fs, h1, h2, h3⟩ => ⟨a, dx, fs, _, h1, h2, by rw [h3]; rfl, rfl⟩) hb
theorem eg_sgn (R : RatC X.K X.mg C) (he : EG X e σ H (IsR C q)) (hb : attributeBase e "sign" X.env (eval e X.env) = eval e X.env := by rfl) : EG X (.Attribute e "sign" pos) σ H (IsI q.num.sign) :=
  eg_fld R.isi.cl R.nS he (fun v H1 _ ⟨a, dx, fs, h1, h2, h3⟩ => ⟨a, dx, fs, _, h1, h2, by rw [h3]; rfl, rfl⟩) hb
end
/-- how a heap changes beside one object -/
def Fx (p : Addr) (H H' : Hp) : Prop := ∀ b o, b ≠ p → H b = some o → H' b = some o
theorem Fx.of {p : Addr} {H H' : Hp} (e : Ex H H') : Fx p H H' := fun b o _ h => e b o h
theorem Fx.put {p : Addr} {H H' H2 : Hp} {o : HO} (f : Fx p H H') (e : Ex H' H2) : Fx p H (upd H2 p o) := fun b u hb h => by rw [upd_ne hb]; exact e b u (f b u hb h)
section
variable {P : Program} {w : World} {K : PySem.W.Frag} {mg : Str → Option Value} {base : Heap} {x qual : Str} {params : Arguments} {body : List Stmt} {scope : Scope} {dvs : List V} {kws : List (Str × V)} {f : Addr} {fd : FuncData} {N ps : List Str} {k : Nat}
theorem fn_init {α : Type} {C : Addr} {Ps : α → List Rep} {Fl : α → List (Str × V) → Hp → Prop} (F : FunD K x qual params body scope dvs kws f fd) (S : FnScope N ps scope) (hl : ∀ a, (Ps a).length + 1 = ps.length)
    (h : ∀ (t : α) cdv A outer s H E p dx args Q, Room k (A.deeper (envOfC qual scope s.heap.objs.size f cdv)) → H p = some (.ins C dx []) → Args (Ps t) args H →
      (∀ H' fs, Fx p H H' → H' p = some (.ins C dx fs) → Fl t fs H' → Q .non H') → BW (ctx P w K mg base N qual scope f cdv A outer s H E) body { nx := fun _ H' => Q .non H', rt := Q } (start N (.ref p :: args)) H) :
    FnOk P w K mg base CX0 (k + 1) f fd ps (ISp C Ps Fl) :=
  fn_any F S (fun vs H Q E ⟨t, p, dx, args, h1, _, h2, _⟩ => by rw [h1, List.length_cons, args_len h2]; exact hl t) fun cdv A outer s H E vs Q hr ⟨t, p, dx, args, h1, h2, h3, h4⟩ => by
    subst h1
    exact h t cdv A outer s H E p dx args Q hr h2 h3 h4
end
section
variable {P : Program} {w : World} {K : PySem.W.Frag} {mg : Str → Option Value} {base : Heap} {f : Addr} {fd : FuncData} {C : Addr}
/-! ### is_integer -/
abbrev SpInt : Sp := PSp (fun i : Int => [IsI i]) fun _ => IsB true
theorem sc_is_integer : FnScope ["value"] ["value"] (defScope (top 4)) := ⟨rfl, rfl, rfl, by decide +kernel, rfl, by decide +kernel, by decide +kernel⟩
theorem ok_is_integer (A : Free mg) (F : FnP K "is_integer" "is_integer" (top 4) [] f fd) : FnOk P w K mg base CX0 1 f fd ["value"] SpInt := by
  refine fn_pure F sc_is_integer (fun _ => rfl) fun i cdv Ar outer s H E vs Q hr ha hq => ?_
  obtain ⟨v, r, rfl, hv, hr2⟩ := ha
  cases (show r = [] from hr2)
  refine b_ret (P := IsB true) ?_ fun v H1 e1 h1 => hq v H1 e1 h1
  refine eg_and (bb := true) (bc := true) ?_ fun _ => ?_
  · exact eg_isi A.isi (eg_var 0 rfl hv) (eg_tyN A.int boot_int) (.ty _) (ty_int kit_int_int)
  · refine eg_one (eg_not (bb := false) ?_)
    exact eg_isi A.isi (eg_var 0 rfl hv) (eg_tyN A.bool boot_bool) (.ty _) (ty_int kit_int_bool)
/-! ### is_within, of an integer and bounds -/
abbrev SpWithin : Sp := PSp (fun t : Int × Int × Int => [IsI t.1, IsI t.2.1, IsI t.2.2]) fun t => IsB (decide (t.2.1 ≤ t.1) && decide (t.1 ≤ t.2.2))
theorem sc_is_within : FnScope ["value", "least", "most"] ["value", "least", "most"] (defScope (top 5)) := ⟨rfl, rfl, rfl, by decide +kernel, rfl, by decide +kernel, by decide +kernel⟩
theorem ok_is_within (D1 : Cal P w K mg base "is_integer" 1 [] SpInt) (F : FnP K "is_within" "is_within" (top 5) [] f fd) : FnOk P w K mg base CX0 2 f fd ["value", "least", "most"] SpWithin := by
  refine fn_pure F sc_is_within (fun _ => rfl) fun t cdv Ar outer s H E vs Q hr ha hq => ?_
  obtain ⟨v1, r1, rfl, h1, v2, r2, rfl, h2, v3, r3, rfl, h3, h4⟩ := ha
  cases (show r3 = [] from h4)
  refine b_skip ?_ fun H1 e1 => ?_
  · exact tg_not (bb := true) (tg_val (eg_callP t.1 D1 hr (ag_cons (eg_var 0 rfl h1) ag_nil)))
  refine b_ret (P := IsB (decide (t.2.1 ≤ t.1) && decide (t.1 ≤ t.2.2))) ?_ fun v H2 e2 h => hq v H2 (e1.trans e2) h
  refine eg_and ?_ fun _ => eg_one ?_
  · exact EvP.bl (eg_or (bb := false) (eg_cm (CG.is (cg_isN (eg_var 1 rfl h2)) (decide_eq_false fun h => nomatch h))) fun _ => eg_one (eg_cm (cg_ge (eg_var 0 rfl h1) (eg_var 1 rfl h2)))) rfl
  · exact EvP.bl (eg_or (bb := false) (eg_cm (CG.is (cg_isN (eg_var 2 rfl h3)) (decide_eq_false fun h => nomatch h))) fun _ => eg_one (eg_cm (cg_le (eg_var 0 rfl h1) (eg_var 2 rfl h3)))) rfl
/-! ### is_listed, of a list or a tuple -/
def IsLT {α : Type} (R : α → Rep) (as : List α) : Bool → Rep
  | false => IsL R as
  | true => IsT R as
instance {α : Type} {R : α → Rep} {as : List α} {b : Bool} [hR : ∀ a, Mono (R a)] : Mono (IsLT R as b) := by
  cases b <;> (unfold IsLT; infer_instance)
theorem ty_lt {K : PySem.W.Frag} {α : Type} {R : α → Rep} {as : List α} {b : Bool} : ∀ v H, IsLT R as b v H → ∃ t, TyX K H v t ∧ PySem.W.kitAny K t [.type "list", .type "tuple"] = some true := fun v H h => by
  cases b with
  | false =>
    obtain ⟨a, xs, h1, h2, _⟩ := h
    subst h1
    exact ⟨_, .base (.lst h2), kitAny_cons kit_list_list (fun z => nomatch z) fun _ => rfl⟩
  | true =>
    obtain ⟨a, xs, h1, h2, _⟩ := h
    subst h1
    exact ⟨_, .base (.tup h2), kitAny_cons kit_tup_list (fun _ => kitAny_cons kit_tup_tup (fun z => nomatch z) fun _ => rfl) fun z => nomatch z⟩
abbrev SpListed {α : Type} (R : α → Rep) : Sp := PSp (fun t : List α × Bool => [IsLT R t.1 t.2]) fun _ => IsB true
theorem sc_is_listed : FnScope ["value"] ["value"] (defScope (top 6)) := ⟨rfl, rfl, rfl, by decide +kernel, rfl, by decide +kernel, by decide +kernel⟩
theorem ok_is_listed {α : Type} {R : α → Rep} [hR : ∀ a, Mono (R a)] (A : Free mg) (F : FnP K "is_listed" "is_listed" (top 6) [] f fd) : FnOk P w K mg base CX0 1 f fd ["value"] (SpListed R) := by
  refine fn_pure F sc_is_listed (fun _ => rfl) fun t cdv Ar outer s H E vs Q hr ha hq => ?_
  obtain ⟨v, r, rfl, hv, hr2⟩ := ha
  cases (show r = [] from hr2)
  refine b_ret (P := IsB true) ?_ fun v H1 e1 h1 => hq v H1 e1 h1
  exact eg_isiT A.isi (eg_var 0 rfl hv) (eg_tup (ag_cons (eg_tyN A.list boot_list) (ag_cons (eg_tyN A.tuple boot_tuple) ag_nil))) (.ty _) (.ty _) ty_lt
/-! ### sign_of -/
abbrev SpSign : Sp := PSp (fun i : Int => [IsI i]) fun i => IsI i.sign
theorem sc_sign_of : FnScope ["number"] ["number"] (defScope (top 22)) := ⟨rfl, rfl, rfl, by decide +kernel, rfl, by decide +kernel, by decide +kernel⟩
theorem ok_sign_of (F : FnP K "sign_of" "sign_of" (top 22) [] f fd) : FnOk P w K mg base CX0 1 f fd ["number"] SpSign := by
  refine fn_pure F sc_sign_of (fun _ => rfl) fun i cdv Ar outer s H E vs Q hr ha hq => ?_
  obtain ⟨v, r, rfl, hv, hr2⟩ := ha
  cases (show r = [] from hr2)
  refine b_if (bb := decide (i = 0)) ?_ (fun h0 H1 e1 => ?_) fun h0 H1 e1 => b_nil ?_
  · exact tg_cm (cg_eqI (eg_var 0 rfl hv) eg_int)
  · refine b_ret eg_int fun v H2 e2 h => hq v H2 (e1.trans e2) ?_
    have e : i = 0 := of_decide_eq_true h0
    subst e
    exact h
  refine b_ret (P := IsI i.sign) ?_ fun v H2 e2 h => hq v H2 (e1.trans e2) h
  · have e : i ≠ 0 := of_decide_eq_false h0
    refine eg_if (bb := decide (0 < i)) (tg_cm (cg_gt (eg_var 0 rfl hv) eg_int)) (fun h => ?_) fun h => ?_
    · have z : 0 < i := of_decide_eq_true h
      exact eg_int.int (Int.sign_eq_one_of_pos z).symm
    · have z : ¬ 0 < i := of_decide_eq_false h
      exact (eg_neg eg_int).int (Int.sign_eq_neg_one_of_neg (by omega)).symm
end
end G
set_option maxHeartbeats 4000000
namespace G
open PySem PySem.Spec PyProof.Rows L2 Evl
/-! ### the pen: what is drawn from the script -/
def Pen (p c : Addr) (n : Nat) (H : Hp) : Prop := ∃ t r : Int, H p = some (.lst [.ref c, .int t, .int r]) ∧ 0 ≤ t ∧ t ≤ n
theorem Pen.mono {p c : Addr} {n m : Nat} {H : Hp} (h : Pen p c n H) (k : n ≤ m) : Pen p c m H := let ⟨t, r, h1, h2, h3⟩ := h; ⟨t, r, h1, h2, by omega⟩
theorem ex_hid2 {p : Addr} {H H' : Hp} (e : Ex H H') : Ex (hid H p) (hid H' p) := fun b o h => by
  by_cases z : b = p
  · rw [z, hid_same] at h
    cases h
  · rw [hid_ne z] at *
    exact e b o h
theorem ex_hid1 {p : Addr} {H : Hp} : Ex (hid H p) H := fun b o h => by
  by_cases z : b = p
  · rw [z, hid_same] at h
    cases h
  · rwa [hid_ne z] at h
theorem hid_upd' {p : Addr} {H : Hp} {o : HO} : hid (upd H p o) p = hid H p := by
  funext b
  by_cases z : b = p
  · rw [z, hid_same, hid_same]
  · rw [hid_ne z, hid_ne z, upd_ne z]
/-- the promise of a def that draws k numbers at most -/
def PnSp {α : Type} (k : Nat) (Ps : α → List Rep) (Post : α → Rep) : Sp := fun vs H Q _ => ∃ (p c : Addr) (cs : List Int) (n : Nat) (a : α) (args : List V), vs = .ref p :: args ∧ Pen p c n H ∧ n + k ≤ 4000 ∧ IsL IsI cs (.ref c) (hid H p) ∧ cs.length ≤ 63 ∧ Args (Ps a) args (hid H p) ∧
  ∀ v H', Ex (hid H p) (hid H' p) → Pen p c (n + k) H' → Post a v (hid H' p) → Q v H'
/-- an integer of which something is known -/
def IsP (φ : Int → Prop) : Rep := fun v _ => ∃ i, v = .int i ∧ φ i
instance {φ : Int → Prop} : Mono (IsP φ) := ⟨fun _ h => h⟩
theorem mul64l {i j : Int} (h : i.natAbs < 2 ^ 64) : IntMulOk i j := IntMulOk.of_left (PyProof.Rows.intBits_le h)
theorem mul64r {i j : Int} (h : j.natAbs < 2 ^ 64) : IntMulOk i j := IntMulOk.of_right (PyProof.Rows.intBits_le h)
def Cell (c : Addr) (cs : List Int) : Rep := fun v H => v = .ref c ∧ IsL IsI cs v H
instance {c : Addr} {cs : List Int} : Mono (Cell c cs) := ⟨fun e ⟨h1, h2⟩ => ⟨h1, (inferInstance : Mono (IsL IsI cs)).up e h2⟩⟩
abbrev PenW (c : Addr) (cs : List Int) (t r : Int) : Rep := LstOf [Cell c cs, IsI t, IsI r]
theorem penW {p c : Addr} {cs : List Int} {t r : Int} {H : Hp} (hp : H p = some (.lst [.ref c, .int t, .int r])) (hc : IsL IsI cs (.ref c) H) : PenW c cs t r (.ref p) H := ⟨p, _, rfl, hp, _, _, rfl, ⟨rfl, hc⟩, _, _, rfl, rfl, _, _, rfl, rfl, rfl⟩
theorem cells_put {p c : Addr} {cs : List Int} {H : Hp} {o : HO} (hne : c ≠ p) (hc : IsL IsI cs (.ref c) H) : IsL IsI cs (.ref c) (upd H p o) := by
  obtain ⟨a, xs, h1, h2, h3⟩ := hc
  cases h1
  refine ⟨c, xs, rfl, by rw [upd_ne hne]; exact h2, ?_⟩
  rw [all2_ints h3]
  exact ints_all2
section
variable {P : Program} {w : World} {K : PySem.W.Frag} {mg : Str → Option Value} {base : Heap} {f : Addr} {fd : FuncData} {C : Addr}
abbrev Many := {m : Int // 0 < m ∧ m < 2 ^ 60}
abbrev SpTake : Sp := PnSp 1 (fun m : Many => [IsI m.1]) fun m => IsP fun i => 0 ≤ i ∧ i < m.1
theorem sc_take : FnScope ["_law_sack_here", "_law_many", "_law_rest", "_law_turn", "_law_cell", "_law_mixed"] ["_law_sack_here", "_law_many"] (defScope (top 43)) := ⟨rfl, rfl, rfl, by decide +kernel, rfl, by decide +kernel, by decide +kernel⟩
theorem many_div {m : Int} (h : 0 < m ∧ m < 2 ^ 60) (i : Int) : CDivW i m := wide_div (b := 60) h.1 (by omega) (by decide) (by decide)
theorem ok_take (A : Free mg) (F : FnP K "_law_take" "_law_take" (top 43) [] f fd) : FnOk P w K mg base CX0 1 f fd ["_law_sack_here", "_law_many"] SpTake := by
  refine fn_any F sc_take (fun vs H Q E ⟨p, c, cs, n, a, args, h1, _, _, _, _, h2, _⟩ => by rw [h1, List.length_cons, args_len h2]; rfl) fun cdv Ar outer s H E vs Q hr ⟨p, c, cs, n, ⟨m, hm⟩, args, hvs, ⟨t, r, hp, t0, t1⟩, hn, hc, hcl, ha, hq⟩ => ?_
  obtain ⟨v, q, rfl, hv, h4⟩ := ha
  cases (show q = [] from h4)
  subst hvs
  have hne : c ≠ p := fun z => by
    obtain ⟨a, xs, h1, h2, _⟩ := hc
    cases h1
    rw [z, hid_same] at h2
    cases h2
  have mC : Mono (IsL IsI cs) := inferInstance
  have hcH : IsL IsI cs (.ref c) H := mC.up ex_hid1 hc
  cases (show v = _ from hv)
  -- the end: what is left of H
  have fin : ∀ (H' : Hp) (i t' r' : Int), Ex (hid H p) (hid H' p) → H' p = some (.lst [.ref c, .int t', .int r']) → 0 ≤ t' → t' ≤ n + 1 → 0 ≤ i → i < m → Q (.int i) H' := fun H' i t' r' e h1 h2 h3 h4 h5 => hq _ H' e ⟨t', r', h1, h2, by omega⟩ ⟨i, rfl, h4, h5⟩
  refine b_if (bb := decide (0 < r)) ?_ (fun h0 H1 e1 => ?_) fun h0 H1 e1 => b_nil ?_
  · exact tg_cm (cg_gt (eg_ixA (P := IsI r) (n := 2) (eg_var 0 rfl (penW hp hcH)) eg_int rfl) eg_int)
  · refine b_asg (P := IsI r) 2 sc_take.nd (eg_ixA (n := 2) (eg_var 0 rfl (penW (e1 _ _ hp) (mC.up e1 hcH))) eg_int rfl) fun v2 H2 e2 h2 => ?_
    cases (show v2 = _ from h2)
    refine b_setix (P := IsI (r / m)) (n := 2) inferInstance (eg_fdiv (many_div hm _) (eg_intI A.int (eg_var 2 rfl rfl)) (eg_var 1 rfl rfl)) (fun _ _ => eg_var 0 rfl rfl) (fun _ _ => eg_int) ((e1.trans e2) _ _ hp) (show 2 < 3 by decide) fun v3 H3 e3 h3 => ?_
    cases (show v3 = _ from h3)
    refine b_ret (P := IsI (r % m)) (eg_mod hm.1 (eg_intI A.int (eg_var 2 rfl rfl)) (eg_var 1 rfl rfl)) fun v4 H4 e4 h4 => ?_
    cases (show v4 = _ from h4)
    have x3 := (e1.trans e2).trans e3
    refine fin H4 _ t (r / m) ?_ (e4 _ _ upd_same) t0 (by omega) (Int.emod_nonneg _ (by omega)) (Int.emod_lt_of_pos _ hm.1)
    exact (ex_hid2 x3).trans (by have := ex_hid2 (p := p) e4; rwa [hid_upd'] at this)
  refine b_asg (P := IsI t) 3 sc_take.nd (eg_ixA (n := 1) (eg_var 0 rfl (penW (e1 _ _ hp) (mC.up e1 hcH))) eg_int rfl) fun v2 H2 e2 h2 => ?_
  cases (show v2 = _ from h2)
  have x2 := e1.trans e2
  refine b_setix (P := IsI (t + 1)) (n := 1) inferInstance (eg_add (eg_var 3 rfl rfl) eg_int) (fun _ _ => eg_var 0 rfl rfl) (fun _ _ => eg_int) (x2 _ _ hp) (show 1 < 3 by decide) fun v3 H3 e3 h3 => ?_
  cases (show v3 = _ from h3)
  have x3 := x2.trans e3
  generalize hH4 : upd H3 p _ = H4
  have hp4 : H4 p = some (.lst [.ref c, .int (t + 1), .int r]) := by rw [← hH4, upd_same]; rfl
  have hc4 : IsL IsI cs (.ref c) H4 := by rw [← hH4]; exact cells_put hne (mC.up x3 hcH)
  have x4 : Ex (hid H p) (hid H4 p) := by rw [← hH4, hid_upd']; exact ex_hid2 x3
  have tb : t.natAbs < 2 ^ 12 := by have : (2 : Nat) ^ 12 = 4096 := by decide
                                    omega
  refine b_asg (P := IsI (53197 * t + 4021)) 4 sc_take.nd (eg_add (eg_mulO (mul64l (by decide)) eg_int (eg_var 3 rfl rfl)) eg_int) fun v5 H5 e5 h5 => ?_
  cases (show v5 = _ from h5)
  -- what is drawn
  have tail : ∀ (i : Int) (H6 : Hp), Ex H4 H6 → BW (ctx P w K mg base ["_law_sack_here", "_law_many", "_law_rest", "_law_turn", "_law_cell", "_law_mixed"] "_law_take" (defScope (top 43)) f cdv Ar outer s H E) ((defBody (top 43)).drop 5) { nx := fun _ H' => Q .non H', rt := Q } [some (.ref p), some (.int m), none, some (.int t), some (.int i), none] H6 := fun i H6 e6 => ?_
  · refine b_if (bb := !cs.isEmpty) ?_ (fun h0 H6 e6 => ?_) fun h0 H6 e6 => b_nil (tail _ _ (e5.trans e6))
    · refine tg_cm (cg_neNil hr (EvP.imp (eg_ixA (P := Cell c cs) (n := 0) (eg_var 0 rfl (penW (e5 _ _ hp4) (mC.up e5 hc4))) eg_int rfl) fun _ _ _ h => h.2) (eg_lst ag_nil))
    have hl : 0 < cs.length := by
      cases cs with
      | nil => cases h0
      | cons a b => exact Nat.succ_pos _
    have hi : t.toNat % cs.length < cs.length := Nat.mod_lt _ hl
    have y5 := e5.trans e6
    refine b_asg (P := IsI cs[t.toNat % cs.length]) 4 sc_take.nd ?_ fun v7 H7 e7 h7 => b_nil ?_
    · refine eg_ixL (R := IsI) (as := cs) (n := t.toNat % cs.length) (x := cs[t.toNat % cs.length]) ?_ ?_ (List.getElem?_eq_getElem hi)
      · exact EvP.imp (eg_ixA (P := Cell c cs) (n := 0) (eg_var 0 rfl (penW (y5 _ _ hp4) (mC.up y5 hc4))) eg_int rfl) fun _ _ _ h => h.2
      · refine EvP.int (eg_mod (i := t) (j := (cs.length : Int)) (by omega) (eg_intI A.int (eg_var 3 rfl rfl)) (eg_len (R := IsI) A.len (EvP.imp (eg_ixA (P := Cell c cs) (n := 0) (eg_var 0 rfl (penW (y5 _ _ hp4) (mC.up y5 hc4))) eg_int rfl) fun _ _ _ h => h.2))) ?_
        rw [Int.natCast_emod]
        have : ((t.toNat : Nat) : Int) = t := by omega
        rw [this]
    · cases (show v7 = _ from h7)
      exact tail _ _ (y5.trans e7)
  have h6 := e6 _ _ hp4
  have c6 := mC.up e6 hc4
  have z6 := x4.trans (ex_hid2 (p := p) e6)
  have wl : ∀ {pp : Pos} {H : Hp}, Ex H6 H → PenW c cs (t + 1) r (.ref p) H := fun e => penW (e _ _ h6) (mC.up e c6)
  refine b_if (bb := decide (t < (cs.length : Int)) && decide ((10 : Int) ^ 18 ≤ (i.natAbs : Int))) ?_ (fun h0 H7 e7 => ?_) fun h0 H7 e7 => b_nil ?_
  · refine tg_w (wg_and (tg_cm (cg_lt (eg_var 3 rfl rfl) ?_)) fun _ => wg_and1 (tg_cm (cg_ge (eg_abs A.abs (eg_var 4 rfl rfl)) (eg_pow (i := 10) (k := 18) (by decide) (by decide) eg_int eg_int))))
    exact eg_len (R := IsI) A.len (EvP.imp (eg_ixA (P := Cell c cs) (n := 0) (eg_var 0 rfl (penW h6 c6)) eg_int rfl) fun _ _ _ h => h.2)
  · refine b_asg (P := IsI (2 * ((i.natAbs : Int) - 10 ^ 18) + (if decide (i < 0) then 1 else 0))) 2 sc_take.nd ?_ fun v8 H8 e8 h8 => ?_
    · refine eg_add (eg_mulO (mul64l (by decide)) eg_int (eg_sub (eg_abs A.abs (eg_var 4 rfl rfl)) (eg_pow (i := 10) (k := 18) (by decide) (by decide) eg_int eg_int))) (eg_intB A.int (eg_cm (cg_lt (eg_var 4 rfl rfl) eg_int)))
    cases (show v8 = _ from h8)
    generalize (2 * ((i.natAbs : Int) - 10 ^ 18) + (if decide (i < 0) then 1 else 0)) = r2
    have x8 := (e6.trans e7).trans e8
    refine b_setix (P := IsI (r2 / m)) (n := 2) inferInstance (eg_fdiv (many_div hm _) (eg_intI A.int (eg_var 2 rfl rfl)) (eg_var 1 rfl rfl)) (fun _ _ => eg_var 0 rfl rfl) (fun _ _ => eg_int) (x8 _ _ hp4) (show 2 < 3 by decide) fun v9 H9 e9 h9 => ?_
    cases (show v9 = _ from h9)
    refine b_ret (P := IsI (r2 % m)) (eg_mod hm.1 (eg_intI A.int (eg_var 2 rfl rfl)) (eg_var 1 rfl rfl)) fun v10 H10 e10 h10 => ?_
    cases (show v10 = _ from h10)
    refine fin H10 _ (t + 1) (r2 / m) ?_ (e10 _ _ upd_same) (by omega) (by omega) (Int.emod_nonneg _ (by omega)) (Int.emod_lt_of_pos _ hm.1)
    exact (x4.trans (ex_hid2 (x8.trans e9))).trans (by have := ex_hid2 (p := p) e10; rwa [hid_upd'] at this)
  · have t2 : t ≤ 4000 := by omega
    have q1 : 0 ≤ i % 2147483587 := Int.emod_nonneg _ (by decide)
    have q2 : i % 2147483587 < 2147483587 := Int.emod_lt_of_pos _ (by decide)
    have k1 : (i % 2147483587 + 62213 * t + 4021).natAbs < 2 ^ 64 := by omega
    refine b_asg (P := IsI ((i % 2147483587 + 62213 * t + 4021) ^ 5 % 2147483647)) 5 sc_take.nd ?_ fun v8 H8 e8 h8 => ?_
    · exact eg_mod (by decide) (eg_intI A.int (eg_pow (k := 5) (by decide) k1 (eg_add (eg_add (eg_mod (by decide) (eg_intI A.int (eg_var 4 rfl rfl)) eg_int) (eg_mulO (mul64l (by decide)) eg_int (eg_var 3 rfl rfl))) eg_int) eg_int)) eg_int
    cases (show v8 = _ from h8)
    generalize hx : (i % 2147483587 + 62213 * t + 4021) ^ 5 % 2147483647 = x1
    have p1 : 0 ≤ x1 := hx ▸ Int.emod_nonneg _ (by decide)
    have p2 : x1 < 2147483647 := hx ▸ Int.emod_lt_of_pos _ (by decide)
    have w1 : x1 * (2 * t + 2131) ≤ 2147483647 * 10131 := Int.mul_le_mul (by omega) (by omega) (by omega) (by decide)
    have w0 : 0 ≤ x1 * (2 * t + 2131) := Int.mul_nonneg p1 (by omega)
    have w3 : 53197 * t * t ≤ 53197 * 4000 * 4000 := Int.mul_le_mul (by omega) t2 t0 (by decide)
    have w2 : 0 ≤ 53197 * t * t := Int.mul_nonneg (by omega) t0
    have k2 : (x1 * (2 * t + 2131) + 53197 * t * t + 71993).natAbs < 2 ^ 64 := by omega
    refine b_asg (P := IsI ((x1 * (2 * t + 2131) + 53197 * t * t + 71993) ^ 3 % 2147483629)) 5 sc_take.nd ?_ fun v9 H9 e9 h9 => ?_
    · refine eg_mod (by decide) (eg_intI A.int (eg_pow (k := 3) (by decide) k2 (eg_add (eg_add (eg_mulO (mul64l (by omega)) (eg_var 5 rfl rfl) (eg_add (eg_mulO (mul64l (by decide)) eg_int (eg_var 3 rfl rfl)) eg_int)) (eg_mulO (mul64l (by omega)) (eg_mulO (mul64l (by decide)) eg_int (eg_var 3 rfl rfl)) (eg_var 3 rfl rfl))) eg_int) eg_int)) eg_int
    cases (show v9 = _ from h9)
    generalize (x1 * (2 * t + 2131) + 53197 * t * t + 71993) ^ 3 % 2147483629 = x2
    refine b_ret (P := IsI (x2 / 64 % m)) (eg_mod hm.1 (eg_intI A.int (eg_fdiv (wide_div (b := 8) (by decide) (by decide) (by decide) (by decide)) (eg_var 5 rfl rfl) eg_int)) (eg_var 1 rfl rfl)) fun v10 H10 e10 h10 => ?_
    cases (show v10 = _ from h10)
    have x10 := (((e6.trans e7).trans e8).trans e9).trans e10
    exact fin H10 _ (t + 1) r (x4.trans (ex_hid2 x10)) (x10 _ _ hp4) (by omega) (by omega) (Int.emod_nonneg _ (by omega)) (Int.emod_lt_of_pos _ hm.1)
end
end G
set_option maxHeartbeats 4000000
namespace G
open PySem PySem.Spec PyProof.Rows L2 Evl
theorem Pen.up {p c : Addr} {n : Nat} {H H' : Hp} (h : Pen p c n H) (e : Ex H H') : Pen p c n H' := let ⟨t, r, h1, h2⟩ := h; ⟨t, r, e _ _ h1, h2⟩
/-- an expression that may draw: words by the heap without the pen -/
def QG (X : Cx) (p c : Addr) (e : Expr) (σ : L2.St) (H : Hp) (n m : Nat) (P : Rep) : Prop := ∀ H1, Ex H (hid H1 p) → Pen p c n H1 → ∀ Q : VK, (∀ v H2, Ex (hid H1 p) (hid H2 p) → Pen p c m H2 → P v (hid H2 p) → Q v H2) → EW X e σ H1 Q
def QA (X : Cx) (p c : Addr) (es : List Expr) (σ : L2.St) (H : Hp) (n m : Nat) (Ps : List Rep) : Prop := ∀ H1, Ex H (hid H1 p) → Pen p c n H1 → ∀ Q : List V → Hp → Prop, (∀ vs H2, Ex (hid H1 p) (hid H2 p) → Pen p c m H2 → Args Ps vs (hid H2 p) → Q vs H2) → AW X es σ H1 Q
def QT (X : Cx) (p c : Addr) (e : Expr) (σ : L2.St) (H : Hp) (n m : Nat) (φ : Bool → Prop) : Prop := ∀ H1, Ex H (hid H1 p) → Pen p c n H1 → ∀ Q : Bool → Hp → Prop, (∀ b H2, Ex (hid H1 p) (hid H2 p) → Pen p c m H2 → φ b → Q b H2) → TW X e σ H1 Q
theorem Pen.at {p c : Addr} {n : Nat} {H : Hp} (h : Pen p c n H) : ∃ acc, H p = some (.lst acc) := let ⟨_, _, h1, _⟩ := h; ⟨_, h1⟩
theorem Pen.put {p c : Addr} {n : Nat} {H H2 : Hp} {acc : List V} (h : Pen p c n H) (ha : H p = some (.lst acc)) : Pen p c n (upd H2 p (.lst acc)) := by
  obtain ⟨t, r, h1, h2⟩ := h
  rw [ha] at h1
  cases h1
  exact ⟨t, r, upd_same, h2⟩
section
variable {X : Cx} {σ : L2.St} {H : Hp} {a b e cc : Expr} {es : List Expr} {pos pp : Pos} {P P1 P2 : Rep} {Ps : List Rep} {x : Str} {k n m l : Nat} {p c : Addr} {φ ψ : Bool → Prop} {bb : Bool}
theorem qg_of (h : EG X e σ H P) : QG X p c e σ H n n P := fun H1 e1 hp Q q => by
  obtain ⟨acc, ha⟩ := hp.at
  refine ew_hid ha (h (hid H1 p) e1 _ fun v H2 e2 pv n2 => q v _ ?_ (hp.put ha) ?_)
  · rw [hid_upd n2]
    exact e2
  · rw [hid_upd n2]
    exact pv
theorem qt_of (h : TG X e σ H bb) : QT X p c e σ H n n (fun b => b = bb) := fun H1 e1 hp Q q => by
  obtain ⟨acc, ha⟩ := hp.at
  refine tw_hid ha (h (hid H1 p) e1 _ fun H2 e2 n2 => q bb _ ?_ (hp.put ha) rfl)
  rw [hid_upd n2]
  exact e2
theorem QG.imp (h : QG X p c e σ H n m P) (hk : m ≤ k) (hi : ∀ v H, P v H → P1 v H) : QG X p c e σ H n k P1 := fun H1 e1 hp Q q => h H1 e1 hp Q fun v H2 e2 p2 pv => q v H2 e2 (p2.mono hk) (hi v _ pv)
theorem QG.at {H' : Hp} (h : QG X p c e σ H n m P) (ex : Ex H H') : QG X p c e σ H' n m P := fun H1 e1 hp Q q => h H1 (ex.trans e1) hp Q q
theorem QT.imp (h : QT X p c e σ H n m φ) (hk : m ≤ k) (hi : ∀ b, φ b → ψ b) : QT X p c e σ H n k ψ := fun H1 e1 hp Q q => h H1 e1 hp Q fun v H2 e2 p2 pv => q v H2 e2 (p2.mono hk) (hi v pv)
theorem qa_nil : QA X p c [] σ H n n [] := fun H1 e1 hp Q q pos pins s I => pa_nil.run pos pins s σ H1 Q I (q [] H1 (Ex.refl _) hp rfl)
theorem qa_cons [hm : Mono P] (h : QG X p c e σ H n m P) (hr : QA X p c es σ H m l Ps) (hs : starEach (e :: es) X.env = (false, eval e X.env) :: starEach es X.env := by rfl) : QA X p c (e :: es) σ H n l (P :: Ps) :=
  fun H1 e1 hp Q q pos pins s I => (pa_cons pe_W pa_W hs).run pos pins s σ H1 Q I (h H1 e1 hp _ fun v H2 e2 p2 pv => hr H2 (e1.trans e2) p2 _ fun vs H3 e3 p3 pvs => q _ H3 (e2.trans e3) p3 ⟨v, vs, rfl, hm.up e3 pv, pvs⟩)
theorem hid_new {H2 : Hp} {q : Addr} {o : HO} (hq : q ≠ p) : hid (upd H2 q o) p = upd (hid H2 p) q o := by
  funext b
  by_cases z : b = p
  · rw [z, hid_same, upd_ne (Ne.symm hq), hid_same]
  · rw [hid_ne z]
    by_cases z2 : b = q
    · rw [z2, upd_same, upd_same]
    · rw [upd_ne z2, upd_ne z2, hid_ne z]
theorem Pen.new {H2 : Hp} {q : Addr} {o : HO} (h : Pen p c n H2) (hq : H2 q = none) : Pen p c n (upd H2 q o) ∧ q ≠ p := by
  obtain ⟨t, r, h1, h2⟩ := h
  have hne : q ≠ p := fun z => by rw [z, h1] at hq; cases hq
  exact ⟨⟨t, r, by rw [upd_ne (Ne.symm hne)]; exact h1, h2⟩, hne⟩
theorem qg_tup {x1} [hm : MonoA Ps] (h : QA X p c es σ H n m Ps) (hl : Ps.length ≤ 1000) : QG X p c (.Tuple es x1 pos) σ H n m (TupOf Ps) :=
  fun H1 e1 hp Q q pins s I => (pe_tup pa_W).run pins s σ H1 Q I (h H1 e1 hp _ fun vs H2 e2 p2 pv => ⟨sz_of (Nat.le_trans (Nat.le_of_eq (args_len pv)) (Nat.le_trans hl (by decide))), fun d hd => by
    obtain ⟨p3, hne⟩ := p2.new (o := .tup vs) hd
    have ex : Ex (hid H2 p) (hid (upd H2 d (.tup vs)) p) := ex_hid2 (Ex.new hd)
    exact q _ _ (e2.trans ex) p3 ⟨d, vs, rfl, by rw [hid_ne hne, upd_same], hm.up ex pv⟩⟩)
theorem qg_lst [hm : MonoA Ps] (h : QA X p c es σ H n m Ps) (hl : Ps.length ≤ 1000) : QG X p c (.List es pos) σ H n m (LstOf Ps) :=
  fun H1 e1 hp Q q pins s I => (pe_lst pa_W).run pins s σ H1 Q I (h H1 e1 hp _ fun vs H2 e2 p2 pv => ⟨sz_of (Nat.le_trans (Nat.le_of_eq (args_len pv)) (Nat.le_trans hl (by decide))), fun d hd => by
    obtain ⟨p3, hne⟩ := p2.new (o := .lst vs) hd
    have ex : Ex (hid H2 p) (hid (upd H2 d (.lst vs)) p) := ex_hid2 (Ex.new hd)
    exact q _ _ (e2.trans ex) p3 ⟨d, vs, rfl, by rw [hid_ne hne, upd_same], hm.up ex pv⟩⟩)
/-- a def that draws -/
theorem qg_pen {α : Type} {kk : Nat} {Qs : α → List Rep} {Post : α → Rep} {cs : List Int} (t : α) (D : Cal X.prog X.w X.K X.mg X.base x k [] (PnSp kk Qs Post)) (hr : Room k X.A) (hc : IsL IsI cs (.ref c) H) (hl : cs.length ≤ 63) (hk : m + kk ≤ 4000) (ha : QA X p c (e :: es) σ H n m (IsV (.ref p) :: Qs t)) (hg : Gl X x := by rfl) (hdb : (x == ("__debug__" : Str)) = false := by decide)
    (he : starEach (e :: es) X.env = (false, eval e X.env) :: starEach es X.env := by rfl) (hpl : (backTo pos (starEach es X.env)).any (·.1) = false := by rfl) (hp : ∀ v H, Post t v H → P v H := by exact fun _ _ h => h) : QG X p c (.Call (.Name x pp) (e :: es) [] pos) σ H n (m + kk) P := by
  obtain ⟨f, fd, ps, ds, F, hm, hkp, hb, hd⟩ := D.ex
  intro H1 e1 hpn Q q pins s I
  refine (pe_call (E := E0) F hr hg hm hkp hb hd pass0 pa_W hdb he hpl).run pins s σ H1 Q I (ha H1 e1 hpn _ fun vs H2 e2 p2 ⟨v, r, h1, h2, h3⟩ => ?_)
  refine ⟨p, c, cs, m, t, r, by rw [List.append_nil, h1, show v = _ from h2], p2, hk, (inferInstance : Mono (IsL IsI cs)).up (e1.trans e2) hc, hl, h3, fun v H' e3 p3 hv => q v H' (e2.trans e3) p3 (hp v _ hv)⟩
/-- a def that draws nothing, of arguments that do -/
theorem qg_pure {α : Type} {Qs : α → List Rep} {Post : α → Rep} {PA : List Rep} (D : Cal X.prog X.w X.K X.mg X.base x k [] (PSp Qs Post)) (hr : Room k X.A) (ha : QA X p c (e :: es) σ H n m PA) (hs : ∀ vs H, Args PA vs H → ∃ t, Args (Qs t) vs H ∧ ∀ v H, Post t v H → P v H) (hg : Gl X x := by rfl) (hdb : (x == ("__debug__" : Str)) = false := by decide)
    (he : starEach (e :: es) X.env = (false, eval e X.env) :: starEach es X.env := by rfl) (hpl : (backTo pos (starEach es X.env)).any (·.1) = false := by rfl) : QG X p c (.Call (.Name x pp) (e :: es) [] pos) σ H n m P := by
  obtain ⟨f, fd, ps, ds, F, hm, hkp, hb, hd⟩ := D.ex
  intro H1 e1 hpn Q q pins s I
  refine wpAny_Call_Name_kw (ld_glob I hg hm ?_ hdb)
  refine PySem.W.callWith_K (h₀ := X.base) I.ok.mod.kin hkp (thn (ha H1 e1 hpn (fun vs H2 => Ex (hid H1 p) (hid H2 p) ∧ Pen p c m H2 ∧ Args PA vs (hid H2 p)) (fun vs H2 a1 a2 a3 => ⟨a1, a2, a3⟩) pos pins _ (I.tok _)) fun us s1 ⟨vs, H2, I2, r, a1, a2, a3⟩ => ⟨I2.kIn, ?_⟩) he hpl
  obtain ⟨acc, hac⟩ := a2.at
  obtain ⟨t, h1, h2⟩ := hs vs _ a3
  obtain ⟨ob, eo, J⟩ := hide_ok I2 hac
  refine thn (run_fn (E := E0) F hr hb hd pass0 J r (Q := fun v H3 => Ex (hid H2 p) H3 ∧ P v H3) ⟨t, by rw [List.append_nil]; exact h1, fun v H3 e3 hv => ⟨e3, h2 v H3 hv⟩⟩) fun u s2 ⟨v, H3, J3, rv, e3, hv⟩ => ?_
  obtain ⟨n3, I3⟩ := show_ok I2 hac eo J3
  exact ⟨v, _, I3, rv, q v _ (by rw [hid_upd n3]; exact a1.trans e3) (a2.put hac) (by rw [hid_upd n3]; exact hv)⟩
/-- ints -/
theorem qg_int2 {op : Operator} {C : Int → Int → Prop} {g : Int → Int → Int} {f1 f2 f3 : Int → Prop} (ho : OpR X (binaryOp op) (rI C fun i j => .int (g i j))) (ha : QG X p c a σ H n m (IsP f1)) (hb : QG X p c b σ H m l (IsP f2)) (hc : ∀ i j, f1 i → f2 j → C i j ∧ f3 (g i j)) : QG X p c (.BinOp a op b pos) σ H n l (IsP f3) :=
  fun H1 e1 hp Q q pins s I => (pe_op ho pe_W pe_W).run pins s σ H1 Q I (ha H1 e1 hp _ fun v H2 e2 p2 ⟨i, h1, h2⟩ => hb H2 (e1.trans e2) p2 _ fun u H3 e3 p3 ⟨j, h3, h4⟩ => ⟨i, j, h1, h3, (hc i j h2 h4).1, q _ H3 (e2.trans e3) p3 ⟨_, rfl, (hc i j h2 h4).2⟩⟩)
theorem qg_isP {i : Int} {f1 : Int → Prop} (h : EG X e σ H (IsI i)) (hf : f1 i) : QG X p c e σ H n n (IsP f1) := (qg_of h).imp (Nat.le_refl _) fun v H hv => ⟨i, hv, hf⟩
theorem qg_add {f1 f2 f3 : Int → Prop} (ha : QG X p c a σ H n m (IsP f1)) (hb : QG X p c b σ H m l (IsP f2)) (hc : ∀ i j, f1 i → f2 j → f3 (i + j)) : QG X p c (.BinOp a .Add b pos) σ H n l (IsP f3) :=
  fun H1 e1 hp Q q pins s I => (pe_op op_add pe_W pe_W).run pins s σ H1 Q I (ha H1 e1 hp _ fun v H2 e2 p2 ⟨i, h1, h2⟩ => hb H2 (e1.trans e2) p2 _ fun u H3 e3 p3 ⟨j, h3, h4⟩ => ⟨i, j, h1, h3, q _ H3 (e2.trans e3) p3 ⟨_, rfl, hc i j h2 h4⟩⟩)
theorem qg_sub {f1 f2 f3 : Int → Prop} (ha : QG X p c a σ H n m (IsP f1)) (hb : QG X p c b σ H m l (IsP f2)) (hc : ∀ i j, f1 i → f2 j → f3 (i - j)) : QG X p c (.BinOp a .Sub b pos) σ H n l (IsP f3) :=
  fun H1 e1 hp Q q pins s I => (pe_op op_sub pe_W pe_W).run pins s σ H1 Q I (ha H1 e1 hp _ fun v H2 e2 p2 ⟨i, h1, h2⟩ => hb H2 (e1.trans e2) p2 _ fun u H3 e3 p3 ⟨j, h3, h4⟩ => ⟨i, j, h1, h3, q _ H3 (e2.trans e3) p3 ⟨_, rfl, hc i j h2 h4⟩⟩)
theorem scal_int {i j : Int} : scal (.int i) (.int j) = true := rfl
/-- a == b of ints, as a test -/
theorem qt_eqI {f1 f2 : Int → Prop} (ha : QG X p c a σ H n m (IsP f1)) (hb : QG X p c b σ H m l (IsP f2)) (hm : behindInMarks .Eq b = false := by first | exact nomark _ | rfl) : QT X p c (.Compare a [.Eq] [b] pos) σ H n l (fun _ => True) :=
  fun H1 e1 hp Q q pins s I => (pt_cmpR op_eq pe_W pe_W hm).run pins s σ H1 Q I (ha H1 e1 hp _ fun v H2 e2 p2 ⟨i, h1, h2⟩ => hb H2 (e1.trans e2) p2 _ fun u H3 e3 p3 ⟨j, h3, h4⟩ => by
    subst h1 h3
    exact ⟨scal_int, _, rfl, q _ H3 (e2.trans e3) p3 True.intro⟩)
theorem qt_or (h1 : QT X p c a σ H n m φ) (h2 : QT X p c b σ H m l ψ) (hml : m ≤ l) : QT X p c (.BoolOp .Or [a, b] pos) σ H n l (fun _ => True) :=
  fun H1 e1 hp Q q pins s I => (pw_or (pt_W (X := X)) (pw_or1 (pt_W (X := X)))).run _ pins s σ H1 Q I (h1 H1 e1 hp _ fun b1 H2 e2 p2 _ => by
    cases b1 with
    | true => rw [if_pos rfl]; exact q true H2 e2 (p2.mono hml) True.intro
    | false => rw [if_neg Bool.false_ne_true]; exact h2 H2 (e1.trans e2) p2 Q fun b2 H3 e3 p3 _ => q b2 H3 (e2.trans e3) p3 True.intro)
theorem qg_if (hc : QT X p c cc σ H n m φ) (h1 : φ true → QG X p c a σ H m l P) (h2 : φ false → QG X p c b σ H m l P) : QG X p c (.IfExp cc a b pos) σ H n l P :=
  fun H1 e1 hp Q q pins s I => (pe_ifExp pt_W pe_W pe_W).run pins s σ H1 Q I (hc H1 e1 hp _ fun b1 H2 e2 p2 hb => by
    cases b1 with
    | true => rw [if_pos rfl]; exact h1 hb H2 (e1.trans e2) p2 Q fun v H3 e3 p3 pv => q v H3 (e2.trans e3) p3 pv
    | false => rw [if_neg Bool.false_ne_true]; exact h2 hb H2 (e1.trans e2) p2 Q fun v H3 e3 p3 pv => q v H3 (e2.trans e3) p3 pv)
/-! ### statements -/
section
variable {rest A B : List Stmt} {D : Ends} {y z u : Str} {py pz pu pt : Pos} {kt k2 : Nat} {spos : Pos} {σ' : L2.St} {P3 : Rep}
theorem qb_asg (i : Nat) (hN : X.N.Nodup) (he : QG X p c e σ (hid H p) n m P) (hp : Pen p c n H) (k : ∀ v H1, Ex (hid H p) (hid H1 p) → Pen p c m H1 → P v (hid H1 p) → BW X rest D (σ.set i (some v)) H1) (hi : X.N[i]? = some y := by rfl) (hl : Loc X.env.scope y := by first | exact Or.inl rfl | exact Or.inr rfl)
    (hs : swapsWith e (some (.Name y py)) spos.line X.env = pure false := by rfl) (hf : X.fn y = true ∨ X.env.scope.names.lookup y = some .local := by first | exact .inl rfl | exact .inr rfl) : BW X (.Assign [.Name y py] e spos :: rest) D σ H :=
  b_of (ps_set hN hi hl pe_W hs hf) (he H (Ex.refl _) hp _ k)
theorem qb_ret (he : QG X p c e σ (hid H p) n m P) (hp : Pen p c n H) (k : ∀ v H1, Ex (hid H p) (hid H1 p) → Pen p c m H1 → P v (hid H1 p) → D.rt v H1) : BW X (.Return (some e) spos :: rest) D σ H := b_of (ps_ret pe_W) (he H (Ex.refl _) hp _ k)
theorem qb_if (hc : QT X p c cc σ (hid H p) n m φ) (hp : Pen p c n H) (h1 : φ true → ∀ H1, Ex (hid H p) (hid H1 p) → Pen p c m H1 → BW X A { D with nx := BW X rest D } σ H1) (h2 : φ false → ∀ H1, Ex (hid H p) (hid H1 p) → Pen p c m H1 → BW X B { D with nx := BW X rest D } σ H1) : BW X (.If cc A B spos :: rest) D σ H :=
  b_of (ps_if pt_W pss_W pss_W) (hc H (Ex.refl _) hp _ fun b1 H1 e1 p1 hb => by
    cases b1 with
    | true => rw [if_pos rfl]; exact h1 hb H1 e1 p1
    | false => rw [if_neg Bool.false_ne_true]; exact h2 hb H1 e1 p1)
theorem qb_par (i j : Nat) {pt2 : Pos} (hN : X.N.Nodup) (ha : QA X p c [a, b] σ (hid H p) n m [P1, P2]) (hp : Pen p c n H) (hij : i ≠ j) (k : ∀ v w H1, Ex (hid H p) (hid H1 p) → Pen p c m H1 → P1 v (hid H1 p) → P2 w (hid H1 p) → BW X rest D ((σ.set i (some v)).set j (some w)) H1)
    (hw : swappedStores [.Tuple [.Name y py, .Name z pz] kt pt] (.Tuple [a, b] k2 pt2) X.env = pure (some [y, z])) (hi : X.N[i]? = some y := by rfl) (hj : X.N[j]? = some z := by rfl) (hx : X.env.scope.names.lookup y = some .local := by rfl) (hy : X.env.scope.names.lookup z = some .local := by rfl) (hc : X.calm = true := by rfl)
    (hs : swapsWithSole [.Tuple [.Name y py, .Name z pz] kt pt] (.Tuple [a, b] k2 pt2) spos.line X.env = pure false := by rfl) : BW X (.Assign [.Tuple [.Name y py, .Name z pz] kt pt] (.Tuple [a, b] k2 pt2) spos :: rest) D σ H :=
  b_of (ps_par hc hN hi hj hij hx hy pa_W hw hs) (ha H (Ex.refl _) hp _ fun vs H1 e1 p1 ⟨v, r, h1, h2, w, r2, h3, h4, h5⟩ => ⟨v, w, by rw [h1, h3, show r2 = [] from h5], k v w H1 e1 p1 h2 h4⟩)
theorem qb_par3 (i j l' : Nat) {pt2 : Pos} (hN : X.N.Nodup) {d : Expr} (ha : QA X p c [a, b, d] σ (hid H p) n m [P1, P2, P3]) (hp : Pen p c n H) (hij : i ≠ j) (hil : i ≠ l') (hjl : j ≠ l') (k : ∀ v w o H1, Ex (hid H p) (hid H1 p) → Pen p c m H1 → P1 v (hid H1 p) → P2 w (hid H1 p) → P3 o (hid H1 p) → BW X rest D (((σ.set i (some v)).set j (some w)).set l' (some o)) H1)
    (hw : swappedStores [.Tuple [.Name y py, .Name z pz, .Name u pu] kt pt] (.Tuple [a, b, d] k2 pt2) X.env = pure (some [y, z, u])) (hi : X.N[i]? = some y := by rfl) (hj : X.N[j]? = some z := by rfl) (hl : X.N[l']? = some u := by rfl) (hx : X.env.scope.names.lookup y = some .local := by rfl) (hy : X.env.scope.names.lookup z = some .local := by rfl) (hz : X.env.scope.names.lookup u = some .local := by rfl) (hc : X.calm = true := by rfl)
    (hs : swapsWithSole [.Tuple [.Name y py, .Name z pz, .Name u pu] kt pt] (.Tuple [a, b, d] k2 pt2) spos.line X.env = pure false := by rfl) : BW X (.Assign [.Tuple [.Name y py, .Name z pz, .Name u pu] kt pt] (.Tuple [a, b, d] k2 pt2) spos :: rest) D σ H :=
  b_of (ps_par3 hc hN hi hj hl hij hil hjl hx hy hz pa_W hw hs) (ha H (Ex.refl _) hp _ fun vs H1 e1 p1 ⟨v, r, h1, h2, w, r2, h3, h4, o, r3, h5, h6, h7⟩ => ⟨v, w, o, by rw [h1, h3, h5, show r3 = [] from h7], k v w o H1 e1 p1 h2 h4 h6⟩)
theorem qb_two (i j : Nat) {pt : Pos} (hN : X.N.Nodup) (he : QG X p c e σ (hid H p) n m (TupOf [P1, P2])) (hp : Pen p c n H) (k : ∀ v w H1, Ex (hid H p) (hid H1 p) → Pen p c m H1 → P1 v (hid H1 p) → P2 w (hid H1 p) → BW X rest D ((σ.set i (some v)).set j (some w)) H1)
    (hi : X.N[i]? = some y := by rfl) (hj : X.N[j]? = some z := by rfl) (hl : Loc X.env.scope y := by first | exact Or.inl rfl | exact Or.inr rfl) (hl2 : Loc X.env.scope z := by first | exact Or.inl rfl | exact Or.inr rfl) (hc : X.calm = true := by rfl)
    (hf : X.fn y = true ∨ X.env.scope.names.lookup y = some .local := by first | exact .inl rfl | exact .inr rfl) (hf2 : X.fn z = true ∨ X.env.scope.names.lookup z = some .local := by first | exact .inl rfl | exact .inr rfl)
    (hn : (assignEach [.Name y py, .Name z pz] X.env).length = 2 := by rfl) (hst : (assignEach [.Name y py, .Name z pz] X.env).findIdx? (·.1) = none := by rfl)
    (hs1 : (assignEach [.Name y py, .Name z pz] X.env).map (·.2) = assign (.Name y py) X.env :: (assignEach [.Name z pz] X.env).map (·.2) := by rfl) (hs2 : (assignEach [.Name z pz] X.env).map (·.2) = assign (.Name z pz) X.env :: (assignEach [] X.env).map (·.2) := by rfl)
    (hs : swapsWithSole [.Tuple [.Name y py, .Name z pz] kt pt] e spos.line X.env = pure false := by rfl) (hw : swappedStores [.Tuple [.Name y py, .Name z pz] kt pt] e X.env = pure none := by rfl)
    (h1 : (assignEach [.Tuple [.Name y py, .Name z pz] kt pt] X.env).map (·.2) = [assign (.Tuple [.Name y py, .Name z pz] kt pt) X.env] := by rfl) : BW X (.Assign [.Tuple [.Name y py, .Name z pz] kt pt] e spos :: rest) D σ H :=
  b_of (ps_asg pe_W (pg_tup hc (pgs_cons (pg_name hN hi hl hf) (pgs_cons (pg_name hN hj hl2 hf2) pgs_nil hs2) hs1) hn hst) hs hw h1) (he H (Ex.refl _) hp _ fun v H1 e1 p1 ⟨d, xs, q1, q2, v1, r1, q3, q4, v2, r2, q5, q6, q7⟩ => by
    refine ⟨d, xs, q1, SqT.of (ex_hid1 _ _ q2), by rw [q3, q5, show r2 = [] from q7]; rfl, v1, r1, q3, v2, r2, q5, q7, ?_⟩
    exact k v1 v2 H1 e1 p1 q4 q6)
end
end
end G
set_option maxHeartbeats 4000000
namespace G
open PySem PySem.Spec PyProof.Rows L2 Evl
/-- a walk over range(n), whatever becomes of the heap -/
def IterR (X : Cx) (tg iter : Expr) (σ : L2.St) (H : Hp) (n : Nat) : Prop := ∃ wi, PI X tg iter wi ∧ ∀ H1, Ex H H1 → ∀ Rr : It → Hp → Prop,
  (∀ J H2 Y, Ex H1 H2 → Walk J n (fun _ => True) Y → (∀ i Ha x Hb, Y i Ha x Hb → Hb = Ha ∧ i < n ∧ x = .int (i : Int)) → Rr J H2) → wi σ H1 Rr
section
variable {X : Cx} {σ : L2.St} {H : Hp} {tg l elt e : Expr} {pos pp : Pos} {P : Rep} {n m : Nat} {p c : Addr} {x : Str} {scope : Scope}
theorem ir_range {k : Nat} (hm : X.mg "range" = none) (h : EG X l σ H (IsI (k : Int))) (hk : k ≤ 1000000) (hg : Gl X "range" := by rfl) (hs : starEach [l] X.env = [(false, eval l X.env)] := by rfl) : IterR X tg (.Call (.Name "range" pp) [l] [] pos) σ H k := by
  refine ⟨_, pi_range1 hg hm pa_W hs, fun H1 e1 Rr kk => ?_⟩
  refine (ag_cons h ag_nil (hs := hs)) H1 e1 _ fun vs H2 e2 ⟨v, r, hv, hp, hr⟩ => ⟨(k : Int), by rw [hv, show v = V.int k from hp, show r = [] from hr], by omega, by omega, ?_⟩
  have w : Walk (Itr 0 ((k : Int)).toNat) k (fun _ => True) (fun i H x H' => H' = H ∧ i < k ∧ x = .int (i : Int)) := by
    refine ⟨fun i _ hi _ => ?_, fun _ _ => ?_, fun i Ha x Hb hi _ y => ?_⟩
    · show i < ((k : Int)).toNat
      omega
    · show ((k : Int)).toNat ≤ k
      omega
    · obtain ⟨y1, y2⟩ := y
      exact ⟨y1, hi, by rw [y2, Int.zero_add]⟩
  exact kk _ H2 _ e2 w fun i Ha x Hb y => y
/-- [elt for x in range(..)] where elt draws kk numbers at most -/
theorem qg_lcR (j k kk : Nat) {px : Pos} (f1 : Int → Prop) (hN : X.N.Nodup) (hi : IterR X (.Name x px) (.Call (.Name "range" pp) [l] [] pos) σ H k) (hk : k ≤ 1000000) (hz : n + k * kk ≤ 4000)
    (he : ∀ i < k, ∀ n', n' + kk ≤ 4000 → ∀ s H0 C cl fp, QG (X.blk s H0 scope (compEnvC scope cl C X.env) fp) p c elt ((σ.set j none).set j (some (.int (i : Int)))) H n' (n' + kk) (IsP f1))
    (hg : ∀ (s : Shared) (H : Hp) (C : Addr) (cl : List (Str × Addr)) (fp : List Addr), PG (X.blk s H scope (compEnvC scope cl C X.env) fp) (.Name x px) (gName j)) (ok : BlkOk X.N X.env.scope scope [(x, j)] := by exact blkOk_by (by rfl)) (hc : X.calm = true := by rfl)
    (hs : ∀ y, foldedSetIterable (.Call (.Name "range" pp) [l] [] pos) X.env y = pure y := by intro _; rfl) (hq : ∀ v H, (∃ as : List Int, as.length = k ∧ (∀ a ∈ as, f1 a) ∧ IsL IsI as v H) → P v H := by exact fun _ _ h => h) {pos' : Pos} :
    QG X p c (.ListComp elt [⟨.Name x px, .Call (.Name "range" pp) [l] [] pos, [], 0⟩] scope pos') σ H n (n + k * kk) P := by
  obtain ⟨wi, hpi, hw⟩ := hi
  intro H1 e1 hpn Q q pins s I
  refine (pe_lc (own := [(x, j)]) hc hN hpi ok hg (fun _ _ _ _ _ => pts_nil) (ue_pe (elt := elt)) hs).run pins s σ H1 Q I ?_
  refine hw H1 (e1.trans ex_hid1) _ fun J H2 Y e2 W hY D hD => ?_
  have p2 := hpn.up e2
  have x2 : Ex H (hid H2 p) := e1.trans (ex_hid2 e2)
  have hDp : D ≠ p := (p2.new (o := .lst []) hD).2
  refine lc_it W (fun i H' => ∃ as : List Int, as.length = i ∧ (∀ a ∈ as, f1 a) ∧ H' D = some (.lst (as.map V.int)) ∧ Pen p c (n + i * kk) H' ∧ Ex (hid H2 p) (hid (hid H' D) p)) ⟨[], rfl, fun _ h => (List.not_mem_nil h).elim, upd_same, ((p2.new hD).1).mono (by omega), by rw [hid_upd hD]; exact Ex.refl _⟩ (fun _ _ _ _ => True.intro) (fun i y Ha Hb hi ⟨as, h1, h2, h3, h4, h5⟩ yy => ?_) (fun H' ⟨as, h1, h2, h3, h4, h5⟩ => ?_)
  · obtain ⟨y1, hik, y3⟩ := hY i Ha y Hb yy
    subst y1 y3
    refine ⟨wipe1 σ j _, ?_⟩
    unfold tYes
    dsimp only
    rw [if_pos rfl]
    intro s' H0 C cl fp
    refine ew_hid h3 ?_
    have bnd : n + i * kk + kk ≤ 4000 := by
      have : (i + 1) * kk ≤ k * kk := Nat.mul_le_mul_right _ hik
      rw [Nat.add_mul, Nat.one_mul] at this
      omega
    have h4' : Pen p c (n + i * kk) (hid Hb D) := by
      obtain ⟨t, r, z1, z2⟩ := h4
      exact ⟨t, r, by rw [hid_ne (Ne.symm hDp)]; exact z1, z2⟩
    refine he i hik (n + i * kk) bnd s' H0 C cl fp (hid Hb D) (x2.trans h5) h4' _ fun v H4 e4 p4 ⟨z, hz1, hz2⟩ n4 => ⟨as.map V.int, upd_same, ?_, as ++ [z], by rw [List.length_append, h1]; rfl, fun a ha => ?_, ?_, ?_, ?_⟩
    · rw [List.length_map, h1]
      exact Nat.lt_of_le_of_lt (Nat.le_trans (Nat.le_of_lt hik) hk) (by decide)
    · rcases List.mem_append.mp ha with h | h
      · exact h2 a h
      · rw [List.mem_singleton.mp h]
        exact hz2
    · rw [upd_same, hz1, List.map_append]
      rfl
    · rw [upd_upd]
      refine ((p4.new n4).1).mono ?_
      rw [Nat.add_mul, Nat.one_mul]
      omega
    · rw [upd_upd, hid_upd n4]
      exact h5.trans e4
  · refine q (.ref D) H' ((ex_hid2 e2).trans (h5.trans (ex_hid2 ex_hid1))) h4 (hq _ _ ⟨as, h1, h2, D, _, rfl, by rw [hid_ne hDp]; exact h3, ints_all2⟩)
end
end G
set_option maxHeartbeats 4000000
namespace G
open PySem PySem.Spec PyProof.Rows L2 Evl
instance {C : Addr} {fs0 : List (Str × V)} : Mono (Ins C fun fs _ => fs = fs0) := ⟨fun e ⟨a, dx, fs, h1, h2, h3⟩ => ⟨a, dx, fs, h1, e _ _ h2, h3⟩⟩
section
variable {P : Program} {w : World} {K : PySem.W.Frag} {mg : Str → Option Value} {base : Heap} {f : Addr} {fd : FuncData} {C : Addr}
/-! ### Ratio.__init__ -/
abbrev PRI := {p : Int × Int // 0 < p.2 ∧ p.2.natAbs < 2 ^ 6000}
abbrev SpRInit (C : Addr) : Sp := ISp C (fun p : PRI => [IsI p.1.1, IsI p.1.2]) fun p fs _ => fs = fsR (Rat.divInt p.1.1 p.1.2)
abbrev sRInit : Stmt := inClass (top 21) 0
theorem sc_rinit : FnScope ["self", "top", "bottom", "common"] ["self", "top", "bottom"] (defScope sRInit) := ⟨rfl, rfl, rfl, by decide +kernel, rfl, by decide +kernel, by decide +kernel⟩
theorem gcd_div {a b : Int} (hb : 0 < b) (h2 : b.natAbs < 2 ^ 6000) : CDivW a ((Nat.gcd a.natAbs b.natAbs : Nat) : Int) := by
  have h : 0 < Nat.gcd a.natAbs b.natAbs := Nat.gcd_pos_of_pos_right _ (by omega)
  have h1 : Nat.gcd a.natAbs b.natAbs ≤ b.natAbs := Nat.gcd_le_right _ (by omega)
  exact wide_div (b := 6000) (by omega) (by rw [Int.natAbs_natCast]; omega) (by decide) (by decide)
theorem ok_rinit (A : Free mg) (R : RatC K mg C) (D1 : Cal P w K mg base "is_integer" 1 [] SpInt) (D2 : Cal P w K mg base "sign_of" 1 [] SpSign) (F : FnP K "__init__" "Ratio.__init__" sRInit [.int 1] f fd) : FnOk P w K mg base CX0 2 f fd ["self", "top", "bottom"] (SpRInit C) := by
  refine fn_init F sc_rinit (fun _ => rfl) fun t cdv Ar outer s H E p dx args Q hr hp ha hq => ?_
  obtain ⟨⟨a, b⟩, hb, hb2⟩ := t
  obtain ⟨v1, r1, rfl, h1, v2, r2, rfl, h2, h4⟩ := ha
  cases (show r2 = [] from h4)
  refine b_skip ?_ fun H1 e1 => b_skip ?_ fun H2 e2 => ?_
  · exact tg_not (bb := true) (tg_val (eg_callP a D1 hr (ag_cons (eg_var 1 rfl h1) ag_nil)))
  · refine tg_w (wg_or (bb := false) (bc := false) (tg_not (bb := true) (tg_val (eg_callP b D1 hr (ag_cons (eg_var 2 rfl h2) ag_nil)))) fun _ => wg_or1 ?_)
    refine tg_cm (CG.is (cg_eqI (eg_var 2 rfl h2) eg_int) (decide_eq_false ?_))
    show ¬ b = 0
    have hb' : 0 < b := hb
    omega
  refine b_asg (P := IsI ((Nat.gcd a.natAbs b.natAbs : Nat) : Int)) 3 sc_rinit.nd ?_ fun v3 H3 e3 h3 => ?_
  · refine eg_if (bb := true) (tg_cm (CG.is (cg_gt (eg_var 2 rfl h2) eg_int) (decide_eq_true hb))) (fun _ => ?_) fun z => nomatch z
    exact eg_gcd A.gcd (eg_var 1 rfl h1) (eg_var 2 rfl h2)
  have x3 : Ex H H3 := (e1.trans e2).trans e3
  have gd : ∀ i : Int, CDivW i ((Nat.gcd a.natAbs b.natAbs : Nat) : Int) := fun i => ⟨(gcd_div (a := a) hb hb2).1, (gcd_div (a := a) hb hb2).2⟩
  refine b_fld (P := IsI (a / ((Nat.gcd a.natAbs b.natAbs : Nat) : Int))) R.isi.cl R.nT ?_ (fun H4 e4 => eg_var 0 rfl rfl) (x3 _ _ hp) (by decide) fun v4 H4 e4 h4 => ?_
  · exact eg_fdiv (gd _) (eg_var 1 rfl h1) (eg_var 3 rfl h3)
  refine b_fld (P := IsI (b / ((Nat.gcd a.natAbs b.natAbs : Nat) : Int))) R.isi.cl R.nB ?_ (fun H5 e5 => eg_var 0 rfl rfl) upd_same (show 1 < 1000 by decide) fun v5 H5 e5 h5 => ?_
  · exact eg_fdiv (gd _) (eg_var 2 rfl h2) (eg_var 3 rfl h3)
  cases (show v4 = _ from h4)
  cases (show v5 = _ from h5)
  refine b_fld (P := IsI (a / ((Nat.gcd a.natAbs b.natAbs : Nat) : Int)).sign) R.isi.cl R.nS ?_ (fun H6 e6 => eg_var 0 rfl rfl) upd_same (show 2 < 1000 by decide) fun v6 H6 e6 h6 => ?_
  · refine eg_callP (a / ((Nat.gcd a.natAbs b.natAbs : Nat) : Int)) D2 hr (ag_cons ?_ ag_nil)
    exact eg_fld (P1 := Ins C fun fs _ => fs = [(("top" : Str), V.int (a / ((Nat.gcd a.natAbs b.natAbs : Nat) : Int))), (("bottom" : Str), V.int (b / ((Nat.gcd a.natAbs b.natAbs : Nat) : Int)))]) R.isi.cl R.nT (eg_var 0 rfl ⟨p, dx, _, rfl, upd_same, rfl⟩) fun v H1 _ ⟨c, dy, fs, q1, q2, q3⟩ => ⟨c, dy, fs, _, q1, q2, by rw [q3]; rfl, rfl⟩
  cases (show v6 = _ from h6)
  refine b_nil (hq _ _ (((((Fx.of x3).put e4).put e5).put e6)) upd_same ?_)
  show _ = fsR (Rat.divInt a b)
  unfold fsR
  rw [← q_num hb, ← q_den hb]
  rfl
end
end G
set_option maxHeartbeats 4000000
namespace G
open PySem PySem.Spec PyProof.Rows L2 Evl
section
variable {P : Program} {w : World} {K : PySem.W.Frag} {mg : Str → Option Value} {base : Heap} {f : Addr} {fd : FuncData} {C : Addr}
/-! ### is_ratio, are_ratios, as_ratio, Ratio.of -/
abbrev SpIsR (C : Addr) : Sp := PSp (fun x : RI => [IsRI C x]) fun _ => IsB true
theorem sc_is_ratio : FnScope ["value"] ["value"] (defScope (top 23)) := ⟨rfl, rfl, rfl, by decide +kernel, rfl, by decide +kernel, by decide +kernel⟩
theorem ok_is_ratio (A : Free mg) (R : RatC K mg C) (D1 : Cal P w K mg base "is_integer" 1 [] SpInt) (F : FnP K "is_ratio" "is_ratio" (top 23) [] f fd) : FnOk P w K mg base CX0 2 f fd ["value"] (SpIsR C) := by
  refine fn_pure F sc_is_ratio (fun _ => rfl) fun x cdv Ar outer s H E vs Q hr ha hq => ?_
  obtain ⟨v, r, rfl, hv, hr2⟩ := ha
  cases (show r = [] from hr2)
  refine b_ret (P := IsB true) ?_ fun v H1 e1 h1 => hq v H1 e1 h1
  cases x with
  | inl q => exact eg_or (bb := true) (bc := true) (eg_isi (P1 := IsR C q) A.isi (eg_var 0 rfl hv) (eg_cls R.mg) (.own _) (ty_at R.isi isR_at kit_self)) fun z => nomatch z
  | inr i => exact eg_or (bb := false) (bc := true) (eg_isi (P1 := IsI i) A.isi (eg_var 0 rfl hv) (eg_cls R.mg) (.own _) (ty_int R.ki)) fun _ => eg_one (eg_callP i D1 hr (ag_cons (eg_var 0 rfl hv) ag_nil))
abbrev SpAreR (C : Addr) : Sp := PSp (fun as : {as : List RI // as.length ≤ 1000000} => [IsL (IsRI C) as.1]) fun _ => IsB true
theorem sc_are_ratios : FnScope ["value", "number"] ["value"] (defScope (top 24)) := ⟨rfl, rfl, rfl, by decide +kernel, rfl, by decide +kernel, by decide +kernel⟩
theorem ok_are_ratios (A : Free mg) (D1 : Cal P w K mg base "is_listed" 1 [] (SpListed (IsRI C))) (D2 : Cal P w K mg base "is_ratio" 2 [] (SpIsR C)) (F : FnP K "are_ratios" "are_ratios" (top 24) [] f fd) : FnOk P w K mg base CX0 3 f fd ["value"] (SpAreR C) := by
  refine fn_pure F sc_are_ratios (fun _ => rfl) fun x cdv Ar outer s H E vs Q hr ha hq => ?_
  obtain ⟨v, r, rfl, hv, hr2⟩ := ha
  cases (show r = [] from hr2)
  refine b_ret (P := IsB true) ?_ fun v H1 e1 h1 => hq v H1 e1 h1
  refine eg_and (bb := true) (bc := true) ?_ fun _ => eg_one ?_
  · exact eg_callP (x.1, false) D1 (hr.mono (by decide)) (ag_cons (P := IsL (IsRI C) x.1) (eg_var 0 rfl hv) ag_nil)
  · refine EvP.bl (eg_all (bs := x.1.map fun _ => true) A.all rfl ?_) (by simp)
    refine eg_lc 1 (R := IsRI C) (fun _ => true) sc_are_ratios.nd (ip_list (eg_var 0 rfl hv)) x.2 (fun a _ v H' e hav s2 H0 Cc cl fp => ?_) (fun _ _ _ _ _ => pg_name sc_are_ratios.nd rfl (Or.inl rfl))
    exact eg_callP a D2 hr (ag_cons (eg_var 1 rfl hav) ag_nil)
abbrev SpAs (C : Addr) : Sp := PSp (fun t : RI × Str => [IsRI C t.1, IsS t.2]) fun t => IsR C t.1.val
theorem sc_as_ratio : FnScope ["value", "part"] ["value", "part"] (defScope (top 25)) := ⟨rfl, rfl, rfl, by decide +kernel, rfl, by decide +kernel, by decide +kernel⟩
theorem ok_as_ratio (A : Free mg) (R : RatC K mg C) (D1 : Cal P w K mg base "is_integer" 1 [] SpInt) (D2 : KCal P w K mg base "Ratio" C 2 [.int 1] (SpRInit C)) (F : FnP K "as_ratio" "as_ratio" (top 25) [] f fd) : FnOk P w K mg base CX0 4 f fd ["value", "part"] (SpAs C) := by
  refine fn_pure F sc_as_ratio (fun _ => rfl) fun x cdv Ar outer s H E vs Q hr ha hq => ?_
  obtain ⟨v, r, rfl, hv, v2, r2, rfl, hv2, hr2⟩ := ha
  cases (show r2 = [] from hr2)
  obtain ⟨x, z⟩ := x
  cases x with
  | inl q =>
    refine b_if (bb := true) ?_ (fun h0 H1 e1 => ?_) fun z => nomatch z
    · exact tg_val (eg_isi (P1 := IsR C q) A.isi (eg_var 0 rfl hv) (eg_cls R.mg) (.own _) (ty_at R.isi isR_at kit_self))
    · exact b_ret (P := IsR C q) (eg_var 0 rfl (Mono.up e1 hv)) fun v H2 e2 h => hq v H2 (e1.trans e2) h
  | inr i =>
    refine b_skip ?_ fun H1 e1 => b_skip ?_ fun H2 e2 => ?_
    · exact tg_val (eg_isi (P1 := IsI i) A.isi (eg_var 0 rfl hv) (eg_cls R.mg) (.own _) (ty_int R.ki))
    · exact tg_not (bb := true) (tg_val (eg_callP i D1 (hr.mono (by decide)) (ag_cons (eg_var 0 rfl hv) ag_nil)))
    refine b_ret (P := IsR C (i : Rat)) ?_ fun v H3 e3 h => hq v H3 ((e1.trans e2).trans e3) h
    refine eg_make (⟨(i, 1), show (0 : Int) < 1 by decide, show (1 : Nat) < 2 ^ 6000 from Nat.one_lt_two_pow (by decide)⟩ : PRI) D2 hr (ag_cons (P := IsI i) (eg_var 0 rfl hv) ag_nil) inferInstance (fun vs H4 ⟨a, r, h1, h2, h3⟩ => by subst h1; cases (show r = [] from h3); exact ⟨a, _, rfl, h2, _, _, rfl, rfl, rfl⟩) (hp := ?_)
    intro v H h
    rw [← q_int]
    exact h
abbrev SpOf (C : Addr) : Sp := PSp (fun t : RI => [IsRI C t]) fun t => IsR C t.val
abbrev sROf : Stmt := inClass (top 21) 1
theorem sc_rof : FnScope ["value"] ["value"] (defScope sROf) := ⟨rfl, rfl, rfl, by decide +kernel, rfl, by decide +kernel, by decide +kernel⟩
theorem ok_rof (D1 : Cal P w K mg base "as_ratio" 4 [] (SpAs C)) (F : FnP K "of" "Ratio.of" sROf [] f fd) : FnOk P w K mg base CX0 5 f fd ["value"] (SpOf C) := by
  refine fn_pure F sc_rof (fun _ => rfl) fun x cdv Ar outer s H E vs Q hr ha hq => ?_
  obtain ⟨v, r, rfl, hv, hr2⟩ := ha
  cases (show r = [] from hr2)
  refine b_ret (P := IsR C x.val) ?_ fun v H1 e1 h1 => hq v H1 e1 h1
  exact eg_callP (x, ("value" : Str)) D1 hr (ag_cons (eg_var 0 rfl hv) (ag_cons eg_str ag_nil))
end
end G
set_option maxHeartbeats 4000000
namespace G
open PySem PySem.Spec PyProof.Rows L2 Evl
/-- two ratios of few bits -/
abbrev Two := {t : Rat × RI // Sm 2500 t.1 ∧ Sm 2500 t.2.val}
abbrev SpR2 (C : Addr) (g : Rat → Rat → Rat) : Sp := PSp (fun t : Two => [IsR C t.1.1, IsRI C t.1.2]) fun t => IsR C (g t.1.1 t.1.2.val)
abbrev SpRB (C : Addr) (g : Rat → Rat → Bool) : Sp := PSp (fun t : Two => [IsR C t.1.1, IsRI C t.1.2]) fun t => IsB (g t.1.1 t.1.2.val)
theorem w_mul {n m : Nat} {i j : Int} (h1 : i.natAbs < 2 ^ n) (h2 : j.natAbs < 2 ^ m) (hn : 0 < n) (hm : 0 < m) (h : n + m ≤ 1000000) : CMulW i j := wide_mul h1 h2 hn hm h
theorem lt6 {n : Nat} {a : Nat} (h : a < 2 ^ n) (hn : n ≤ 6000) : a < 2 ^ 6000 := Nat.lt_of_lt_of_le h (Nat.pow_le_pow_right (by decide) hn)
section
variable {P : Program} {w : World} {K : PySem.W.Frag} {mg : Str → Option Value} {base : Heap} {f : Addr} {fd : FuncData} {C : Addr}
abbrev sRBelow : Stmt := inClass (top 21) 4
abbrev sRAdd : Stmt := inClass (top 21) 5
abbrev sRSub : Stmt := inClass (top 21) 6
abbrev sRMul : Stmt := inClass (top 21) 7
abbrev sRNeg : Stmt := inClass (top 21) 8
abbrev sREq : Stmt := inClass (top 21) 11
theorem sc_rbelow : FnScope ["self", "other", "above"] ["self", "other"] (defScope sRBelow) := ⟨rfl, rfl, rfl, by decide +kernel, rfl, by decide +kernel, by decide +kernel⟩
theorem sc_radd : FnScope ["self", "other", "more"] ["self", "other"] (defScope sRAdd) := ⟨rfl, rfl, rfl, by decide +kernel, rfl, by decide +kernel, by decide +kernel⟩
theorem sc_rsub : FnScope ["self", "other", "less"] ["self", "other"] (defScope sRSub) := ⟨rfl, rfl, rfl, by decide +kernel, rfl, by decide +kernel, by decide +kernel⟩
theorem sc_rmul : FnScope ["self", "other", "times"] ["self", "other"] (defScope sRMul) := ⟨rfl, rfl, rfl, by decide +kernel, rfl, by decide +kernel, by decide +kernel⟩
theorem sc_rneg : FnScope ["self"] ["self"] (defScope sRNeg) := ⟨rfl, rfl, rfl, by decide +kernel, rfl, by decide +kernel, by decide +kernel⟩
theorem sc_req : FnScope ["self", "other"] ["self", "other"] (defScope sREq) := ⟨rfl, rfl, rfl, by decide +kernel, rfl, by decide +kernel, by decide +kernel⟩
theorem ok_rbelow (R : RatC K mg C) (D1 : Cal P w K mg base "as_ratio" 4 [] (SpAs C)) (F : FnP K "is_below" "Ratio.is_below" sRBelow [] f fd) : FnOk P w K mg base CX0 5 f fd ["self", "other"] (SpRB C fun a b => decide (a < b)) := by
  refine fn_pure F sc_rbelow (fun _ => rfl) fun t cdv Ar outer s H E vs Q hr ha hq => ?_
  obtain ⟨⟨a, x⟩, ha1, ha2⟩ := t
  obtain ⟨v, r, rfl, hv, v2, r2, rfl, hv2, hr2⟩ := ha
  cases (show r2 = [] from hr2)
  refine b_asg (P := IsR C x.val) 2 sc_rbelow.nd ?_ fun v3 H1 e1 h3 => ?_
  · exact eg_callP (x, ("other" : Str)) D1 hr (ag_cons (eg_var 1 rfl hv2) (ag_cons eg_str ag_nil))
  refine b_ret (P := IsB (decide (a < x.val))) ?_ fun v H2 e2 h => hq v H2 (e1.trans e2) h
  have h1 := Mono.up e1 hv
  refine EvP.bl (eg_cm (cg_lt (eg_mul ?_ (eg_top R (eg_var 0 rfl h1)) (eg_bot R (eg_var 2 rfl h3))) (eg_mul ?_ (eg_top R (eg_var 2 rfl h3)) (eg_bot R (eg_var 0 rfl h1))))) ?_
  · exact w_mul ha1.1 (sm_den ha2) (by decide) (by decide) (by decide)
  · exact w_mul ha2.1 (sm_den ha1) (by decide) (by decide) (by decide)
  · exact decide_eq_decide.mpr (Rat.lt_iff a x.val).symm
theorem ok_radd (R : RatC K mg C) (D1 : Cal P w K mg base "as_ratio" 4 [] (SpAs C)) (D2 : KCal P w K mg base "Ratio" C 2 [.int 1] (SpRInit C)) (D3 : KCal P w K mg base "Ratio" C 2 [] (SpRInit C)) (F : FnP K "__add__" "Ratio.__add__" sRAdd [] f fd) : FnOk P w K mg base CX0 5 f fd ["self", "other"] (SpR2 C fun a b => a + b) := by
  refine fn_pure F sc_radd (fun _ => rfl) fun t cdv Ar outer s H E vs Q hr ha hq => ?_
  obtain ⟨⟨a, x⟩, ha1, ha2⟩ := t
  obtain ⟨v, r, rfl, hv, v2, r2, rfl, hv2, hr2⟩ := ha
  cases (show r2 = [] from hr2)
  refine b_asg (P := IsR C x.val) 2 sc_radd.nd ?_ fun v3 H1 e1 h3 => ?_
  · exact eg_callP (x, ("other" : Str)) D1 hr (ag_cons (eg_var 1 rfl hv2) (ag_cons eg_str ag_nil))
  refine b_ret (P := IsR C (a + x.val)) ?_ fun v H2 e2 h => hq v H2 (e1.trans e2) h
  have h1 := Mono.up e1 hv
  refine eg_make (⟨(a.num * x.val.den + x.val.num * a.den, a.den * x.val.den), den_pos2 _ _, lt6 (den_bot ha1 ha2) (by decide)⟩ : PRI) D3 (hr.mono (by decide)) (ag_cons (eg_add (eg_mul ?_ (eg_top R (eg_var 0 rfl h1)) (eg_bot R (eg_var 2 rfl h3))) (eg_mul ?_ (eg_top R (eg_var 2 rfl h3)) (eg_bot R (eg_var 0 rfl h1)))) (ag_cons (eg_mul ?_ (eg_bot R (eg_var 0 rfl h1)) (eg_bot R (eg_var 2 rfl h3))) ag_nil)) inferInstance (fun vs H4 h => by rw [List.append_nil]; exact h) (hp := ?_)
  · exact w_mul ha1.1 (sm_den ha2) (by decide) (by decide) (by decide)
  · exact w_mul ha2.1 (sm_den ha1) (by decide) (by decide) (by decide)
  · exact w_mul (sm_den ha1) (sm_den ha2) (by decide) (by decide) (by decide)
  · intro v H h
    rw [← q_add]
    exact h
theorem ok_rsub (R : RatC K mg C) (D1 : Cal P w K mg base "as_ratio" 4 [] (SpAs C)) (D3 : KCal P w K mg base "Ratio" C 2 [] (SpRInit C)) (F : FnP K "__sub__" "Ratio.__sub__" sRSub [] f fd) : FnOk P w K mg base CX0 5 f fd ["self", "other"] (SpR2 C fun a b => a - b) := by
  refine fn_pure F sc_rsub (fun _ => rfl) fun t cdv Ar outer s H E vs Q hr ha hq => ?_
  obtain ⟨⟨a, x⟩, ha1, ha2⟩ := t
  obtain ⟨v, r, rfl, hv, v2, r2, rfl, hv2, hr2⟩ := ha
  cases (show r2 = [] from hr2)
  refine b_asg (P := IsR C x.val) 2 sc_rsub.nd ?_ fun v3 H1 e1 h3 => ?_
  · exact eg_callP (x, ("other" : Str)) D1 hr (ag_cons (eg_var 1 rfl hv2) (ag_cons eg_str ag_nil))
  refine b_ret (P := IsR C (a - x.val)) ?_ fun v H2 e2 h => hq v H2 (e1.trans e2) h
  have h1 := Mono.up e1 hv
  refine eg_make (⟨(a.num * x.val.den - x.val.num * a.den, a.den * x.val.den), den_pos2 _ _, lt6 (den_bot ha1 ha2) (by decide)⟩ : PRI) D3 (hr.mono (by decide)) (ag_cons (eg_sub (eg_mul ?_ (eg_top R (eg_var 0 rfl h1)) (eg_bot R (eg_var 2 rfl h3))) (eg_mul ?_ (eg_top R (eg_var 2 rfl h3)) (eg_bot R (eg_var 0 rfl h1)))) (ag_cons (eg_mul ?_ (eg_bot R (eg_var 0 rfl h1)) (eg_bot R (eg_var 2 rfl h3))) ag_nil)) inferInstance (fun vs H4 h => by rw [List.append_nil]; exact h) (hp := ?_)
  · exact w_mul ha1.1 (sm_den ha2) (by decide) (by decide) (by decide)
  · exact w_mul ha2.1 (sm_den ha1) (by decide) (by decide) (by decide)
  · exact w_mul (sm_den ha1) (sm_den ha2) (by decide) (by decide) (by decide)
  · intro v H h
    rw [← q_sub]
    exact h
theorem ok_rmul (R : RatC K mg C) (D1 : Cal P w K mg base "as_ratio" 4 [] (SpAs C)) (D3 : KCal P w K mg base "Ratio" C 2 [] (SpRInit C)) (F : FnP K "__mul__" "Ratio.__mul__" sRMul [] f fd) : FnOk P w K mg base CX0 5 f fd ["self", "other"] (SpR2 C fun a b => a * b) := by
  refine fn_pure F sc_rmul (fun _ => rfl) fun t cdv Ar outer s H E vs Q hr ha hq => ?_
  obtain ⟨⟨a, x⟩, ha1, ha2⟩ := t
  obtain ⟨v, r, rfl, hv, v2, r2, rfl, hv2, hr2⟩ := ha
  cases (show r2 = [] from hr2)
  refine b_asg (P := IsR C x.val) 2 sc_rmul.nd ?_ fun v3 H1 e1 h3 => ?_
  · exact eg_callP (x, ("other" : Str)) D1 hr (ag_cons (eg_var 1 rfl hv2) (ag_cons eg_str ag_nil))
  refine b_ret (P := IsR C (a * x.val)) ?_ fun v H2 e2 h => hq v H2 (e1.trans e2) h
  have h1 := Mono.up e1 hv
  refine eg_make (⟨(a.num * x.val.num, a.den * x.val.den), den_pos2 _ _, lt6 (den_bot ha1 ha2) (by decide)⟩ : PRI) D3 (hr.mono (by decide)) (ag_cons (eg_mul ?_ (eg_top R (eg_var 0 rfl h1)) (eg_top R (eg_var 2 rfl h3))) (ag_cons (eg_mul ?_ (eg_bot R (eg_var 0 rfl h1)) (eg_bot R (eg_var 2 rfl h3))) ag_nil)) inferInstance (fun vs H4 h => by rw [List.append_nil]; exact h) (hp := ?_)
  · exact w_mul ha1.1 ha2.1 (by decide) (by decide) (by decide)
  · exact w_mul (sm_den ha1) (sm_den ha2) (by decide) (by decide) (by decide)
  · intro v H h
    rw [← q_mul]
    exact h
abbrev SpRNeg (C : Addr) : Sp := PSp (fun t : {a : Rat // Sm 2500 a} => [IsR C t.1]) fun t => IsR C (-t.1)
theorem ok_rneg (R : RatC K mg C) (D3 : KCal P w K mg base "Ratio" C 2 [] (SpRInit C)) (F : FnP K "__neg__" "Ratio.__neg__" sRNeg [] f fd) : FnOk P w K mg base CX0 5 f fd ["self"] (SpRNeg C) := by
  refine fn_pure F sc_rneg (fun _ => rfl) fun t cdv Ar outer s H E vs Q hr ha hq => ?_
  obtain ⟨a, ha1⟩ := t
  obtain ⟨v, r, rfl, hv, hr2⟩ := ha
  cases (show r = [] from hr2)
  refine b_ret (P := IsR C (-a)) ?_ fun v H2 e2 h => hq v H2 e2 h
  refine eg_make (⟨(-a.num, a.den), q_dpos a, lt6 (sm_den ha1) (by decide)⟩ : PRI) D3 (hr.mono (by decide)) (ag_cons (eg_neg (eg_top R (eg_var 0 rfl hv))) (ag_cons (eg_bot R (eg_var 0 rfl hv)) ag_nil)) inferInstance (fun vs H4 h => by rw [List.append_nil]; exact h) (hp := ?_)
  intro v H h
  rw [← q_neg]
  exact h
/-- == of a ratio and a ratio, an integer -/
abbrev SpREq (C : Addr) : Sp := PSp (fun t : Rat × RI => [IsR C t.1, IsRI C t.2]) fun t => IsB (decide (t.1 = t.2.val))
theorem q_eq (a b : Rat) : (decide (a.num = b.num) && decide ((a.den : Int) = b.den)) = decide (a = b) := by
  rw [← Bool.decide_and]
  refine decide_eq_decide.mpr ⟨fun h => Rat.ext h.1 (by have := h.2; omega), fun h => by rw [h]; exact ⟨rfl, rfl⟩⟩
theorem q_eqI (a : Rat) (i : Int) : (decide ((a.den : Int) = 1) && decide (a.num = i)) = decide (a = (i : Rat)) := by
  rw [← Bool.decide_and]
  refine decide_eq_decide.mpr ⟨fun h => Rat.ext (by rw [Rat.num_intCast]; exact h.2) (by rw [Rat.den_intCast]; have := h.1; omega), fun h => by rw [h, Rat.den_intCast, Rat.num_intCast]; exact ⟨rfl, rfl⟩⟩
theorem ok_req (A : Free mg) (R : RatC K mg C) (D1 : Cal P w K mg base "is_integer" 1 [] SpInt) (F : FnP K "__eq__" "Ratio.__eq__" sREq [] f fd) : FnOk P w K mg base CX0 2 f fd ["self", "other"] (SpREq C) := by
  refine fn_pure F sc_req (fun _ => rfl) fun t cdv Ar outer s H E vs Q hr ha hq => ?_
  obtain ⟨a, x⟩ := t
  obtain ⟨v, r, rfl, hv, v2, r2, rfl, hv2, hr2⟩ := ha
  cases (show r2 = [] from hr2)
  cases x with
  | inl b =>
    refine b_if (bb := true) ?_ (fun h0 H1 e1 => ?_) fun z => nomatch z
    · exact tg_val (eg_isi (P1 := IsR C b) A.isi (eg_var 1 rfl hv2) (eg_cls R.mg) (.own _) (ty_at R.isi isR_at kit_self))
    have h1 := Mono.up e1 hv
    have h2 : IsR C b v2 H1 := Mono.up e1 hv2
    refine b_ret (P := IsB (decide (a = b))) ?_ fun v H2 e2 h => hq v H2 (e1.trans e2) h
    refine EvP.bl (eg_and (eg_cm (cg_eqI (eg_top R (eg_var 0 rfl h1)) (eg_top R (eg_var 1 rfl h2)))) fun _ => eg_one (eg_cm (cg_eqI (eg_bot R (eg_var 0 rfl h1)) (eg_bot R (eg_var 1 rfl h2))))) (q_eq a b)
  | inr i =>
    refine b_skip ?_ fun H1 e1 => ?_
    · exact tg_val (eg_isi (P1 := IsI i) A.isi (eg_var 1 rfl hv2) (eg_cls R.mg) (.own _) (ty_int R.ki))
    have h1 := Mono.up e1 hv
    refine b_ret (P := IsB (decide (a = (i : Rat)))) ?_ fun v H2 e2 h => hq v H2 (e1.trans e2) h
    refine EvP.bl (eg_and (bb := true) (eg_callP i D1 hr (ag_cons (eg_var 1 rfl hv2) ag_nil)) fun _ => eg_and (eg_cm (cg_eqI (eg_bot R (eg_var 0 rfl h1)) eg_int)) fun _ => eg_one (eg_cm (cg_eqI (eg_top R (eg_var 0 rfl h1)) (eg_var (P := IsI i) 1 rfl hv2)))) ?_
    rw [Bool.true_and]
    exact q_eqI a i
end
end G
set_option maxHeartbeats 4000000
namespace G
open PySem PySem.Spec PyProof.Rows L2 Evl
section
variable {X : Cx} {σ : L2.St} {H : Hp} {e : Expr} {es : List Expr} {pos p apos : Pos} {P : Rep} {x m : Str} {k : Nat}
theorem eg_scallP {pl : Sem Bool} {α : Type} {Qs : α → List Rep} {Post : α → Rep} (t : α) (D : SCal X.prog X.w X.K X.mg X.base x m k [] (PSp Qs Post)) (hr : Room k X.A) (ha : AG X (e :: es) σ H (Qs t)) (hg : Gl X x := by rfl) (hdb : (x == ("__debug__" : Str)) = false := by decide)
    (he : starEach (e :: es) X.env = (false, eval e X.env) :: starEach es X.env := by rfl) (hpl : (backTo pos (starEach es X.env)).any (·.1) = false := by rfl)
    (ht : eval (.Call (.Attribute (.Name x p) m apos) (e :: es) [] pos) X.env = (do
      let ov ← eval (.Name x p) X.env
      standAt apos.atName
      let (f, first) ← holding [ov] (getMethod ov m pl)
      callWith pos f first (backTo pos (starEach (e :: es) X.env)) (backToKw pos (keywordEach [] X.env))) := by rfl) (hp : ∀ v H, Post t v H → P v H := by exact fun _ _ h => h) : EG X (.Call (.Attribute (.Name x p) m apos) (e :: es) [] pos) σ H P :=
  eg_scall D hr ha (fun vs H1 _ h Q q => ⟨t, by rw [List.append_nil]; exact h, fun v H2 e2 h2 => q v H2 e2 (hp v H2 h2)⟩) hg hdb he hpl ht
end
section
variable {P : Program} {w : World} {K : PySem.W.Frag} {mg : Str → Option Value} {base : Heap} {f : Addr} {fd : FuncData} {C : Addr}
/-! ### over_one_bottom -/
abbrev Qs4 := {qs : List Rat // qs.length ≤ 4 ∧ ∀ q ∈ qs, Sm 700 q}
abbrev SpOver (C : Addr) : Sp := PSp (fun t : Qs4 => [IsL (IsR C) t.1]) fun t => TupOf [IsL IsI (t.1.map (overQ (lcmF t.1))), IsI (lcmF t.1 : Int)]
theorem sc_over : FnScope ["ratios", "bottom", "ratio"] ["ratios"] (defScope (top 26)) := ⟨rfl, rfl, rfl, by decide +kernel, rfl, by decide +kernel, by decide +kernel⟩
theorem take_next {α : Type} {as : List α} {i : Nat} {a : α} (h : as[i]? = some a) : as.take (i + 1) = as.take i ++ [a] := by
  rw [List.take_succ, h]
  rfl
theorem lcm_take {qs : List Rat} (h : qs.length ≤ 4 ∧ ∀ q ∈ qs, Sm 700 q) (i : Nat) : lcmF (qs.take i) < 2 ^ 3000 :=
  lcmF_lt (n := 700) (fun q hq => h.2 q (List.mem_of_mem_take hq)) (by have := List.length_take (i := i) (l := qs); omega)
theorem ok_over (A : Free mg) (R : RatC K mg C) (F : FnP K "over_one_bottom" "over_one_bottom" (top 26) [] f fd) : FnOk P w K mg base CX0 1 f fd ["ratios"] (SpOver C) := by
  refine fn_pure F sc_over (fun _ => rfl) fun t cdv Ar outer s H E vs Q hr ha hq => ?_
  obtain ⟨qs, hqs⟩ := t
  obtain ⟨v, r, rfl, hv, hr2⟩ := ha
  cases (show r = [] from hr2)
  refine b_asg (P := IsI 1) 1 sc_over.nd eg_int fun v1 H1 e1 h1 => ?_
  cases (show v1 = _ from h1)
  have z0 : Mono (IsL (IsR C) qs) := inferInstance
  refine b_forN (R := IsR C) (as := qs) 2 (fun i σ' H' => ∃ c, σ' = [some v, some (V.int (lcmF (qs.take i) : Int)), c]) sc_over.nd (ip_list (eg_var 0 rfl (z0.up e1 hv))) (fun H2 e2 => ⟨none, rfl⟩) (fun i a u σ' Ha Hb hi ea pv eb ra => ?_) (fun σ' H' e' pv => ?_)
  · obtain ⟨c, rfl⟩ := pv
    refine b_asg (P := IsI ((lcmF (qs.take (i + 1)) : Nat) : Int)) 1 sc_over.nd ?_ fun v2 H2 e2 h2 => b_nil ⟨e2, some u, by cases (show v2 = _ from h2); rfl⟩
    have hm : a ∈ qs := List.mem_of_getElem? hi
    refine EvP.int (eg_lcm (i := ((lcmF (qs.take i) : Nat) : Int)) (j := (a.den : Int)) A.lcm ?_ (q_dpos a) ?_ ?_ (eg_var 1 rfl rfl) (eg_bot R (eg_var 2 rfl ra))) ?_
    · have := lcmF_pos (qs.take i)
      omega
    · rw [Int.natAbs_natCast]
      exact lt6 (lcm_take hqs i) (by decide)
    · exact lt6 (sm_den (hqs.2 a hm)) (by decide)
    · rw [Int.natAbs_natCast, Int.natAbs_natCast, take_next hi, lcmF_snoc]
  · obtain ⟨c, rfl⟩ := pv
    rw [List.take_length]
    have x1 := z0.up (e1.trans e') hv
    refine b_ret (P := TupOf [IsL IsI (qs.map (overQ (lcmF qs))), IsI (lcmF qs : Int)]) ?_ fun v3 H3 e3 h3 => hq v3 H3 ((e1.trans e').trans e3) h3
    refine eg_tup (ag_cons ?_ (ag_cons (eg_var 1 rfl rfl) ag_nil)) (show 2 ≤ 1000 by decide)
    refine eg_lc 2 (R := IsR C) (overQ (lcmF qs)) sc_over.nd (ip_list (eg_var 0 rfl x1)) (by have := hqs.1; omega) (fun a hm u H4 e4 ra s2 H0 Cc cl fp => ?_) (fun _ _ _ _ _ => pg_name sc_over.nd rfl (Or.inl rfl))
    have sm := hqs.2 a hm
    refine eg_mul ?_ (eg_top R (eg_var 2 rfl ra)) (eg_fdiv (i := (lcmF qs : Int)) ?_ (eg_var 1 rfl rfl) (eg_bot R (eg_var 2 rfl ra)))
    · refine w_mul (m := 3000) sm.1 ?_ (by decide) (by decide) (by decide)
      refine Nat.lt_of_le_of_lt ?_ (lcm_take hqs qs.length)
      rw [List.take_length, ← Int.natCast_ediv, Int.natAbs_natCast]
      exact Nat.div_le_self _ _
    · exact wide_div (b := 700) (q_dpos a) (sm_den sm) (by decide) (by decide)
end
end G
set_option maxHeartbeats 4000000
namespace G
open PySem PySem.Spec PyProof.Rows L2 Evl
structure StepV where
  t : Rat
  ps : List Rat
def SmS (n : Nat) (s : StepV) : Prop := Sm n s.t ∧ ∀ q ∈ s.ps, Sm n q
def AxS (s : StepV) : Prop := 1 ≤ s.ps.length ∧ s.ps.length ≤ 3
def fsS (s : StepV) (vt vp vs : V) : List (Str × V) := [("time", vt), ("place", vp), ("axes", .int (s.ps.length : Int)), ("square", vs), ("kind", .str (kindQ s.t (sqQ s.t s.ps)))]
/-- a step: at CS, its ratios at C -/
def IsStep (CS C : Addr) (s : StepV) : Rep := Ins CS fun fs H => ∃ vt vp vs, fs = fsS s vt vp vs ∧ IsR C s.t vt H ∧ IsT (IsR C) s.ps vp H ∧ IsR C (sqQ s.t s.ps) vs H
instance {CS C : Addr} {s : StepV} : Mono (IsStep CS C s) := ⟨fun e ⟨a, dx, fs, h1, h2, vt, vp, vs, h3, h4, h5, h6⟩ => ⟨a, dx, fs, h1, e _ _ h2, vt, vp, vs, h3, Mono.up e h4, Mono.up e h5, Mono.up e h6⟩⟩
theorem isS_at {CS C : Addr} {s : StepV} : ∀ v H, IsStep CS C s v H → AtC CS v H := fun v H h => ins_at h
structure StepC (K : PySem.W.Frag) (mg : Str → Option Value) (CS : Addr) : Prop where
  isi : IsiC K CS
  nT : NoAttr K CS "time"
  nP : NoAttr K CS "place"
  nA : NoAttr K CS "axes"
  nS : NoAttr K CS "square"
  nK : NoAttr K CS "kind"
  sf : PySem.W.selfFirst K CS = true
  mg : mg "Step" = some (.ref CS)
section
variable {X : Cx} {σ : L2.St} {H : Hp} {pos : Pos} {e : Expr} {C CS : Addr} {s : StepV}
theorem eg_time (R : StepC X.K X.mg CS) (he : EG X e σ H (IsStep CS C s)) (hb : attributeBase e "time" X.env (eval e X.env) = eval e X.env := by rfl) : EG X (.Attribute e "time" pos) σ H (IsR C s.t) :=
  eg_fld R.isi.cl R.nT he (fun v H1 _ ⟨a, dx, fs, h1, h2, vt, vp, vs, h3, h4, h5, h6⟩ => ⟨a, dx, fs, _, h1, h2, by rw [h3]; rfl, h4⟩) hb
theorem eg_place (R : StepC X.K X.mg CS) (he : EG X e σ H (IsStep CS C s)) (hb : attributeBase e "place" X.env (eval e X.env) = eval e X.env := by rfl) : EG X (.Attribute e "place" pos) σ H (IsT (IsR C) s.ps) :=
  eg_fld R.isi.cl R.nP he (fun v H1 _ ⟨a, dx, fs, h1, h2, vt, vp, vs, h3, h4, h5, h6⟩ => ⟨a, dx, fs, _, h1, h2, by rw [h3]; rfl, h5⟩) hb
theorem eg_axes (R : StepC X.K X.mg CS) (he : EG X e σ H (IsStep CS C s)) (hb : attributeBase e "axes" X.env (eval e X.env) = eval e X.env := by rfl) : EG X (.Attribute e "axes" pos) σ H (IsI (s.ps.length : Int)) :=
  eg_fld R.isi.cl R.nA he (fun v H1 _ ⟨a, dx, fs, h1, h2, vt, vp, vs, h3, h4, h5, h6⟩ => ⟨a, dx, fs, _, h1, h2, by rw [h3]; rfl, rfl⟩) hb
theorem eg_square (R : StepC X.K X.mg CS) (he : EG X e σ H (IsStep CS C s)) (hb : attributeBase e "square" X.env (eval e X.env) = eval e X.env := by rfl) : EG X (.Attribute e "square" pos) σ H (IsR C (sqQ s.t s.ps)) :=
  eg_fld R.isi.cl R.nS he (fun v H1 _ ⟨a, dx, fs, h1, h2, vt, vp, vs, h3, h4, h5, h6⟩ => ⟨a, dx, fs, _, h1, h2, by rw [h3]; rfl, h6⟩) hb
theorem eg_kind (R : StepC X.K X.mg CS) (he : EG X e σ H (IsStep CS C s)) (hb : attributeBase e "kind" X.env (eval e X.env) = eval e X.env := by rfl) : EG X (.Attribute e "kind" pos) σ H (IsS (kindQ s.t (sqQ s.t s.ps))) :=
  eg_fld R.isi.cl R.nK he (fun v H1 _ ⟨a, dx, fs, h1, h2, vt, vp, vs, h3, h4, h5, h6⟩ => ⟨a, dx, fs, _, h1, h2, by rw [h3]; rfl, rfl⟩) hb
end
section
variable {P : Program} {w : World} {K : PySem.W.Frag} {mg : Str → Option Value} {base : Heap} {f : Addr} {fd : FuncData} {C CS : Addr}
/-! ### asked_ratio, is_axes, ask_equal_axes, ask_other, kind_of, square_of -/
abbrev SpAsked (C : Addr) : Sp := PSp (fun t : RI × Str => [IsRI C t.1, IsS t.2]) fun t => IsR C t.1.val
theorem sc_asked : FnScope ["value", "part"] ["value", "part"] (defScope (top 31)) := ⟨rfl, rfl, rfl, by decide +kernel, rfl, by decide +kernel, by decide +kernel⟩
theorem ok_asked (D1 : Cal P w K mg base "is_ratio" 2 [] (SpIsR C)) (D2 : SCal P w K mg base "Ratio" "of" 5 [] (SpOf C)) (F : FnP K "asked_ratio" "asked_ratio" (top 31) [] f fd) : FnOk P w K mg base CX0 6 f fd ["value", "part"] (SpAsked C) := by
  refine fn_pure F sc_asked (fun _ => rfl) fun t cdv Ar outer s H E vs Q hr ha hq => ?_
  obtain ⟨x, z⟩ := t
  obtain ⟨v, r, rfl, hv, v2, r2, rfl, hv2, hr2⟩ := ha
  cases (show r2 = [] from hr2)
  refine b_skip ?_ fun H1 e1 => ?_
  · exact tg_not (bb := true) (tg_val (eg_callP x D1 (hr.mono (by decide)) (ag_cons (eg_var 0 rfl hv) ag_nil)))
  have h1 := (inferInstance : Mono (IsRI C x)).up e1 hv
  refine b_ret (P := IsR C x.val) ?_ fun v H2 e2 h => hq v H2 (e1.trans e2) h
  exact eg_scallP x D2 hr (ag_cons (eg_var 0 rfl h1) ag_nil)
abbrev SpAxes : Sp := PSp (fun i : Int => [IsI i]) fun i => IsB (decide (1 ≤ i) && decide (i ≤ 3))
theorem sc_is_axes : FnScope ["value"] ["value"] (defScope (top 32)) := ⟨rfl, rfl, rfl, by decide +kernel, rfl, by decide +kernel, by decide +kernel⟩
theorem ok_is_axes (hm : ∃ t, mg "MOST_AXES" = some (.int 3 t)) (D1 : Cal P w K mg base "is_within" 2 [] SpWithin) (F : FnP K "is_axes" "is_axes" (top 32) [] f fd) : FnOk P w K mg base CX0 3 f fd ["value"] SpAxes := by
  obtain ⟨tk, hm⟩ := hm
  refine fn_pure F sc_is_axes (fun _ => rfl) fun i cdv Ar outer s H E vs Q hr ha hq => ?_
  obtain ⟨v, r, rfl, hv, hr2⟩ := ha
  cases (show r = [] from hr2)
  refine b_ret (P := IsB (decide (1 ≤ i) && decide (i ≤ 3))) ?_ fun v H2 e2 h => hq v H2 e2 h
  exact eg_callP (i, 1, 3) D1 hr (ag_cons (eg_var 0 rfl hv) (ag_cons eg_int (ag_cons (eg_gint hm) ag_nil)))
abbrev SpEqAx (CS C : Addr) : Sp := PSp (fun t : {t : StepV × StepV // t.1.ps.length = t.2.ps.length} => [IsStep CS C t.1.1, IsStep CS C t.1.2]) fun _ => IsV .non
theorem sc_eqax : FnScope ["one", "other"] ["one", "other"] (defScope (top 34)) := ⟨rfl, rfl, rfl, by decide +kernel, rfl, by decide +kernel, by decide +kernel⟩
theorem ok_eqax (R : StepC K mg CS) (F : FnP K "ask_equal_axes" "ask_equal_axes" (top 34) [] f fd) : FnOk P w K mg base CX0 1 f fd ["one", "other"] (SpEqAx CS C) := by
  refine fn_pure F sc_eqax (fun _ => rfl) fun t cdv Ar outer s H E vs Q hr ha hq => ?_
  obtain ⟨⟨s1, s2⟩, hl⟩ := t
  obtain ⟨v, r, rfl, hv, v2, r2, rfl, hv2, hr2⟩ := ha
  cases (show r2 = [] from hr2)
  refine b_skip ?_ fun H1 e1 => b_nil (hq _ H1 e1 rfl)
  refine tg_cm (CG.is (cg_neI (eg_axes R (eg_var 0 rfl hv)) (eg_axes R (eg_var 1 rfl hv2))) ?_)
  have e : ((s1.ps.length : Int) = s2.ps.length) := by
    have : s1.ps.length = s2.ps.length := hl
    omega
  rw [decide_eq_true e]
  rfl
theorem sc_askother : FnScope ["step", "other"] ["step", "other"] (defScope (top 37)) := ⟨rfl, rfl, rfl, by decide +kernel, rfl, by decide +kernel, by decide +kernel⟩
theorem ok_askother (A : Free mg) (R : StepC K mg CS) (D1 : Cal P w K mg base "ask_equal_axes" 1 [] (SpEqAx CS C)) (F : FnP K "ask_other" "ask_other" (top 37) [] f fd) : FnOk P w K mg base CX0 2 f fd ["step", "other"] (SpEqAx CS C) := by
  refine fn_pure F sc_askother (fun _ => rfl) fun t cdv Ar outer s H E vs Q hr ha hq => ?_
  obtain ⟨v, r, rfl, hv, v2, r2, rfl, hv2, hr2⟩ := ha
  cases (show r2 = [] from hr2)
  refine b_skip ?_ fun H1 e1 => ?_
  · exact tg_not (bb := true) (tg_val (eg_isi (P1 := IsStep CS C t.1.2) A.isi (eg_var 1 rfl hv2) (eg_cls R.mg) (.own _) (ty_at R.isi isS_at kit_self)))
  refine b_expr (P := IsV .non) ?_ fun v H2 e2 h => b_nil (hq _ H2 (e1.trans e2) rfl)
  exact eg_callP t D1 hr (ag_cons (eg_var 0 rfl (Mono.up e1 hv)) (ag_cons (eg_var 1 rfl (Mono.up e1 hv2)) ag_nil))
abbrev SpKind (C : Addr) : Sp := PSp (fun t : Rat × Rat => [IsR C t.1, IsR C t.2]) fun t => IsS (kindQ t.1 t.2)
theorem sc_kind : FnScope ["time", "square"] ["time", "square"] (defScope (top 39)) := ⟨rfl, rfl, rfl, by decide +kernel, rfl, by decide +kernel, by decide +kernel⟩
theorem sgn_lt (q : Rat) : decide (q.num.sign < 0) = decide (q < 0) := by
  refine decide_eq_decide.mpr ?_
  rw [← q_sign_neg]
  have := Int.sign_trichotomy q.num
  omega
theorem sgn_zero (q : Rat) : decide (q.num.sign = 0) = decide (q = 0) := decide_eq_decide.mpr q_sign_zero
theorem sgn_gt (q : Rat) : decide (0 < q.num.sign) = decide (0 < q) := by
  refine decide_eq_decide.mpr ?_
  rw [← q_sign_pos]
  have := Int.sign_trichotomy q.num
  omega
theorem ok_kind (R : RatC K mg C) (F : FnP K "kind_of" "kind_of" (top 39) [] f fd) : FnOk P w K mg base CX0 1 f fd ["time", "square"] (SpKind C) := by
  refine fn_pure F sc_kind (fun _ => rfl) fun t cdv Ar outer s H E vs Q hr ha hq => ?_
  obtain ⟨t, q⟩ := t
  obtain ⟨v, r, rfl, hv, v2, r2, rfl, hv2, hr2⟩ := ha
  cases (show r2 = [] from hr2)
  refine b_if (bb := decide (q < 0)) ?_ (fun h0 H1 e1 => ?_) fun h0 H1 e1 => b_nil ?_
  · exact tg_cm (CG.is (cg_lt (eg_sgn R (eg_var 1 rfl hv2)) eg_int) (sgn_lt q))
  · refine b_ret eg_str fun v H2 e2 h => hq v H2 (e1.trans e2) ?_
    show v = _
    unfold kindQ
    rw [if_pos (of_decide_eq_true h0)]
    exact h
  have f0 := of_decide_eq_false h0
  refine b_if (bb := decide (t = 0)) ?_ (fun h1 H2 e2 => ?_) fun h1 H2 e2 => b_nil ?_
  · exact tg_cm (CG.is (cg_eqI (eg_sgn R (eg_var 0 rfl (Mono.up e1 hv))) eg_int) (sgn_zero t))
  · refine b_ret eg_str fun v H3 e3 h => hq v H3 ((e1.trans e2).trans e3) ?_
    show v = _
    unfold kindQ
    rw [if_neg f0, if_pos (of_decide_eq_true h1)]
    exact h
  have f1 := of_decide_eq_false h1
  refine b_ret (P := IsS (kindQ t q)) ?_ fun v H3 e3 h => hq v H3 ((e1.trans e2).trans e3) h
  unfold kindQ
  rw [if_neg f0, if_neg f1]
  refine eg_if (bb := decide (0 < t)) (tg_cm (CG.is (cg_gt (eg_sgn R (eg_var 0 rfl (Mono.up (e1.trans e2) hv))) eg_int) (sgn_gt t))) (fun h => ?_) fun h => ?_
  · rw [if_pos (of_decide_eq_true h)]
    exact eg_str
  · rw [if_neg (of_decide_eq_false h)]
    exact eg_str
abbrev Sq4 := {t : Rat × List Rat // Sm 700 t.1 ∧ t.2.length ≤ 3 ∧ ∀ q ∈ t.2, Sm 700 q}
abbrev SpSq (C : Addr) : Sp := PSp (fun t : Sq4 => [IsR C t.1.1, IsT (IsR C) t.1.2]) fun t => IsR C (sqQ t.1.1 t.1.2)
theorem sc_sq : FnScope ["time", "place", "numbers", "bottom", "first", "number"] ["time", "place"] (defScope (top 38)) := ⟨rfl, rfl, rfl, by decide +kernel, rfl, by decide +kernel, by decide +kernel⟩
theorem ok_sq (A : Free mg) (R : RatC K mg C) (D1 : Cal P w K mg base "over_one_bottom" 1 [] (SpOver C)) (D3 : KCal P w K mg base "Ratio" C 2 [] (SpRInit C)) (F : FnP K "square_of" "square_of" (top 38) [] f fd) : FnOk P w K mg base CX0 4 f fd ["time", "place"] (SpSq C) := by
  refine fn_pure F sc_sq (fun _ => rfl) fun t cdv Ar outer s H E vs Q hr ha hq => ?_
  obtain ⟨⟨t, ps⟩, s1, hl, s2⟩ := t
  obtain ⟨v, r, rfl, hv, v2, r2, rfl, hv2, hr2⟩ := ha
  cases (show r2 = [] from hr2)
  have hl' : ps.length ≤ 3 := hl
  have hq4 : (t :: ps).length ≤ 4 ∧ ∀ q ∈ t :: ps, Sm 700 q := ⟨by rw [List.length_cons]; omega, fun q hq => by
    rcases List.mem_cons.mp hq with h | h
    · rw [h]; exact s1
    · exact s2 q h⟩
  have lt : lcmF (t :: ps) < 2 ^ 3000 := by
    have := lcm_take hq4 (t :: ps).length
    rwa [List.take_length] at this
  generalize hL : lcmF (t :: ps) = L at lt
  have lp : 0 < L := hL ▸ lcmF_pos _
  have dt : t.den ∣ L := hL ▸ lcmF_dvd (List.mem_cons_self ..)
  have dp : ∀ q ∈ ps, q.den ∣ L := fun q hq => hL ▸ lcmF_dvd (List.mem_cons_of_mem _ hq)
  refine b_two (P1 := IsL IsI ((t :: ps).map (overQ L))) (P2 := IsI (L : Int)) 2 3 sc_sq.nd ?_ fun v3 v4 H1 e1 h3 h4 => ?_
  · refine eg_callP (⟨t :: ps, hq4⟩ : Qs4) D1 (hr.mono (by decide)) (ag_cons (eg_lstStar (R := IsR C) (eg_var 0 rfl hv) (eg_var 1 rfl hv2) (by omega)) ag_nil) (hp := ?_)
    intro v H h
    rw [← hL]
    exact h
  refine b_asg (P := IsI (overQ L t)) 4 sc_sq.nd ?_ fun v5 H2 e2 h5 => ?_
  · exact eg_ixL (R := IsI) (as := (t :: ps).map (overQ L)) (n := 0) (x := overQ L t) (eg_var 2 rfl h3) eg_int rfl
  refine b_ret (P := IsR C (sqQ t ps)) ?_ fun v H3 e3 h => hq v H3 ((e1.trans e2).trans e3) h
  have h3' := (inferInstance : Mono (IsL IsI ((t :: ps).map (overQ L)))).up e2 h3
  have lb : ((L : Int)).natAbs < 2 ^ 3000 := by rw [Int.natAbs_natCast]; exact lt
  have ob : ∀ q, Sm 700 q → (overQ L q).natAbs < 2 ^ 3700 := fun q h => over_bits h lt
  refine eg_make (⟨(overQ L t * overQ L t - ((ps.map (overQ L)).map fun n => n * n).sum, (L : Int) * L), ?_, ?_⟩ : PRI) D3 (hr.mono (by decide)) (ag_cons (eg_sub (eg_mul ?_ (eg_var 4 rfl h5) (eg_var 4 rfl h5)) (eg_sum A.sum rfl ?_)) (ag_cons (eg_mul ?_ (eg_var 3 rfl h4) (eg_var 3 rfl h4)) ag_nil)) inferInstance (fun vs H4 h => by rw [List.append_nil]; exact h) (hp := ?_)
  · show 0 < (L : Int) * L
    exact Int.mul_pos (by omega) (by omega)
  · exact lt6 (b_mul lb lb) (by decide)
  · exact w_mul (ob t s1) (ob t s1) (by decide) (by decide) (by decide)
  · refine eg_lc 5 (R := IsI) (as := ps.map (overQ L)) (fun n => n * n) sc_sq.nd (ip_list ?_) (by rw [List.length_map]; omega) (fun a hm u H4 e4 ra s2' H0 Cc cl fp => ?_) (fun _ _ _ _ _ => pg_name sc_sq.nd rfl (Or.inl rfl))
    · exact eg_from (R := IsI) (as := (t :: ps).map (overQ L)) (n := 1) (eg_var 2 rfl h3') eg_int
    · obtain ⟨q, hq', rfl⟩ := List.mem_map.mp hm
      exact eg_mul (w_mul (ob q (s2 q hq')) (ob q (s2 q hq')) (by decide) (by decide) (by decide)) (eg_var 5 rfl ra) (eg_var 5 rfl ra)
  · exact w_mul lb lb (by decide) (by decide) (by decide)
  · intro v H h
    rw [← sq_div lp dt dp]
    exact h
end
end G
set_option maxHeartbeats 4000000
namespace G
open PySem PySem.Spec PyProof.Rows L2 Evl
section
variable {C CS p dx : Addr} {H : Hp} {v : V} {q : Rat} {x : RI} {o : HO} {fs : List (Str × V)}
theorem isR_put (hC : C ≠ CS) (hp : H p = some (.ins CS dx fs)) (h : IsR C q v H) : IsR C q v (upd H p o) := by
  obtain ⟨a, dy, gs, h1, h2, h3⟩ := h
  refine ⟨a, dy, gs, h1, ?_, h3⟩
  rw [upd_ne (fun e => by rw [e, hp] at h2; cases h2; exact hC rfl)]
  exact h2
theorem isRI_put (hC : C ≠ CS) (hp : H p = some (.ins CS dx fs)) (h : IsRI C x v H) : IsRI C x v (upd H p o) := by
  cases x with
  | inl q => exact isR_put hC hp h
  | inr i => exact h
theorem all2_put {α : Type} {R : α → Rep} (hR : ∀ a v, R a v H → R a v (upd H p o)) : ∀ {as : List α} {xs : List V}, All2 R as xs H → All2 R as xs (upd H p o)
  | [], _, h => h
  | a :: as, _, ⟨x, r, h1, h2, h3⟩ => ⟨x, r, h1, hR a x h2, all2_put hR h3⟩
theorem isL_put {α : Type} {R : α → Rep} {as : List α} (hR : ∀ a v, R a v H → R a v (upd H p o)) (hp : H p = some (.ins CS dx fs)) (h : IsL R as v H) : IsL R as v (upd H p o) := by
  obtain ⟨a, xs, h1, h2, h3⟩ := h
  exact ⟨a, xs, h1, by rw [upd_ne (fun e => by rw [e, hp] at h2; cases h2)]; exact h2, all2_put hR h3⟩
theorem isT_put {α : Type} {R : α → Rep} {as : List α} (hR : ∀ a v, R a v H → R a v (upd H p o)) (hp : H p = some (.ins CS dx fs)) (h : IsT R as v H) : IsT R as v (upd H p o) := by
  obtain ⟨a, xs, h1, h2, h3⟩ := h
  exact ⟨a, xs, h1, by rw [upd_ne (fun e => by rw [e, hp] at h2; cases h2)]; exact h2, all2_put hR h3⟩
end
section
variable {P : Program} {w : World} {K : PySem.W.Frag} {mg : Str → Option Value} {base : Heap} {f : Addr} {fd : FuncData} {C CS : Addr}
def mkS (x : RI) (ys : List RI) : StepV := ⟨x.val, ys.map RI.val⟩
abbrev PSI := {t : RI × List RI // SmS 700 (mkS t.1 t.2) ∧ AxS (mkS t.1 t.2)}
abbrev SpSInit (CS C : Addr) : Sp := ISp CS (fun t : PSI => [IsRI C t.1.1, IsL (IsRI C) t.1.2]) fun t fs H => ∃ vt vp vs, fs = fsS (mkS t.1.1 t.1.2) vt vp vs ∧ IsR C (mkS t.1.1 t.1.2).t vt H ∧ IsT (IsR C) (mkS t.1.1 t.1.2).ps vp H ∧ IsR C (sqQ (mkS t.1.1 t.1.2).t (mkS t.1.1 t.1.2).ps) vs H
abbrev sSInit : Stmt := inClass (top 36) 0
theorem sc_sinit : FnScope ["self", "time", "place", "number"] ["self", "time", "place"] (defScope sSInit) := ⟨rfl, rfl, rfl, by decide +kernel, rfl, by decide +kernel, by decide +kernel⟩
theorem ok_sinit (A : Free mg) (R : RatC K mg C) (S : StepC K mg CS) (hC : C ≠ CS) (D1 : Cal P w K mg base "is_ratio" 2 [] (SpIsR C)) (D2 : Cal P w K mg base "are_ratios" 3 [] (SpAreR C)) (D3 : Cal P w K mg base "is_axes" 3 [] SpAxes)
    (D4 : SCal P w K mg base "Ratio" "of" 5 [] (SpOf C)) (D5 : Cal P w K mg base "square_of" 4 [] (SpSq C)) (D6 : Cal P w K mg base "kind_of" 1 [] (SpKind C)) (F : FnP K "__init__" "Step.__init__" sSInit [] f fd) : FnOk P w K mg base CX0 6 f fd ["self", "time", "place"] (SpSInit CS C) := by
  refine fn_init F sc_sinit (fun _ => rfl) fun t cdv Ar outer s H E p dx args Q hr hp ha hq => ?_
  obtain ⟨⟨x, ys⟩, ⟨b1, b2⟩, a1, a2⟩ := t
  obtain ⟨v1, r1, rfl, h1, v2, r2, rfl, h2, h4⟩ := ha
  cases (show r2 = [] from h4)
  replace b1 : Sm 700 x.val := b1
  replace b2 : ∀ q ∈ ys.map RI.val, Sm 700 q := b2
  replace a1 : 1 ≤ (ys.map RI.val).length := a1
  replace a2 : (ys.map RI.val).length ≤ 3 := a2
  have mL : Mono (IsL (IsRI C) ys) := inferInstance
  have mT : Mono (IsT (IsR C) (ys.map RI.val)) := inferInstance
  have l1 : ys.length = (ys.map RI.val).length := (List.length_map ..).symm
  refine b_skip ?_ fun H1 e1 => b_skip ?_ fun H2 e2 => ?_
  · exact tg_not (bb := true) (tg_val (eg_callP x D1 (hr.mono (by decide)) (ag_cons (eg_var 1 rfl h1) ag_nil)))
  · refine tg_w (wg_or (bb := false) (bc := false) (tg_not (bb := true) (tg_val (eg_callP ⟨ys, by omega⟩ D2 (hr.mono (by decide)) (ag_cons (eg_var 2 rfl (mL.up e1 h2)) ag_nil)))) fun _ => wg_or1 (tg_not (bb := true) (tg_val ?_)))
    refine eg_callP (ys.length : Int) D3 (hr.mono (by decide)) (ag_cons (eg_len (R := IsRI C) (as := ys) A.len (eg_var 2 rfl (mL.up e1 h2))) ag_nil) (hp := ?_)
    intro v H h
    have e : (decide ((1 : Int) ≤ (ys.length : Int)) && decide ((ys.length : Int) ≤ 3)) = true := by
      rw [decide_eq_true (by omega), decide_eq_true (by omega)]
      rfl
    rw [← e]
    exact h
  have x2 := e1.trans e2
  -- time
  refine b_fld (P := IsR C x.val) S.isi.cl S.nT ?_ (fun H4 e4 => eg_var 0 rfl rfl) (x2 _ _ hp) (by decide) fun vt H3 e3 ht => ?_
  · exact eg_scallP x D4 hr (ag_cons (eg_var 1 rfl ((inferInstance : Mono (IsRI C x)).up x2 h1)) ag_nil)
  have p3 : H3 p = some (.ins CS dx []) := (x2.trans e3) _ _ hp
  have ht3 := isR_put (o := .ins CS dx (putF "time" vt [])) hC p3 ht
  have h23 := isL_put (o := .ins CS dx (putF "time" vt [])) (fun a v h => isRI_put hC p3 h) p3 (mL.up (x2.trans e3) h2)
  -- place
  refine b_fld (P := IsT (IsR C) (ys.map RI.val)) S.isi.cl S.nP ?_ (fun H4 e4 => eg_var 0 rfl rfl) upd_same (show 1 < 1000 by decide) fun vp H4 e4 hvp => ?_
  · refine eg_tupleL A.tuple ?_
    refine eg_lc 3 (R := IsRI C) (S := IsR C) RI.val sc_sinit.nd (ip_list (eg_var 2 rfl h23)) (by omega) (fun a hm u H4 e4 ra s2' H0 Cc cl fp => ?_) (fun _ _ _ _ _ => pg_name sc_sinit.nd rfl (Or.inl rfl))
    exact eg_scallP a D4 hr (ag_cons (eg_var 3 rfl ra) ag_nil)
  have p4 := e4 _ _ (upd_same (H := H3) (a := p) (o := .ins CS dx (putF "time" vt [])))
  have ht4 := isR_put (o := .ins CS dx (putF "place" vp (putF "time" vt []))) hC p4 (Mono.up e4 ht3)
  have hp4 := isT_put (o := .ins CS dx (putF "place" vp (putF "time" vt []))) (fun a v h => isR_put hC p4 h) p4 hvp
  -- axes
  refine b_fld (P := IsI ((ys.map RI.val).length : Int)) S.isi.cl S.nA ?_ (fun H4 e4 => eg_var 0 rfl rfl) upd_same (show 2 < 1000 by decide) fun va H5 e5 hva => ?_
  · refine eg_lenT (R := IsR C) A.len ?_
    exact eg_fld (P1 := IsV (.ref p)) S.isi.cl S.nP (eg_var 0 rfl rfl) fun v H1 e h => ⟨p, dx, _, vp, h, e _ _ upd_same, rfl, mT.up e hp4⟩
  cases (show va = _ from hva)
  generalize hva2 : V.int ((ys.map RI.val).length : Int) = va
  have p5 := e5 _ _ (upd_same (H := H4) (a := p) (o := .ins CS dx (putF "place" vp (putF "time" vt []))))
  have ht5 := isR_put (o := .ins CS dx (putF "axes" va (putF "place" vp (putF "time" vt [])))) hC p5 (Mono.up e5 ht4)
  have hp5 := isT_put (o := .ins CS dx (putF "axes" va (putF "place" vp (putF "time" vt [])))) (fun a v h => isR_put hC p5 h) p5 (mT.up e5 hp4)
  -- square
  refine b_fld (P := IsR C (sqQ x.val (ys.map RI.val))) S.isi.cl S.nS ?_ (fun H4 e4 => eg_var 0 rfl rfl) upd_same (show 3 < 1000 by decide) fun vs H6 e6 hvs => ?_
  · refine eg_callP (⟨(x.val, ys.map RI.val), b1, a2, b2⟩ : Sq4) D5 (hr.mono (by decide)) (ag_cons ?_ (ag_cons ?_ ag_nil))
    · exact eg_fld (P1 := IsV (.ref p)) S.isi.cl S.nT (eg_var 0 rfl rfl) fun v H1 e h => ⟨p, dx, _, vt, h, e _ _ upd_same, rfl, Mono.up e ht5⟩
    · exact eg_fld (P1 := IsV (.ref p)) S.isi.cl S.nP (eg_var 0 rfl rfl) fun v H1 e h => ⟨p, dx, _, vp, h, e _ _ upd_same, rfl, mT.up e hp5⟩
  have p6 := e6 _ _ (upd_same (H := H5) (a := p) (o := .ins CS dx (putF "axes" va (putF "place" vp (putF "time" vt [])))))
  have ht6 := isR_put (o := .ins CS dx (putF "square" vs (putF "axes" va (putF "place" vp (putF "time" vt []))))) hC p6 (Mono.up e6 ht5)
  have hp6 := isT_put (o := .ins CS dx (putF "square" vs (putF "axes" va (putF "place" vp (putF "time" vt []))))) (fun a v h => isR_put hC p6 h) p6 (mT.up e6 hp5)
  have hs6 := isR_put (o := .ins CS dx (putF "square" vs (putF "axes" va (putF "place" vp (putF "time" vt []))))) hC p6 hvs
  -- kind
  refine b_fld (P := IsS (kindQ x.val (sqQ x.val (ys.map RI.val)))) S.isi.cl S.nK ?_ (fun H4 e4 => eg_var 0 rfl rfl) upd_same (show 4 < 1000 by decide) fun vk H7 e7 hvk => ?_
  · refine eg_callP (x.val, sqQ x.val (ys.map RI.val)) D6 (hr.mono (by decide)) (ag_cons ?_ (ag_cons ?_ ag_nil))
    · exact eg_fld (P1 := IsV (.ref p)) S.isi.cl S.nT (eg_var 0 rfl rfl) fun v H1 e h => ⟨p, dx, _, vt, h, e _ _ upd_same, rfl, Mono.up e ht6⟩
    · exact eg_fld (P1 := IsV (.ref p)) S.isi.cl S.nS (eg_var 0 rfl rfl) fun v H1 e h => ⟨p, dx, _, vs, h, e _ _ upd_same, rfl, Mono.up e hs6⟩
  cases (show vk = _ from hvk)
  have p7 := e7 _ _ (upd_same (H := H6) (a := p) (o := .ins CS dx (putF "square" vs (putF "axes" va (putF "place" vp (putF "time" vt []))))))
  subst hva2
  refine b_nil (hq _ _ ((((((Fx.of x2).put e3).put e4).put e5).put e6).put e7) upd_same ⟨vt, vp, vs, rfl, ?_, ?_, ?_⟩)
  · exact isR_put hC p7 (Mono.up e7 ht6)
  · exact isT_put (fun a v h => isR_put hC p7 h) p7 (mT.up e7 hp6)
  · exact isR_put hC p7 (Mono.up e7 hs6)
end
end G
set_option maxHeartbeats 4000000
namespace G
open PySem PySem.Spec PyProof.Rows L2 Evl
def prodQ (s r : StepV) : Rat := prodF (s.ps.zip r.ps) (s.t * r.t)
def addS (s r : StepV) : StepV := ⟨s.t + r.t, (s.ps.zip r.ps).map fun q => q.1 + q.2⟩
def subS (s r : StepV) : StepV := ⟨s.t - r.t, (s.ps.zip r.ps).map fun q => q.1 - q.2⟩
def mulS (s : StepV) (m : Rat) : StepV := ⟨s.t * m, s.ps.map fun q => q * m⟩
def negS (s : StepV) : StepV := ⟨-s.t, s.ps.map fun q => -q⟩
theorem isL_inl {C : Addr} {qs : List Rat} {v : V} {H : Hp} (h : IsL (IsR C) qs v H) : IsL (IsRI C) (qs.map Sum.inl) v H := by
  obtain ⟨a, xs, h1, h2, h3⟩ := h
  exact ⟨a, xs, h1, h2, All2.map (R := IsR C) (S := IsRI C) (f := Sum.inl) (fun _ _ h => h) h3⟩
theorem val_inl (qs : List Rat) : (qs.map (Sum.inl : Rat → RI)).map RI.val = qs := by
  rw [List.map_map]
  exact List.map_id qs
theorem mkS_inl (t : Rat) (qs : List Rat) : mkS (.inl t) (qs.map Sum.inl) = ⟨t, qs⟩ := by
  unfold mkS
  rw [val_inl]
  rfl
section
variable {X : Cx} {σ : L2.St} {H : Hp} {pos p : Pos} {ea eb : Expr} {C CS : Addr} {a b r : Rat} {op : Operator} {g : Rat → Rat → Rat}
theorem eg_rop (D : OCal X.prog X.w X.K X.mg X.base C (PySem.dunder op.info.2) 5 (SpR2 C g)) (R : RatC X.K X.mg C) (hr : Room 5 X.A) (h1 : Sm 2500 a) (h2 : Sm 2500 b) (ha : EG X ea σ H (IsR C a)) (hb : EG X eb σ H (IsR C b)) (he : g a b = r := by rfl) : EG X (.BinOp ea op eb pos) σ H (IsR C r) :=
  eg_opO (⟨(a, .inl b), h1, h2⟩ : Two) D hr R.sf ha hb isR_at isR_at (fun x y H h1 h2 => ⟨x, _, rfl, h1, y, _, rfl, h2, rfl⟩) (fun v H h => he ▸ h)
theorem eg_rneg (D : OCal X.prog X.w X.K X.mg X.base C "__neg__" 5 (SpRNeg C)) (hr : Room 5 X.A) (h1 : Sm 2500 a) (ha : EG X ea σ H (IsR C a)) : EG X (.UnaryOp .USub ea pos) σ H (IsR C (-a)) :=
  eg_negO (⟨a, h1⟩ : {a : Rat // Sm 2500 a}) D hr ha isR_at fun x H h1 => ⟨x, _, rfl, h1, rfl⟩
theorem eg_mkStep {t : Rat} {qs : List Rat} (D : KCal X.prog X.w X.K X.mg X.base "Step" CS 6 [] (SpSInit CS C)) (hr : Room 7 X.A) (h1 : SmS 700 ⟨t, qs⟩) (h2 : AxS ⟨t, qs⟩) (ha : EG X ea σ H (IsR C t)) (hb : EG X eb σ H (IsL (IsR C) qs)) (hg : Gl X "Step" := by rfl)
    (he : starEach [ea, eb] X.env = (false, eval ea X.env) :: starEach [eb] X.env := by rfl) (he2 : starEach [eb] X.env = (false, eval eb X.env) :: starEach [] X.env := by rfl) (hpl : (backTo pos (starEach [eb] X.env)).any (·.1) = false := by rfl) : EG X (.Call (.Name "Step" p) [ea, eb] [] pos) σ H (IsStep CS C ⟨t, qs⟩) :=
  eg_make (⟨(.inl t, qs.map Sum.inl), by rw [mkS_inl]; exact h1, by rw [mkS_inl]; exact h2⟩ : PSI) D hr (ag_cons ha (ag_cons hb ag_nil he2) he) inferInstance (fun vs H4 ⟨v, r, q1, q2, v2, r2, q3, q4, q5⟩ => by
    subst q1 q3
    cases (show r2 = [] from q5)
    exact ⟨v, _, rfl, q2, v2, _, rfl, isL_inl q4, rfl⟩) hg (by decide) he hpl fun v H h => by
      rw [mkS_inl] at h
      exact h
/-- two equal places -/
def ReqR (C : Addr) : Addr → Addr → Hp → Prop := fun a b H => ∃ q, IsR C q (.ref a) H ∧ IsR C q (.ref b) H
theorem reqR_mon {C : Addr} : Mon (DIns C (ReqR C)) := mon_ins fun a b H H' e ⟨q, h1, h2⟩ => ⟨q, Mono.up (fun b o h => e b o h) h1, Mono.up (fun b o h => e b o h) h2⟩
theorem cg_tupR {qs : List Rat} (D : OCal X.prog X.w X.K X.mg X.base C "__eq__" 2 (SpREq C)) (hr : Room 3 X.A) (ha : EG X ea σ H (IsT (IsR C) qs)) (hb : EG X eb σ H (IsT (IsR C) qs)) : CG X .Eq ea eb σ H true := by
  obtain ⟨f, fd, ps, F, hs, hf, hb'⟩ := D.ex
  have F' : FnOk X.prog X.w X.K X.mg X.base CX0 2 f fd ps (spEq (ReqR C)) := F.imp fun vs H Q E ⟨a, b, h1, ⟨q, h2, h3⟩, h4⟩ => ⟨(q, .inl q), by rw [h1]; exact ⟨_, _, rfl, h2, _, _, rfl, h3, rfl⟩, fun v H' e hv => by
    have hv' : v = .bl true := by
      have : v = .bl (decide (q = RI.val (.inl q))) := hv
      rw [this]
      show V.bl (decide (q = q)) = _
      rw [decide_eq_true rfl]
    rw [hv']
    exact h4 H' fun b o h => e b o h⟩
  have G1 : EqG X 2 (DIns C (ReqR C)) := eqG_ins (E := E0) F' hs hf hb' pass0
  have G2 : RcG X 3 (DTup X.K (DIns C (ReqR C))) := rcG_tup reqR_mon G1
  refine cg_of (op_eqG G2 hr) ha hb fun x y H1 _ ⟨a1, xs, q1, q2, q3⟩ ⟨b1, ys, q4, q5, q6⟩ Q q => ⟨⟨a1, b1, xs, ys, q1, q4, SqT.of q2, SqT.of q5, q3.length.trans q6.length.symm, fun i x y hx hy => ?_⟩, fun H' e => q H' fun b o h => e b o h⟩
  obtain ⟨c, hc, rc⟩ := q3.get hx
  obtain ⟨d, hd, rd⟩ := q6.get hy
  rw [hc] at hd
  cases hd
  obtain ⟨a2, dx, fs, z1, z2, z3⟩ := rc
  obtain ⟨b2, dy, gs, z4, z5, z6⟩ := rd
  subst z1 z4
  exact ⟨a2, b2, dx, dy, fs, gs, rfl, rfl, z2, z5, c, ⟨a2, dx, fs, rfl, z2, z3⟩, ⟨b2, dy, gs, rfl, z5, z6⟩⟩
end
section
variable {P : Program} {w : World} {K : PySem.W.Frag} {mg : Str → Option Value} {base : Heap} {f : Addr} {fd : FuncData} {C CS : Addr}
abbrev TwoS (n : Nat) := {t : StepV × StepV // SmS n t.1 ∧ SmS n t.2 ∧ AxS t.1 ∧ t.1.ps.length = t.2.ps.length}
abbrev dSub : Str := PySem.dunder (Operator.info .Sub).2
abbrev dAdd : Str := PySem.dunder (Operator.info .Add).2
abbrev dMul : Str := PySem.dunder (Operator.info .Mult).2
theorem zip_mem {α β : Type} {as : List α} {bs : List β} {i : Nat} {q : α × β} (h : (as.zip bs)[i]? = some q) : q.1 ∈ as ∧ q.2 ∈ bs := by
  rw [List.getElem?_zip_eq_some] at h
  exact ⟨List.mem_of_getElem? h.1, List.mem_of_getElem? h.2⟩
end
end G
set_option maxHeartbeats 4000000
namespace G
open PySem PySem.Spec PyProof.Rows L2 Evl
section
variable {P : Program} {w : World} {K : PySem.W.Frag} {mg : Str → Option Value} {base : Heap} {f : Addr} {fd : FuncData} {C CS : Addr}
abbrev SpProd (CS C : Addr) : Sp := PSp (fun t : TwoS 300 => [IsStep CS C t.1.1, IsStep CS C t.1.2]) fun t => IsR C (prodQ t.1.1 t.1.2)
theorem sc_prod : FnScope ["one", "other", "product", "number", "factor"] ["one", "other"] (defScope (top 40)) := ⟨rfl, rfl, rfl, by decide +kernel, rfl, by decide +kernel, by decide +kernel⟩
theorem ok_prod (A : Free mg) (R : RatC K mg C) (S : StepC K mg CS) (D1 : Cal P w K mg base "ask_other" 2 [] (SpEqAx CS C)) (D2 : OCal P w K mg base C dMul 5 (SpR2 C fun a b => a * b)) (D3 : OCal P w K mg base C dSub 5 (SpR2 C fun a b => a - b))
    (F : FnP K "product_of" "product_of" (top 40) [] f fd) : FnOk P w K mg base CX0 6 f fd ["one", "other"] (SpProd CS C) := by
  refine fn_pure F sc_prod (fun _ => rfl) fun t cdv Ar outer s H E vs Q hr ha hq => ?_
  obtain ⟨⟨s1, s2⟩, b1, b2, ax, hl⟩ := t
  obtain ⟨v, r, rfl, hv, v2, r2, rfl, hv2, hr2⟩ := ha
  cases (show r2 = [] from hr2)
  have m1 : Mono (IsStep CS C s1) := inferInstance
  have m2 : Mono (IsStep CS C s2) := inferInstance
  have mR : ∀ q, Mono (IsR C q) := fun q => inferInstance
  have ln : (s1.ps.zip s2.ps).length ≤ 3 := by
    rw [List.length_zip]
    have := ax.2
    have : s1.ps.length ≤ 3 := ax.2
    omega
  refine b_skip ?_ fun H1 e1 => ?_
  · exact tg_not (bb := true) (tg_val (eg_isi (P1 := IsStep CS C s1) A.isi (eg_var 0 rfl hv) (eg_cls S.mg) (.own _) (ty_at S.isi isS_at kit_self)))
  refine b_expr (P := IsV .non) ?_ fun _ H2 e2 _ => ?_
  · exact eg_callP (⟨(s1, s2), hl⟩ : {t : StepV × StepV // t.1.ps.length = t.2.ps.length}) D1 (hr.mono (by decide)) (ag_cons (eg_var 0 rfl (m1.up e1 hv)) (ag_cons (eg_var 1 rfl (m2.up e1 hv2)) ag_nil))
  have g1 := m1.up (e1.trans e2) hv
  have g2 := m2.up (e1.trans e2) hv2
  refine b_asg (P := IsR C (s1.t * s2.t)) 2 sc_prod.nd ?_ fun v3 H3 e3 h3 => ?_
  · exact eg_rop D2 R hr (b1.1.mono (by decide)) (b2.1.mono (by decide)) (eg_time S (eg_var 0 rfl g1)) (eg_time S (eg_var 1 rfl g2))
  refine b_for2 (R := IsR C) (R2 := IsR C) (qs := s1.ps.zip s2.ps) 3 4 (fun i σ' H' => i ≤ 3 ∧ Sm (600 * (i + 1) + i) (prodF ((s1.ps.zip s2.ps).take i) (s1.t * s2.t)) ∧ ∃ u c d, σ' = [some v, some v2, some u, c, d] ∧ IsR C (prodF ((s1.ps.zip s2.ps).take i) (s1.t * s2.t)) u H') sc_prod.nd ?_ (fun H4 e4 => ⟨by omega, (sm_mul b1.1 b2.1).mono (by decide), v3, none, none, rfl, (mR _).up e4 h3⟩) (fun i q x y σ' Ha Hb hi ea pv eb rx ry => ?_) (fun σ' H' e' pv => ?_)
    (pg_tup rfl (pgs_cons (pg_name sc_prod.nd rfl (Or.inl rfl)) (pgs_cons (pg_name sc_prod.nd rfl (Or.inl rfl)) pgs_nil)))
  · exact ip_zipT A.zip (eg_place S (eg_var 0 rfl (m1.up e3 g1))) (eg_place S (eg_var 1 rfl (m2.up e3 g2)))
  · obtain ⟨i3, sm, u, c, d, rfl, hu⟩ := pv
    obtain ⟨z1, z2⟩ := zip_mem hi
    have hi3 : i < 3 := Nat.lt_of_lt_of_le (List.getElem?_eq_some_iff.mp hi).1 ln
    have sq : Sm 600 (q.1 * q.2) := sm_mul (b1.2 _ z1) (b2.2 _ z2)
    have ef : prodF ((s1.ps.zip s2.ps).take i) (s1.t * s2.t) - q.1 * q.2 = prodF ((s1.ps.zip s2.ps).take (i + 1)) (s1.t * s2.t) := by rw [take_next hi, prodF_snoc]
    refine b_asg (P := IsR C (prodF ((s1.ps.zip s2.ps).take (i + 1)) (s1.t * s2.t))) 2 sc_prod.nd ?_ fun v4 H4 e4 h4 => b_nil ⟨e4, by omega, ?_, v4, some x, some y, rfl, h4⟩
    · exact eg_rop D3 R hr (sm.mono (by omega)) (sq.mono (by decide)) (eg_var 2 rfl ((mR _).up eb hu)) (eg_rop D2 R hr ((b1.2 _ z1).mono (by decide)) ((b2.2 _ z2).mono (by decide)) (eg_var 3 rfl rx) (eg_var 4 rfl ry)) ef
    · rw [← ef]
      exact (sm_sub sm sq).mono (by omega)
  · obtain ⟨i3, sm, u, c, d, rfl, hu⟩ := pv
    rw [List.take_length] at hu
    refine b_ret (P := IsR C (prodQ s1 s2)) ?_ fun v5 H5 e5 h5 => hq v5 H5 ((((e1.trans e2).trans e3).trans e').trans e5) h5
    exact eg_var 2 rfl hu
end
end G
set_option maxHeartbeats 4000000
namespace G
open PySem PySem.Spec PyProof.Rows L2 Evl
theorem zip_map_mem {f : Rat × Rat → Rat} {as bs : List Rat} {x : Rat} (h : x ∈ (as.zip bs).map f) : ∃ a b, a ∈ as ∧ b ∈ bs ∧ x = f (a, b) := by
  obtain ⟨q, hq, rfl⟩ := List.mem_map.mp h
  have := List.of_mem_zip hq
  exact ⟨q.1, q.2, this.1, this.2, rfl⟩
theorem smS_add {n : Nat} {s r : StepV} (h1 : SmS n s) (h2 : SmS n r) : SmS (2 * n + 1) (addS s r) := ⟨(sm_add h1.1 h2.1).mono (by omega), fun q hq => by
  obtain ⟨a, b, ha, hb, rfl⟩ := zip_map_mem hq
  exact (sm_add (h1.2 _ ha) (h2.2 _ hb)).mono (by omega)⟩
theorem smS_sub {n : Nat} {s r : StepV} (h1 : SmS n s) (h2 : SmS n r) : SmS (2 * n + 1) (subS s r) := ⟨(sm_sub h1.1 h2.1).mono (by omega), fun q hq => by
  obtain ⟨a, b, ha, hb, rfl⟩ := zip_map_mem hq
  exact (sm_sub (h1.2 _ ha) (h2.2 _ hb)).mono (by omega)⟩
theorem smS_mul {n m : Nat} {s : StepV} {r : Rat} (h1 : SmS n s) (h2 : Sm m r) : SmS (n + m) (mulS s r) := ⟨sm_mul h1.1 h2, fun q hq => by
  obtain ⟨a, ha, rfl⟩ := List.mem_map.mp hq
  exact sm_mul (h1.2 _ ha) h2⟩
theorem smS_neg {n : Nat} {s : StepV} (h1 : SmS n s) : SmS n (negS s) := ⟨sm_neg h1.1, fun q hq => by
  obtain ⟨a, ha, rfl⟩ := List.mem_map.mp hq
  exact sm_neg (h1.2 _ ha)⟩
theorem SmS.mono {n m : Nat} {s : StepV} (h : SmS n s) (k : n ≤ m) : SmS m s := ⟨h.1.mono k, fun q hq => (h.2 q hq).mono k⟩
theorem ax_zip {f : Rat × Rat → Rat} {t : Rat} {s r : StepV} (h : AxS s) (hl : s.ps.length = r.ps.length) : AxS ⟨t, (s.ps.zip r.ps).map f⟩ := by
  unfold AxS at *
  rw [List.length_map, List.length_zip, ← hl, Nat.min_self]
  exact h
theorem ax_map {f : Rat → Rat} {t : Rat} {s : StepV} (h : AxS s) : AxS ⟨t, s.ps.map f⟩ := by
  unfold AxS at *
  rw [List.length_map]
  exact h
section
variable {P : Program} {w : World} {K : PySem.W.Frag} {mg : Str → Option Value} {base : Heap} {f : Addr} {fd : FuncData} {C CS : Addr}
abbrev sSAdd : Stmt := inClass (top 36) 3
abbrev sSSub : Stmt := inClass (top 36) 4
abbrev sSMul : Stmt := inClass (top 36) 5
abbrev sSNeg : Stmt := inClass (top 36) 6
abbrev sSEq : Stmt := inClass (top 36) 7
abbrev SpSAdd (CS C : Addr) : Sp := PSp (fun t : TwoS 340 => [IsStep CS C t.1.1, IsStep CS C t.1.2]) fun t => IsStep CS C (addS t.1.1 t.1.2)
abbrev SpSSub (CS C : Addr) : Sp := PSp (fun t : TwoS 340 => [IsStep CS C t.1.1, IsStep CS C t.1.2]) fun t => IsStep CS C (subS t.1.1 t.1.2)
theorem sc_sadd : FnScope ["self", "other", "one", "more"] ["self", "other"] (defScope sSAdd) := ⟨rfl, rfl, rfl, by decide +kernel, rfl, by decide +kernel, by decide +kernel⟩
theorem sc_ssub : FnScope ["self", "other", "one", "less"] ["self", "other"] (defScope sSSub) := ⟨rfl, rfl, rfl, by decide +kernel, rfl, by decide +kernel, by decide +kernel⟩
theorem sc_smul : FnScope ["self", "other", "times", "number"] ["self", "other"] (defScope sSMul) := ⟨rfl, rfl, rfl, by decide +kernel, rfl, by decide +kernel, by decide +kernel⟩
theorem sc_sneg : FnScope ["self", "number"] ["self"] (defScope sSNeg) := ⟨rfl, rfl, rfl, by decide +kernel, rfl, by decide +kernel, by decide +kernel⟩
theorem sc_seq : FnScope ["self", "other"] ["self", "other"] (defScope sSEq) := ⟨rfl, rfl, rfl, by decide +kernel, rfl, by decide +kernel, by decide +kernel⟩
theorem ok_sadd (A : Free mg) (R : RatC K mg C) (S : StepC K mg CS) (D1 : Cal P w K mg base "ask_other" 2 [] (SpEqAx CS C)) (D2 : OCal P w K mg base C dAdd 5 (SpR2 C fun a b => a + b)) (D3 : KCal P w K mg base "Step" CS 6 [] (SpSInit CS C))
    (F : FnP K "__add__" "Step.__add__" sSAdd [] f fd) : FnOk P w K mg base CX0 8 f fd ["self", "other"] (SpSAdd CS C) := by
  refine fn_pure F sc_sadd (fun _ => rfl) fun t cdv Ar outer s H E vs Q hr ha hq => ?_
  obtain ⟨⟨s1, s2⟩, b1, b2, ax, hl⟩ := t
  obtain ⟨v, r, rfl, hv, v2, r2, rfl, hv2, hr2⟩ := ha
  cases (show r2 = [] from hr2)
  have m1 : Mono (IsStep CS C s1) := inferInstance
  have m2 : Mono (IsStep CS C s2) := inferInstance
  refine b_expr (P := IsV .non) ?_ fun _ H2 e2 _ => ?_
  · exact eg_callP (⟨(s1, s2), hl⟩ : {t : StepV × StepV // t.1.ps.length = t.2.ps.length}) D1 (hr.mono (by decide)) (ag_cons (eg_var 0 rfl hv) (ag_cons (eg_var 1 rfl hv2) ag_nil))
  have g1 := m1.up e2 hv
  have g2 := m2.up e2 hv2
  have ln : (s1.ps.zip s2.ps).length ≤ 3 := by
    rw [List.length_zip]
    have : s1.ps.length ≤ 3 := ax.2
    omega
  refine b_ret (P := IsStep CS C (addS s1 s2)) ?_ fun v5 H5 e5 h5 => hq v5 H5 (e2.trans e5) h5
  refine eg_mkStep D3 hr ((smS_add b1 b2).mono (by decide)) (ax_zip ax hl) ?_ ?_
  · exact eg_rop D2 R (hr.mono (by decide)) (b1.1.mono (by decide)) (b2.1.mono (by decide)) (eg_time S (eg_var 0 rfl g1)) (eg_time S (eg_var 1 rfl g2))
  · refine eg_lc2 2 3 (R := IsR C) (R2 := IsR C) (fun q => q.1 + q.2) sc_sadd.nd (ip_zipT A.zip (eg_place S (eg_var 0 rfl g1)) (eg_place S (eg_var 1 rfl g2))) (by omega) (fun q hm x y H4 e4 rx ry s2' H0 Cc cl fp => ?_) (fun _ _ _ _ _ => pg_tup rfl (pgs_cons (pg_name sc_sadd.nd rfl (Or.inl rfl)) (pgs_cons (pg_name sc_sadd.nd rfl (Or.inl rfl)) pgs_nil)))
    have zm := List.of_mem_zip (show (q.1, q.2) ∈ s1.ps.zip s2.ps from hm)
    exact eg_rop D2 R (hr.mono (by decide)) ((b1.2 _ zm.1).mono (by decide)) ((b2.2 _ zm.2).mono (by decide)) (eg_var 2 rfl rx) (eg_var 3 rfl ry)
theorem ok_ssub (A : Free mg) (R : RatC K mg C) (S : StepC K mg CS) (D1 : Cal P w K mg base "ask_other" 2 [] (SpEqAx CS C)) (D2 : OCal P w K mg base C dSub 5 (SpR2 C fun a b => a - b)) (D3 : KCal P w K mg base "Step" CS 6 [] (SpSInit CS C))
    (F : FnP K "__sub__" "Step.__sub__" sSSub [] f fd) : FnOk P w K mg base CX0 8 f fd ["self", "other"] (SpSSub CS C) := by
  refine fn_pure F sc_ssub (fun _ => rfl) fun t cdv Ar outer s H E vs Q hr ha hq => ?_
  obtain ⟨⟨s1, s2⟩, b1, b2, ax, hl⟩ := t
  obtain ⟨v, r, rfl, hv, v2, r2, rfl, hv2, hr2⟩ := ha
  cases (show r2 = [] from hr2)
  have m1 : Mono (IsStep CS C s1) := inferInstance
  have m2 : Mono (IsStep CS C s2) := inferInstance
  refine b_expr (P := IsV .non) ?_ fun _ H2 e2 _ => ?_
  · exact eg_callP (⟨(s1, s2), hl⟩ : {t : StepV × StepV // t.1.ps.length = t.2.ps.length}) D1 (hr.mono (by decide)) (ag_cons (eg_var 0 rfl hv) (ag_cons (eg_var 1 rfl hv2) ag_nil))
  have g1 := m1.up e2 hv
  have g2 := m2.up e2 hv2
  have ln : (s1.ps.zip s2.ps).length ≤ 3 := by
    rw [List.length_zip]
    have : s1.ps.length ≤ 3 := ax.2
    omega
  refine b_ret (P := IsStep CS C (subS s1 s2)) ?_ fun v5 H5 e5 h5 => hq v5 H5 (e2.trans e5) h5
  refine eg_mkStep D3 hr ((smS_sub b1 b2).mono (by decide)) (ax_zip ax hl) ?_ ?_
  · exact eg_rop D2 R (hr.mono (by decide)) (b1.1.mono (by decide)) (b2.1.mono (by decide)) (eg_time S (eg_var 0 rfl g1)) (eg_time S (eg_var 1 rfl g2))
  · refine eg_lc2 2 3 (R := IsR C) (R2 := IsR C) (fun q => q.1 - q.2) sc_ssub.nd (ip_zipT A.zip (eg_place S (eg_var 0 rfl g1)) (eg_place S (eg_var 1 rfl g2))) (by omega) (fun q hm x y H4 e4 rx ry s2' H0 Cc cl fp => ?_) (fun _ _ _ _ _ => pg_tup rfl (pgs_cons (pg_name sc_ssub.nd rfl (Or.inl rfl)) (pgs_cons (pg_name sc_ssub.nd rfl (Or.inl rfl)) pgs_nil)))
    have zm := List.of_mem_zip (show (q.1, q.2) ∈ s1.ps.zip s2.ps from hm)
    exact eg_rop D2 R (hr.mono (by decide)) ((b1.2 _ zm.1).mono (by decide)) ((b2.2 _ zm.2).mono (by decide)) (eg_var 2 rfl rx) (eg_var 3 rfl ry)
abbrev MulA := {t : StepV × RI // SmS 340 t.1 ∧ Sm 340 t.2.val ∧ AxS t.1}
abbrev SpSMul (CS C : Addr) : Sp := PSp (fun t : MulA => [IsStep CS C t.1.1, IsRI C t.1.2]) fun t => IsStep CS C (mulS t.1.1 t.1.2.val)
theorem ok_smul (A : Free mg) (R : RatC K mg C) (S : StepC K mg CS) (D1 : Cal P w K mg base "asked_ratio" 6 [] (SpAsked C)) (D2 : OCal P w K mg base C dMul 5 (SpR2 C fun a b => a * b)) (D3 : KCal P w K mg base "Step" CS 6 [] (SpSInit CS C))
    (F : FnP K "__mul__" "Step.__mul__" sSMul [] f fd) : FnOk P w K mg base CX0 8 f fd ["self", "other"] (SpSMul CS C) := by
  refine fn_pure F sc_smul (fun _ => rfl) fun t cdv Ar outer s H E vs Q hr ha hq => ?_
  obtain ⟨⟨s1, x⟩, b1, b2, ax⟩ := t
  obtain ⟨v, r, rfl, hv, v2, r2, rfl, hv2, hr2⟩ := ha
  cases (show r2 = [] from hr2)
  have m1 : Mono (IsStep CS C s1) := inferInstance
  refine b_asg (P := IsR C x.val) 2 sc_smul.nd ?_ fun v3 H2 e2 h3 => ?_
  · exact eg_callP (x, ("ratio" : Str)) D1 (hr.mono (by decide)) (ag_cons (eg_var 1 rfl hv2) (ag_cons eg_str ag_nil))
  have g1 := m1.up e2 hv
  have ln : s1.ps.length ≤ 3 := ax.2
  refine b_ret (P := IsStep CS C (mulS s1 x.val)) ?_ fun v5 H5 e5 h5 => hq v5 H5 (e2.trans e5) h5
  refine eg_mkStep D3 hr ((smS_mul b1 b2).mono (by decide)) (ax_map ax) ?_ ?_
  · exact eg_rop D2 R (hr.mono (by decide)) (b1.1.mono (by decide)) (b2.mono (by decide)) (eg_time S (eg_var 0 rfl g1)) (eg_var 2 rfl h3)
  · refine eg_lc 3 (R := IsR C) (fun q => q * x.val) sc_smul.nd (ip_tup (eg_place S (eg_var 0 rfl g1))) (by omega) (fun q hm u H4 e4 ru s2' H0 Cc cl fp => ?_) (fun _ _ _ _ _ => pg_name sc_smul.nd rfl (Or.inl rfl))
    exact eg_rop D2 R (hr.mono (by decide)) ((b1.2 _ hm).mono (by decide)) (b2.mono (by decide)) (eg_var 3 rfl ru) (eg_var 2 rfl (Mono.up e4 h3))
abbrev SpSNeg (CS C : Addr) : Sp := PSp (fun t : {s : StepV // SmS 340 s ∧ AxS s} => [IsStep CS C t.1]) fun t => IsStep CS C (negS t.1)
theorem ok_sneg (S : StepC K mg CS) (D2 : OCal P w K mg base C "__neg__" 5 (SpRNeg C)) (D3 : KCal P w K mg base "Step" CS 6 [] (SpSInit CS C)) (F : FnP K "__neg__" "Step.__neg__" sSNeg [] f fd) : FnOk P w K mg base CX0 8 f fd ["self"] (SpSNeg CS C) := by
  refine fn_pure F sc_sneg (fun _ => rfl) fun t cdv Ar outer s H E vs Q hr ha hq => ?_
  obtain ⟨s1, b1, ax⟩ := t
  obtain ⟨v, r, rfl, hv, hr2⟩ := ha
  cases (show r = [] from hr2)
  have ln : s1.ps.length ≤ 3 := ax.2
  refine b_ret (P := IsStep CS C (negS s1)) ?_ fun v5 H5 e5 h5 => hq v5 H5 e5 h5
  refine eg_mkStep D3 hr ((smS_neg b1).mono (by decide)) (ax_map ax) ?_ ?_
  · exact eg_rneg D2 (hr.mono (by decide)) (b1.1.mono (by decide)) (eg_time S (eg_var 0 rfl hv))
  · refine eg_lc 1 (R := IsR C) (fun q => -q) sc_sneg.nd (ip_tup (eg_place S (eg_var 0 rfl hv))) (show s1.ps.length ≤ 1000000 by omega) (fun q hm u H4 e4 ru s2' H0 Cc cl fp => ?_) (fun _ _ _ _ _ => pg_name sc_sneg.nd rfl (Or.inl rfl))
    exact eg_rneg D2 (hr.mono (by decide)) ((b1.2 _ hm).mono (by decide)) (eg_var 1 rfl ru)
/-- == of two equal steps -/
abbrev SpSEq (CS C : Addr) : Sp := PSp (fun s : StepV => [IsStep CS C s, IsStep CS C s]) fun _ => IsB true
theorem ok_seq (A : Free mg) (R : RatC K mg C) (S : StepC K mg CS) (D1 : OCal P w K mg base C "__eq__" 2 (SpREq C)) (F : FnP K "__eq__" "Step.__eq__" sSEq [] f fd) : FnOk P w K mg base CX0 8 f fd ["self", "other"] (SpSEq CS C) := by
  refine fn_pure F sc_seq (fun _ => rfl) fun s1 cdv Ar outer s H E vs Q hr ha hq => ?_
  obtain ⟨v, r, rfl, hv, v2, r2, rfl, hv2, hr2⟩ := ha
  cases (show r2 = [] from hr2)
  refine b_ret (P := IsB true) ?_ fun v5 H5 e5 h5 => hq v5 H5 e5 h5
  refine eg_and (bb := true) (bc := true) ?_ fun _ => eg_and (bb := true) (bc := true) ?_ fun _ => eg_one ?_
  · exact eg_isi (P1 := IsStep CS C s1) A.isi (eg_var 1 rfl hv2) (eg_cls S.mg) (.own _) (ty_at S.isi isS_at kit_self)
  · refine eg_cm (cg_eqO (P1 := IsR C s1.t) (P2 := IsR C s1.t) ((s1.t, .inl s1.t) : Rat × RI) D1 (hr.mono (by decide)) (eg_time S (eg_var 0 rfl hv)) (eg_time S (eg_var 1 rfl hv2)) isR_at isR_at (fun x y H h1 h2 => ⟨x, _, rfl, h1, y, _, rfl, h2, rfl⟩) ?_)
    exact decide_eq_true rfl
  · exact eg_cm (cg_tupR D1 (hr.mono (by decide)) (eg_place S (eg_var 0 rfl hv)) (eg_place S (eg_var 1 rfl hv2)))
end
end G
set_option maxHeartbeats 4000000
namespace G
open PySem PySem.Spec PyProof.Rows L2 Evl
/-! ### the law's own steps -/
structure Pl where
  n : Int
  ns : List Int
  b : Int
structure Pl.ok (k : Nat) (p : Pl) : Prop where
  l1 : 1 ≤ p.ns.length
  l2 : p.ns.length ≤ 3
  pos : 0 < p.b
  bb : p.b.natAbs < 2 ^ k
  bn : p.n.natAbs < 2 ^ k
  bs : ∀ x ∈ p.ns, x.natAbs < 2 ^ k
def IsPl (p : Pl) : Rep := TupOf [IsL IsI (p.n :: p.ns), IsI p.b]
instance {p : Pl} : Mono (IsPl p) := by unfold IsPl; infer_instance
def stepP (p : Pl) : StepV := ⟨Rat.divInt p.n p.b, p.ns.map fun x => Rat.divInt x p.b⟩
def timesI (n : Int) (ns : List Int) (m : Int) (ms : List Int) : Int := n * m - ((ns.zip ms).map fun q => q.1 * q.2).sum
def kindI (n s : Int) : Str := if s < 0 then "apart" else if n = 0 then "nothing" else if 0 < n then "forward" else "backward"
theorem pl_sm {k : Nat} {p : Pl} (h : p.ok k) : SmS k (stepP p) := ⟨sm_div h.pos h.bn h.bb, fun q hq => by
  obtain ⟨x, hx, rfl⟩ := List.mem_map.mp hq
  exact sm_div h.pos (h.bs x hx) h.bb⟩
theorem pl_ax {k : Nat} {p : Pl} (h : p.ok k) : AxS (stepP p) := by
  unfold AxS stepP
  rw [List.length_map]
  exact ⟨h.l1, h.l2⟩
theorem div_lt {a b : Int} (hb : 0 < b) : Rat.divInt a b < 0 ↔ a < 0 := by
  have h := Rat.divInt_nonneg_iff_of_pos_right (a := a) hb
  have h2 : Rat.divInt a b < 0 ↔ ¬ 0 ≤ Rat.divInt a b := Rat.not_le.symm
  rw [h2, h]
  omega
theorem div_zero {a b : Int} (hb : 0 < b) : Rat.divInt a b = 0 ↔ a = 0 := by
  rw [Rat.divInt_eq_div]
  constructor
  · intro h
    have hz : ((b : Int) : Rat) ≠ 0 := by
      intro z
      have : b = 0 := by exact_mod_cast z
      omega
    have := Rat.div_mul_cancel (a := (a : Rat)) hz
    rw [h, Rat.zero_mul] at this
    have : (a : Rat) = 0 := this.symm
    exact_mod_cast this
  · intro h
    rw [h]
    show ((0 : Int) : Rat) / _ = 0
    rw [Rat.div_def, show ((0 : Int) : Rat) = 0 from rfl, Rat.zero_mul]
theorem div_gt {a b : Int} (hb : 0 < b) : 0 < Rat.divInt a b ↔ 0 < a := by
  have h1 := div_lt (a := a) hb
  have h2 := div_zero (a := a) hb
  have h3 : 0 < Rat.divInt a b ↔ ¬ Rat.divInt a b < 0 ∧ ¬ Rat.divInt a b = 0 := by grind
  rw [h3, h1, h2]
  omega
theorem kind_eq {n t b : Int} (hb : 0 < b) : kindQ (Rat.divInt n b) (Rat.divInt t (b * b)) = kindI n t := by
  have hbb : 0 < b * b := Int.mul_pos hb hb
  have e1 := div_lt (a := t) hbb
  have e2 := div_zero (a := n) hb
  have e3 := div_gt (a := n) hb
  unfold kindQ kindI
  simp only [e1, e2, e3]
theorem dd_mul {a b c d : Int} : Rat.divInt a b * Rat.divInt c d = Rat.divInt (a * c) (b * d) := Rat.divInt_mul_divInt a c
theorem dd_add {a b c d : Int} (hb : 0 < b) (hd : 0 < d) : Rat.divInt a b + Rat.divInt c d = Rat.divInt (a * d + c * b) (b * d) := Rat.divInt_add_divInt a c (by omega) (by omega)
theorem dd_sub {a b c d : Int} (hb : 0 < b) (hd : 0 < d) : Rat.divInt a b - Rat.divInt c d = Rat.divInt (a * d - c * b) (b * d) := Rat.divInt_sub_divInt a c (by omega) (by omega)
theorem dd_neg {a b : Int} : -Rat.divInt a b = Rat.divInt (-a) b := Rat.neg_divInt a b
theorem dd_addS {a b c : Int} (hb : 0 < b) : Rat.divInt a b + Rat.divInt c b = Rat.divInt (a + c) b := by
  rw [dd_add hb hb, ← Int.add_mul, Rat.divInt_mul_right (by omega)]
theorem dd_subS {a b c : Int} (hb : 0 < b) : Rat.divInt a b - Rat.divInt c b = Rat.divInt (a - c) b := by
  rw [dd_sub hb hb, ← Int.sub_mul, Rat.divInt_mul_right (by omega)]
theorem sumQ_div {b : Int} (hb : 0 < b) : ∀ ns : List Int, sumQ (ns.map fun x => Rat.divInt x b) = Rat.divInt ((ns.zip ns).map fun q => q.1 * q.2).sum (b * b)
  | [] => by
    show (0 : Rat) = Rat.divInt 0 _
    rw [Rat.zero_divInt]
  | n :: ns => by
    show Rat.divInt n b * Rat.divInt n b + sumQ (ns.map fun x => Rat.divInt x b) = Rat.divInt (n * n + ((ns.zip ns).map fun q => q.1 * q.2).sum) (b * b)
    rw [sumQ_div hb ns, dd_mul, dd_addS (Int.mul_pos hb hb)]
theorem sq_stepP {p : Pl} (hb : 0 < p.b) : sqQ (stepP p).t (stepP p).ps = Rat.divInt (timesI p.n p.ns p.n p.ns) (p.b * p.b) := by
  unfold sqQ stepP timesI
  dsimp only
  rw [sumQ_div hb, dd_mul, dd_subS (Int.mul_pos hb hb)]
theorem pow_4 (k : Nat) : 2 ^ (k + 2) = 4 * 2 ^ k := by rw [Nat.pow_add]; omega
theorem times_bits {k : Nat} {n m : Int} {ns ms : List Int} (h1 : n.natAbs < 2 ^ k) (h2 : m.natAbs < 2 ^ k) (h3 : ∀ x ∈ ns, x.natAbs < 2 ^ k) (h4 : ∀ x ∈ ms, x.natAbs < 2 ^ k) (hl : ns.length ≤ 3) : (timesI n ns m ms).natAbs < 2 ^ (k + k + 2) := by
  have e1 := b_mul h1 h2
  have e2 := sum_bits (k := k + k) (m := 3) ((ns.zip ms).map fun q => q.1 * q.2) (fun x hx => by
    obtain ⟨q, hq, rfl⟩ := List.mem_map.mp hx
    have zm := List.of_mem_zip (show (q.1, q.2) ∈ ns.zip ms from hq)
    exact b_mul (h3 _ zm.1) (h4 _ zm.2)) (by rw [List.length_map, List.length_zip]; omega)
  rw [pow_4]
  unfold timesI
  omega
section
variable {X : Cx} {σ : L2.St} {H : Hp} {pos p : Pos} {ea eb : Expr} {C : Addr} {a b : Int} {q : Rat}
theorem eg_mkRat (D : KCal X.prog X.w X.K X.mg X.base "Ratio" C 2 [] (SpRInit C)) (hr : Room 3 X.A) (h1 : 0 < b) (h2 : b.natAbs < 2 ^ 6000) (ha : EG X ea σ H (IsI a)) (hb : EG X eb σ H (IsI b)) (hg : Gl X "Ratio" := by rfl) (he : starEach [ea, eb] X.env = (false, eval ea X.env) :: starEach [eb] X.env := by rfl)
    (he2 : starEach [eb] X.env = (false, eval eb X.env) :: starEach [] X.env := by rfl) (hpl : (backTo pos (starEach [eb] X.env)).any (·.1) = false := by rfl) : EG X (.Call (.Name "Ratio" p) [ea, eb] [] pos) σ H (IsR C (Rat.divInt a b)) :=
  eg_make (⟨(a, b), h1, h2⟩ : PRI) D hr (ag_cons ha (ag_cons hb ag_nil he2) he) inferInstance (fun vs H4 h => by rw [List.append_nil]; exact h) hg (by decide) he hpl fun v H h => h
end
section
variable {P : Program} {w : World} {K : PySem.W.Frag} {mg : Str → Option Value} {base : Heap} {f : Addr} {fd : FuncData} {C CS : Addr}
/-! ### _law_made -/
abbrev SpMade (CS C : Addr) : Sp := PSp (fun p : {p : Pl // p.ok 600} => [IsPl p.1]) fun p => IsStep CS C (stepP p.1)
theorem sc_made : FnScope ["_law_plain_here", "_law_numbers", "_law_bottom", "_law_number"] ["_law_plain_here"] (defScope (top 47)) := ⟨rfl, rfl, rfl, by decide +kernel, rfl, by decide +kernel, by decide +kernel⟩
theorem ok_made (D1 : KCal P w K mg base "Ratio" C 2 [] (SpRInit C)) (D2 : KCal P w K mg base "Step" CS 6 [] (SpSInit CS C)) (F : FnP K "_law_made" "_law_made" (top 47) [] f fd) : FnOk P w K mg base CX0 8 f fd ["_law_plain_here"] (SpMade CS C) := by
  refine fn_pure F sc_made (fun _ => rfl) fun t cdv Ar outer s H E vs Q hr ha hq => ?_
  obtain ⟨p, hp⟩ := t
  obtain ⟨v, r, rfl, hv, hr2⟩ := ha
  cases (show r = [] from hr2)
  refine b_two (P1 := IsL IsI (p.n :: p.ns)) (P2 := IsI p.b) 1 2 sc_made.nd (eg_var (P := IsPl p) 0 rfl hv) fun v1 v2 H1 e1 h1 h2 => ?_
  refine b_ret (P := IsStep CS C (stepP p)) ?_ fun v5 H5 e5 h5 => hq v5 H5 (e1.trans e5) h5
  have l2 := hp.l2
  have b6 : p.b.natAbs < 2 ^ 6000 := lt6 hp.bb (by decide)
  refine eg_mkStep D2 hr ((pl_sm hp).mono (by decide)) (pl_ax hp) ?_ ?_
  · refine eg_mkRat D1 (hr.mono (by decide)) hp.pos b6 ?_ (eg_var 2 rfl h2)
    exact eg_ixL (R := IsI) (as := p.n :: p.ns) (n := 0) (x := p.n) (eg_var 1 rfl h1) eg_int rfl
  · refine eg_lc 3 (R := IsI) (as := p.ns) (fun x => Rat.divInt x p.b) sc_made.nd (ip_list ?_) (by omega) (fun a hm u H4 e4 ra s2' H0 Cc cl fp => ?_) (fun _ _ _ _ _ => pg_name sc_made.nd rfl (Or.inl rfl))
    · exact eg_from (R := IsI) (as := p.n :: p.ns) (n := 1) (eg_var 1 rfl h1) eg_int
    · exact eg_mkRat D1 (hr.mono (by decide)) hp.pos b6 (eg_var 3 rfl ra) (eg_var 2 rfl h2)
/-! ### _law_is -/
abbrev IsA := {t : Rat × Int × Int // Sm 2500 t.1 ∧ t.2.1.natAbs < 2 ^ 5000 ∧ 0 < t.2.2 ∧ t.2.2.natAbs < 2 ^ 5000 ∧ t.1 = Rat.divInt t.2.1 t.2.2}
abbrev SpLIs (C : Addr) : Sp := PSp (fun t : IsA => [IsR C t.1.1, IsI t.1.2.1, IsI t.1.2.2]) fun _ => IsB true
theorem sc_lis : FnScope ["_law_told", "_law_top", "_law_bottom"] ["_law_told", "_law_top", "_law_bottom"] (defScope (top 48)) := ⟨rfl, rfl, rfl, by decide +kernel, rfl, by decide +kernel, by decide +kernel⟩
theorem ok_lis (A : Free mg) (R : RatC K mg C) (F : FnP K "_law_is" "_law_is" (top 48) [] f fd) : FnOk P w K mg base CX0 1 f fd ["_law_told", "_law_top", "_law_bottom"] (SpLIs C) := by
  refine fn_pure F sc_lis (fun _ => rfl) fun t cdv Ar outer s H E vs Q hr ha hq => ?_
  obtain ⟨⟨q, a, b⟩, h1, h2, h3, h4, h5⟩ := t
  obtain ⟨v, r, rfl, hv, v2, r2, rfl, hv2, v3, r3, rfl, hv3, hr2⟩ := ha
  cases (show r3 = [] from hr2)
  refine b_ret (P := IsB true) ?_ fun v5 H5 e5 h5 => hq v5 H5 e5 h5
  have hb : 0 < b := h3
  have he : q.num * b = a * q.den := by
    have h5' : q = Rat.divInt a b := h5
    have e : Rat.divInt q.num q.den = Rat.divInt a b := by rw [Rat.num_divInt_den]; exact h5'
    exact (Rat.divInt_eq_divInt_iff (by have := q_dpos q; omega) (by omega)).mp e
  refine eg_and (bb := true) (bc := true) ?_ fun _ => eg_and (bb := true) (bc := true) ?_ fun _ => eg_one ?_
  · exact eg_isi (P1 := IsR C q) A.isi (eg_var 0 rfl hv) (eg_cls R.mg) (.own _) (ty_at R.isi isR_at kit_self)
  · exact eg_cm (CG.is (cg_gt (eg_bot (q := q) R (eg_var 0 rfl hv)) eg_int) (decide_eq_true (q_dpos q)))
  · refine eg_cm (CG.is (cg_eqI (eg_mul ?_ (eg_top (q := q) R (eg_var 0 rfl hv)) (eg_var (P := IsI b) 2 rfl hv3)) (eg_mul ?_ (eg_var (P := IsI a) 1 rfl hv2) (eg_bot (q := q) R (eg_var 0 rfl hv)))) (decide_eq_true he))
    · exact w_mul h1.1 h4 (by decide) (by decide) (by decide)
    · exact w_mul h2 (sm_den h1) (by decide) (by decide) (by decide)
/-! ### _law_times, _law_kind -/
abbrev TimA := {t : (Int × List Int) × (Int × List Int) // t.1.1.natAbs < 2 ^ 600 ∧ t.2.1.natAbs < 2 ^ 600 ∧ (∀ x ∈ t.1.2, x.natAbs < 2 ^ 600) ∧ (∀ x ∈ t.2.2, x.natAbs < 2 ^ 600) ∧ t.1.2.length ≤ 3}
abbrev SpTimes : Sp := PSp (fun t : TimA => [IsL IsI (t.1.1.1 :: t.1.1.2), IsL IsI (t.1.2.1 :: t.1.2.2)]) fun t => IsI (timesI t.1.1.1 t.1.1.2 t.1.2.1 t.1.2.2)
theorem sc_times : FnScope ["_law_one", "_law_other", "_law_mine", "_law_its"] ["_law_one", "_law_other"] (defScope (top 49)) := ⟨rfl, rfl, rfl, by decide +kernel, rfl, by decide +kernel, by decide +kernel⟩
theorem ok_times (A : Free mg) (F : FnP K "_law_times" "_law_times" (top 49) [] f fd) : FnOk P w K mg base CX0 1 f fd ["_law_one", "_law_other"] SpTimes := by
  refine fn_pure F sc_times (fun _ => rfl) fun t cdv Ar outer s H E vs Q hr ha hq => ?_
  obtain ⟨⟨⟨n, ns⟩, m, ms⟩, h1, h2, h3, h4, h5⟩ := t
  obtain ⟨v, r, rfl, hv, v2, r2, rfl, hv2, hr2⟩ := ha
  cases (show r2 = [] from hr2)
  replace h5 : ns.length ≤ 3 := h5
  replace h3 : ∀ x ∈ ns, x.natAbs < 2 ^ 600 := h3
  replace h4 : ∀ x ∈ ms, x.natAbs < 2 ^ 600 := h4
  refine b_ret (P := IsI (timesI n ns m ms)) ?_ fun v5 H5 e5 h5 => hq v5 H5 e5 h5
  refine eg_sub (eg_mul (w_mul h1 h2 (by decide) (by decide) (by decide)) ?_ ?_) (eg_sum A.sum rfl ?_)
  · exact eg_ixL (R := IsI) (as := n :: ns) (n := 0) (x := n) (eg_var 0 rfl hv) eg_int rfl
  · exact eg_ixL (R := IsI) (as := m :: ms) (n := 0) (x := m) (eg_var 1 rfl hv2) eg_int rfl
  · refine eg_lc2 2 3 (R := IsI) (R2 := IsI) (qs := ns.zip ms) (fun q => q.1 * q.2) sc_times.nd (ip_zip A.zip ?_ ?_) (by rw [List.length_zip]; omega) (fun q hm x y H4 e4 rx ry s2' H0 Cc cl fp => ?_) (fun _ _ _ _ _ => pg_tup rfl (pgs_cons (pg_name sc_times.nd rfl (Or.inl rfl)) (pgs_cons (pg_name sc_times.nd rfl (Or.inl rfl)) pgs_nil)))
    · exact eg_from (R := IsI) (as := n :: ns) (n := 1) (eg_var 0 rfl hv) eg_int
    · exact eg_from (R := IsI) (as := m :: ms) (n := 1) (eg_var 1 rfl hv2) eg_int
    · have zm := List.of_mem_zip (show (q.1, q.2) ∈ ns.zip ms from hm)
      exact eg_mul (w_mul (h3 _ zm.1) (h4 _ zm.2) (by decide) (by decide) (by decide)) (eg_var 2 rfl rx) (eg_var 3 rfl ry)
abbrev KinA := {t : Int × List Int // t.1.natAbs < 2 ^ 600 ∧ (∀ x ∈ t.2, x.natAbs < 2 ^ 600) ∧ t.2.length ≤ 3}
abbrev SpLKind : Sp := PSp (fun t : KinA => [IsL IsI (t.1.1 :: t.1.2)]) fun t => IsS (kindI t.1.1 (timesI t.1.1 t.1.2 t.1.1 t.1.2))
theorem sc_lkind : FnScope ["_law_numbers", "_law_square"] ["_law_numbers"] (defScope (top 50)) := ⟨rfl, rfl, rfl, by decide +kernel, rfl, by decide +kernel, by decide +kernel⟩
theorem ok_lkind (D1 : Cal P w K mg base "_law_times" 1 [] SpTimes) (F : FnP K "_law_kind" "_law_kind" (top 50) [] f fd) : FnOk P w K mg base CX0 2 f fd ["_law_numbers"] SpLKind := by
  refine fn_pure F sc_lkind (fun _ => rfl) fun t cdv Ar outer s H E vs Q hr ha hq => ?_
  obtain ⟨⟨n, ns⟩, h1, h3, h5⟩ := t
  obtain ⟨v, r, rfl, hv, hr2⟩ := ha
  cases (show r = [] from hr2)
  have mL : Mono (IsL IsI (n :: ns)) := inferInstance
  refine b_asg (P := IsI (timesI n ns n ns)) 1 sc_lkind.nd ?_ fun v1 H1 e1 g1 => ?_
  · exact eg_callP (⟨((n, ns), (n, ns)), h1, h1, h3, h3, h5⟩ : TimA) D1 hr (ag_cons (eg_var 0 rfl hv) (ag_cons (eg_var 0 rfl hv) ag_nil))
  generalize hT : timesI n ns n ns = T at *
  have fin : ∀ v H', Ex H H' → IsS (kindI n T) v H' → Q v H' := fun v H' e h => hq v H' e h
  refine b_if (bb := decide (T < 0)) ?_ (fun h0 H2 e2 => ?_) fun h0 H2 e2 => b_nil ?_
  · exact tg_cm (cg_lt (eg_var 1 rfl g1) eg_int)
  · refine b_ret eg_str fun v H3 e3 h => fin v H3 ((e1.trans e2).trans e3) ?_
    show v = _
    unfold kindI
    rw [if_pos (of_decide_eq_true h0)]
    exact h
  have f0 := of_decide_eq_false h0
  have ix : ∀ {pp : Pos} {pp2 : Pos} {j : Nat} {p3 : Pos}, EG (ctx P w K mg base ["_law_numbers", "_law_square"] "_law_kind" (defScope (top 50)) f cdv Ar outer s H E) (.Subscript (.Name "_law_numbers" pp) (.Constant (.int 0) j pp2) p3) ((start ["_law_numbers", "_law_square"] [v]).set 1 (some v1)) H2 (IsI n) :=
    eg_ixL (R := IsI) (as := n :: ns) (n := 0) (x := n) (eg_var 0 rfl (mL.up (e1.trans e2) hv)) eg_int rfl
  refine b_ret (P := IsS (kindI n T)) ?_ fun v H3 e3 h => fin v H3 ((e1.trans e2).trans e3) h
  unfold kindI
  rw [if_neg f0]
  refine eg_if (bb := decide (n = 0)) (tg_cm (cg_eqI ix eg_int)) (fun h => ?_) fun h => ?_
  · rw [if_pos (of_decide_eq_true h)]
    exact eg_str
  rw [if_neg (of_decide_eq_false h)]
  refine eg_if (bb := decide (0 < n)) (tg_cm (cg_gt ix eg_int)) (fun h => ?_) fun h => ?_
  · rw [if_pos (of_decide_eq_true h)]
    exact eg_str
  · rw [if_neg (of_decide_eq_false h)]
    exact eg_str
end
end G
set_option maxHeartbeats 4000000
namespace G
open PySem PySem.Spec PyProof.Rows L2 Evl
section
variable {P : Program} {w : World} {K : PySem.W.Frag} {mg : Str → Option Value} {base : Heap} {f : Addr} {fd : FuncData} {C CS : Addr}
/-! ### _law_step_right -/
abbrev SpRight (CS C : Addr) : Sp := PSp (fun p : {p : Pl // p.ok 300} => [IsStep CS C (stepP p.1), IsL IsI (p.1.n :: p.1.ns), IsI p.1.b]) fun _ => IsB true
theorem sc_right : FnScope ["_law_step", "_law_numbers", "_law_bottom", "_law_at", "_law_number"] ["_law_step", "_law_numbers", "_law_bottom"] (defScope (top 51)) := ⟨rfl, rfl, rfl, by decide +kernel, rfl, by decide +kernel, by decide +kernel⟩
theorem bits5 {i : Int} {n : Nat} (h : i.natAbs < 2 ^ n) (hn : n ≤ 5000) : i.natAbs < 2 ^ 5000 := b_up h hn
theorem ok_right (A : Free mg) (R : RatC K mg C) (S : StepC K mg CS) (D1 : Cal P w K mg base "_law_is" 1 [] (SpLIs C)) (D2 : Cal P w K mg base "_law_times" 1 [] SpTimes) (D3 : Cal P w K mg base "_law_kind" 2 [] SpLKind) (F : FnP K "_law_step_right" "_law_step_right" (top 51) [] f fd) :
    FnOk P w K mg base CX0 3 f fd ["_law_step", "_law_numbers", "_law_bottom"] (SpRight CS C) := by
  refine fn_pure F sc_right (fun _ => rfl) fun t cdv Ar outer s H E vs Q hr ha hq => ?_
  obtain ⟨p, hp⟩ := t
  obtain ⟨v, r, rfl, hv, v2, r2, rfl, hv2, v3, r3, rfl, hv3, hr2⟩ := ha
  cases (show r3 = [] from hr2)
  replace hv : IsStep CS C (stepP p) v H := hv
  replace hv2 : IsL IsI (p.n :: p.ns) v2 H := hv2
  replace hv3 : IsI p.b v3 H := hv3
  have mS : Mono (IsStep CS C (stepP p)) := inferInstance
  have mL : Mono (IsL IsI (p.n :: p.ns)) := inferInstance
  have l2 := hp.l2
  have sm := pl_sm hp
  have lp : (stepP p).ps.length = p.ns.length := List.length_map ..
  have bt := times_bits hp.bn hp.bn hp.bs hp.bs hp.l2
  have b6 : ∀ x ∈ p.ns, x.natAbs < 2 ^ 600 := fun x hx => b_up (hp.bs x hx) (by decide)
  refine b_skip ?_ fun H1 e1 => ?_
  · refine tg_w (wg_or (bb := false) (bc := false) ?_ fun _ => wg_or (bb := false) (bc := false) ?_ fun _ => wg_or1 ?_)
    · exact tg_not (bb := true) (tg_val (eg_isi (P1 := IsStep CS C (stepP p)) A.isi (eg_var 0 rfl hv) (eg_cls S.mg) (.own _) (ty_at S.isi isS_at kit_self)))
    · refine tg_not (bb := true) (tg_val (eg_callP (⟨((stepP p).t, p.n, p.b), sm.1.mono (by decide), bits5 hp.bn (by decide), hp.pos, bits5 hp.bb (by decide), rfl⟩ : IsA) D1 (hr.mono (by decide)) (ag_cons (eg_time S (eg_var 0 rfl hv)) (ag_cons ?_ (ag_cons (eg_var 2 rfl hv3) ag_nil)))))
      exact eg_ixL (R := IsI) (as := p.n :: p.ns) (n := 0) (x := p.n) (eg_var 1 rfl hv2) eg_int rfl
    · refine tg_cm (CG.is (cg_neI (eg_lenT (R := IsR C) (as := (stepP p).ps) A.len (eg_place S (eg_var 0 rfl hv))) (eg_sub (eg_len (R := IsI) (as := p.n :: p.ns) A.len (eg_var 1 rfl hv2)) eg_int)) ?_)
      have e : ((stepP p).ps.length : Int) = ((p.n :: p.ns).length : Int) - 1 := by
        rw [lp, List.length_cons]
        omega
      rw [decide_eq_true e]
      rfl
  have g1 := mS.up e1 hv
  have g2 := mL.up e1 hv2
  refine b_skip ?_ fun H2 e2 => ?_
  · refine tg_cm (CG.is (cg_neNil (cs := []) hr ?_ (eg_lst ag_nil)) rfl)
    refine eg_lc2T 3 4 (R := fun i : Nat => IsI (i : Int)) (R2 := IsI) (S := fun i : Nat => IsI (i : Int)) (qs := (List.range p.ns.length).zip p.ns) (fun q => q.1) (fun _ => false) sc_right.nd (ip_enum (R := IsI) (as := p.ns) A.enum ?_) (by rw [List.length_zip]; omega) (fun q hm x y H4 e4 rx ry s2' H0 Cc cl fp => ?_) (fun q hm z => nomatch z) (fun _ _ _ _ _ => pg_tup rfl (pgs_cons (pg_name sc_right.nd rfl (Or.inl rfl)) (pgs_cons (pg_name sc_right.nd rfl (Or.inl rfl)) pgs_nil))) (hp := ?_)
    · exact eg_from (R := IsI) (as := p.n :: p.ns) (n := 1) (eg_var 1 rfl g2) eg_int
    · obtain ⟨i, hi⟩ := List.mem_iff_getElem?.mp hm
      rw [List.getElem?_zip_eq_some] at hi
      obtain ⟨z1, z2⟩ := hi
      have hil : i < p.ns.length := (List.getElem?_eq_some_iff.mp z2).1
      have e : q.1 = i := by
        rw [range_get hil] at z1
        exact (Option.some.inj z1).symm
      have hx : (stepP p).ps[q.1]? = some (Rat.divInt q.2 p.b) := by
        rw [e]
        show (p.ns.map fun x => Rat.divInt x p.b)[i]? = _
        rw [List.getElem?_map, z2]
        rfl
      have mem : q.2 ∈ p.ns := List.mem_of_getElem? z2
      refine tg_not (bb := true) (tg_val (eg_callP (⟨(Rat.divInt q.2 p.b, q.2, p.b), (sm_div hp.pos (hp.bs _ mem) hp.bb).mono (by decide), bits5 (hp.bs _ mem) (by decide), hp.pos, bits5 hp.bb (by decide), rfl⟩ : IsA) D1 (hr.mono (by decide)) (ag_cons ?_ (ag_cons (eg_var 4 rfl ry) (ag_cons (eg_var 2 rfl hv3) ag_nil)))))
      exact eg_ixT (R := IsR C) (as := (stepP p).ps) (n := q.1) (x := Rat.divInt q.2 p.b) (eg_place S (eg_var 0 rfl (mS.up e4 g1))) (eg_var 3 rfl rx) hx
    · intro v H h
      have ef : ((List.range p.ns.length).zip p.ns).filter (fun _ => false) = [] := List.filter_eq_nil_iff.mpr fun _ _ z => nomatch z
      rw [ef] at h
      exact h
  have k1 := mS.up e2 g1
  have k2 := mL.up e2 g2
  refine b_ret (P := IsB true) ?_ fun v5 H5 e5 h5 => hq v5 H5 ((e1.trans e2).trans e5) h5
  refine eg_and (bb := true) (bc := true) ?_ fun _ => eg_one ?_
  · refine eg_callP (⟨(sqQ (stepP p).t (stepP p).ps, timesI p.n p.ns p.n p.ns, p.b * p.b), ?_, bits5 bt (by decide), Int.mul_pos hp.pos hp.pos, bits5 (b_mul hp.bb hp.bb) (by decide), sq_stepP hp.pos⟩ : IsA) D1 (hr.mono (by decide)) (ag_cons (eg_square S (eg_var 0 rfl k1)) (ag_cons ?_ (ag_cons ?_ ag_nil)))
    · rw [sq_stepP hp.pos]
      exact (sm_div (Int.mul_pos hp.pos hp.pos) bt (b_up (b_mul hp.bb hp.bb) (by decide))).mono (by decide)
    · exact eg_callP (⟨((p.n, p.ns), (p.n, p.ns)), b_up hp.bn (by decide), b_up hp.bn (by decide), b6, b6, hp.l2⟩ : TimA) D2 (hr.mono (by decide)) (ag_cons (eg_var 1 rfl k2) (ag_cons (eg_var 1 rfl k2) ag_nil))
    · exact eg_mul (w_mul hp.bb hp.bb (by decide) (by decide) (by decide)) (eg_var 2 rfl hv3) (eg_var 2 rfl hv3)
  · refine eg_cm (CG.is (cg_eqS (eg_kind S (eg_var 0 rfl k1)) (eg_callP (P := IsS (kindI p.n (timesI p.n p.ns p.n p.ns))) (⟨(p.n, p.ns), b_up hp.bn (by decide), b6, hp.l2⟩ : KinA) D3 (hr.mono (by decide)) (ag_cons (eg_var 1 rfl k2) ag_nil))) ?_)
    refine decide_eq_true ?_
    rw [sq_stepP hp.pos]
    exact kind_eq hp.pos
/-! ### _law_of, _law_plain -/
abbrev SpOfL {α : Type} (R : α → Rep) : Sp := PnSp 1 (fun as : {as : List α // 0 < as.length ∧ as.length ≤ 1000} => [IsL R as.1]) fun as v H => ∃ a ∈ as.1, R a v H
theorem sc_of : FnScope ["_law_sack_here", "_law_some"] ["_law_sack_here", "_law_some"] (defScope (top 44)) := ⟨rfl, rfl, rfl, by decide +kernel, rfl, by decide +kernel, by decide +kernel⟩
theorem qg_ixL {X : Cx} {α : Type} {R : α → Rep} [hR : ∀ a, Mono (R a)] {as : List α} {a b : Expr} {σ : L2.St} {H : Hp} {n m : Nat} {p c : Addr} {pos : Pos} (ha : EG X a σ H (IsL R as)) (hb : QG X p c b σ H n m (IsP fun i => 0 ≤ i ∧ i < as.length)) (hs : PlainIx b := by exact fun _ _ => rfl) :
    QG X p c (.Subscript a b pos) σ H n m (fun v H => ∃ x ∈ as, R x v H) :=
  fun H1 e1 hp Q q pins s I => (pe_ix ix_list pe_W pe_W hs).run pins s σ H1 Q I (qg_of ha H1 e1 hp _ fun v H2 e2 p2 hv => hb H2 (e1.trans e2) p2 _ fun u H3 e3 p3 ⟨i, h1, h2, h3⟩ => by
    obtain ⟨d, xs, q1, q2, q3⟩ := (inferInstance : Mono (IsL R as)).up e3 hv
    have hi : i.toNat < as.length := by omega
    obtain ⟨w, hw, rw⟩ := q3.get2 (List.getElem?_eq_getElem hi)
    refine ⟨d, xs, i, w, q1, h1, SqL.of (ex_hid1 _ _ q2), ?_, q w H3 (e2.trans e3) p3 ⟨_, List.getElem_mem hi, rw⟩⟩
    have : ((i.toNat : Nat) : Int) = i := by omega
    rw [← this]
    exact atI_nat hw)
theorem fn_pen {x qual : Str} {params : Arguments} {body : List Stmt} {scope : Scope} {dvs : List V} {kws : List (Str × V)} {N ps : List Str} {k : Nat} {α : Type} {kk : Nat} {Ps : α → List Rep} {Post : α → Rep} (F : FunD K x qual params body scope dvs kws f fd) (S : FnScope N ps scope) (hl : ∀ a, (Ps a).length + 1 = ps.length)
    (h : ∀ (t : α) cdv A outer s H E p c cs n args Q, Room k (A.deeper (envOfC qual scope s.heap.objs.size f cdv)) → Pen p c n H → n + kk ≤ 4000 → IsL IsI cs (.ref c) (hid H p) → cs.length ≤ 63 → Args (Ps t) args (hid H p) →
      (∀ v H', Ex (hid H p) (hid H' p) → Pen p c (n + kk) H' → Post t v (hid H' p) → Q v H') → BW (ctx P w K mg base N qual scope f cdv A outer s H E) body { nx := fun _ H' => Q .non H', rt := Q } (start N (.ref p :: args)) H) :
    FnOk P w K mg base CX0 (k + 1) f fd ps (PnSp kk Ps Post) :=
  fn_any F S (fun vs H Q E ⟨p, c, cs, n, t, args, h1, _, _, _, _, h2, _⟩ => by rw [h1, List.length_cons, args_len h2]; exact hl t) fun cdv A outer s H E vs Q hr ⟨p, c, cs, n, t, args, h1, h2, h3, h4, h5, h6, h7⟩ => by
    subst h1
    exact h t cdv A outer s H E p c cs n args Q hr h2 h3 h4 h5 h6 h7
theorem ok_of {α : Type} {R : α → Rep} [hR : ∀ a, Mono (R a)] (A : Free mg) (D1 : Cal P w K mg base "_law_take" 1 [] SpTake) (F : FnP K "_law_of" "_law_of" (top 44) [] f fd) : FnOk P w K mg base CX0 2 f fd ["_law_sack_here", "_law_some"] (SpOfL R) := by
  refine fn_pen F sc_of (fun _ => rfl) fun t cdv Ar outer s H E p c cs n args Q hr hp hn hc hcl ha hq => ?_
  obtain ⟨as, a1, a2⟩ := t
  obtain ⟨v, r, rfl, hv, hr2⟩ := ha
  cases (show r = [] from hr2)
  refine qb_ret (P := fun v H => ∃ a ∈ as, R a v H) (qg_ixL (R := R) (as := as) (eg_var 1 rfl hv) ?_) hp hq
  refine qg_pen (⟨(as.length : Int), by omega, by omega⟩ : Many) D1 (hr.mono (by decide)) hc hcl (by omega) (qa_cons (qg_of (eg_var 0 rfl rfl)) (qa_cons (qg_of (eg_len (R := R) A.len (eg_var 1 rfl hv))) qa_nil))
theorem sc_plain : FnScope ["_law_sack_here", "_law_axes", "_law_size", "_law_number"] ["_law_sack_here", "_law_axes"] (defScope (top 45)) := ⟨rfl, rfl, rfl, by decide +kernel, rfl, by decide +kernel, by decide +kernel⟩
/-- drawn numbers over a drawn bottom -/
def PlW (ax : Nat) : Rep := fun v H => ∃ p : Pl, p.ns.length = ax ∧ 1 ≤ p.b ∧ p.b ≤ 6 ∧ (-40 ≤ p.n ∧ p.n ≤ 40) ∧ (∀ x ∈ p.ns, -12 ≤ x ∧ x ≤ 12) ∧ IsPl p v H
instance {ax : Nat} : Mono (PlW ax) := ⟨fun e ⟨p, h1, h2, h3, h4, h5, h6⟩ => ⟨p, h1, h2, h3, h4, h5, Mono.up e h6⟩⟩
abbrev Ax := {i : Nat // 1 ≤ i ∧ i ≤ 3}
abbrev SpPlain : Sp := PnSp 10 (fun i : Ax => [IsI (i.1 : Int)]) fun i => PlW i.1
theorem ok_plain (A : Free mg) (D1 : Cal P w K mg base "_law_take" 1 [] SpTake) (D2 : Cal P w K mg base "_law_of" 2 [] (SpOfL IsI)) (F : FnP K "_law_plain" "_law_plain" (top 45) [] f fd) : FnOk P w K mg base CX0 3 f fd ["_law_sack_here", "_law_axes"] SpPlain := by
  refine fn_pen F sc_plain (fun _ => rfl) fun t cdv Ar outer s H E p c cs n args Q hr hp hn hc hcl ha hq => ?_
  obtain ⟨ax, a1, a2⟩ := t
  obtain ⟨v, r, rfl, hv, hr2⟩ := ha
  cases (show r = [] from hr2)
  cases (show v = _ from hv)
  refine qb_asg (P := IsP fun z => 1 ≤ z ∧ z ≤ 12) (m := n + 1) 2 sc_plain.nd ?_ hp fun v1 H1 e1 p1 h1 => ?_
  · refine qg_pen (⟨[1, 3, 12], by decide, by decide⟩ : {as : List Int // 0 < as.length ∧ as.length ≤ 1000}) D2 (hr.mono (by decide)) hc hcl (by omega) (qa_cons (qg_of (eg_var 0 rfl rfl)) (qa_cons (P := IsL IsI [1, 3, 12]) (qg_of (EvP.imp (eg_lst (ag_cons (eg_int (i := 1)) (ag_cons (eg_int (i := 3)) (ag_cons (eg_int (i := 12)) ag_nil)))) fun _ _ _ h => h)) qa_nil)) (hp := ?_)
    intro v H ⟨a, ha, h⟩
    refine ⟨a, h, ?_⟩
    simp at ha
    omega
  obtain ⟨z, rfl, z1, z2⟩ := h1
  have hc1 := (inferInstance : Mono (IsL IsI cs)).up e1 hc
  have tk : ∀ {X : Cx}, True := True.intro
  refine qb_ret (P := PlW ax) (m := n + 10) ?_ p1 fun v5 H5 e5 p5 h5 => hq v5 H5 (e1.trans e5) p5 h5
  refine (qg_tup (Ps := [fun v H => ∃ as : List Int, as.length = ax + 1 ∧ (∀ a ∈ as, -12 ≤ a ∧ a ≤ 12) ∧ IsL IsI as v H, IsP fun i => 1 ≤ i ∧ i ≤ 6]) (hm := ?_) (qa_cons (hm := ?_) (m := n + 1 + (ax + 1) * 1) (qg_lcR 3 (ax + 1) 1 (fun a => -12 ≤ a ∧ a ≤ 12) sc_plain.nd (ir_range (k := ax + 1) A.range (EvP.int (eg_add (eg_var 1 rfl rfl) eg_int) (by show (ax : Int) + 1 = ((ax + 1 : Nat) : Int); omega)) (by omega)) (by omega) (by omega) (fun i hi n' hn' s2 H0 Cc cl fp => ?_) (fun _ _ _ _ _ => pg_name sc_plain.nd rfl (Or.inl rfl))) (qa_cons (qg_add (qg_isP (f1 := fun i => i = 1) eg_int rfl) (qg_pen (m := n + 1 + (ax + 1) * 1) (⟨6, by decide, by decide⟩ : Many) D1 (hr.mono (by decide)) hc1 hcl (by omega) (qa_cons (qg_of (eg_var 0 rfl rfl)) (qa_cons (qg_of eg_int) qa_nil))) (fun i j h1 h2 => by have h2' : 0 ≤ j ∧ j < 6 := h2; omega)) qa_nil)) (show 2 ≤ 1000 by decide)).imp (by omega) ?_
  · have : Mono (fun (v : V) (H : Hp) => ∃ as : List Int, as.length = ax + 1 ∧ (∀ a ∈ as, -12 ≤ a ∧ a ≤ 12) ∧ IsL IsI as v H) := ⟨fun e ⟨as, h1, h2, h3⟩ => ⟨as, h1, h2, (inferInstance : Mono (IsL IsI as)).up e h3⟩⟩
    infer_instance
  · exact ⟨fun e ⟨as, h1, h2, h3⟩ => ⟨as, h1, h2, (inferInstance : Mono (IsL IsI as)).up e h3⟩⟩
  · refine qg_sub (qg_pen (⟨2 * z + 1, by omega, by omega⟩ : Many) D1 (hr.mono (by decide)) hc1 hcl hn' (qa_cons (qg_of (eg_var 0 rfl rfl)) (qa_cons (P := IsI (2 * z + 1)) (qg_of (eg_add (eg_mulO (mul64l (by decide)) eg_int (eg_var 2 rfl rfl)) eg_int)) qa_nil))) (qg_isP (f1 := fun i => i = z) (eg_var 2 rfl rfl) rfl) fun i j h1 h2 => ?_
    have : 0 ≤ i ∧ i < 2 * z + 1 := h1
    omega
  · intro v H ⟨d, xs, q1, q2, y1, r1, q3, ⟨as, l1, l2, l3⟩, y2, r2, q4, ⟨i, q5, q6⟩, q7⟩
    cases as with
    | nil => cases l1
    | cons a as =>
      refine ⟨⟨a, as, i⟩, by rw [List.length_cons] at l1; show as.length = ax; omega, q6.1, q6.2, ?_, fun x hx => l2 x (List.mem_cons_of_mem _ hx), d, xs, q1, q2, y1, r1, q3, l3, y2, r2, q4, q5, q7⟩
      have := l2 a (List.mem_cons_self ..)
      exact ⟨by show -40 ≤ a; omega, by show a ≤ 40; omega⟩
end
end G
set_option maxHeartbeats 4000000
namespace G
/-! ### forward steps: the mathematics -/
def dotQ (ps qs : List Rat) : Rat := ((ps.zip qs).map fun q => q.1 * q.2).sum
theorem prodF_eq : ∀ (qs : List (Rat × Rat)) (a : Rat), prodF qs a = a - (qs.map fun q => q.1 * q.2).sum
  | [], a => by
    show a = a - 0
    grind
  | q :: qs, a => by
    show prodF qs (a - q.1 * q.2) = a - (q.1 * q.2 + (qs.map fun q => q.1 * q.2).sum)
    rw [prodF_eq qs]
    grind
theorem prodQ_eq (s r : StepV) : prodQ s r = s.t * r.t - dotQ s.ps r.ps := prodF_eq _ _
theorem sq_nn (a : Rat) : 0 ≤ a * a := by
  rcases Rat.le_total (a := 0) (b := a) with h | h
  · exact Rat.mul_nonneg h h
  · have : 0 ≤ -a := by grind
    have := Rat.mul_nonneg this this
    grind
/-- Lagrange: |p|^2 |q|^2 - (p q)^2 is a sum of squares -/
theorem cauchy : ∀ (ps qs : List Rat), ps.length = qs.length → ps.length ≤ 3 → dotQ ps qs * dotQ ps qs ≤ sumQ ps * sumQ qs
  | [], [], _, _ => by
    show (0 : Rat) * 0 ≤ 0 * 0
    exact Rat.le_refl
  | [a], [x], _, _ => by
    show (a * x + 0) * (a * x + 0) ≤ (a * a + 0) * (x * x + 0)
    grind
  | [a, b], [x, y], _, _ => by
    show (a * x + (b * y + 0)) * (a * x + (b * y + 0)) ≤ (a * a + (b * b + 0)) * (x * x + (y * y + 0))
    have := sq_nn (a * y - b * x)
    grind
  | [a, b, c], [x, y, z], _, _ => by
    show (a * x + (b * y + (c * z + 0))) * (a * x + (b * y + (c * z + 0))) ≤ (a * a + (b * b + (c * c + 0))) * (x * x + (y * y + (z * z + 0)))
    have h1 := sq_nn (a * y - b * x)
    have h2 := sq_nn (a * z - c * x)
    have h3 := sq_nn (b * z - c * y)
    grind
theorem sumQ_nn : ∀ ps : List Rat, 0 ≤ sumQ ps
  | [] => Rat.le_refl
  | p :: ps => Rat.add_nonneg (sq_nn p) (sumQ_nn ps)
/-- forward, light among it -/
structure Fwd (s : StepV) : Prop where
  t : 0 < s.t
  q : 0 ≤ sqQ s.t s.ps
  l : s.ps.length ≤ 3
theorem abs_le {a b : Rat} (hb : 0 ≤ b) (h : a * a ≤ b * b) : a ≤ b := by
  by_cases hab : a ≤ b
  · exact hab
  · have h1 : b < a := Rat.not_le.mp hab
    have h2 : 0 < a := by grind
    have h3 : b * a < a * a := Rat.mul_lt_mul_of_pos_right h1 h2
    have h4 : b * b ≤ b * a := Rat.mul_le_mul_of_nonneg_left (by grind) hb
    grind
theorem dot_le {s r : StepV} (h1 : Fwd s) (h2 : Fwd r) (hl : s.ps.length = r.ps.length) : dotQ s.ps r.ps * dotQ s.ps r.ps ≤ (s.t * r.t) * (s.t * r.t) := by
  have c := cauchy s.ps r.ps hl h1.l
  have a1 : sumQ s.ps ≤ s.t * s.t := by have := h1.q; unfold sqQ at this; grind
  have a2 : sumQ r.ps ≤ r.t * r.t := by have := h2.q; unfold sqQ at this; grind
  have b1 : sumQ s.ps * sumQ r.ps ≤ (s.t * s.t) * sumQ r.ps := Rat.mul_le_mul_of_nonneg_right a1 (sumQ_nn _)
  have b2 : (s.t * s.t) * sumQ r.ps ≤ (s.t * s.t) * (r.t * r.t) := Rat.mul_le_mul_of_nonneg_left a2 (sq_nn _)
  grind
theorem neg_dot : ∀ (ps qs : List Rat), dotQ ps (qs.map fun q => -q) = -dotQ ps qs
  | [], _ => by
    show (0 : Rat) = -0
    grind
  | _ :: _, [] => by
    show (0 : Rat) = -0
    grind
  | p :: ps, q :: qs => by
    show p * -q + dotQ ps (qs.map fun q => -q) = -(p * q + dotQ ps qs)
    rw [neg_dot ps qs]
    grind
theorem prod_nn {s r : StepV} (h1 : Fwd s) (h2 : Fwd r) (hl : s.ps.length = r.ps.length) : 0 ≤ prodQ s r := by
  have d := dot_le h1 h2 hl
  have := abs_le (Rat.mul_nonneg (Rat.le_of_lt h1.t) (Rat.le_of_lt h2.t)) d
  rw [prodQ_eq]
  grind
theorem prod_neg (s r : StepV) : prodQ s (negS r) = -prodQ s r := by
  rw [prodQ_eq, prodQ_eq]
  show s.t * -r.t - dotQ s.ps (r.ps.map fun q => -q) = _
  rw [neg_dot]
  grind
theorem sumQ_add : ∀ (ps qs : List Rat), ps.length = qs.length → sumQ ((ps.zip qs).map fun q => q.1 + q.2) = sumQ ps + sumQ qs + 2 * dotQ ps qs
  | [], [], _ => by
    show (0 : Rat) = 0 + 0 + 2 * 0
    grind
  | p :: ps, q :: qs, h => by
    have ih := sumQ_add ps qs (by simpa using h)
    show (p + q) * (p + q) + sumQ ((ps.zip qs).map fun q => q.1 + q.2) = (p * p + sumQ ps) + (q * q + sumQ qs) + 2 * (p * q + dotQ ps qs)
    rw [ih]
    grind
theorem sq_add (s r : StepV) (hl : s.ps.length = r.ps.length) : sqQ (addS s r).t (addS s r).ps = sqQ s.t s.ps + sqQ r.t r.ps + 2 * prodQ s r := by
  rw [prodQ_eq]
  unfold sqQ addS
  dsimp only
  rw [sumQ_add _ _ hl]
  grind
theorem fwd_add {s r : StepV} (h1 : Fwd s) (h2 : Fwd r) (hl : s.ps.length = r.ps.length) : Fwd (addS s r) where
  t := by
    have a := h1.t
    have b := h2.t
    show 0 < s.t + r.t
    grind
  q := by
    have a := h1.q
    have b := h2.q
    have c := prod_nn h1 h2 hl
    rw [sq_add s r hl]
    grind
  l := by
    have := h1.l
    show ((s.ps.zip r.ps).map _).length ≤ 3
    rw [List.length_map, List.length_zip]
    omega
theorem sumQ_neg : ∀ ps : List Rat, sumQ (ps.map fun q => -q) = sumQ ps
  | [] => rfl
  | p :: ps => by
    show -p * -p + sumQ (ps.map fun q => -q) = p * p + sumQ ps
    rw [sumQ_neg ps]
    grind
theorem sq_neg (s : StepV) : sqQ (negS s).t (negS s).ps = sqQ s.t s.ps := by
  unfold sqQ negS
  dsimp only
  rw [sumQ_neg]
  grind
theorem kind_fwd {s : StepV} (h : Fwd s) : kindQ s.t (sqQ s.t s.ps) = "forward" := by
  have a := h.t
  have b := h.q
  unfold kindQ
  rw [if_neg (by grind), if_neg (by grind), if_pos a]
theorem kind_back {t q : Rat} (h : t < 0) (hq : 0 ≤ q) : kindQ t q = "backward" := by
  unfold kindQ
  rw [if_neg (by grind), if_neg (by grind), if_neg (by grind)]
theorem neg_sub (s r : StepV) : (subS (negS s) r).t = -(addS s r).t ∧ sqQ (subS (negS s) r).t (subS (negS s) r).ps = sqQ (addS s r).t (addS s r).ps := by
  have e : ∀ (ps qs : List Rat), sumQ (((ps.map fun q => -q).zip qs).map fun q => q.1 - q.2) = sumQ ((ps.zip qs).map fun q => q.1 + q.2) := by
    intro ps
    induction ps with
    | nil => intro qs; rfl
    | cons p ps ih =>
      intro qs
      cases qs with
      | nil => rfl
      | cons q qs =>
        show (-p - q) * (-p - q) + sumQ (((ps.map fun q => -q).zip qs).map fun q => q.1 - q.2) = (p + q) * (p + q) + sumQ ((ps.zip qs).map fun q => q.1 + q.2)
        rw [ih qs]
        grind
  constructor
  · show -s.t - r.t = -(s.t + r.t)
    grind
  · unfold sqQ subS negS addS
    dsimp only
    rw [e]
    grind
/-- where the product is nothing: one light -/
theorem prod_zero {s r : StepV} (h1 : Fwd s) (h2 : Fwd r) (hl : s.ps.length = r.ps.length) (h : prodQ s r = 0) : sqQ s.t s.ps = 0 ∧ mulS s r.t = mulS r s.t := by
  rw [prodQ_eq] at h
  have c := cauchy s.ps r.ps hl h1.l
  have hd : dotQ s.ps r.ps = s.t * r.t := by grind
  have a1 : sumQ s.ps ≤ s.t * s.t := by have := h1.q; unfold sqQ at this; grind
  have a2 : sumQ r.ps ≤ r.t * r.t := by have := h2.q; unfold sqQ at this; grind
  have n1 := sumQ_nn s.ps
  have n2 := sumQ_nn r.ps
  rw [hd] at c
  have p1 : 0 < s.t * s.t := Rat.mul_pos h1.t h1.t
  have p2 : 0 < r.t * r.t := Rat.mul_pos h2.t h2.t
  have b1 : sumQ s.ps * sumQ r.ps ≤ sumQ s.ps * (r.t * r.t) := Rat.mul_le_mul_of_nonneg_left a2 n1
  have e1 : sumQ s.ps = s.t * s.t := by
    refine Rat.le_antisymm a1 (Rat.le_of_mul_le_mul_right (c := r.t * r.t) ?_ p2)
    grind
  have b2 : sumQ s.ps * sumQ r.ps ≤ (s.t * s.t) * sumQ r.ps := Rat.mul_le_mul_of_nonneg_right a1 n2
  have e2 : sumQ r.ps = r.t * r.t := by
    refine Rat.le_antisymm a2 (Rat.le_of_mul_le_mul_left (c := s.t * s.t) ?_ p1)
    grind
  refine ⟨by unfold sqQ; grind, ?_⟩
  -- |r p - t q|^2 = 0
  have key : ∀ (ps qs : List Rat) (t r : Rat), ps.length = qs.length → sumQ ((ps.zip qs).map fun q => q.1 * r - q.2 * t) = r * r * sumQ ps + t * t * sumQ qs - 2 * t * r * dotQ ps qs := by
    intro ps
    induction ps with
    | nil =>
      intro qs t r h
      cases qs with
      | nil =>
        show (0 : Rat) = r * r * 0 + t * t * 0 - 2 * t * r * 0
        grind
      | cons q qs => cases h
    | cons p ps ih =>
      intro qs t r h
      cases qs with
      | nil => cases h
      | cons q qs =>
        have := ih qs t r (by simpa using h)
        show (p * r - q * t) * (p * r - q * t) + sumQ ((ps.zip qs).map fun q => q.1 * r - q.2 * t) = r * r * (p * p + sumQ ps) + t * t * (q * q + sumQ qs) - 2 * t * r * (p * q + dotQ ps qs)
        rw [this]
        grind
  have z := key s.ps r.ps s.t r.t hl
  rw [e1, e2, hd] at z
  have z0 : sumQ ((s.ps.zip r.ps).map fun q => q.1 * r.t - q.2 * s.t) = 0 := by rw [z]; grind
  have all0 : ∀ (xs : List Rat), sumQ xs = 0 → ∀ x ∈ xs, x = 0 := by
    intro xs
    induction xs with
    | nil => intro _ x hx; cases hx
    | cons y ys ih =>
      intro h x hx
      have h' : y * y + sumQ ys = 0 := h
      have hy := sq_nn y
      have hys := sumQ_nn ys
      have y0 : y * y = 0 := by grind
      have ys0 : sumQ ys = 0 := by grind
      rcases List.mem_cons.mp hx with e | e
      · rw [e]
        rcases Rat.mul_eq_zero.mp y0 with e | e <;> exact e
      · exact ih ys0 x e
  have q := all0 _ z0
  have lists : ∀ (ps qs : List Rat), ps.length = qs.length → (∀ x ∈ (ps.zip qs).map (fun q => q.1 * r.t - q.2 * s.t), x = 0) → ps.map (fun x => x * r.t) = qs.map (fun x => x * s.t) := by
    intro ps
    induction ps with
    | nil =>
      intro qs h _
      cases qs with
      | nil => rfl
      | cons q qs => cases h
    | cons p ps ih =>
      intro qs h hx
      cases qs with
      | nil => cases h
      | cons q qs =>
        have h0 := hx (p * r.t - q * s.t) (List.mem_cons_self ..)
        have h1 := ih qs (by simpa using h) fun x hx' => hx x (List.mem_cons_of_mem _ hx')
        show p * r.t :: ps.map (fun x => x * r.t) = q * s.t :: qs.map (fun x => x * s.t)
        rw [h1]
        congr 1
        grind
  unfold mulS
  rw [lists _ _ hl q]
  congr 1
  grind
end G
set_option maxHeartbeats 4000000
namespace G
open PySem PySem.Spec PyProof.Rows L2 Evl
/-! ### the script -/
def SqW (K : PySem.W.Frag) (ns : List Int) : Rep := fun v H => ∃ a, v = .ref a ∧ SqL K H a (ns.map V.int)
instance {K : PySem.W.Frag} {ns : List Int} : Mono (SqW K ns) := ⟨fun e ⟨a, h1, h2⟩ => ⟨a, h1, h2.ext fun b o h => e b o h⟩⟩
section
variable {X : Cx} {σ : L2.St} {H : Hp} {a b : Expr} {pos : Pos} {p c : Addr} {n m : Nat}
theorem eg_cutS {ns : List Int} {k : Nat} {p2 : Pos} (ha : EG X a σ H (SqW X.K ns)) (hb : EG X b σ H (IsI (k : Int))) : EG X (.Subscript a (.Slice none (some b) none p2) pos) σ H (IsL IsI (ns.take k)) :=
  eg_of (pe_slice sl_list pe_W po_none (po_some pe_W)) fun H1 e1 Q q => ha H1 e1 _ fun v H2 e2 ⟨d, h1, h2⟩ => hb H2 (e1.trans e2) _ fun y H3 e3 py => by
    refine ⟨k, py, d, _, h1, h2.ext (fun b o h => e3 b o h), fun l hl => ?_⟩
    have cut : cutV (ns.map V.int) none (some (k : Int)) = (ns.take k).map V.int := by
      unfold cutV
      rw [HT.sIx_none, HT.sIx_nat, List.drop_zero, Nat.sub_zero, List.map_take, List.take_eq_take_iff, List.length_map]
      omega
    rw [cut]
    exact q _ _ ((e2.trans e3).trans (Ex.new hl)) ⟨l, _, rfl, upd_same, ints_all2⟩
/-- [i] + l -/
theorem qg_cat {φ : Int → Prop} {bs : List Int} (ha : QG X p c a σ H n m (LstOf [IsP φ])) (hb : EG X b σ H (IsL IsI bs)) (hz : bs.length ≤ 1000) : QG X p c (.BinOp a .Add b pos) σ H n m (fun v H => ∃ i, φ i ∧ IsL IsI (i :: bs) v H) :=
  fun H1 e1 hp Q q pins s I => (pe_op op_cat pe_W pe_W).run pins s σ H1 Q I (ha H1 e1 hp _ fun v H2 e2 p2 hv => qg_of hb H2 (e1.trans e2) p2 _ fun u H3 e3 p3 hu => by
    obtain ⟨d, xs, q1, q2, y, r, q3, ⟨i, q4, q5⟩, q6⟩ := (inferInstance : Mono (LstOf [IsP φ])).up e3 hv
    obtain ⟨d2, ys, w1, w2, w3⟩ := hu
    have e : xs = [.int i] := by rw [q3, show r = [] from q6, q4]
    have e2' := all2_ints w3
    subst e e2'
    refine ⟨d, d2, _, _, q1, w1, ex_hid1 _ _ q2, ex_hid1 _ _ w2, ?_, fun l hl => ?_⟩
    · rw [List.length_map]
      exact Nat.le_trans (Nat.add_le_add_left hz 1) (by decide)
    · obtain ⟨p4, hne⟩ := p3.new (o := .lst ([V.int i] ++ bs.map V.int)) hl
      exact q _ _ ((e2.trans e3).trans (ex_hid2 (Ex.new hl))) p4 ⟨i, q5, l, _, rfl, by rw [hid_ne hne, upd_same]; rfl, ints_all2 (ns := i :: bs)⟩)
/-- tests, one by one false -/
def QW (X : Cx) (p c : Addr) (e : Expr) (σ : L2.St) (H : Hp) (n m : Nat) (φ : Bool → Prop) : Prop := ∀ H1, Ex H (hid H1 p) → Pen p c n H1 → ∀ Q : Bool → Hp → Prop, (∀ b H2, Ex (hid H1 p) (hid H2 p) → Pen p c m H2 → φ b → Q b H2) → WW X e σ H1 Q
variable {es : List Expr} {l : Nat} {bb : Bool}
theorem qw_or1 {φ : Bool → Prop} (h : QT X p c a σ H n m φ) : QW X p c (.BoolOp .Or [a] pos) σ H n m φ := fun H1 e1 hp Q q wh pins s I => (pw_or1 (pt_W (X := X))).run wh pins s σ H1 Q I (h H1 e1 hp Q q)
theorem qw_or (h1 : QT X p c a σ H n m (fun b => b = false)) (h2 : QW X p c (.BoolOp .Or (b :: es) pos) σ H m l (fun b => b = false)) : QW X p c (.BoolOp .Or (a :: b :: es) pos) σ H n l (fun b => b = false) :=
  fun H1 e1 hp Q q wh pins s I => (pw_or (pt_W (X := X)) (pw_W (X := X))).run wh pins s σ H1 Q I (h1 H1 e1 hp _ fun b1 H2 e2 p2 hb => by
    subst hb
    rw [if_neg Bool.false_ne_true]
    exact h2 H2 (e1.trans e2) p2 Q fun b2 H3 e3 p3 h3 => q b2 H3 (e2.trans e3) p3 h3)
theorem qt_w {e : Expr} {φ : Bool → Prop} (h : QW X p c e σ H n m φ) : QT X p c e σ H n m φ := fun H1 e1 hp Q q pins s I => h H1 e1 hp Q q _ pins s I
theorem qt_val {e : Expr} (he : QG X p c e σ H n m (IsB bb)) (hp : ∀ whole, isTrue e X.env whole = (do let v ← whole; standAt e.pos; holding [v] (truthy v)) := by intro _; rfl) : QT X p c e σ H n m (fun b => b = bb) :=
  fun H1 e1 hpn Q q pins s I => (pt_val pe_W hp).run pins s σ H1 Q I (he H1 e1 hpn _ fun v H2 e2 p2 pv => ⟨bb, pv, q bb H2 e2 p2 rfl⟩)
theorem qt_not (h : QT X p c a σ H n m (fun b => b = bb)) : QT X p c (.UnaryOp .Not a pos) σ H n m (fun b => b = !bb) :=
  fun H1 e1 hpn Q q pins s I => (pt_not pt_W).run pins s σ H1 Q I (h H1 e1 hpn _ fun b1 H2 e2 p2 hb => q _ H2 e2 p2 (by rw [hb]))
/-- a loop over range(k), whatever becomes of the heap -/
theorem b_forR {x : Str} {iter : Expr} {k : Nat} (j : Nat) {px : Pos} {body rest : List Stmt} {D : Ends} (Pv : Nat → L2.St → Hp → Prop) (hN : X.N.Nodup) (hi : IterR X (.Name x px) iter σ H k) (h0 : ∀ H1, Ex H H1 → Pv 0 σ H1)
    (hs : ∀ i σ' Ha, i < k → Pv i σ' Ha → BW X body { nx := Pv (i + 1), ct := Pv (i + 1), bk := BW X rest D, rt := D.rt } (σ'.set j (some (.int (i : Int)))) Ha) (hd : ∀ σ' H', Pv k σ' H' → BW X rest D σ' H') (hj : X.N[j]? = some x := by rfl) (hl : Loc X.env.scope x := by first | exact Or.inl rfl | exact Or.inr rfl)
    (hxe : PassesOwn (model X.prog X.w) X.A X.env X.xe := by exact PassesOwn.never) (hc : X.calm = true := by rfl) (hf : ∀ x, foldedSetIterable iter X.env x = pure x := by intro _; rfl)
    (hfn : X.fn x = true ∨ X.env.scope.names.lookup x = some .local := by first | exact .inl rfl | exact .inr rfl) : BW X (.For (.Name x px) iter body [] pos :: rest) D σ H := by
  obtain ⟨wi, hpi, hw⟩ := hi
  refine b_of (ps_for hxe hc hpi (pg_name hN hj hl hfn) pss_W hf) ?_
  refine hw H (Ex.refl H) _ fun J H2 Y e2 W hY => ?_
  refine for_it W Pv (h0 H2 e2) (fun _ _ _ _ _ => True.intro) (fun i v σ' Ha Hb hi p y => ?_) hd
  obtain ⟨y1, y2, y3⟩ := hY i Ha v Hb y
  subst y1 y3
  exact hs i σ' _ hi p
end
section
variable {P : Program} {w : World} {K : PySem.W.Frag} {mg : Str → Option Value} {base : Heap} {f : Addr} {fd : FuncData} {C CS : Addr}
abbrev SpSack (K : PySem.W.Frag) : Sp := PSp (fun ns : {ns : List Int // ns.length ≤ 63} => [SqW K ns.1]) fun ns => LstOf [IsL IsI (ns.1.take 61), IsI 0, IsI 0]
theorem sc_sack : FnScope ["_law_script", "_law_cell"] ["_law_script"] (defScope (top 42)) := ⟨rfl, rfl, rfl, by decide +kernel, rfl, by decide +kernel, by decide +kernel⟩
theorem ok_sack (A : Free mg) (F : FnP K "_law_sack" "_law_sack" (top 42) [] f fd) : FnOk P w K mg base CX0 1 f fd ["_law_script"] (SpSack K) := by
  refine fn_pure F sc_sack (fun _ => rfl) fun t cdv Ar outer s H E vs Q hr ha hq => ?_
  obtain ⟨ns, hl⟩ := t
  obtain ⟨v, r, rfl, hv, hr2⟩ := ha
  cases (show r = [] from hr2)
  refine b_ret (P := LstOf [IsL IsI (ns.take 61), IsI 0, IsI 0]) ?_ fun v5 H5 e5 h5 => hq v5 H5 e5 h5
  refine eg_lst (ag_cons ?_ (ag_cons eg_int (ag_cons eg_int ag_nil))) (show 3 ≤ 1000 by decide)
  refine eg_lc 1 (R := IsI) (S := IsI) (as := ns.take 61) (fun x => x) sc_sack.nd (ip_list ?_) (by rw [List.length_take]; omega) (fun a hm u H4 e4 ra s2' H0 Cc cl fp => ?_) (fun _ _ _ _ _ => pg_name sc_sack.nd rfl (Or.inl rfl)) (hp := ?_)
  · exact eg_cutS (ns := ns) (k := 61) (eg_var 0 rfl hv) eg_int
  · exact eg_intI A.int (eg_var 1 rfl ra)
  · intro v H h
    rwa [List.map_id'] at h
/-! ### _law_forward -/
def FwP (ax : Nat) (p : Pl) : Prop := p.ns.length = ax ∧ 1 ≤ p.b ∧ p.b ≤ 6 ∧ (1 ≤ p.n ∧ p.n ≤ 40) ∧ (∀ x ∈ p.ns, -12 ≤ x ∧ x ≤ 12) ∧ 0 ≤ timesI p.n p.ns p.n p.ns
def FwW (ax : Nat) : Rep := fun v H => ∃ p : Pl, FwP ax p ∧ IsPl p v H
abbrev SpForward : Sp := PnSp 20 (fun i : Ax => [IsI (i.1 : Int)]) fun i => FwW i.1
theorem sc_forward : FnScope ["_law_sack_here", "_law_axes", "_law_fast", "_law_numbers", "_law_bottom", "_law_far", "_law_time", "_law_number"] ["_law_sack_here", "_law_axes"] (defScope (top 46)) := ⟨rfl, rfl, rfl, by decide +kernel, rfl, by decide +kernel, by decide +kernel⟩
def fastL : List (List (List Int)) := [[[1, 1], [2, -2], [5, 5]], [[5, 3, 4], [13, -5, 12], [1, 0, -1]], [[3, 1, 2, -2], [7, 2, 3, 6], [9, -4, 1, 8]]]
def fastOk (ax : Nat) (as : List Int) : Bool := match as with
  | [] => false
  | n :: ns => ns.length == ax && decide (1 ≤ n) && decide (n ≤ 40) && ns.all (fun x => decide (-12 ≤ x) && decide (x ≤ 12)) && decide (0 ≤ timesI n ns n ns)
theorem fast_ok (i : Nat) (h : i < 3) : ∃ as, fastL[i]? = some as ∧ 0 < as.length ∧ as.length ≤ 1000 ∧ as.all (fastOk (i + 1)) = true := by
  rcases i with _ | _ | _ | i
  · exact ⟨_, rfl, by decide, by decide, by decide⟩
  · exact ⟨_, rfl, by decide, by decide, by decide⟩
  · exact ⟨_, rfl, by decide, by decide, by decide⟩
  · omega

theorem fast_P {ax : Nat} {as : List Int} {b : Int} (h : fastOk ax as = true) (h1 : 1 ≤ b) (h2 : b ≤ 6) : ∃ n ns, as = n :: ns ∧ FwP ax ⟨n, ns, b⟩ := by
  cases as with
  | nil => cases h
  | cons n ns =>
    unfold fastOk at h
    simp only [Bool.and_eq_true, decide_eq_true_eq, List.all_eq_true, beq_iff_eq] at h
    obtain ⟨⟨⟨⟨a1, a2⟩, a3⟩, a4⟩, a5⟩ := h
    exact ⟨n, ns, rfl, a1, h1, h2, ⟨a2, a3⟩, a4, a5⟩
theorem far_le (ns : List Int) (hl : ns.length ≤ 3) (h : ∀ x ∈ ns, -12 ≤ x ∧ x ≤ 12) : 0 ≤ (ns.map fun x => x * x).sum ∧ (ns.map fun x => x * x).sum ≤ 432 := by
  have g : ∀ ns : List Int, (∀ x ∈ ns, -12 ≤ x ∧ x ≤ 12) → 0 ≤ (ns.map fun x => x * x).sum ∧ (ns.map fun x => x * x).sum ≤ 144 * ns.length := by
    intro ns
    induction ns with
    | nil => intro _; simp
    | cons n ns ih =>
      intro h
      have i := ih fun x hx => h x (List.mem_cons_of_mem _ hx)
      have j := h n (List.mem_cons_self ..)
      have k : n * n ≤ 144 := by
        rcases Int.le_total 0 n with z | z
        · exact Int.mul_le_mul j.2 j.2 z (by decide)
        · have := Int.mul_le_mul (a := -n) (b := -n) (c := 12) (d := 12) (by omega) (by omega) (by omega) (by decide)
          rwa [Int.neg_mul_neg] at this
      have k0 : 0 ≤ n * n := by
        rcases Int.le_total 0 n with z | z
        · exact Int.mul_nonneg z z
        · have := Int.mul_nonneg (a := -n) (b := -n) (by omega) (by omega)
          rwa [Int.neg_mul_neg] at this
      rw [List.map_cons, List.sum_cons, List.length_cons]
      omega
  have := g ns h
  omega
theorem zip_self (ns : List Int) : (ns.zip ns).map (fun q => q.1 * q.2) = ns.map fun x => x * x := by
  induction ns with
  | nil => rfl
  | cons n ns ih =>
    show n * n :: ((ns.zip ns).map fun q => q.1 * q.2) = n * n :: ns.map fun x => x * x
    rw [ih]
def NumW (ax : Nat) : Rep := fun v H => ∃ (n : Int) (ns : List Int), ns.length = ax ∧ (-40 ≤ n ∧ n ≤ 40) ∧ (∀ x ∈ ns, -12 ≤ x ∧ x ≤ 12) ∧ IsL IsI (n :: ns) v H
instance {ax : Nat} : Mono (NumW ax) := ⟨fun e ⟨n, ns, h1, h2, h3, h4⟩ => ⟨n, ns, h1, h2, h3, (inferInstance : Mono (IsL IsI (n :: ns))).up e h4⟩⟩
theorem ok_forward (A : Free mg) (D1 : Cal P w K mg base "_law_take" 1 [] SpTake) (D2 : Cal P w K mg base "_law_of" 2 [] (SpOfL (IsL IsI))) (D3 : Cal P w K mg base "_law_plain" 3 [] SpPlain) (F : FnP K "_law_forward" "_law_forward" (top 46) [] f fd) : FnOk P w K mg base CX0 4 f fd ["_law_sack_here", "_law_axes"] SpForward := by
  refine fn_pen F sc_forward (fun _ => rfl) fun t cdv Ar outer s H E p c cs n args Q hr hp hn hc hcl ha hq => ?_
  obtain ⟨ax, a1, a2⟩ := t
  obtain ⟨v, r, rfl, hv, hr2⟩ := ha
  cases (show r = [] from hr2)
  cases (show v = _ from hv)
  have mC : Mono (IsL IsI cs) := inferInstance
  have mF : Mono (IsL (IsL (IsL IsI)) fastL) := inferInstance
  refine qb_asg (P := IsL (IsL (IsL IsI)) fastL) (m := n) 2 sc_forward.nd ?_ hp fun v1 H1 e1 p1 h1 => ?_
  · have two : ∀ {X : Cx} {σ : L2.St} {H : Hp} {a b : Expr} {i j : Int} {pos : Pos}, EG X a σ H (IsI i) → EG X b σ H (IsI j) → (he : starEach [a, b] X.env = (false, eval a X.env) :: starEach [b] X.env) → (he2 : starEach [b] X.env = (false, eval b X.env) :: starEach [] X.env) → EG X (.List [a, b] pos) σ H (IsL IsI [i, j]) := fun h1 h2 he he2 => EvP.imp (eg_lst (ag_cons h1 (ag_cons h2 ag_nil he2) he) (show 2 ≤ 1000 by decide)) fun _ _ _ h => h
    have thr : ∀ {X : Cx} {σ : L2.St} {H : Hp} {a b d : Expr} {α : Type} {R : α → Rep} [∀ a, Mono (R a)] {i j k : α} {pos : Pos}, EG X a σ H (R i) → EG X b σ H (R j) → EG X d σ H (R k) → (he : starEach [a, b, d] X.env = (false, eval a X.env) :: starEach [b, d] X.env) → (he2 : starEach [b, d] X.env = (false, eval b X.env) :: starEach [d] X.env) → (he3 : starEach [d] X.env = (false, eval d X.env) :: starEach [] X.env) → EG X (.List [a, b, d] pos) σ H (IsL R [i, j, k]) := fun h1 h2 h3 he he2 he3 => EvP.imp (eg_lst (ag_cons h1 (ag_cons h2 (ag_cons h3 ag_nil he3) he2) he) (show 3 ≤ 1000 by decide)) fun _ _ _ h => h
    have fou : ∀ {X : Cx} {σ : L2.St} {H : Hp} {a b d g : Expr} {i j k l : Int} {pos : Pos}, EG X a σ H (IsI i) → EG X b σ H (IsI j) → EG X d σ H (IsI k) → EG X g σ H (IsI l) → (he : starEach [a, b, d, g] X.env = (false, eval a X.env) :: starEach [b, d, g] X.env) → (he2 : starEach [b, d, g] X.env = (false, eval b X.env) :: starEach [d, g] X.env) → (he3 : starEach [d, g] X.env = (false, eval d X.env) :: starEach [g] X.env) → (he4 : starEach [g] X.env = (false, eval g X.env) :: starEach [] X.env) → EG X (.List [a, b, d, g] pos) σ H (IsL IsI [i, j, k, l]) := fun h1 h2 h3 h4 he he2 he3 he4 => EvP.imp (eg_lst (ag_cons h1 (ag_cons h2 (ag_cons h3 (ag_cons h4 ag_nil he4) he3) he2) he) (show 4 ≤ 1000 by decide)) fun _ _ _ h => h
    refine qg_of (thr (R := IsL (IsL IsI)) ?_ ?_ ?_ rfl rfl rfl)
    · exact thr (R := IsL IsI) (two eg_int eg_int rfl rfl) (two eg_int (eg_neg eg_int) rfl rfl) (two eg_int eg_int rfl rfl) rfl rfl rfl
    · exact thr (R := IsL IsI) (thr (R := IsI) eg_int eg_int eg_int rfl rfl rfl) (thr (R := IsI) eg_int (eg_neg eg_int) eg_int rfl rfl rfl) (thr (R := IsI) eg_int eg_int (eg_neg eg_int) rfl rfl rfl) rfl rfl rfl
    · exact thr (R := IsL IsI) (fou eg_int eg_int eg_int (eg_neg eg_int) rfl rfl rfl rfl) (fou eg_int eg_int eg_int eg_int rfl rfl rfl rfl) (fou eg_int (eg_neg eg_int) eg_int eg_int rfl rfl rfl rfl) rfl rfl rfl
  have hc1 := mC.up e1 hc
  refine qb_if (m := n + 1) (φ := fun _ => True) ?_ p1 (fun _ H2 e2 p2 => ?_) fun _ H2 e2 p2 => b_nil ?_
  · refine qt_eqI (qg_pen (⟨3, by decide, by decide⟩ : Many) D1 (hr.mono (by decide)) hc1 hcl (by omega) (qa_cons (qg_of (eg_var 0 rfl rfl)) (qa_cons (qg_of eg_int) qa_nil))) (qg_isP (f1 := fun _ => True) eg_int True.intro)
  · have hc2 := mC.up e2 hc1
    obtain ⟨as, f1, f2, f3, f4⟩ := fast_ok (ax - 1) (by omega)
    refine qb_ret (P := FwW ax) (m := n + 20) ?_ p2 fun v5 H5 e5 p5 h5 => hq v5 H5 ((e1.trans e2).trans e5) p5 h5
    refine (qg_tup (Ps := [fun v H => ∃ a ∈ as, IsL IsI a v H, IsP fun i => 1 ≤ i ∧ i ≤ 6]) (hm := ?_) (qa_cons (hm := ?_) (m := n + 1 + 1) (qg_pen (⟨as, f2, f3⟩ : {as : List (List Int) // 0 < as.length ∧ as.length ≤ 1000}) D2 (hr.mono (by decide)) hc2 hcl (by omega) (qa_cons (qg_of (eg_var 0 rfl rfl)) (qa_cons (P := IsL (IsL IsI) as) (qg_of (eg_ixL (R := IsL (IsL IsI)) (as := fastL) (n := ax - 1) (x := as) (eg_var 2 rfl (mF.up e2 h1)) (EvP.int (eg_sub (eg_var 1 rfl rfl) eg_int) ?_) f1)) qa_nil))) (qa_cons (qg_add (qg_isP (f1 := fun i => i = 1) eg_int rfl) (qg_pen (m := n + 1 + 1) (⟨6, by decide, by decide⟩ : Many) D1 (hr.mono (by decide)) hc2 hcl (by omega) (qa_cons (qg_of (eg_var 0 rfl rfl)) (qa_cons (qg_of eg_int) qa_nil))) (fun i j h1 h2 => by have h2' : 0 ≤ j ∧ j < 6 := h2; omega)) qa_nil)) (show 2 ≤ 1000 by decide)).imp (by omega) ?_
    · have : Mono (fun (v : V) (H : Hp) => ∃ a ∈ as, IsL IsI a v H) := ⟨fun e ⟨a, h1, h3⟩ => ⟨a, h1, (inferInstance : Mono (IsL IsI a)).up e h3⟩⟩
      infer_instance
    · exact ⟨fun e ⟨a, h1, h3⟩ => ⟨a, h1, (inferInstance : Mono (IsL IsI a)).up e h3⟩⟩
    · show (ax : Int) - 1 = ((ax - 1 : Nat) : Int)
      omega
    · intro v H ⟨d, xs, q1, q2, y1, r1, q3, ⟨a, l1, l3⟩, y2, r2, q4, ⟨i, q5, q6⟩, q7⟩
      have ok := List.all_eq_true.mp f4 a l1
      rw [show ax - 1 + 1 = ax by omega] at ok
      obtain ⟨m, ms, rfl, hf⟩ := fast_P ok q6.1 q6.2
      exact ⟨⟨m, ms, i⟩, hf, d, xs, q1, q2, y1, r1, q3, l3, y2, r2, q4, q5, q7⟩
  have hc2 := mC.up e2 hc1
  refine qb_two (P1 := NumW ax) (P2 := IsP fun i => 1 ≤ i ∧ i ≤ 6) (m := n + 1 + 10) 3 4 sc_forward.nd ?_ p2 fun v3 v4 H3 e3 p3 h3 h4 => ?_
  · refine qg_pen (P := TupOf [NumW ax, IsP fun i => 1 ≤ i ∧ i ≤ 6]) (⟨ax, a1, a2⟩ : Ax) D3 (hr.mono (by decide)) hc2 hcl (by omega) (qa_cons (qg_of (eg_var 0 rfl rfl)) (qa_cons (P := IsI (ax : Int)) (qg_of (eg_var 1 rfl rfl)) qa_nil)) (hp := ?_)
    intro v H ⟨q, b1, b2, b3, b4, b5, d, xs, q1, q2, y1, r1, q3, q4, y2, r2, q5, q6, q7⟩
    exact ⟨d, xs, q1, q2, y1, r1, q3, ⟨q.n, q.ns, b1, b4, b5, q4⟩, y2, r2, q5, ⟨q.b, q6, b2, b3⟩, q7⟩
  obtain ⟨n0, ns, l1, l2, l3, g3⟩ := h3
  obtain ⟨b, rfl, hb⟩ := h4
  have mN : Mono (IsL IsI (n0 :: ns)) := inferInstance
  have hfar := far_le ns (by omega) l3
  refine b_par (P1 := IsI (ns.map fun x => x * x).sum) (P2 := IsI 1) 5 6 sc_forward.nd ?_ eg_int (by decide) (fun v5 v6 H4 e4 h5 h6 => ?_) rfl
  · refine eg_sum A.sum rfl ?_
    refine eg_lc 7 (R := IsI) (S := IsI) (as := ns) (fun x => x * x) sc_forward.nd (ip_list ?_) (by omega) (fun a hm u H4 e4 ra s2' H0 Cc cl fp => ?_) (fun _ _ _ _ _ => pg_name sc_forward.nd rfl (Or.inl rfl))
    · exact eg_from (R := IsI) (as := n0 :: ns) (n := 1) (eg_var 3 rfl (mN.up ex_hid1 g3)) eg_int
    · have := l3 a hm
      exact eg_mulO (mul64l (by omega)) (eg_var 7 rfl ra) (eg_var 7 rfl ra)
  cases (show v5 = _ from h5)
  cases (show v6 = _ from h6)
  generalize hF : (ns.map fun x => x * x).sum = far at *
  have p4 := p3.up e4
  have x4 := (e1.trans e2).trans (e3.trans (ex_hid2 e4))
  have g4 := mN.up (ex_hid2 (p := p) e4) g3
  refine b_while (fun m σ' H' => ∃ t : Int, 1 ≤ t ∧ t ≤ 21 ∧ m = (30 - t).toNat ∧ Ex (hid H4 p) (hid H' p) ∧ Pen p c (n + 1 + 10) H' ∧ σ' = [some (.ref p), some (.int (ax : Int)), some v1, some v3, some (.int b), some (.int far), some (.int t), none]) 29 ⟨1, by decide, by decide, by decide, Ex.refl _, p4, rfl⟩ fun m σ' H' ⟨t, t1, t2, hm, ex, pn, hσ⟩ => ⟨decide (t * t < far), ?_, fun h0 H5 e5 => ?_, fun h0 H5 e5 => ?_⟩
  · subst hσ
    exact tg_cm (cg_lt (eg_mulO (mul64l (by omega)) (eg_var 6 rfl rfl) (eg_var 6 rfl rfl)) (eg_var 5 rfl rfl))
  · subst hσ
    have lt := of_decide_eq_true h0
    have t20 : t ≤ 20 := by
      rcases Int.lt_or_le 20 t with z | z
      · have := Int.mul_le_mul (a := 21) (b := 21) (c := t) (d := t) (by omega) (by omega) (by decide) (by omega)
        omega
      · exact z
    refine b_asg (P := IsI (t + 1)) 6 sc_forward.nd (eg_add (eg_var 6 rfl rfl) eg_int) fun v7 H6 e6 h7 => b_nil ⟨(30 - (t + 1)).toNat, by omega, t + 1, by omega, by omega, rfl, ex.trans (ex_hid2 (e5.trans e6)), (pn.up e5).up e6, by cases (show v7 = _ from h7); rfl⟩
  · subst hσ
    have ge := of_decide_eq_false h0
    have x5 := ex.trans (ex_hid2 (p := p) e5)
    have g5 := mN.up x5 g4
    have hc5 := mC.up ((e3.trans (ex_hid2 e4)).trans x5) hc2
    refine qb_ret (P := FwW ax) (m := n + 20) ?_ (pn.up e5) fun v7 H6 e6 p6 h7 => hq v7 H6 (x4.trans (x5.trans e6)) p6 h7
    refine (qg_tup (Ps := [fun v H => ∃ i, (t ≤ i ∧ i ≤ t + 2) ∧ IsL IsI (i :: ns) v H, IsI b]) (hm := ?_) (qa_cons (hm := ?_) (m := n + 1 + 10 + 1) (qg_cat (φ := fun i => t ≤ i ∧ i ≤ t + 2) (bs := ns) (qg_lst (qa_cons (qg_add (qg_isP (f1 := fun i => i = t) (eg_var 6 rfl rfl) rfl) (qg_pen (⟨3, by decide, by decide⟩ : Many) D1 (hr.mono (by decide)) hc5 hcl (by omega) (qa_cons (qg_of (eg_var 0 rfl rfl)) (qa_cons (qg_of eg_int) qa_nil))) (fun i j h1 h2 => by have h2' : 0 ≤ j ∧ j < 3 := h2; omega)) qa_nil) (show 1 ≤ 1000 by decide)) ?_ (by omega)) (qa_cons (qg_of (eg_var 4 rfl rfl)) qa_nil)) (show 2 ≤ 1000 by decide)).imp (by omega) ?_
    · have : Mono (fun (v : V) (H : Hp) => ∃ i, (t ≤ i ∧ i ≤ t + 2) ∧ IsL IsI (i :: ns) v H) := ⟨fun e ⟨a, h1, h3⟩ => ⟨a, h1, (inferInstance : Mono (IsL IsI (a :: ns))).up e h3⟩⟩
      infer_instance
    · exact ⟨fun e ⟨a, h1, h3⟩ => ⟨a, h1, (inferInstance : Mono (IsL IsI (a :: ns))).up e h3⟩⟩
    · exact eg_from (R := IsI) (as := n0 :: ns) (n := 1) (eg_var 3 rfl g5) eg_int
    · intro v H ⟨d, xs, q1, q2, y1, r1, q3, ⟨i, l4, l5⟩, y2, r2, q4, q5, q7⟩
      refine ⟨⟨i, ns, b⟩, ⟨l1, hb.1, hb.2, ⟨by show 1 ≤ i; omega, by show i ≤ 40; omega⟩, l3, ?_⟩, d, xs, q1, q2, y1, r1, q3, l5, y2, r2, q4, q5, q7⟩
      show 0 ≤ timesI i ns i ns
      unfold timesI
      rw [zip_self, hF]
      have := Int.mul_le_mul (a := t) (b := t) (c := i) (d := i) l4.1 l4.1 (by omega) (by omega)
      omega
end
end G
set_option maxHeartbeats 4000000
namespace PySem.W
open PySem PySem.Calls PyProof.Rows
section
variable {prog : Program} {w : World} {A : Around} {E : Value → Shared → Prop} {s : Shared} {K : Frag} {x y C B L f g : Addr} {h₀ : Heap} {m : Str → Option Value} {ox oy : Obj} {od odB : Option Obj}
theorem gsp_binD {op : Operator} {rc rb : Option Value} {Q : Value → Shared → Prop} (F : Fr h₀ L s.heap m) (X₀ : K.In h₀) (I : InstAt s.heap x ox C od) (J : InstAt s.heap y oy B odB) (hne : C ≠ B) (hc : selfFirst K C = true) (hcb : selfFirst K B = true)
    (hs : findIn K (.ref C) (PySem.dunder op.info.2) = some (some (.ref f))) (hf : isFn K (.ref f) = true) (hr : findIn K (.ref C) (dunderR op.info.2) = some rc) (hp : rc = none ∨ ∃ g : Addr, rc = some (.ref g))
    (hsb : findIn K (.ref B) (PySem.dunder op.info.2) = some (some (.ref g))) (hrb : findIn K (.ref B) (dunderR op.info.2) = some rb) (hpb : rb = none ∨ ∃ g : Addr, rb = some (.ref g)) (hsub : subIn K (.ref B) (.ref C) = some false)
    (h : wpAny (model prog w) A (call (.ref f) [.ref x, .ref y]) (CmpBack Q) E s) : wpAny (model prog w) A (binaryOp op (.ref x) (.ref y)) Q E s := by
  have X := X₀.keeps F.keep
  obtain ⟨cd, rest, hcd, hm⟩ := ksp_first hc
  obtain ⟨cb, restb, hcdb, hmb⟩ := ksp_first hcb
  rcases hi : op.info with ⟨sym, nm'⟩
  rw [hi] at hs hr hsb hrb
  dsimp only at hs hr hsb hrb
  have one := ksp_try X I hs hf h
  have L1 := I.type (M := model prog w)
  have L2 := J.type (M := model prog w)
  obtain ⟨hh, gg, d, tt, os⟩ := s
  have L1 : Looks (model prog w) hh (typeOf (.ref x)) (.ref C) := L1
  have L2 : Looks (model prog w) hh (typeOf (.ref y)) (.ref B) := L2
  have L3 : Looks (model prog w) hh (fillsNumberSlot (.ref C) nm') true := fills_K X hcd hm hs
  have L4 : Looks (model prog w) hh (fillsNumberSlot (.ref B) nm') true := fills_K X hcdb hmb hsb
  have L5 : Looks (model prog w) hh (isSubtype (.ref B) (.ref C)) false := looks_subIn X hsub
  have L6 : Looks (model prog w) hh (numberSlotInPython (.ref C) nm') true := ksp_inPy X hs hr hp
  have L7 : Looks (model prog w) hh (numberSlotInPython (.ref B) nm') true := ksp_inPy X hsb hrb hpb
  have hne' : (Value.ref C == Value.ref B) = false := Bool.eq_false_iff.mpr fun q => by cases beq_iff_eq.mp q; exact hne rfl
  simp only [binaryOp, hi]
  refine wpAny_holding (wpAny_bind ?_)
  unfold binaryOp1
  refine wpAny_bind (L1.at (wpAny_bind (L2.at (wpAny_bind (L3.at ?_)))))
  simp only [hne', Bool.false_eq_true, if_false]
  ksp_lk
  refine wpAny_mono one (fun r s' hr' => ?_) fun _ _ e => e
  obtain ⟨v, rfl, hq⟩ := hr'
  ksp_lk
  exact hq
end
end PySem.W
namespace G
open PySem PySem.Spec PyProof.Rows L2 Evl
section
variable {X : Cx} {σ : L2.St} {H : Hp} {a b : Expr} {pos : Pos} {P P1 P2 : Rep} {k : Nat} {sp : Sp} {C B : Addr}
/-- an own class at B as the right one -/
structure SlotD (K : PySem.W.Frag) (C B : Addr) (nm : String) : Prop where
  ne : C ≠ B
  r : ∃ rc, PySem.W.findIn K (.ref C) (dunderR nm) = some rc ∧ (rc = none ∨ ∃ g : Addr, rc = some (.ref g))
  a : ∃ g : Addr, PySem.W.findIn K (.ref B) (PySem.dunder nm) = some (some (.ref g))
  b : ∃ rb, PySem.W.findIn K (.ref B) (dunderR nm) = some rb ∧ (rb = none ∨ ∃ g : Addr, rb = some (.ref g))
  s : PySem.W.subIn K (.ref B) (.ref C) = some false
  sf : PySem.W.selfFirst K B = true
theorem op_ownD {op : Operator} (hc : PySem.W.selfFirst X.K C = true) (D : OCal X.prog X.w X.K X.mg X.base C (PySem.dunder op.info.2) k sp) (hr : Room k X.A) (S : SlotD X.K C B op.info.2) : OpR X (binaryOp op) (rOwnD C B sp) := by
  intro pins s σ H x y v u Q I rx ry ⟨a, b, dx, dy, fs, gs, h1, h2, h3, h4, h5⟩
  obtain ⟨f, fd, ps, F, hs, hf, hb⟩ := D.ex
  subst h1 h2
  cases rx
  cases ry
  obtain ⟨mA, J, _⟩ := ins_get I.hok h3
  obtain ⟨mB, J', _⟩ := ins_get I.hok h4
  obtain ⟨od, J, _⟩ := J.look
  obtain ⟨od', J', _⟩ := J'.look
  obtain ⟨m, hF⟩ := I.fr
  obtain ⟨rc, hr1, hr2⟩ := S.r
  obtain ⟨g, hg⟩ := S.a
  obtain ⟨rb, hb1, hb2⟩ := S.b
  refine PySem.W.gsp_binD hF I.ok.mod.kin J J' S.ne hc S.sf hs hf hr1 hr2 hg hb1 hb2 S.s ?_
  refine thn (call_own (vs := [.ref a, .ref b]) (us := [.ref a, .ref b]) F hb ⟨hr, rfl⟩ I (.cons rfl (.cons rfl .nil)) h5) fun w s1 ⟨v, H1, I1, r1, q1⟩ => relV_back r1 ⟨v, H1, I1, r1, q1⟩
theorem eg_opOD {α : Type} {Qs : α → List Rep} {Post : α → Rep} {op : Operator} (t : α) [h1 : Mono P1] (D : OCal X.prog X.w X.K X.mg X.base C (PySem.dunder op.info.2) k (PSp Qs Post)) (hr : Room k X.A) (hc : PySem.W.selfFirst X.K C = true) (S : SlotD X.K C B op.info.2) (ha : EG X a σ H P1) (hb : EG X b σ H P2)
    (i1 : ∀ v H, P1 v H → AtC C v H) (i2 : ∀ v H, P2 v H → AtC B v H) (hq : ∀ x y H, P1 x H → P2 y H → Args (Qs t) [x, y] H) (hp : ∀ v H, Post t v H → P v H := by exact fun _ _ h => h) : EG X (.BinOp a op b pos) σ H P :=
  eg_of (pe_op (op_ownD hc D hr S) pe_W pe_W) (ep_op ha hb fun x y H1 _ px py Q q => by
    obtain ⟨a, dx, fs, e1, e2⟩ := i1 x H1 px
    obtain ⟨b, dy, gs, e3, e4⟩ := i2 y H1 py
    exact ⟨a, b, dx, dy, fs, gs, e1, e3, e2, e4, t, hq x y H1 px py, fun v H2 e h => q v H2 e (hp v H2 h)⟩)
end
end G
set_option maxHeartbeats 4000000
namespace G
open PySem PySem.Spec PyProof.Rows L2 Evl
section
variable {X : Cx} {σ : L2.St} {H : Hp} {a b d e cc : Expr} {pos pp : Pos} {P P1 P2 P3 P4 : Rep} {k n m l : Nat} {p c : Addr} {rest : List Stmt} {D : Ends} {y z u o : Str} {py pz pu po pt pt1 pt2 : Pos} {kt k1 k2 : Nat} {spos : Pos}
theorem b_par3 (i j l' : Nat) {pq : Pos} (hN : X.N.Nodup) [m1 : Mono P1] [m2 : Mono P2] (ha : EG X a σ H P1) (hb : EG X b σ H P2) (hd : EG X d σ H P3) (hij : i ≠ j) (hil : i ≠ l') (hjl : j ≠ l') (k : ∀ v w o H1, Ex H H1 → P1 v H1 → P2 w H1 → P3 o H1 → BW X rest D (((σ.set i (some v)).set j (some w)).set l' (some o)) H1)
    (hw : swappedStores [.Tuple [.Name y py, .Name z pz, .Name u pu] kt pt] (.Tuple [a, b, d] k2 pq) X.env = pure (some [y, z, u])) (hi : X.N[i]? = some y := by rfl) (hj : X.N[j]? = some z := by rfl) (hl : X.N[l']? = some u := by rfl) (hx : X.env.scope.names.lookup y = some .local := by rfl) (hy : X.env.scope.names.lookup z = some .local := by rfl) (hz : X.env.scope.names.lookup u = some .local := by rfl) (hc : X.calm = true := by rfl)
    (he : starEach [a, b, d] X.env = (false, eval a X.env) :: starEach [b, d] X.env := by rfl) (he2 : starEach [b, d] X.env = (false, eval b X.env) :: starEach [d] X.env := by rfl) (he3 : starEach [d] X.env = (false, eval d X.env) :: starEach [] X.env := by rfl)
    (hs : swapsWithSole [.Tuple [.Name y py, .Name z pz, .Name u pu] kt pt] (.Tuple [a, b, d] k2 pq) spos.line X.env = pure false := by rfl) : BW X (.Assign [.Tuple [.Name y py, .Name z pz, .Name u pu] kt pt] (.Tuple [a, b, d] k2 pq) spos :: rest) D σ H :=
  b_of (ps_par3 hc hN hi hj hl hij hil hjl hx hy hz (pa_cons pe_W (pa_cons pe_W (pa_cons pe_W pa_nil he3) he2) he) hw hs) (ha H (Ex.refl H) _ fun v H1 e1 pv => hb H1 e1 _ fun w H2 e2 pw => hd H2 (e1.trans e2) _ fun o H3 e3 po => ⟨v, w, o, rfl, k v w o H3 ((e1.trans e2).trans e3) (m1.up (e2.trans e3) pv) (m2.up e3 pw) po⟩)
/-- (w, x), (y, z) = e -/
theorem qb_22 (i j i2 j2 : Nat) (hN : X.N.Nodup) (he : QG X p c e σ (hid H p) n m (TupOf [TupOf [P1, P2], TupOf [P3, P4]])) (hp : Pen p c n H)
    (k : ∀ v1 v2 v3 v4 H1, Ex (hid H p) (hid H1 p) → Pen p c m H1 → P1 v1 (hid H1 p) → P2 v2 (hid H1 p) → P3 v3 (hid H1 p) → P4 v4 (hid H1 p) → BW X rest D ((((σ.set i (some v1)).set j (some v2)).set i2 (some v3)).set j2 (some v4)) H1)
    (g1 : PG X (.Name y py) (gName i)) (g2 : PG X (.Name z pz) (gName j)) (g3 : PG X (.Name u pu) (gName i2)) (g4 : PG X (.Name o po) (gName j2)) (hc : X.calm = true := by rfl)
    (hn1 : (assignEach [.Name y py, .Name z pz] X.env).length = 2 := by rfl) (hst1 : (assignEach [.Name y py, .Name z pz] X.env).findIdx? (·.1) = none := by rfl)
    (hn2 : (assignEach [.Name u pu, .Name o po] X.env).length = 2 := by rfl) (hst2 : (assignEach [.Name u pu, .Name o po] X.env).findIdx? (·.1) = none := by rfl)
    (hn3 : (assignEach [.Tuple [.Name y py, .Name z pz] k1 pt1, .Tuple [.Name u pu, .Name o po] k2 pt2] X.env).length = 2 := by rfl) (hst3 : (assignEach [.Tuple [.Name y py, .Name z pz] k1 pt1, .Tuple [.Name u pu, .Name o po] k2 pt2] X.env).findIdx? (·.1) = none := by rfl)
    (h1 : (assignEach [.Name y py, .Name z pz] X.env).map (·.2) = assign (.Name y py) X.env :: (assignEach [.Name z pz] X.env).map (·.2) := by rfl) (h2 : (assignEach [.Name z pz] X.env).map (·.2) = assign (.Name z pz) X.env :: (assignEach [] X.env).map (·.2) := by rfl)
    (h3 : (assignEach [.Name u pu, .Name o po] X.env).map (·.2) = assign (.Name u pu) X.env :: (assignEach [.Name o po] X.env).map (·.2) := by rfl) (h4 : (assignEach [.Name o po] X.env).map (·.2) = assign (.Name o po) X.env :: (assignEach [] X.env).map (·.2) := by rfl)
    (h5 : (assignEach [.Tuple [.Name y py, .Name z pz] k1 pt1, .Tuple [.Name u pu, .Name o po] k2 pt2] X.env).map (·.2) = assign (.Tuple [.Name y py, .Name z pz] k1 pt1) X.env :: (assignEach [.Tuple [.Name u pu, .Name o po] k2 pt2] X.env).map (·.2) := by rfl)
    (h6 : (assignEach [.Tuple [.Name u pu, .Name o po] k2 pt2] X.env).map (·.2) = assign (.Tuple [.Name u pu, .Name o po] k2 pt2) X.env :: (assignEach [] X.env).map (·.2) := by rfl)
    (hs : swapsWithSole [.Tuple [.Tuple [.Name y py, .Name z pz] k1 pt1, .Tuple [.Name u pu, .Name o po] k2 pt2] kt pt] e spos.line X.env = pure false := by rfl) (hw : swappedStores [.Tuple [.Tuple [.Name y py, .Name z pz] k1 pt1, .Tuple [.Name u pu, .Name o po] k2 pt2] kt pt] e X.env = pure none := by rfl)
    (h7 : (assignEach [.Tuple [.Tuple [.Name y py, .Name z pz] k1 pt1, .Tuple [.Name u pu, .Name o po] k2 pt2] kt pt] X.env).map (·.2) = [assign (.Tuple [.Tuple [.Name y py, .Name z pz] k1 pt1, .Tuple [.Name u pu, .Name o po] k2 pt2] kt pt) X.env] := by rfl) :
    BW X (.Assign [.Tuple [.Tuple [.Name y py, .Name z pz] k1 pt1, .Tuple [.Name u pu, .Name o po] k2 pt2] kt pt] e spos :: rest) D σ H :=
  b_of (ps_asg pe_W (pg_tup hc (pgs_cons (pg_tup hc (pgs_cons g1 (pgs_cons g2 pgs_nil h2) h1) hn1 hst1) (pgs_cons (pg_tup hc (pgs_cons g3 (pgs_cons g4 pgs_nil h4) h3) hn2 hst2) pgs_nil h6) h5) hn3 hst3) hs hw h7) (he H (Ex.refl _) hp _ fun v H1 e1 p1 ⟨w, xs, q1, q2, v1, r1, q3, ⟨w1, xs1, q4, q5, a1, s1, q6, q7, a2, s2, q8, q9, q10⟩, v2, r2, q11, ⟨w2, xs2, t4, t5, a3, s3, t6, t7, a4, s4, t8, t9, t10⟩, q12⟩ => by
    refine ⟨w, xs, q1, SqT.of (ex_hid1 _ _ q2), by rw [q3, q11, show r2 = [] from q12]; rfl, v1, r1, q3, ⟨w1, xs1, q4, SqT.of (ex_hid1 _ _ q5), by rw [q6, q8, show s2 = [] from q10]; rfl, a1, s1, q6, a2, s2, q8, q10, v2, r2, q11, ⟨w2, xs2, t4, SqT.of (ex_hid1 _ _ t5), by rw [t6, t8, show s4 = [] from t10]; rfl, a3, s3, t6, a4, s4, t8, t10, q12, ?_⟩⟩⟩
    exact k a1 a2 a3 a4 H1 e1 p1 q7 q9 t7 t9)
/-- name = [elt for x, z in ..] -/
theorem b_asgLc2 {α γ β : Type} {R : α → Rep} {R2 : γ → Rep} {S : β → Rep} {qs : List (α × γ)} {x z : Str} {iter elt : Expr} {scope : Scope} (i j k : Nat) {px pz tp : Pos} {kk : Nat} [hR : ∀ a, Mono (R a)] [hR2 : ∀ a, Mono (R2 a)] [hS : ∀ b, Mono (S b)] (f : α × γ → β) (hN : X.N.Nodup) (hi : IterP X (.Tuple [.Name x px, .Name z pz] kk tp) iter σ H (Pr2 R R2) qs) (hz : qs.length ≤ 1000000)
    (he : ∀ q ∈ qs, ∀ v w H', Ex H H' → R q.1 v H' → R2 q.2 w H' → ∀ s H0 C cl fp, EG (X.blk s H0 scope (compEnvC scope cl C X.env) fp) elt ((((σ.set k none).set j none).set j (some v)).set k (some w)) H' (S (f q)))
    (hg : ∀ (s : Shared) (H : Hp) (C : Addr) (cl : List (Str × Addr)) (fp : List Addr), PG (X.blk s H scope (compEnvC scope cl C X.env) fp) (.Tuple [.Name x px, .Name z pz] kk tp) (gTup X.K 2 (gCons (gName j) (gCons (gName k) gNil))))
    (kn : ∀ v H1, Ex H H1 → IsL S (qs.map f) v H1 → BW X rest D (σ.set i (some v)) H1) (hy : X.N[i]? = some y := by rfl) (hyl : X.env.scope.names.lookup y = some .local := by rfl) (ok : BlkOk X.N X.env.scope scope [(x, j), (z, k)] := by exact blkOk_by (by rfl)) (hc : X.calm = true := by rfl)
    (hs : ∀ x, foldedSetIterable iter X.env x = pure x := by intro _; rfl) (hsw : swapsWith (.ListComp elt [⟨.Tuple [.Name x px, .Name z pz] kk tp, iter, [], 0⟩] scope pos) (some (.Name y py)) spos.line X.env = pure true := by rfl) :
    BW X (.Assign [.Name y py] (.ListComp elt [⟨.Tuple [.Name x px, .Name z pz] kk tp, iter, [], 0⟩] scope pos) spos :: rest) D σ H := by
  obtain ⟨wi, hpi, h⟩ := lc_read (q := fun _ => true) (vs := [j, k]) hi hz (tgt_pr (X := X)) (yes_read fun _ _ => rfl) (scope := scope) (elt := elt) (S := S) (f := f) fun a ha _ σ2 H' e ⟨v, w, hv, hr, hr2⟩ H1 e1 Q hQ s H0 C cl fp => by
    subst hv
    exact (he a ha v w H' e hr hr2 s H0 C cl fp) H1 e1 Q hQ
  rw [filter_true] at h
  exact b_of (ps_setLc (own := [(x, j), (z, k)]) hc hN hy hyl hsw hpi ok hg (fun _ _ _ _ _ => pts_nil) ue_pe hs) (h H (Ex.refl H) _ kn)
theorem qt_orF {bb : Bool} {ψ : Bool → Prop} (h1 : QT X p c a σ H n n (fun b => b = bb)) (h2 : QT X p c b σ H n m ψ) (hnm : n ≤ m) : QT X p c (.BoolOp .Or [a, b] pos) σ H n m (fun b => b = false → bb = false) :=
  fun H1 e1 hp Q q pins s I => (pw_or (pt_W (X := X)) (pw_or1 (pt_W (X := X)))).run _ pins s σ H1 Q I (h1 H1 e1 hp _ fun b1 H2 e2 p2 hb => by
    subst hb
    cases b1 with
    | true => rw [if_pos rfl]; exact q true H2 e2 (p2.mono hnm) fun z => nomatch z
    | false => rw [if_neg Bool.false_ne_true]; exact h2 H2 (e1.trans e2) p2 Q fun b2 H3 e3 p3 _ => q b2 H3 (e2.trans e3) p3 fun _ => rfl)
/-- f(a, x = b) of two parameters -/
def g11 {α : Type} : List α → List α → List α
  | [u], [w] => [u, w]
  | _, _ => []
structure KwCal (P : Program) (w : World) (K : PySem.W.Frag) (mg : Str → Option Value) (base : Heap) (x : Str) (k : Nat) (sp : Sp) (ks : List Str) : Prop where
  ex : ∃ f fd ps, FnOk P w K mg base CX0 k f fd ps sp ∧ mg x = some (.ref f) ∧ PySem.W.keepIn K (.ref f) = true ∧ KBinds K fd ps ks g11 g11
theorem eg_callKw {α : Type} {Qs : α → List Rep} {Post : α → Rep} {x nm : Str} {kpos : Pos} (t : α) [m1 : Mono P1] (D : KwCal X.prog X.w X.K X.mg X.base x k (PSp Qs Post) [nm]) (hr : Room k X.A) (ha : EG X a σ H P1) (hb : EG X b σ H P2) (hq : ∀ v w H, P1 v H → P2 w H → Args (Qs t) [v, w] H) (hg : Gl X x := by rfl)
    (hall : (backToKw pos (keywordEach [⟨some nm, b, kpos⟩] X.env)).all (·.1.isSome) = true := by rfl) (hks : (backToKw pos (keywordEach [⟨some nm, b, kpos⟩] X.env)).filterMap (·.1) = [nm] := by rfl) (hdb : (x == ("__debug__" : Str)) = false := by decide) (he : starEach [a] X.env = (false, eval a X.env) :: starEach [] X.env := by rfl)
    (hpl : ((backTo pos (starEach [a] X.env)).any (·.1) || (backToKw pos (keywordEach [⟨some nm, b, kpos⟩] X.env)).any (·.1.isNone)) = false := by rfl) (hp : ∀ v H, Post t v H → P v H := by exact fun _ _ h => h) : EG X (.Call (.Name x pp) [a] [⟨some nm, b, kpos⟩] pos) σ H P := by
  obtain ⟨f, fd, ps, F, hm, hk, hb'⟩ := D.ex
  refine eg_of (pe_callK (E := E0) F hr hg hm hk hb' pass0 (pa_cons pe_W pa_nil he) (pk_cons pe_W pk_nil) hall hks hdb he hpl) fun H1 e1 Q q => ha H1 e1 _ fun v H2 e2 pv => hb H2 (e1.trans e2) _ fun w H3 e3 pw => ?_
  exact ⟨t, hq v w H3 (m1.up e3 pv) pw, fun r H4 e4 hr => q r H4 ((e2.trans e3).trans e4) (hp r H4 hr)⟩
end
/-! ### steps by an operator -/
section
variable {X : Cx} {σ : L2.St} {H : Hp} {ea eb : Expr} {pos pp : Pos} {C CS : Addr} {s r u : StepV}
theorem args2 {P Q : Rep} {x y : V} {H : Hp} (h1 : P x H) (h2 : Q y H) : Args [P, Q] [x, y] H := ⟨x, _, rfl, h1, y, _, rfl, h2, rfl⟩
theorem eg_sadd (D : OCal X.prog X.w X.K X.mg X.base CS dAdd 8 (SpSAdd CS C)) (S : StepC X.K X.mg CS) (hr : Room 8 X.A) (h1 : SmS 340 s) (h2 : SmS 340 r) (ax : AxS s) (hl : s.ps.length = r.ps.length) (ha : EG X ea σ H (IsStep CS C s)) (hb : EG X eb σ H (IsStep CS C r)) (he : addS s r = u := by rfl) : EG X (.BinOp ea .Add eb pos) σ H (IsStep CS C u) :=
  eg_opO (op := .Add) (⟨(s, r), h1, h2, ax, hl⟩ : TwoS 340) D hr S.sf ha hb isS_at isS_at (fun x y H h1 h2 => args2 h1 h2) (fun v H h => he ▸ h)
theorem eg_ssub (D : OCal X.prog X.w X.K X.mg X.base CS dSub 8 (SpSSub CS C)) (S : StepC X.K X.mg CS) (hr : Room 8 X.A) (h1 : SmS 340 s) (h2 : SmS 340 r) (ax : AxS s) (hl : s.ps.length = r.ps.length) (ha : EG X ea σ H (IsStep CS C s)) (hb : EG X eb σ H (IsStep CS C r)) (he : subS s r = u := by rfl) : EG X (.BinOp ea .Sub eb pos) σ H (IsStep CS C u) :=
  eg_opO (op := .Sub) (⟨(s, r), h1, h2, ax, hl⟩ : TwoS 340) D hr S.sf ha hb isS_at isS_at (fun x y H h1 h2 => args2 h1 h2) (fun v H h => he ▸ h)
theorem eg_sneg (D : OCal X.prog X.w X.K X.mg X.base CS "__neg__" 8 (SpSNeg CS C)) (hr : Room 8 X.A) (h1 : SmS 340 s) (ax : AxS s) (ha : EG X ea σ H (IsStep CS C s)) (he : negS s = u := by rfl) : EG X (.UnaryOp .USub ea pos) σ H (IsStep CS C u) :=
  eg_negO (⟨s, h1, ax⟩ : {s : StepV // SmS 340 s ∧ AxS s}) D hr ha isS_at (fun x H h1 => ⟨x, _, rfl, h1, rfl⟩) (fun v H h => he ▸ h)
theorem cg_seq (D : OCal X.prog X.w X.K X.mg X.base CS "__eq__" 8 (SpSEq CS C)) (hr : Room 8 X.A) (he : s = r) (ha : EG X ea σ H (IsStep CS C s)) (hb : EG X eb σ H (IsStep CS C r)) : CG X .Eq ea eb σ H true := by
  subst he
  exact cg_eqO (P1 := IsStep CS C s) (P2 := IsStep CS C s) (bb := fun _ => true) s D hr ha hb isS_at isS_at (fun x y H h1 h2 => args2 h1 h2) rfl
theorem cg_sne (N : NeO X.K CS) (D : OCal X.prog X.w X.K X.mg X.base CS "__eq__" 8 (SpSEq CS C)) (hr : Room 9 X.A) (he : s = r) (ha : EG X ea σ H (IsStep CS C s)) (hb : EG X eb σ H (IsStep CS C r)) : CG X .NotEq ea eb σ H false := by
  subst he
  exact cg_neO (P1 := IsStep CS C s) (P2 := IsStep CS C s) (bb := fun _ => true) s N D hr ha hb isS_at isS_at (fun x y H h1 h2 => args2 h1 h2) rfl
variable {a b : Rat}
theorem cg_req (D : OCal X.prog X.w X.K X.mg X.base C "__eq__" 2 (SpREq C)) (hr : Room 2 X.A) (ha : EG X ea σ H (IsR C a)) (hb : EG X eb σ H (IsR C b)) : CG X .Eq ea eb σ H (decide (a = b)) :=
  cg_eqO (P1 := IsR C a) (P2 := IsR C b) ((a, .inl b) : Rat × RI) D hr ha hb isR_at isR_at (fun x y H h1 h2 => args2 h1 h2) rfl
theorem cg_rne (N : NeO X.K C) (D : OCal X.prog X.w X.K X.mg X.base C "__eq__" 2 (SpREq C)) (hr : Room 3 X.A) (ha : EG X ea σ H (IsR C a)) (hb : EG X eb σ H (IsR C b)) : CG X .NotEq ea eb σ H (!decide (a = b)) :=
  cg_neO (P1 := IsR C a) (P2 := IsR C b) ((a, .inl b) : Rat × RI) N D hr ha hb isR_at isR_at (fun x y H h1 h2 => args2 h1 h2) rfl
theorem cg_reqI {i : Int} (D : OCal X.prog X.w X.K X.mg X.base C "__eq__" 2 (SpREq C)) (hr : Room 2 X.A) (hn : PySem.W.notFirst X.K C (.type "int") = true) (ha : EG X ea σ H (IsR C a)) (hb : EG X eb σ H (IsI i)) : CG X .Eq ea eb σ H (decide (a = (i : Rat))) :=
  cg_eqOI (P1 := IsR C a) ((a, .inr i) : Rat × RI) D hr hn ha hb isR_at (fun x H h1 => args2 h1 rfl) rfl
theorem eg_prod {x : Str} (D : Cal X.prog X.w X.K X.mg X.base x 6 [] (SpProd CS C)) (hr : Room 6 X.A) (h1 : SmS 300 s) (h2 : SmS 300 r) (ax : AxS s) (hl : s.ps.length = r.ps.length) (ha : EG X ea σ H (IsStep CS C s)) (hb : EG X eb σ H (IsStep CS C r)) (hg : Gl X x := by rfl) (hdb : (x == ("__debug__" : Str)) = false := by decide)
    (he : starEach [ea, eb] X.env = (false, eval ea X.env) :: starEach [eb] X.env := by rfl) (he2 : starEach [eb] X.env = (false, eval eb X.env) :: starEach [] X.env := by rfl) (hpl : (backTo pos (starEach [eb] X.env)).any (·.1) = false := by rfl) : EG X (.Call (.Name x pp) [ea, eb] [] pos) σ H (IsR C (prodQ s r)) :=
  eg_callP (⟨(s, r), h1, h2, ax, hl⟩ : TwoS 300) D hr (ag_cons ha (ag_cons hb ag_nil he2) he) hg hdb he hpl
end
/-! ### sums of steps -/
theorem zip_comm_add : ∀ (ps qs : List Rat), (ps.zip qs).map (fun q => q.1 + q.2) = (qs.zip ps).map fun q => q.1 + q.2
  | [], [] => rfl
  | [], _ :: _ => rfl
  | _ :: _, [] => rfl
  | p :: ps, q :: qs => by
    show (p + q) :: (ps.zip qs).map (fun q => q.1 + q.2) = (q + p) :: (qs.zip ps).map fun q => q.1 + q.2
    rw [zip_comm_add ps qs, Rat.add_comm]
theorem addS_comm (s r : StepV) : addS s r = addS r s := by
  unfold addS
  rw [zip_comm_add, Rat.add_comm]
theorem zip_assoc_add : ∀ (ps qs us : List Rat), (((ps.zip qs).map fun q => q.1 + q.2).zip us).map (fun q => q.1 + q.2) = (ps.zip ((qs.zip us).map fun q => q.1 + q.2)).map fun q => q.1 + q.2
  | [], _, _ => rfl
  | _ :: _, [], _ => rfl
  | _ :: _, _ :: _, [] => rfl
  | p :: ps, q :: qs, u :: us => by
    show (p + q + u) :: _ = (p + (q + u)) :: _
    rw [Rat.add_assoc]
    congr 1
    exact zip_assoc_add ps qs us
theorem addS_assoc (s r u : StepV) : addS (addS s r) u = addS s (addS r u) := by
  unfold addS
  dsimp only
  rw [zip_assoc_add, Rat.add_assoc]
theorem dot_comm : ∀ (ps qs : List Rat), dotQ ps qs = dotQ qs ps
  | [], [] => rfl
  | [], _ :: _ => rfl
  | _ :: _, [] => rfl
  | p :: ps, q :: qs => by
    show p * q + dotQ ps qs = q * p + dotQ qs ps
    rw [dot_comm ps qs, Rat.mul_comm]
theorem prod_comm (s r : StepV) : prodQ s r = prodQ r s := by
  rw [prodQ_eq, prodQ_eq, dot_comm, Rat.mul_comm]
theorem dot_add : ∀ (ps qs us : List Rat), ps.length = qs.length → dotQ ((ps.zip qs).map fun q => q.1 + q.2) us = dotQ ps us + dotQ qs us
  | [], [], us, _ => by
    show (0 : Rat) = 0 + 0
    grind
  | _ :: _, _ :: _, [], _ => by
    show (0 : Rat) = 0 + 0
    grind
  | p :: ps, q :: qs, u :: us, h => by
    show (p + q) * u + dotQ ((ps.zip qs).map fun q => q.1 + q.2) us = (p * u + dotQ ps us) + (q * u + dotQ qs us)
    rw [dot_add ps qs us (by simpa using h)]
    grind
theorem prod_add (s r u : StepV) (hl : s.ps.length = r.ps.length) : prodQ (addS s r) u = prodQ s u + prodQ r u := by
  rw [prodQ_eq, prodQ_eq, prodQ_eq]
  show (s.t + r.t) * u.t - dotQ ((s.ps.zip r.ps).map fun q => q.1 + q.2) u.ps = _
  rw [dot_add _ _ _ hl]
  grind
theorem sm_prodF {n : Nat} : ∀ (qs : List (Rat × Rat)) (a : Rat) (k : Nat), Sm k a → (∀ q ∈ qs, Sm n (q.1 * q.2)) → Sm (k + qs.length * (n + 1)) (prodF qs a)
  | [], a, k, h, _ => by simpa [prodF] using h
  | q :: qs, a, k, h, hq => by
    have := sm_prodF qs (a - q.1 * q.2) (k + n + 1) (sm_sub h (hq q (List.mem_cons_self ..))) fun x hx => hq x (List.mem_cons_of_mem _ hx)
    rw [List.length_cons]
    refine Sm.mono this ?_
    rw [Nat.add_mul]
    omega
theorem sm_prod {n : Nat} {s r : StepV} (h1 : SmS n s) (h2 : SmS n r) (hl : s.ps.length ≤ 3) : Sm (8 * n + 3) (prodQ s r) := by
  have := sm_prodF (n := 2 * n) (s.ps.zip r.ps) (s.t * r.t) (2 * n) ((sm_mul h1.1 h2.1).mono (by omega)) fun q hq => by
    have zm := List.of_mem_zip (show (q.1, q.2) ∈ s.ps.zip r.ps from hq)
    exact (sm_mul (h1.2 _ zm.1) (h2.2 _ zm.2)).mono (by omega)
  refine this.mono ?_
  have : (s.ps.zip r.ps).length ≤ 3 := by rw [List.length_zip]; omega
  have : (s.ps.zip r.ps).length * (2 * n + 1) ≤ 3 * (2 * n + 1) := Nat.mul_le_mul_right _ this
  omega
theorem len_add (s r : StepV) (hl : s.ps.length = r.ps.length) : (addS s r).ps.length = s.ps.length := by
  show ((s.ps.zip r.ps).map _).length = _
  rw [List.length_map, List.length_zip, hl, Nat.min_self]
section
variable {P : Program} {w : World} {K : PySem.W.Frag} {mg : Str → Option Value} {base : Heap} {f : Addr} {fd : FuncData} {C CS : Addr}
abbrev SharedA := {t : Pl × Pl × Pl // t.1.ok 30 ∧ t.2.1.ok 30 ∧ t.2.2.ok 30 ∧ t.1.ns.length = t.2.1.ns.length ∧ t.1.ns.length = t.2.2.ns.length}
abbrev SpShared : Sp := PSp (fun t : SharedA => [IsPl t.1.1, IsPl t.1.2.1, IsPl t.1.2.2]) fun _ => IsB true
theorem sc_shared : FnScope ["_law_one", "_law_other", "_law_third", "_law_here", "_law_there", "_law_beside", "_law_both"] ["_law_one", "_law_other", "_law_third"] (defScope (top 53)) := ⟨rfl, rfl, rfl, by decide +kernel, rfl, by decide +kernel, by decide +kernel⟩
theorem pl_len {p q : Pl} (h : p.ns.length = q.ns.length) : (stepP p).ps.length = (stepP q).ps.length := by
  unfold stepP
  rw [List.length_map, List.length_map, h]
theorem pl_ok {k m : Nat} {p : Pl} (h : p.ok k) (hk : k ≤ m) : p.ok m := ⟨h.l1, h.l2, h.pos, b_up h.bb hk, b_up h.bn hk, fun x hx => b_up (h.bs x hx) hk⟩
theorem ok_shared (R : RatC K mg C) (S : StepC K mg CS) (D1 : Cal P w K mg base "_law_made" 8 [] (SpMade CS C)) (D2 : Cal P w K mg base "product_of" 6 [] (SpProd CS C)) (D3 : OCal P w K mg base C dAdd 5 (SpR2 C fun a b => a + b)) (D4 : OCal P w K mg base CS dAdd 8 (SpSAdd CS C)) (D5 : OCal P w K mg base C "__eq__" 2 (SpREq C)) (D6 : OCal P w K mg base CS "__eq__" 8 (SpSEq CS C))
    (F : FnP K "_law_shared_right" "_law_shared_right" (top 53) [] f fd) : FnOk P w K mg base CX0 9 f fd ["_law_one", "_law_other", "_law_third"] SpShared := by
  refine fn_pure F sc_shared (fun _ => rfl) fun t cdv Ar outer s H E vs Q hr ha hq => ?_
  obtain ⟨⟨p1, p2, p3⟩, o1, o2, o3, l2, l3⟩ := t
  obtain ⟨v1, r1, rfl, h1, v2, r2, rfl, h2, v3, r3, rfl, h3, hr2⟩ := ha
  cases (show r3 = [] from hr2)
  have s1 : SmS 30 (stepP p1) := pl_sm o1
  have s2 : SmS 30 (stepP p2) := pl_sm o2
  have s3 : SmS 30 (stepP p3) := pl_sm o3
  have a1 : AxS (stepP p1) := pl_ax o1
  have a2 : AxS (stepP p2) := pl_ax o2
  have n2 : (stepP p1).ps.length = (stepP p2).ps.length := pl_len l2
  have n3 : (stepP p1).ps.length = (stepP p3).ps.length := pl_len l3
  have n23 := n2.symm.trans n3
  refine b_par3 (P1 := IsStep CS C (stepP p1)) (P2 := IsStep CS C (stepP p2)) (P3 := IsStep CS C (stepP p3)) 3 4 5 sc_shared.nd ?_ ?_ ?_ (by decide) (by decide) (by decide) (fun v4 v5 v6 H1 e1 h4 h5 h6 => ?_) rfl
  · exact eg_callP (⟨p1, pl_ok o1 (by decide)⟩ : {p : Pl // p.ok 600}) D1 hr (ag_cons (eg_var 0 rfl h1) ag_nil)
  · exact eg_callP (⟨p2, pl_ok o2 (by decide)⟩ : {p : Pl // p.ok 600}) D1 hr (ag_cons (eg_var 1 rfl h2) ag_nil)
  · exact eg_callP (⟨p3, pl_ok o3 (by decide)⟩ : {p : Pl // p.ok 600}) D1 hr (ag_cons (eg_var 2 rfl h3) ag_nil)
  refine b_asg (P := IsR C (prodQ (stepP p1) (stepP p3) + prodQ (stepP p2) (stepP p3))) 6 sc_shared.nd ?_ fun v7 H2 e2 h7 => ?_
  · refine eg_rop D3 R (hr.mono (by decide)) ((sm_prod s1 s3 a1.2).mono (by decide)) ((sm_prod s2 s3 a2.2).mono (by decide)) ?_ ?_
    · exact eg_prod D2 (hr.mono (by decide)) (s1.mono (by decide)) (s3.mono (by decide)) a1 n3 (eg_var 3 rfl h4) (eg_var 5 rfl h6)
    · exact eg_prod D2 (hr.mono (by decide)) (s2.mono (by decide)) (s3.mono (by decide)) a2 n23 (eg_var 4 rfl h5) (eg_var 5 rfl h6)
  replace h4 := Mono.up e2 h4
  replace h5 := Mono.up e2 h5
  replace h6 := Mono.up e2 h6
  have sa := smS_add s1 s2
  have axa : AxS (addS (stepP p1) (stepP p2)) := ax_zip a1 n2
  have la := len_add (stepP p1) (stepP p2) n2
  have sb := smS_add s2 s3
  have lb := len_add (stepP p2) (stepP p3) n23
  refine b_ret (P := IsB true) ?_ fun v H3 e3 h => hq v H3 ((e1.trans e2).trans e3) h
  refine eg_and (bb := true) (bc := true) ?_ fun _ => eg_one ?_
  · refine eg_cm (CG.is (cg_req D5 (hr.mono (by decide)) (eg_prod D2 (hr.mono (by decide)) (sa.mono (by decide)) (s3.mono (by decide)) axa (la.trans n3) (eg_sadd D4 S hr (s1.mono (by decide)) (s2.mono (by decide)) a1 n2 (eg_var 3 rfl h4) (eg_var 4 rfl h5)) (eg_var 5 rfl h6)) (eg_var 6 rfl h7)) (decide_eq_true (prod_add _ _ _ n2)))
  · refine eg_cm (cg_seq D6 hr (addS_assoc (stepP p1) (stepP p2) (stepP p3)) ?_ ?_)
    · exact eg_sadd D4 S hr (sa.mono (by decide)) (s3.mono (by decide)) axa (la.trans n3) (eg_sadd D4 S hr (s1.mono (by decide)) (s2.mono (by decide)) a1 n2 (eg_var 3 rfl h4) (eg_var 4 rfl h5)) (eg_var 5 rfl h6)
    · exact eg_sadd D4 S hr (s1.mono (by decide)) (sb.mono (by decide)) a1 (n2.trans lb.symm) (eg_var 3 rfl h4) (eg_sadd D4 S hr (s2.mono (by decide)) (s3.mono (by decide)) a2 n23 (eg_var 4 rfl h5) (eg_var 5 rfl h6))
end
end G
set_option maxHeartbeats 4000000
namespace G
open PySem PySem.Spec PyProof.Rows L2 Evl
def plusP (p q : Pl) : Pl := ⟨p.n * q.b + q.n * p.b, (p.ns.zip q.ns).map fun x => x.1 * q.b + x.2 * p.b, p.b * q.b⟩
def lessP (p q : Pl) : Pl := ⟨p.n * q.b - q.n * p.b, (p.ns.zip q.ns).map fun x => x.1 * q.b - x.2 * p.b, p.b * q.b⟩
def minusP (p : Pl) : Pl := ⟨-p.n, p.ns.map fun x => -x, p.b⟩
def manyP (p : Pl) (a b : Int) : Pl := ⟨p.n * a, p.ns.map fun x => x * a, p.b * b⟩
theorem zipmap {α β γ : Type} {f : α → β} {g : α → β} {h : β × β → γ} : ∀ (xs ys : List α), ((xs.map f).zip (ys.map g)).map h = (xs.zip ys).map fun q => h (f q.1, g q.2)
  | [], _ => rfl
  | _ :: _, [] => rfl
  | x :: xs, y :: ys => by
    show h (f x, g y) :: _ = h (f x, g y) :: _
    congr 1
    exact zipmap xs ys
theorem addS_P {p q : Pl} (hp : 0 < p.b) (hq : 0 < q.b) : addS (stepP p) (stepP q) = stepP (plusP p q) := by
  unfold addS stepP plusP
  dsimp only
  rw [zipmap, List.map_map, dd_add hp hq]
  congr 1
  exact List.map_congr_left fun x _ => dd_add hp hq
theorem subS_P {p q : Pl} (hp : 0 < p.b) (hq : 0 < q.b) : subS (stepP p) (stepP q) = stepP (lessP p q) := by
  unfold subS stepP lessP
  dsimp only
  rw [zipmap, List.map_map, dd_sub hp hq]
  congr 1
  exact List.map_congr_left fun x _ => dd_sub hp hq
theorem negS_P (p : Pl) : negS (stepP p) = stepP (minusP p) := by
  unfold negS stepP minusP
  dsimp only
  rw [List.map_map, List.map_map, dd_neg]
  congr 1
  exact List.map_congr_left fun x _ => dd_neg
theorem mulS_P (p : Pl) (a b : Int) : mulS (stepP p) (Rat.divInt a b) = stepP (manyP p a b) := by
  unfold mulS stepP manyP
  dsimp only
  rw [List.map_map, List.map_map, dd_mul]
  congr 1
  exact List.map_congr_left fun x _ => dd_mul
theorem dot_P {b d : Int} (hb : 0 < b) (hd : 0 < d) : ∀ (ns ms : List Int), dotQ (ns.map fun x => Rat.divInt x b) (ms.map fun x => Rat.divInt x d) = Rat.divInt ((ns.zip ms).map fun q => q.1 * q.2).sum (b * d)
  | [], ms => by
    show (0 : Rat) = Rat.divInt 0 _
    rw [Rat.zero_divInt]
  | _ :: _, [] => by
    show (0 : Rat) = Rat.divInt 0 _
    rw [Rat.zero_divInt]
  | n :: ns, m :: ms => by
    show Rat.divInt n b * Rat.divInt m d + dotQ (ns.map fun x => Rat.divInt x b) (ms.map fun x => Rat.divInt x d) = Rat.divInt (n * m + ((ns.zip ms).map fun q => q.1 * q.2).sum) (b * d)
    rw [dot_P hb hd ns ms, dd_mul, dd_addS (Int.mul_pos hb hd)]
theorem prod_P {p q : Pl} (hp : 0 < p.b) (hq : 0 < q.b) : prodQ (stepP p) (stepP q) = Rat.divInt (timesI p.n p.ns q.n q.ns) (p.b * q.b) := by
  rw [prodQ_eq]
  unfold stepP timesI
  dsimp only
  rw [dot_P hp hq, dd_mul, dd_subS (Int.mul_pos hp hq)]
theorem ok_plus {p q : Pl} (h : p.ok 30) (g : q.ok 30) (hl : p.ns.length = q.ns.length) : (plusP p q).ok 61 where
  l1 := by show 1 ≤ ((p.ns.zip q.ns).map _).length; rw [List.length_map, List.length_zip, ← hl, Nat.min_self]; exact h.l1
  l2 := by show ((p.ns.zip q.ns).map _).length ≤ 3; rw [List.length_map, List.length_zip, ← hl, Nat.min_self]; exact h.l2
  pos := Int.mul_pos h.pos g.pos
  bb := b_up (b_mul h.bb g.bb) (by decide)
  bn := b_add (n := 60) (b_mul h.bn g.bb) (b_mul g.bn h.bb)
  bs := fun x hx => by
    obtain ⟨q', hq, rfl⟩ := List.mem_map.mp hx
    have zm := List.of_mem_zip (show (q'.1, q'.2) ∈ p.ns.zip q.ns from hq)
    exact b_add (n := 60) (b_mul (h.bs _ zm.1) g.bb) (b_mul (g.bs _ zm.2) h.bb)
theorem ok_less {p q : Pl} (h : p.ok 30) (g : q.ok 30) (hl : p.ns.length = q.ns.length) : (lessP p q).ok 61 where
  l1 := by show 1 ≤ ((p.ns.zip q.ns).map _).length; rw [List.length_map, List.length_zip, ← hl, Nat.min_self]; exact h.l1
  l2 := by show ((p.ns.zip q.ns).map _).length ≤ 3; rw [List.length_map, List.length_zip, ← hl, Nat.min_self]; exact h.l2
  pos := Int.mul_pos h.pos g.pos
  bb := b_up (b_mul h.bb g.bb) (by decide)
  bn := b_sub (n := 60) (b_mul h.bn g.bb) (b_mul g.bn h.bb)
  bs := fun x hx => by
    obtain ⟨q', hq, rfl⟩ := List.mem_map.mp hx
    have zm := List.of_mem_zip (show (q'.1, q'.2) ∈ p.ns.zip q.ns from hq)
    exact b_sub (n := 60) (b_mul (h.bs _ zm.1) g.bb) (b_mul (g.bs _ zm.2) h.bb)
theorem ok_minus {p : Pl} {k : Nat} (h : p.ok k) : (minusP p).ok k where
  l1 := by show 1 ≤ (p.ns.map _).length; rw [List.length_map]; exact h.l1
  l2 := by show (p.ns.map _).length ≤ 3; rw [List.length_map]; exact h.l2
  pos := h.pos
  bb := h.bb
  bn := by show (-p.n).natAbs < _; rw [Int.natAbs_neg]; exact h.bn
  bs := fun x hx => by
    obtain ⟨y, hy, rfl⟩ := List.mem_map.mp hx
    rw [Int.natAbs_neg]
    exact h.bs y hy
theorem ok_many {p : Pl} {a b : Int} (h : p.ok 30) (ha : a.natAbs < 2 ^ 30) (hb : b.natAbs < 2 ^ 30) (h0 : 0 < b) : (manyP p a b).ok 60 where
  l1 := by show 1 ≤ (p.ns.map _).length; rw [List.length_map]; exact h.l1
  l2 := by show (p.ns.map _).length ≤ 3; rw [List.length_map]; exact h.l2
  pos := Int.mul_pos h.pos h0
  bb := b_mul h.bb hb
  bn := b_mul h.bn ha
  bs := fun x hx => by
    obtain ⟨y, hy, rfl⟩ := List.mem_map.mp hx
    exact b_mul (h.bs y hy) ha
theorem sub_self_P (s : StepV) : kindQ (subS s s).t (sqQ (subS s s).t (subS s s).ps) = "nothing" := by
  have z : ∀ ps : List Rat, sumQ ((ps.zip ps).map fun q => q.1 - q.2) = 0 := by
    intro ps
    induction ps with
    | nil => rfl
    | cons p ps ih =>
      show (p - p) * (p - p) + sumQ ((ps.zip ps).map fun q => q.1 - q.2) = 0
      rw [ih]
      grind
  have t0 : (subS s s).t = 0 := by show s.t - s.t = 0; grind
  have s0 : sqQ (subS s s).t (subS s s).ps = 0 := by
    unfold sqQ
    rw [t0]
    show 0 * 0 - sumQ ((s.ps.zip s.ps).map fun q => q.1 - q.2) = 0
    rw [z]
    grind
  rw [s0, t0]
  unfold kindQ
  rw [if_neg (by grind), if_pos rfl]
section
variable {P : Program} {w : World} {K : PySem.W.Frag} {mg : Str → Option Value} {base : Heap} {f : Addr} {fd : FuncData} {C CS : Addr}
abbrev SumsA := {t : Pl × Pl // t.1.ok 30 ∧ t.2.ok 30 ∧ t.1.ns.length = t.2.ns.length}
abbrev SpSums : Sp := PnSp 5 (fun t : SumsA => [IsPl t.1.1, IsPl t.1.2]) fun _ => IsB true
abbrev nSums : List Str := ["_law_sack_here", "_law_one", "_law_other", "_law_mine", "_law_low", "_law_its", "_law_under", "_law_here", "_law_there", "_law_plus", "_law_less", "_law_top", "_law_parts", "_law_many", "_law_left", "_law_right", "_law_number"]
theorem sc_sums : FnScope nSums ["_law_sack_here", "_law_one", "_law_other"] (defScope (top 52)) := ⟨rfl, rfl, rfl, by decide +kernel, rfl, by decide +kernel, by decide +kernel⟩
structure LawD (P : Program) (w : World) (K : PySem.W.Frag) (mg : Str → Option Value) (base : Heap) (C CS : Addr) : Prop where
  mkR : KCal P w K mg base "Ratio" C 2 [] (SpRInit C)
  made : Cal P w K mg base "_law_made" 8 [] (SpMade CS C)
  lis : Cal P w K mg base "_law_is" 1 [] (SpLIs C)
  times : Cal P w K mg base "_law_times" 1 [] SpTimes
  right : Cal P w K mg base "_law_step_right" 3 [] (SpRight CS C)
  prod : Cal P w K mg base "product_of" 6 [] (SpProd CS C)
  prodK : KwCal P w K mg base "product_of" 6 (SpProd CS C) ["other"]
  take : Cal P w K mg base "_law_take" 1 [] SpTake
  radd : OCal P w K mg base C dAdd 5 (SpR2 C fun a b => a + b)
  req : OCal P w K mg base C "__eq__" 2 (SpREq C)
  sadd : OCal P w K mg base CS dAdd 8 (SpSAdd CS C)
  ssub : OCal P w K mg base CS dSub 8 (SpSSub CS C)
  smul : OCal P w K mg base CS dMul 8 (SpSMul CS C)
  sneg : OCal P w K mg base CS "__neg__" 8 (SpSNeg CS C)
  seq : OCal P w K mg base CS "__eq__" 8 (SpSEq CS C)
  neR : NeO K C
  neS : NeO K CS
  slI : SlotT K CS (Operator.info .Mult).2 "int"
  slR : SlotD K CS C (Operator.info .Mult).2
  nfR : PySem.W.notFirst K C (.type "int") = true
theorem ok_sums (A : Free mg) (R : RatC K mg C) (S : StepC K mg CS) (L : LawD P w K mg base C CS) (F : FnP K "_law_sums_right" "_law_sums_right" (top 52) [] f fd) : FnOk P w K mg base CX0 10 f fd ["_law_sack_here", "_law_one", "_law_other"] SpSums := by
  refine fn_pen F sc_sums (fun _ => rfl) fun t cdv Ar outer s H E p c cs n args Q hr hp hn hc hcl ha hq => ?_
  obtain ⟨⟨p1, p2⟩, o1, o2, l2⟩ := t
  obtain ⟨v1, r1, rfl, h1, v2, r2, rfl, h2, hr2⟩ := ha
  replace o1 : p1.ok 30 := o1
  replace o2 : p2.ok 30 := o2
  replace l2 : p1.ns.length = p2.ns.length := l2
  replace h1 : IsPl p1 v1 (hid H p) := h1
  replace h2 : IsPl p2 v2 (hid H p) := h2
  cases (show r2 = [] from hr2)
  have mC : Mono (IsL IsI cs) := inferInstance
  have s1 : SmS 30 (stepP p1) := pl_sm o1
  have s2 : SmS 30 (stepP p2) := pl_sm o2
  have a1 : AxS (stepP p1) := pl_ax o1
  have a2 : AxS (stepP p2) := pl_ax o2
  have n2 : (stepP p1).ps.length = (stepP p2).ps.length := pl_len l2
  have hb1 := o1.pos
  have hb2 := o2.pos
  have lp1 := o1.l2
  have lz : (p1.ns.zip p2.ns).length ≤ 3 := by rw [List.length_zip]; omega
  have e30 : (2 : Nat) ^ 30 = 1073741824 := by decide
  -- (mine, low), (its, under) = (one, other)
  refine qb_22 (P1 := IsL IsI (p1.n :: p1.ns)) (P2 := IsI p1.b) (P3 := IsL IsI (p2.n :: p2.ns)) (P4 := IsI p2.b) (m := n) 3 4 5 6 sc_sums.nd ?_ hp (fun v3 v4 v5 v6 H1 e1 q1 g3 g4 g5 g6 => ?_) (pg_name sc_sums.nd rfl (by first | exact Or.inl rfl | exact Or.inr rfl)) (pg_name sc_sums.nd rfl (by first | exact Or.inl rfl | exact Or.inr rfl)) (pg_name sc_sums.nd rfl (by first | exact Or.inl rfl | exact Or.inr rfl)) (pg_name sc_sums.nd rfl (by first | exact Or.inl rfl | exact Or.inr rfl))
  · exact qg_of (eg_tup (ag_cons (P := IsPl p1) (eg_var 1 rfl h1) (ag_cons (P := IsPl p2) (eg_var 2 rfl h2) ag_nil)) (show 2 ≤ 1000 by decide))
  cases (show v4 = _ from g4)
  cases (show v6 = _ from g6)
  have k1 := Mono.up e1 h1
  have k2 := Mono.up e1 h2
  -- here, there
  refine qb_par (P1 := IsStep CS C (stepP p1)) (P2 := IsStep CS C (stepP p2)) (m := n) 7 8 sc_sums.nd ?_ q1 (by decide) (fun v7 v8 H2 e2 q2 g7 g8 => ?_) rfl
  · exact qa_cons (qg_of (eg_callP (⟨p1, pl_ok o1 (by decide)⟩ : {p : Pl // p.ok 600}) L.made (hr.mono (by decide)) (ag_cons (eg_var 1 rfl k1) ag_nil))) (qa_cons (qg_of (eg_callP (⟨p2, pl_ok o2 (by decide)⟩ : {p : Pl // p.ok 600}) L.made (hr.mono (by decide)) (ag_cons (eg_var 2 rfl k2) ag_nil))) qa_nil)
  have mL1 : Mono (IsL IsI (p1.n :: p1.ns)) := inferInstance
  have mL2 : Mono (IsL IsI (p2.n :: p2.ns)) := inferInstance
  have mS1 : Mono (IsStep CS C (stepP p1)) := inferInstance
  have mS2 : Mono (IsStep CS C (stepP p2)) := inferInstance
  replace g3 := mL1.up e2 g3
  replace g5 := mL2.up e2 g5
  have rg3 := mL1.up ex_hid1 g3
  have rg5 := mL2.up ex_hid1 g5
  have rg7 := mS1.up ex_hid1 g7
  have rg8 := mS2.up ex_hid1 g8
  -- plus, less
  refine b_asgLc2 9 14 15 (R := IsI) (R2 := IsI) (S := IsI) (qs := (p1.n :: p1.ns).zip (p2.n :: p2.ns)) (fun x => x.1 * p2.b + x.2 * p1.b) sc_sums.nd (ip_zip A.zip (eg_var 3 rfl rg3) (eg_var 5 rfl rg5)) (by rw [List.zip_cons_cons, List.length_cons]; omega) (fun q hm x y H4 e4 rx ry s2' H0 Cc cl fp => ?_) (fun _ _ _ _ _ => pg_tup rfl (pgs_cons (pg_name sc_sums.nd rfl (Or.inl rfl)) (pgs_cons (pg_name sc_sums.nd rfl (Or.inl rfl)) pgs_nil))) fun v9 H3 e3 g9 => ?_
  · have bq : q.1.natAbs < 2 ^ 30 ∧ q.2.natAbs < 2 ^ 30 := by
      have zm := List.of_mem_zip (show (q.1, q.2) ∈ (p1.n :: p1.ns).zip (p2.n :: p2.ns) from hm)
      constructor
      · rcases List.mem_cons.mp zm.1 with h | h
        · rw [h]; exact o1.bn
        · exact o1.bs _ h
      · rcases List.mem_cons.mp zm.2 with h | h
        · rw [h]; exact o2.bn
        · exact o2.bs _ h
    exact eg_add (eg_mul (w_mul bq.1 o2.bb (by decide) (by decide) (by decide)) (eg_var 14 rfl rx) (eg_var 6 rfl rfl)) (eg_mul (w_mul bq.2 o1.bb (by decide) (by decide) (by decide)) (eg_var 15 rfl ry) (eg_var 4 rfl rfl))
  refine b_asgLc2 10 14 15 (R := IsI) (R2 := IsI) (S := IsI) (qs := (p1.n :: p1.ns).zip (p2.n :: p2.ns)) (fun x => x.1 * p2.b - x.2 * p1.b) sc_sums.nd (ip_zip A.zip (eg_var 3 rfl (mL1.up e3 rg3)) (eg_var 5 rfl (mL2.up e3 rg5))) (by rw [List.zip_cons_cons, List.length_cons]; omega) (fun q hm x y H4 e4 rx ry s2' H0 Cc cl fp => ?_) (fun _ _ _ _ _ => pg_tup rfl (pgs_cons (pg_name sc_sums.nd rfl (Or.inl rfl)) (pgs_cons (pg_name sc_sums.nd rfl (Or.inl rfl)) pgs_nil))) fun v10 H4 e4 g10 => ?_
  · have bq : q.1.natAbs < 2 ^ 30 ∧ q.2.natAbs < 2 ^ 30 := by
      have zm := List.of_mem_zip (show (q.1, q.2) ∈ (p1.n :: p1.ns).zip (p2.n :: p2.ns) from hm)
      constructor
      · rcases List.mem_cons.mp zm.1 with h | h
        · rw [h]; exact o1.bn
        · exact o1.bs _ h
      · rcases List.mem_cons.mp zm.2 with h | h
        · rw [h]; exact o2.bn
        · exact o2.bs _ h
    exact eg_sub (eg_mul (w_mul bq.1 o2.bb (by decide) (by decide) (by decide)) (eg_var 14 rfl rx) (eg_var 6 rfl rfl)) (eg_mul (w_mul bq.2 o1.bb (by decide) (by decide) (by decide)) (eg_var 15 rfl ry) (eg_var 4 rfl rfl))
  have mP : Mono (IsL IsI ((plusP p1 p2).n :: (plusP p1 p2).ns)) := inferInstance
  have mM : Mono (IsL IsI ((lessP p1 p2).n :: (lessP p1 p2).ns)) := inferInstance
  have g9' : IsL IsI ((plusP p1 p2).n :: (plusP p1 p2).ns) v9 H4 := mP.up e4 g9
  have g10' : IsL IsI ((lessP p1 p2).n :: (lessP p1 p2).ns) v10 H4 := g10
  have x4 := e3.trans e4
  have eA := addS_P (p := p1) (q := p2) hb1 hb2
  have eS := subS_P (p := p1) (q := p2) hb1 hb2
  have hbb : CMulW p1.b p2.b := w_mul o1.bb o2.bb (by decide) (by decide) (by decide)
  refine b_skip ?_ fun H5 e5 => ?_
  · have y3 := mL1.up x4 rg3
    have y7 := mS1.up x4 rg7
    have y8 := mS2.up x4 rg8
    refine tg_w (wg_or (bb := false) (bc := false) ?_ fun _ => wg_or (bb := false) (bc := false) ?_ fun _ => wg_or1 ?_)
    · exact tg_not (bb := true) (tg_val (eg_callP (⟨p1, pl_ok o1 (by decide)⟩ : {p : Pl // p.ok 300}) L.right (hr.mono (by decide)) (ag_cons (eg_var 7 rfl y7) (ag_cons (eg_var 3 rfl y3) (ag_cons (eg_var 4 rfl rfl) ag_nil)))))
    · exact tg_not (bb := true) (tg_val (eg_callP (⟨plusP p1 p2, pl_ok (ok_plus o1 o2 l2) (by decide)⟩ : {p : Pl // p.ok 300}) L.right (hr.mono (by decide)) (ag_cons (eg_sadd L.sadd S (hr.mono (by decide)) (s1.mono (by decide)) (s2.mono (by decide)) a1 n2 (eg_var 7 rfl y7) (eg_var 8 rfl y8) eA) (ag_cons (eg_var 9 rfl g9') (ag_cons (eg_mul hbb (eg_var 4 rfl rfl) (eg_var 6 rfl rfl)) ag_nil)))))
    · exact tg_not (bb := true) (tg_val (eg_callP (⟨lessP p1 p2, pl_ok (ok_less o1 o2 l2) (by decide)⟩ : {p : Pl // p.ok 300}) L.right (hr.mono (by decide)) (ag_cons (eg_ssub L.ssub S (hr.mono (by decide)) (s1.mono (by decide)) (s2.mono (by decide)) a1 n2 (eg_var 7 rfl y7) (eg_var 8 rfl y8) eS) (ag_cons (eg_var 10 rfl g10') (ag_cons (eg_mul hbb (eg_var 4 rfl rfl) (eg_var 6 rfl rfl)) ag_nil)))))
  have x5 := x4.trans e5
  refine b_skip ?_ fun H6 e6 => ?_
  · have y3 := mL1.up x5 rg3
    have y7 := mS1.up x5 rg7
    have y8 := mS2.up x5 rg8
    refine tg_w (wg_or (bb := false) (bc := false) ?_ fun _ => wg_or (bb := false) (bc := false) ?_ fun _ => wg_or1 ?_)
    · exact tg_cm (cg_sne L.neS L.seq hr (addS_comm (stepP p2) (stepP p1)) (eg_sadd L.sadd S (hr.mono (by decide)) (s2.mono (by decide)) (s1.mono (by decide)) a2 n2.symm (eg_var 8 rfl y8) (eg_var 7 rfl y7)) (eg_sadd L.sadd S (hr.mono (by decide)) (s1.mono (by decide)) (s2.mono (by decide)) a1 n2 (eg_var 7 rfl y7) (eg_var 8 rfl y8)))
    · refine tg_not (bb := true) (tg_val (eg_callP (⟨minusP p1, pl_ok (ok_minus o1) (by decide)⟩ : {p : Pl // p.ok 300}) L.right (hr.mono (by decide)) (ag_cons (eg_sneg L.sneg (hr.mono (by decide)) (s1.mono (by decide)) a1 (eg_var 7 rfl y7) (negS_P p1)) (ag_cons ?_ (ag_cons (eg_var 4 rfl rfl) ag_nil)))))
      exact eg_lc 16 (R := IsI) (S := IsI) (as := p1.n :: p1.ns) (fun x => -x) sc_sums.nd (ip_list (eg_var 3 rfl y3)) (by rw [List.length_cons]; omega) (fun a hm u H4 e4 ra s2' H0 Cc cl fp => eg_neg (eg_var 16 rfl ra)) (fun _ _ _ _ _ => pg_name sc_sums.nd rfl (Or.inl rfl))
    · refine tg_cm (CG.is (cg_neS (eg_kind S (eg_ssub L.ssub S (hr.mono (by decide)) (s1.mono (by decide)) (s1.mono (by decide)) a1 rfl (eg_var 7 rfl y7) (eg_var 7 rfl y7))) eg_str) ?_)
      rw [sub_self_P, decide_eq_true rfl]
      rfl
  have x6 := x5.trans e6
  refine b_skip ?_ fun H7 e7 => ?_
  · have y3 := mL1.up x6 rg3
    have y5 := mL2.up x6 rg5
    have y7 := mS1.up x6 rg7
    have y8 := mS2.up x6 rg8
    have bt := times_bits o1.bn o2.bn o1.bs o2.bs o1.l2
    refine tg_w (wg_or (bb := false) (bc := false) ?_ fun _ => wg_or1 ?_)
    · refine tg_not (bb := true) (tg_val (eg_callP (⟨(prodQ (stepP p1) (stepP p2), timesI p1.n p1.ns p2.n p2.ns, p1.b * p2.b), (sm_prod s1 s2 a1.2).mono (by decide), bits5 bt (by decide), Int.mul_pos hb1 hb2, bits5 (b_mul o1.bb o2.bb) (by decide), prod_P hb1 hb2⟩ : IsA) L.lis (hr.mono (by decide)) (ag_cons ?_ (ag_cons ?_ (ag_cons (eg_mul hbb (eg_var 4 rfl rfl) (eg_var 6 rfl rfl)) ag_nil)))))
      · exact eg_callKw (P1 := IsStep CS C (stepP p1)) (P2 := IsStep CS C (stepP p2)) (⟨(stepP p1, stepP p2), s1.mono (by decide), s2.mono (by decide), a1, n2⟩ : TwoS 300) L.prodK (hr.mono (by decide)) (eg_var 7 rfl y7) (eg_var 8 rfl y8) fun v w H h1 h2 => args2 h1 h2
      · exact eg_callP (⟨((p1.n, p1.ns), (p2.n, p2.ns)), b_up o1.bn (by decide), b_up o2.bn (by decide), fun x hx => b_up (o1.bs x hx) (by decide), fun x hx => b_up (o2.bs x hx) (by decide), o1.l2⟩ : TimA) L.times (hr.mono (by decide)) (ag_cons (eg_var 3 rfl y3) (ag_cons (eg_var 5 rfl y5) ag_nil))
    · refine tg_cm (CG.is (cg_rne L.neR L.req (hr.mono (by decide)) (eg_prod L.prod (hr.mono (by decide)) (s2.mono (by decide)) (s1.mono (by decide)) a2 n2.symm (eg_var 8 rfl y8) (eg_var 7 rfl y7)) (eg_prod L.prod (hr.mono (by decide)) (s1.mono (by decide)) (s2.mono (by decide)) a1 n2 (eg_var 7 rfl y7) (eg_var 8 rfl y8))) ?_)
      rw [decide_eq_true (prod_comm (stepP p2) (stepP p1))]
      rfl
  have x7 := x6.trans e7
  have q7 := q2.up x7
  have z7 := e1.trans (e2.trans (ex_hid2 (p := p) x7))
  have hc7 := mC.up z7 hc
  -- top, parts
  refine qb_two (P1 := IsP fun i => -12 ≤ i ∧ i ≤ 12) (P2 := IsP fun i => 1 ≤ i ∧ i ≤ 5) (m := n + 1 + 1) 11 12 sc_sums.nd ?_ q7 fun v11 v12 H8 e8 q8 g11 g12 => ?_
  · refine qg_tup (qa_cons (qg_sub (qg_pen (⟨25, by decide, by decide⟩ : Many) L.take (hr.mono (by decide)) hc7 hcl (by omega) (qa_cons (qg_of (eg_var 0 rfl rfl)) (qa_cons (qg_of eg_int) qa_nil))) (qg_isP (f1 := fun i => i = 12) eg_int rfl) (fun i j h1 h2 => by have h1' : 0 ≤ i ∧ i < 25 := h1; omega)) (qa_cons (qg_add (qg_isP (f1 := fun i => i = 1) eg_int rfl) (qg_pen (⟨5, by decide, by decide⟩ : Many) L.take (hr.mono (by decide)) hc7 hcl (by omega) (qa_cons (qg_of (eg_var 0 rfl rfl)) (qa_cons (qg_of eg_int) qa_nil))) (fun i j h1 h2 => by have h2' : 0 ≤ j ∧ j < 5 := h2; omega)) qa_nil)) (show 2 ≤ 1000 by decide)
  obtain ⟨a, rfl, ha⟩ := g11
  obtain ⟨b, rfl, hb⟩ := g12
  have hc8 := mC.up e8 hc7
  -- many
  refine qb_asg (P := fun v H => ∃ x : RI, x.val = Rat.divInt a b ∧ IsRI C x v H) (m := n + 1 + 1 + 1) 13 sc_sums.nd ?_ q8 fun v13 H9 e9 q9 g13 => ?_
  · refine qg_if (m := n + 1 + 1 + 1) (qt_orF (bb := decide (1 < b)) (qt_of (tg_cm (cg_gt (eg_var 12 rfl rfl) eg_int))) (qt_eqI (qg_pen (⟨2, by decide, by decide⟩ : Many) L.take (hr.mono (by decide)) hc8 hcl (by omega) (qa_cons (qg_of (eg_var 0 rfl rfl)) (qa_cons (qg_of eg_int) qa_nil))) (qg_isP (f1 := fun _ => True) eg_int True.intro)) (by omega)) (fun _ => ?_) fun hz => ?_
    · exact (qg_of (eg_mkRat (a := a) (b := b) L.mkR (hr.mono (by decide)) (by omega) (lt6 (n := 30) (by omega) (by decide)) (eg_var 11 rfl rfl) (eg_var 12 rfl rfl))).imp (Nat.le_refl _) fun v H h => ⟨.inl (Rat.divInt a b), rfl, h⟩
    · have hb1 : b = 1 := by
        have := of_decide_eq_false (hz rfl)
        omega
      exact (qg_of (P := IsI a) (eg_var 11 rfl rfl)).imp (Nat.le_refl _) fun v H h => ⟨.inr a, by rw [hb1, q_int]; rfl, h⟩
  obtain ⟨x, hx, gx⟩ := g13
  have z9 := (ex_hid2 (p := p) x7).trans (e8.trans e9)
  have y3 := mL1.up z9 g3
  have y7 := mS1.up z9 g7
  refine qb_ret (P := IsB true) (m := n + 5) ?_ q9 fun v H10 e10 q10 h10 => hq v H10 (z7.trans ((e8.trans e9).trans e10)) q10 h10
  have ab : a.natAbs < 2 ^ 30 := by omega
  have bb : b.natAbs < 2 ^ 30 := by omega
  have sx : Sm 340 x.val := by rw [hx]; exact (sm_div (n := 30) (by omega) ab bb).mono (by decide)
  have eM := mulS_P p1 a b
  refine (qg_of (eg_callP (P := IsB true) (⟨manyP p1 a b, pl_ok (ok_many o1 ab bb (by omega)) (by decide)⟩ : {p : Pl // p.ok 300}) L.right (hr.mono (by decide)) (ag_cons ?_ (ag_cons ?_ (ag_cons (eg_mul (w_mul o1.bb bb (by decide) (by decide) (by decide)) (eg_var 4 rfl rfl) (eg_var 12 rfl rfl)) ag_nil))))).imp (by omega) fun _ _ h => h
  · cases x with
    | inl q =>
      refine eg_opOD (op := .Mult) (P1 := IsStep CS C (stepP p1)) (P2 := IsR C q) (⟨(stepP p1, .inl q), s1.mono (by decide), sx, a1⟩ : MulA) L.smul (hr.mono (by decide)) S.sf L.slR (eg_var 7 rfl y7) (eg_var 13 rfl gx) isS_at isR_at (fun x y H h1 h2 => args2 h1 h2) fun v H h => ?_
      rw [← eM, ← hx]
      exact h
    | inr i =>
      refine eg_opOI (op := .Mult) (P1 := IsStep CS C (stepP p1)) (⟨(stepP p1, .inr i), s1.mono (by decide), sx, a1⟩ : MulA) L.smul (hr.mono (by decide)) S.sf L.slI (eg_var 7 rfl y7) (eg_var (P := IsI i) 13 rfl gx) isS_at (fun x H h1 => args2 h1 rfl) fun v H h => ?_
      rw [← eM, ← hx]
      exact h
  · refine eg_lc 16 (R := IsI) (S := IsI) (as := p1.n :: p1.ns) (fun x => x * a) sc_sums.nd (ip_list (eg_var 3 rfl y3)) (by rw [List.length_cons]; omega) (fun y hm u H4 e4 ra s2' H0 Cc cl fp => eg_mulO (mul64r (by omega)) (eg_var 16 rfl ra) (eg_var 11 rfl rfl)) (fun _ _ _ _ _ => pg_name sc_sums.nd rfl (Or.inl rfl))
end
end G
set_option maxHeartbeats 4000000
namespace G
open PySem PySem.Spec PyProof.Rows L2 Evl
theorem fw_ok {ax : Nat} {p : Pl} (h : FwP ax p) (h1 : 1 ≤ ax) (h2 : ax ≤ 3) : p.ok 30 ∧ Fwd (stepP p) := by
  obtain ⟨l, b1, b2, n1, bs, t⟩ := h
  have e30 : (2 : Nat) ^ 30 = 1073741824 := by decide
  have hb : 0 < p.b := by omega
  refine ⟨⟨by omega, by omega, hb, by omega, by omega, fun x hx => by have := bs x hx; omega⟩, ⟨(div_gt hb).mpr (by omega), ?_, ?_⟩⟩
  · rw [sq_stepP hb]
    exact (Rat.divInt_nonneg_iff_of_pos_right (Int.mul_pos hb hb)).mpr t
  · unfold stepP
    rw [List.length_map]
    omega
section
variable {P : Program} {w : World} {K : PySem.W.Frag} {mg : Str → Option Value} {base : Heap} {f : Addr} {fd : FuncData} {C CS : Addr}
abbrev SpFwd : Sp := PnSp 40 (fun i : Ax => [IsI (i.1 : Int)]) fun _ => IsB true
theorem sc_fwd : FnScope ["_law_sack_here", "_law_axes", "_law_one", "_law_other", "_law_total"] ["_law_sack_here", "_law_axes"] (defScope (top 54)) := ⟨rfl, rfl, rfl, by decide +kernel, rfl, by decide +kernel, by decide +kernel⟩
/-- a forward step that was drawn -/
def FwS (CS C : Addr) (ax : Nat) : Rep := fun v H => ∃ p : Pl, FwP ax p ∧ IsStep CS C (stepP p) v H
instance {CS C : Addr} {ax : Nat} : Mono (FwS CS C ax) := ⟨fun e ⟨p, h1, h2⟩ => ⟨p, h1, Mono.up e h2⟩⟩
instance {ax : Nat} : Mono (FwW ax) := ⟨fun e ⟨p, h1, h2⟩ => ⟨p, h1, Mono.up e h2⟩⟩
theorem ok_fwd (R : RatC K mg C) (S : StepC K mg CS) (L : LawD P w K mg base C CS) (D1 : Cal P w K mg base "_law_forward" 4 [] SpForward) (DB : MCal P w K mg base C "is_below" 5 [] (SpRB C fun a b => decide (a < b))) (F : FnP K "_law_forward_right" "_law_forward_right" (top 54) [] f fd) :
    FnOk P w K mg base CX0 10 f fd ["_law_sack_here", "_law_axes"] SpFwd := by
  refine fn_pen F sc_fwd (fun _ => rfl) fun t cdv Ar outer s H E p c cs n args Q hr hp hn hc hcl ha hq => ?_
  obtain ⟨ax, x1, x2⟩ := t
  obtain ⟨v, r, rfl, hv, hr2⟩ := ha
  cases (show r = [] from hr2)
  cases (show v = _ from hv)
  have mC : Mono (IsL IsI cs) := inferInstance
  have conv : ∀ vs H, Args [FwW ax] vs H → ∃ t : {p : Pl // p.ok 600}, Args [IsPl t.1] vs H ∧ ∀ v H, IsStep CS C (stepP t.1) v H → FwS CS C ax v H := fun vs H ⟨x, r, q1, ⟨pl, q2, q3⟩, q4⟩ => ⟨⟨pl, pl_ok (fw_ok q2 x1 x2).1 (by decide)⟩, ⟨x, r, q1, q3, q4⟩, fun v H h => ⟨pl, q2, h⟩⟩
  refine qb_par (P1 := FwS CS C ax) (P2 := FwS CS C ax) (m := n + 40) 2 3 sc_fwd.nd ?_ hp (by decide) (fun v2 v3 H1 e1 p1 h2 h3 => ?_) rfl
  · refine qa_cons (m := n + 20) (qg_pure L.made (hr.mono (by decide)) (PA := [FwW ax]) (qa_cons (P := FwW ax) (qg_pen (⟨ax, x1, x2⟩ : Ax) D1 (hr.mono (by decide)) hc hcl (by omega) (qa_cons (qg_of (eg_var 0 rfl rfl)) (qa_cons (P := IsI (ax : Int)) (qg_of (eg_var 1 rfl rfl)) qa_nil))) qa_nil) conv) ?_
    refine qa_cons (qg_pure L.made (hr.mono (by decide)) (PA := [FwW ax]) (qa_cons (P := FwW ax) (qg_pen (m := n + 20) (⟨ax, x1, x2⟩ : Ax) D1 (hr.mono (by decide)) hc hcl (by omega) (qa_cons (qg_of (eg_var 0 rfl rfl)) (qa_cons (P := IsI (ax : Int)) (qg_of (eg_var 1 rfl rfl)) qa_nil))) qa_nil) conv) qa_nil
  obtain ⟨pa, fa, g2⟩ := h2
  obtain ⟨pb, fb, g3⟩ := h3
  obtain ⟨o1, w1⟩ := fw_ok fa x1 x2
  obtain ⟨o2, w2⟩ := fw_ok fb x1 x2
  have l2 : pa.ns.length = pb.ns.length := fa.1.trans fb.1.symm
  have s1 : SmS 30 (stepP pa) := pl_sm o1
  have s2 : SmS 30 (stepP pb) := pl_sm o2
  have a1 : AxS (stepP pa) := pl_ax o1
  have a2 : AxS (stepP pb) := pl_ax o2
  have n2 : (stepP pa).ps.length = (stepP pb).ps.length := pl_len l2
  generalize stepP pa = A at *
  generalize stepP pb = B at *
  have mA : Mono (IsStep CS C A) := inferInstance
  have mB : Mono (IsStep CS C B) := inferInstance
  have mT : Mono (IsStep CS C (addS A B)) := inferInstance
  have r2 := mA.up ex_hid1 g2
  have r3 := mB.up ex_hid1 g3
  have sa := smS_add s1 s2
  have axa : AxS (addS A B) := ax_zip a1 n2
  have wT := fwd_add w1 w2 n2
  refine b_asg (P := IsStep CS C (addS A B)) 4 sc_fwd.nd (eg_sadd L.sadd S (hr.mono (by decide)) (s1.mono (by decide)) (s2.mono (by decide)) a1 n2 (eg_var 2 rfl r2) (eg_var 3 rfl r3)) fun v4 H2 e2 g4 => ?_
  have ng := smS_neg s1
  have axn : AxS (negS A) := ax_map a1
  have ngB := smS_neg s2
  have axnB : AxS (negS B) := ax_map a2
  have nl : (negS A).ps.length = B.ps.length := by show (A.ps.map _).length = _; rw [List.length_map]; exact n2
  have nlB : A.ps.length = (negS B).ps.length := by show _ = (B.ps.map _).length; rw [List.length_map]; exact n2
  have k1 : kindQ A.t (sqQ A.t A.ps) = "forward" := kind_fwd w1
  have k2 : kindQ (negS A).t (sqQ (negS A).t (negS A).ps) = "backward" := kind_back (by have := w1.t; show -A.t < 0; grind) (by rw [sq_neg]; exact w1.q)
  have k3 : kindQ (addS A B).t (sqQ (addS A B).t (addS A B).ps) = "forward" := kind_fwd wT
  have k4 : kindQ (subS (negS A) B).t (sqQ (subS (negS A) B).t (subS (negS A) B).ps) = "backward" := by
    obtain ⟨z1, z2⟩ := neg_sub A B
    exact kind_back (by rw [z1]; have := wT.t; grind) (by rw [z2]; exact wT.q)
  refine b_skip ?_ fun H3 e3 => ?_
  · have y2 := mA.up e2 r2
    have y3 := mB.up e2 r3
    refine tg_w (wg_or (bb := false) (bc := false) ?_ fun _ => wg_or (bb := false) (bc := false) ?_ fun _ => wg_or (bb := false) (bc := false) ?_ fun _ => wg_or1 ?_)
    · exact tg_cm (CG.is (cg_neS (eg_kind S (eg_var 2 rfl y2)) eg_str) (by rw [k1, decide_eq_true rfl]; rfl))
    · exact tg_cm (CG.is (cg_neS (eg_kind S (eg_sneg L.sneg (hr.mono (by decide)) (s1.mono (by decide)) a1 (eg_var 2 rfl y2))) eg_str) (by rw [k2, decide_eq_true rfl]; rfl))
    · exact tg_cm (CG.is (cg_neS (eg_kind S (eg_var 4 rfl g4)) eg_str) (by rw [k3, decide_eq_true rfl]; rfl))
    · exact tg_cm (CG.is (cg_neS (eg_kind S (eg_ssub L.ssub S (hr.mono (by decide)) (ng.mono (by decide)) (s2.mono (by decide)) axn nl (eg_sneg L.sneg (hr.mono (by decide)) (s1.mono (by decide)) a1 (eg_var 2 rfl y2)) (eg_var 3 rfl y3))) eg_str) (by rw [k4, decide_eq_true rfl]; rfl))
  have x3 := e2.trans e3
  have sqs : ∀ {n : Nat} {s : StepV}, SmS n s → s.ps.length ≤ 3 → n ≤ 61 → Sm 1000 (sqQ s.t s.ps) := fun {n s} h hl hn => by
    have g : ∀ ps : List Rat, (∀ q ∈ ps, Sm n q) → Sm (1 + ps.length * (2 * n + 1)) (sumQ ps) := by
      intro ps
      induction ps with
      | nil => intro _; exact ⟨by show (0 : Nat) < _; exact Nat.two_pow_pos _, by show (1 : Nat) < _; exact Nat.one_lt_two_pow (by omega)⟩
      | cons q ps ih =>
        intro h
        have h1 := h q (List.mem_cons_self ..)
        have h2 := ih fun x hx => h x (List.mem_cons_of_mem _ hx)
        refine (sm_add (sm_mul h1 h1) h2).mono ?_
        rw [List.length_cons, Nat.add_mul]
        omega
    have : s.ps.length * (2 * n + 1) ≤ 3 * (2 * n + 1) := Nat.mul_le_mul_right _ hl
    exact (sm_sub (sm_mul h.1 h.1) (g s.ps h.2)).mono (by omega)
  have q1 := sqs s1 a1.2 (by decide)
  have q2 := sqs s2 a2.2 (by decide)
  have q3 := sqs sa axa.2 (by decide)
  have pn := prod_nn w1 w2 n2
  refine b_skip ?_ fun H4 e4 => ?_
  · have y2 := mA.up x3 r2
    have y3 := mB.up x3 r3
    have y4 := mT.up e3 g4
    refine tg_w (wg_or (bb := false) (bc := false) ?_ fun _ => wg_or (bb := false) (bc := false) ?_ fun _ => wg_or1 ?_)
    · refine tg_val (eg_meth (P1 := IsR C (sqQ (addS A B).t (addS A B).ps)) (Ps := [IsR C (sqQ A.t A.ps + sqQ B.t B.ps)]) R.isi.cl DB (hr.mono (by decide)) (eg_square S (eg_var 4 rfl y4)) (fun v H ⟨d, dx, fs, h1, h2, h3⟩ => ⟨d, dx, fs, h1, h2, by rw [h3]; rfl⟩) (ag_cons (eg_rop L.radd R (hr.mono (by decide)) (q1.mono (by decide)) (q2.mono (by decide)) (eg_square S (eg_var 2 rfl y2)) (eg_square S (eg_var 3 rfl y3))) ag_nil) fun v vs H1 _ h1 ⟨u, r, h2, h3, h4⟩ Q q => ?_)
      refine ⟨⟨(sqQ (addS A B).t (addS A B).ps, .inl (sqQ A.t A.ps + sqQ B.t B.ps)), q3.mono (by decide), (sm_add q1 q2).mono (by decide)⟩, by rw [List.append_nil, h2, show r = [] from h4]; exact args2 h1 h3, fun v H' e hv => q v H' e ?_⟩
      have ef : decide (sqQ (addS A B).t (addS A B).ps < sqQ A.t A.ps + sqQ B.t B.ps) = false := by
        refine decide_eq_false ?_
        rw [sq_add A B n2]
        grind
      rw [← ef]
      exact hv
    · refine tg_cm (CG.is (cg_lt (eg_sgn R (eg_prod L.prod (hr.mono (by decide)) (s1.mono (by decide)) (s2.mono (by decide)) a1 n2 (eg_var 2 rfl y2) (eg_var 3 rfl y3))) eg_int) ?_)
      rw [sgn_lt]
      exact decide_eq_false (by grind)
    · refine tg_cm (CG.is (cg_gt (eg_sgn R (eg_prod L.prod (hr.mono (by decide)) (s1.mono (by decide)) (ngB.mono (by decide)) a1 nlB (eg_var 2 rfl y2) (eg_sneg L.sneg (hr.mono (by decide)) (s2.mono (by decide)) a2 (eg_var 3 rfl y3)))) eg_int) ?_)
      rw [sgn_gt, prod_neg]
      exact decide_eq_false (by grind)
  have x4 := x3.trans e4
  have y2 := mA.up x4 r2
  have y3 := mB.up x4 r3
  refine b_ret (P := IsB true) ?_ fun v5 H5 e5 h5 => hq v5 H5 (e1.trans (ex_hid2 (x4.trans e5))) (p1.up (x4.trans e5)) h5
  refine EvP.bl (eg_or (bb := decide ((prodQ A B).num.sign = 1)) (bc := true) (eg_cm (cg_eqI (eg_sgn R (eg_prod L.prod (hr.mono (by decide)) (s1.mono (by decide)) (s2.mono (by decide)) a1 n2 (eg_var 2 rfl y2) (eg_var 3 rfl y3))) eg_int)) fun hz => eg_one ?_) (Bool.or_true _)
  have z0 : prodQ A B = 0 := by
    have hz' := of_decide_eq_false hz
    have : ¬ 0 < prodQ A B := fun h => hz' (q_sign_pos.mpr h)
    grind
  obtain ⟨c1, c2⟩ := prod_zero w1 w2 n2 z0
  have sm1 := smS_mul s1 s2.1
  refine eg_and (bb := true) (bc := true) ?_ fun _ => eg_one ?_
  · refine eg_cm (cg_seq L.seq (hr.mono (by decide)) c2 ?_ ?_)
    · exact eg_opOD (op := .Mult) (P1 := IsStep CS C A) (P2 := IsR C B.t) (⟨(A, .inl B.t), s1.mono (by decide), s2.1.mono (by decide), a1⟩ : MulA) L.smul (hr.mono (by decide)) S.sf L.slR (eg_var 2 rfl y2) (eg_time S (eg_var 3 rfl y3)) isS_at isR_at (fun x y H h1 h2 => args2 h1 h2)
    · exact eg_opOD (op := .Mult) (P1 := IsStep CS C B) (P2 := IsR C A.t) (⟨(B, .inl A.t), s2.mono (by decide), s1.1.mono (by decide), a2⟩ : MulA) L.smul (hr.mono (by decide)) S.sf L.slR (eg_var 3 rfl y3) (eg_time S (eg_var 2 rfl y2)) isS_at isR_at (fun x y H h1 h2 => args2 h1 h2)
  · refine eg_cm (CG.is (cg_reqI L.req (hr.mono (by decide)) L.nfR (eg_square S (eg_var 2 rfl y2)) (eg_int (i := 0))) ?_)
    exact decide_eq_true c1

/-! ### the law -/
theorem bw_imp {X : Cx} {A : List Stmt} {D : Ends} {J J2 : L2.St → Hp → Prop} {σ : L2.St} {H : Hp} (h : BW X A { D with nx := J } σ H) (i : ∀ σ H, J σ H → J2 σ H) : BW X A { D with nx := J2 } σ H := fun pins s I =>
  thn (h pins s I) fun f s1 q => by
    cases f with
    | next =>
      obtain ⟨σ2, H3, I3, q1⟩ := q
      exact ⟨σ2, H3, I3, i _ _ q1⟩
    | cont => exact q
    | brk => exact q
    | ret u => exact q
theorem qb_ifJ {X : Cx} {A rest : List Stmt} {D : Ends} {σ : L2.St} {H : Hp} {cc : Expr} {p c : Addr} {n m : Nat} {φ : Bool → Prop} {spos : Pos} (J : L2.St → Hp → Prop) (hc : QT X p c cc σ (hid H p) n m φ) (hp : Pen p c n H) (h1 : φ true → ∀ H1, Ex (hid H p) (hid H1 p) → Pen p c m H1 → BW X A { D with nx := J } σ H1) (h2 : φ false → ∀ H1, Ex (hid H p) (hid H1 p) → Pen p c m H1 → J σ H1) (h3 : ∀ σ' H', J σ' H' → BW X rest D σ' H') : BW X (.If cc A [] spos :: rest) D σ H :=
  qb_if hc hp (fun a H1 e p1 => bw_imp (h1 a H1 e p1) h3) fun a H1 e p1 => b_nil (h3 _ _ (h2 a H1 e p1))
def SpLaw (K : PySem.W.Frag) : Sp := fun vs H Q _ => ∃ (a : Addr) (ns : List Int), vs = [.ref a] ∧ ns.length ≤ 63 ∧ SqL K H a (ns.map V.int) ∧ ∀ H', Q (.bl true) H'
theorem sc_law : FnScope ["_law_script", "_law_sack_here", "_law_lap", "_law_axes", "_law_one", "_law_other", "_law_third"] ["_law_script"] (defScope (top 55)) := ⟨rfl, rfl, rfl, by decide +kernel, rfl, by decide +kernel, by decide +kernel⟩
theorem pl_of {ax : Nat} {v : V} {H : Hp} (h1 : 1 ≤ ax) (h2 : ax ≤ 3) (h : PlW ax v H) : ∃ p : Pl, p.ok 30 ∧ p.ns.length = ax ∧ IsPl p v H := by
  obtain ⟨p, l, b1, b2, n1, bs, hv⟩ := h
  have e30 : (2 : Nat) ^ 30 = 1073741824 := by decide
  exact ⟨p, ⟨by omega, by omega, by omega, by omega, by omega, fun x hx => by have := bs x hx; omega⟩, l, hv⟩
theorem ok_law (A : Free mg) (D0 : Cal P w K mg base "_law_sack" 1 [] (SpSack K)) (D1 : Cal P w K mg base "_law_take" 1 [] SpTake) (D2 : Cal P w K mg base "_law_plain" 3 [] SpPlain) (D3 : Cal P w K mg base "_law_sums_right" 10 [] SpSums) (D4 : Cal P w K mg base "_law_shared_right" 9 [] SpShared)
    (D5 : Cal P w K mg base "_law_forward_right" 10 [] SpFwd) (F : FnP K "law" "law" (top 55) [] f fd) : FnOk P w K mg base CX0 12 f fd ["_law_script"] (SpLaw K) := by
  refine fn_any F sc_law (fun vs H Q E ⟨a, ns, h1, _⟩ => by rw [h1]; rfl) fun cdv Ar outer s H E vs Q hr ⟨a, ns, hvs, hl, hs, hq⟩ => ?_
  subst hvs
  refine b_asg (P := LstOf [IsL IsI (ns.take 61), IsI 0, IsI 0]) 1 sc_law.nd ?_ fun v1 H1 e1 h1 => ?_
  · exact eg_callP (⟨ns, hl⟩ : {ns : List Int // ns.length ≤ 63}) D0 (hr.mono (by decide)) (ag_cons (P := SqW K ns) (eg_var 0 rfl ⟨a, rfl, hs⟩) ag_nil)
  obtain ⟨p, xs, rfl, hp, y1, t1, rfl, ⟨c, ys, rfl, hcc, hci⟩, y2, t2, rfl, h2, y3, t3, rfl, h3, h4⟩ := h1
  cases (show t3 = [] from h4)
  cases (show y2 = _ from h2)
  cases (show y3 = _ from h3)
  have eys := all2_ints hci
  subst eys
  have hne : c ≠ p := fun z => by
    rw [z, hp] at hcc
    cases ns with
    | nil => cases hcc
    | cons n ns => cases hcc
  have hpn : Pen p c 0 H1 := ⟨0, 0, hp, by decide, by decide⟩
  have hc : IsL IsI (ns.take 61) (.ref c) (hid H1 p) := ⟨c, _, rfl, by rw [hid_ne hne]; exact hcc, ints_all2⟩
  have hcl : (ns.take 61).length ≤ 63 := by rw [List.length_take]; omega
  generalize ns.take 61 = cs at *
  have mC : Mono (IsL IsI cs) := inferInstance
  refine b_forR (k := 4) 2 (fun i σ' H' => ∃ o2 o3 o4 o5 o6, σ' = [some (.ref a), some (.ref p), o2, o3, o4, o5, o6] ∧ Pen p c (i * 200) H' ∧ Ex (hid H1 p) (hid H' p)) sc_law.nd (ir_range (k := 4) A.range eg_int (by decide)) (fun H2 e2 => ⟨none, none, none, none, none, rfl, hpn.up e2, ex_hid2 e2⟩) (fun i σ' Ha hi pv => ?_) fun σ' H' pv => ?_
  · obtain ⟨o2, o3, o4, o5, o6, rfl, pn, ex⟩ := pv
    have hc0 := mC.up ex hc
    generalize hn0 : i * 200 = n0 at *
    have n4 : n0 ≤ 600 := by omega
    -- axes
    refine qb_asg (P := IsP fun z => 1 ≤ z ∧ z ≤ 3) (m := n0 + 1) 3 sc_law.nd ?_ pn fun v3 H2 e2 p2 h3 => ?_
    · exact qg_add (qg_isP (f1 := fun i => i = 1) eg_int rfl) (qg_pen (⟨3, by decide, by decide⟩ : Many) D1 (hr.mono (by decide)) hc0 hcl (by omega) (qa_cons (qg_of (eg_var 1 rfl rfl)) (qa_cons (qg_of eg_int) qa_nil))) (fun i j h1 h2 => by have h2' : 0 ≤ j ∧ j < 3 := h2; omega)
    obtain ⟨z, rfl, z1, z2⟩ := h3
    obtain ⟨ax, rfl⟩ : ∃ ax : Nat, z = (ax : Int) := ⟨z.toNat, by omega⟩
    have x1 : 1 ≤ ax := by omega
    have x2 : ax ≤ 3 := by omega
    have hc2 := mC.up e2 hc0
    have pl : ∀ {m : Nat} {Hw : Hp} {pp pos pq pr : Pos} {o4 o5 o6 : Option V}, m + 10 ≤ 4000 → IsL IsI cs (.ref c) Hw → QG (ctx P w K mg base ["_law_script", "_law_sack_here", "_law_lap", "_law_axes", "_law_one", "_law_other", "_law_third"] "law" (defScope (top 55)) f cdv Ar outer s H E) p c (.Call (.Name "_law_plain" pp) [.Name "_law_sack_here" pq, .Name "_law_axes" pr] [] pos) [some (.ref a), some (.ref p), some (.int (i : Int)), some (.int (ax : Int)), o4, o5, o6] Hw m (m + 10) (PlW ax) := fun hm hcc => ?_
    · refine qb_par3 (P1 := PlW ax) (P2 := PlW ax) (P3 := PlW ax) (m := n0 + 31) 4 5 6 sc_law.nd ?_ p2 (by decide) (by decide) (by decide) (fun v4 v5 v6 H3 e3 p3 h4 h5 h6 => ?_) rfl
      · exact qa_cons (pl (by omega) hc2) (qa_cons (pl (by omega) hc2) (qa_cons (pl (by omega) hc2) qa_nil))
      obtain ⟨pa, oa, la, ga⟩ := pl_of x1 x2 h4
      obtain ⟨pb, ob, lb, gb⟩ := pl_of x1 x2 h5
      obtain ⟨pc, oc, lc, gc⟩ := pl_of x1 x2 h6
      have hc3 := mC.up e3 hc2
      have x3 := ex.trans (e2.trans e3)
      refine qb_ifJ (m := n0 + 32) (φ := fun _ => True) (fun σ' H' => ∃ (pb : Pl) (v5 : V), pb.ok 30 ∧ pb.ns.length = ax ∧ σ' = [some (.ref a), some (.ref p), some (.int (i : Int)), some (.int (ax : Int)), some v4, some v5, some v6] ∧ Ex (hid H3 p) (hid H' p) ∧ Pen p c (n0 + 32) H' ∧ IsPl pb v5 (hid H' p)) ?_ p3 (fun _ H4 e4 p4 => ?_) (fun _ H4 e4 p4 => ⟨pb, v5, ob, lb, rfl, e4, p4, Mono.up e4 gb⟩) fun σ' H5 hJ => ?_
      · exact qt_eqI (qg_pen (⟨5, by decide, by decide⟩ : Many) D1 (hr.mono (by decide)) hc3 hcl (by omega) (qa_cons (qg_of (eg_var 1 rfl rfl)) (qa_cons (qg_of eg_int) qa_nil))) (qg_isP (f1 := fun _ => True) eg_int True.intro)
      · exact qb_asg (P := IsPl pa) (m := n0 + 32) 5 sc_law.nd (qg_of (eg_var 4 rfl (Mono.up e4 ga))) p4 fun v7 H6 e6 p6 h7 => b_nil ⟨pa, v7, oa, la, rfl, e4.trans e6, p6, h7⟩
      obtain ⟨pb, v5, ob, lb, rfl, e5, p5, gb⟩ := hJ
      replace ga := Mono.up e5 ga
      replace gc := Mono.up e5 gc
      have hc5 := mC.up e5 hc3
      refine qb_if (m := n0 + 32 + 5 + 40) (φ := fun b => b = false) ?_ p5 (fun z => nomatch z) fun _ H6 e6 p6 => b_nil (b_nil ⟨_, _, _, _, _, rfl, p6.mono (by omega), x3.trans (e5.trans e6)⟩)
      refine qt_w (qw_or (m := n0 + 32 + 5) ?_ (qw_or (m := n0 + 32 + 5) ?_ (qw_or1 ?_)))
      · exact qt_not (bb := true) (qt_val (qg_pen (⟨(pa, pb), oa, ob, la.trans lb.symm⟩ : SumsA) D3 (hr.mono (by decide)) hc5 hcl (by omega) (qa_cons (qg_of (eg_var 1 rfl rfl)) (qa_cons (P := IsPl pa) (qg_of (eg_var 4 rfl ga)) (qa_cons (P := IsPl pb) (qg_of (eg_var 5 rfl gb)) qa_nil)))))
      · exact qt_not (bb := true) (qt_val (qg_of (eg_callP (⟨(pa, pb, pc), oa, ob, oc, la.trans lb.symm, la.trans lc.symm⟩ : SharedA) D4 (hr.mono (by decide)) (ag_cons (P := IsPl pa) (eg_var 4 rfl ga) (ag_cons (P := IsPl pb) (eg_var 5 rfl gb) (ag_cons (P := IsPl pc) (eg_var 6 rfl gc) ag_nil))))))
      · exact qt_not (bb := true) (qt_val (qg_pen (⟨ax, x1, x2⟩ : Ax) D5 (hr.mono (by decide)) hc5 hcl (by omega) (qa_cons (qg_of (eg_var 1 rfl rfl)) (qa_cons (P := IsI (ax : Int)) (qg_of (eg_var 3 rfl rfl)) qa_nil))))
    · exact qg_pen (P := PlW ax) (⟨ax, x1, x2⟩ : Ax) D2 (hr.mono (by decide)) hcc hcl hm (qa_cons (qg_of (eg_var 1 rfl rfl)) (qa_cons (P := IsI (ax : Int)) (qg_of (eg_var 3 rfl rfl)) qa_nil))
  · obtain ⟨o2, o3, o4, o5, o6, rfl, pn, ex⟩ := pv
    exact b_ret eg_bl fun v H2 e2 h => by cases (show v = _ from h); exact hq H2
end
end G
set_option maxHeartbeats 4000000
namespace GH
open PySem PySem.Spec PyProof.Rows L2 He
theorem DefE.funD {K : PySem.W.Frag} {d : DefE} (e : fnE K (d.adr K) = d.val) (c : d.ok K = true) : ∃ fd, G.FnP K d.name d.qual d.st d.dvs (d.adr K) fd := by
  obtain ⟨kp, c2⟩ := ba c
  unfold fnE at e
  cases q : K.lookup (d.adr K) with
  | none =>
    rw [q] at c2
    cases c2
  | some o =>
    obtain ⟨oc, od, dt, osl⟩ := o
    rw [q] at c2 e
    cases dt with
    | func fd =>
      obtain ⟨n1, n2, n3, n4, n5, n6, n7, n8, n9, n10, n11, n12, n13, n14, n15⟩ := fd
      have e2 : (some (n1, n2, n3, n4, n5, n6, n7, n15) : FnW) = some (d.name, d.qual, defArgs d.st, .stmts (defBody d.st), defScope d.st, mainGlobals, [], builtinsNs) := e
      simp only [Option.some.injEq, Prod.mk.injEq] at e2
      obtain ⟨h1, h2, h3, h4, h5, h6, h7, h8⟩ := e2
      subst h1 h2 h3 h4 h5 h6 h7 h8
      obtain ⟨k1, k3⟩ := ba (show (PySem.W.codeIn K n13 d.qual && dflB K n8 d.dvs) = true from c2)
      exact ⟨_, ⟨oc, od, n8, n9, n10, n11, n12, n13, n14, osl, rfl, q, k1, dflB_ok k3, .inl rfl⟩, kp⟩
    | _ => cases c2
section
variable {fa : List FaE} {fn : List DefE} {K : PySem.W.Frag}
theorem SaysE.fact (c : SaysE fa fn K) (i : Nat) {f : FaE} (h : fa[i]? = some f := by rfl) : f K = true := by
  have c1 := (ba (show ((fa.all fun f => f K) && fn.all fun d => d.ok K) = true from congrArg (fun z : AlD => z.1) c)).1
  exact List.all_eq_true.mp c1 f (List.mem_of_getElem? h)
theorem SaysE.def_ (c : SaysE fa fn K) (i : Nat) {d : DefE} (h : fn[i]? = some d := by rfl) : ∃ fd, G.FnP K d.name d.qual d.st d.dvs (d.adr K) fd := by
  have c2 := (ba (show ((fa.all fun f => f K) && fn.all fun d => d.ok K) = true from congrArg (fun z : AlD => z.1) c)).2
  have e : fn.map (fun d => fnE K (d.adr K)) = fn.map DefE.val := congrArg (fun z : AlD => z.2) c
  have e2 : (fn.map fun d => fnE K (d.adr K))[i]? = (fn.map DefE.val)[i]? := by rw [e]
  rw [List.getElem?_map, List.getElem?_map, h] at e2
  exact DefE.funD (Option.some.inj e2) (List.all_eq_true.mp c2 d (List.mem_of_getElem? h))
end
/-! ### facts about classes -/
theorem isi_ok {K : PySem.W.Frag} {C : Addr} (cl : Cls K C) (h : isiB K C = true) : G.IsiC K C := by
  obtain ⟨h1, h⟩ := ba h
  obtain ⟨h2, h⟩ := ba h
  obtain ⟨h3, h4⟩ := ba h
  exact ⟨cl, eqO_ok h1, eqO_ok h2, of_decide_eq_true h3, of_decide_eq_true h4⟩
theorem ne_ok {K : PySem.W.Frag} {C : Addr} (h : neB K C = true) : G.NeO K C := by
  obtain ⟨h1, h2⟩ := ba h
  exact ⟨eqO_ok h1, of_decide_eq_true h2⟩
theorem some_ok {α : Type} {o : Option α} (h : o.isSome = true) : ∃ a, o = some a := by
  cases o with
  | none => cases h
  | some a => exact ⟨a, rfl⟩
theorem slT_ok {K : PySem.W.Frag} {C : Addr} (h : slTB K C = true) : G.SlotT K C "mul" "int" := by
  obtain ⟨h1, h⟩ := ba h
  obtain ⟨h2, h⟩ := ba h
  obtain ⟨h3, h4⟩ := ba h
  exact ⟨⟨_, eqO_ok h1, .inl rfl⟩, some_ok h2, some_ok h3, of_decide_eq_true h4⟩
/-- a static method: the object, its function -/
theorem smB_ok {K : PySem.W.Frag} {C p : Addr} {m : Str} (h : smB K C m = some p) : PySem.W.findCls K (.ref C) (.type "type") m = some (.get (.builtin "staticmethod.__get__") (.ref p) .none (.ref C)) := by
  unfold smB at h
  split at h
  · rename_i b q c e
    split at h
    · rename_i z
      obtain ⟨z1, z2⟩ := z
      cases h
      rw [e, z1, z2]
    · cases h
  · cases h
theorem sm_ok {K : PySem.W.Frag} {C : Addr} {m : Str} (h : smOk K C m = true) : G.SMeth K C m (smF K C m) := by
  obtain ⟨h1, h⟩ := ba h
  obtain ⟨h2, h⟩ := ba h
  obtain ⟨h3, h⟩ := ba h
  obtain ⟨h4, h5⟩ := ba h
  refine ⟨eqO_ok h1, ?_, h5⟩
  cases q : smB K C m with
  | none =>
    rw [q] at h4
    cases h4
  | some p =>
    rw [q] at h4
    dsimp only at h4
    have eF : smF K C m = (match PySem.W.recIn K p "staticmethod" with
      | some (.ref f :: _) => f
      | _ => 0) := by
      unfold smF
      rw [q]
    rw [eF]
    cases r : PySem.W.recIn K p "staticmethod" with
    | none =>
      rw [r] at h4
      cases h4
    | some l =>
      rw [r] at h4
      cases l with
      | nil => cases h4
      | cons v vs =>
        cases v with
        | ref f => exact ⟨_, p, vs, of_decide_eq_true h2, h3, smB_ok q, r⟩
        | _ => cases h4
end GH
set_option maxHeartbeats 4000000
namespace GH
open PySem PySem.Spec PyProof.Rows L2 He
section
variable {P : Program} {w : World} {K : PySem.W.Frag} {mg : Str → Option Value} {base h : Heap} {x m qual : Str} {st : Stmt} {f C : Addr} {fd : FuncData} {ps : List Str} {k : Nat} {sp : Sp}
theorem cal_of (F : G.FnP K x qual st [] f fd) (ok : FnOk P w K mg base CX0 k f fd ps sp) (hm : mg x = some (.ref f)) (b : Binds K fd ps []) : G.Cal P w K mg base x k [] sp := ⟨f, fd, ps, [], ok, hm, F.kp, b, .nil⟩
theorem ocal_of (M : Meth K C m f) (ok : FnOk P w K mg base CX0 k f fd ps sp) (b : Binds K fd ps []) : G.OCal P w K mg base C m k sp := ⟨f, fd, ps, ok, M.at_, M.fn, b⟩
theorem b1 {a : Str} {q : Str} {sc : Scope} {args : Arguments} {body : List Stmt} (F : FunD K x q args body sc [] [] f fd) (h : ∀ (kV doc pm : Value) (an : Option Addr) (cdv ct u : Value), bindArgs (PySem.W.fnOf x q args body sc .none kV doc pm an cdv ct) ⟨[u], []⟩ = pure [(a, u)]) : Binds K fd [a] [] :=
  F.bindsN fun kV doc pm an cdv ct us hl => match us, hl with | [u], _ => h kV doc pm an cdv ct u
theorem b2 {a b : Str} {q : Str} {sc : Scope} {args : Arguments} {body : List Stmt} (F : FunD K x q args body sc [] [] f fd) (h : ∀ (kV doc pm : Value) (an : Option Addr) (cdv ct u v : Value), bindArgs (PySem.W.fnOf x q args body sc .none kV doc pm an cdv ct) ⟨[u, v], []⟩ = pure [(a, u), (b, v)]) : Binds K fd [a, b] [] :=
  F.bindsN fun kV doc pm an cdv ct us hl => match us, hl with | [u, v], _ => h kV doc pm an cdv ct u v
theorem b3 {a b c : Str} {q : Str} {sc : Scope} {args : Arguments} {body : List Stmt} (F : FunD K x q args body sc [] [] f fd) (h : ∀ (kV doc pm : Value) (an : Option Addr) (cdv ct u v z : Value), bindArgs (PySem.W.fnOf x q args body sc .none kV doc pm an cdv ct) ⟨[u, v, z], []⟩ = pure [(a, u), (b, v), (c, z)]) : Binds K fd [a, b, c] [] :=
  F.bindsN fun kV doc pm an cdv ct us hl => match us, hl with | [u, v, z], _ => h kV doc pm an cdv ct u v z
end
theorem facts {P : Program} {w : World} {K : PySem.W.Frag} {h : Heap} {mg : Str → Option Value} {f : Addr} (X : K.In h) (Gn : h.Ns mainGlobals mg) (hfa : mg ("law" : Str) = some (.ref f)) (c : SaysE fa fn K) :
    ∃ fd : FuncData, (∀ (s : Shared) (v : Value), BindsTo s fd ⟨[v], []⟩ [("_law_script", v)]) ∧ ∀ base : Heap, K.In base → base.Ns mainGlobals mg → FnOk P w K mg base CX0 12 f fd ["_law_script"] (G.SpLaw K) := by
  have fr_len : mg "len" = none := free_ok X Gn (show (Fa.free "len").ok K = true from c.fact 0 rfl)
  have fr_int : mg "int" = none := free_ok X Gn (show (Fa.free "int").ok K = true from c.fact 1 rfl)
  have fr_bool : mg "bool" = none := free_ok X Gn (show (Fa.free "bool").ok K = true from c.fact 2 rfl)
  have fr_isinstance : mg "isinstance" = none := free_ok X Gn (show (Fa.free "isinstance").ok K = true from c.fact 3 rfl)
  have fr_list : mg "list" = none := free_ok X Gn (show (Fa.free "list").ok K = true from c.fact 4 rfl)
  have fr_tuple : mg "tuple" = none := free_ok X Gn (show (Fa.free "tuple").ok K = true from c.fact 5 rfl)
  have fr_abs : mg "abs" = none := free_ok X Gn (show (Fa.free "abs").ok K = true from c.fact 6 rfl)
  have fr_sum : mg "sum" = none := free_ok X Gn (show (Fa.free "sum").ok K = true from c.fact 7 rfl)
  have fr_all : mg "all" = none := free_ok X Gn (show (Fa.free "all").ok K = true from c.fact 8 rfl)
  have fr_zip : mg "zip" = none := free_ok X Gn (show (Fa.free "zip").ok K = true from c.fact 9 rfl)
  have fr_range : mg "range" = none := free_ok X Gn (show (Fa.free "range").ok K = true from c.fact 10 rfl)
  have fr_enumerate : mg "enumerate" = none := free_ok X Gn (show (Fa.free "enumerate").ok K = true from c.fact 11 rfl)
  have f_gcd : mg "gcd" = some (.builtin "math.gcd") := PySem.W.mg_of X Gn (eqO_ok (show eqO (PySem.W.nsIn K mainGlobals "gcd") (some (some (.builtin "math.gcd"))) = true from c.fact 72 rfl))
  have f_lcm : mg "lcm" = some (.builtin "math.lcm") := PySem.W.mg_of X Gn (eqO_ok (show eqO (PySem.W.nsIn K mainGlobals "lcm") (some (some (.builtin "math.lcm"))) = true from c.fact 73 rfl))
  have A : G.Free mg := ⟨fr_len, fr_int, fr_bool, fr_isinstance, fr_list, fr_tuple, fr_abs, fr_sum, fr_all, fr_zip, fr_range, fr_enumerate, f_gcd, f_lcm⟩
  have ax : ∃ t, mg "MOST_AXES" = some (.int 3 t) := int_ok X Gn (show (Fa.int "MOST_AXES" 3).ok K = true from c.fact 74 rfl)
  have g_is_integer : mg "is_integer" = some (.ref (ga K "is_integer")) := glo_ok X Gn (show (Fa.glo "is_integer").ok K = true from c.fact 12 rfl)
  have g_is_within : mg "is_within" = some (.ref (ga K "is_within")) := glo_ok X Gn (show (Fa.glo "is_within").ok K = true from c.fact 13 rfl)
  have g_is_listed : mg "is_listed" = some (.ref (ga K "is_listed")) := glo_ok X Gn (show (Fa.glo "is_listed").ok K = true from c.fact 14 rfl)
  have g_sign_of : mg "sign_of" = some (.ref (ga K "sign_of")) := glo_ok X Gn (show (Fa.glo "sign_of").ok K = true from c.fact 15 rfl)
  have g_is_ratio : mg "is_ratio" = some (.ref (ga K "is_ratio")) := glo_ok X Gn (show (Fa.glo "is_ratio").ok K = true from c.fact 16 rfl)
  have g_are_ratios : mg "are_ratios" = some (.ref (ga K "are_ratios")) := glo_ok X Gn (show (Fa.glo "are_ratios").ok K = true from c.fact 17 rfl)
  have g_as_ratio : mg "as_ratio" = some (.ref (ga K "as_ratio")) := glo_ok X Gn (show (Fa.glo "as_ratio").ok K = true from c.fact 18 rfl)
  have g_over_one_bottom : mg "over_one_bottom" = some (.ref (ga K "over_one_bottom")) := glo_ok X Gn (show (Fa.glo "over_one_bottom").ok K = true from c.fact 19 rfl)
  have g_asked_ratio : mg "asked_ratio" = some (.ref (ga K "asked_ratio")) := glo_ok X Gn (show (Fa.glo "asked_ratio").ok K = true from c.fact 20 rfl)
  have g_is_axes : mg "is_axes" = some (.ref (ga K "is_axes")) := glo_ok X Gn (show (Fa.glo "is_axes").ok K = true from c.fact 21 rfl)
  have g_ask_equal_axes : mg "ask_equal_axes" = some (.ref (ga K "ask_equal_axes")) := glo_ok X Gn (show (Fa.glo "ask_equal_axes").ok K = true from c.fact 22 rfl)
  have g_ask_other : mg "ask_other" = some (.ref (ga K "ask_other")) := glo_ok X Gn (show (Fa.glo "ask_other").ok K = true from c.fact 23 rfl)
  have g_square_of : mg "square_of" = some (.ref (ga K "square_of")) := glo_ok X Gn (show (Fa.glo "square_of").ok K = true from c.fact 24 rfl)
  have g_kind_of : mg "kind_of" = some (.ref (ga K "kind_of")) := glo_ok X Gn (show (Fa.glo "kind_of").ok K = true from c.fact 25 rfl)
  have g_product_of : mg "product_of" = some (.ref (ga K "product_of")) := glo_ok X Gn (show (Fa.glo "product_of").ok K = true from c.fact 26 rfl)
  have g__law_sack : mg "_law_sack" = some (.ref (ga K "_law_sack")) := glo_ok X Gn (show (Fa.glo "_law_sack").ok K = true from c.fact 27 rfl)
  have g__law_take : mg "_law_take" = some (.ref (ga K "_law_take")) := glo_ok X Gn (show (Fa.glo "_law_take").ok K = true from c.fact 28 rfl)
  have g__law_of : mg "_law_of" = some (.ref (ga K "_law_of")) := glo_ok X Gn (show (Fa.glo "_law_of").ok K = true from c.fact 29 rfl)
  have g__law_plain : mg "_law_plain" = some (.ref (ga K "_law_plain")) := glo_ok X Gn (show (Fa.glo "_law_plain").ok K = true from c.fact 30 rfl)
  have g__law_forward : mg "_law_forward" = some (.ref (ga K "_law_forward")) := glo_ok X Gn (show (Fa.glo "_law_forward").ok K = true from c.fact 31 rfl)
  have g__law_made : mg "_law_made" = some (.ref (ga K "_law_made")) := glo_ok X Gn (show (Fa.glo "_law_made").ok K = true from c.fact 32 rfl)
  have g__law_is : mg "_law_is" = some (.ref (ga K "_law_is")) := glo_ok X Gn (show (Fa.glo "_law_is").ok K = true from c.fact 33 rfl)
  have g__law_times : mg "_law_times" = some (.ref (ga K "_law_times")) := glo_ok X Gn (show (Fa.glo "_law_times").ok K = true from c.fact 34 rfl)
  have g__law_kind : mg "_law_kind" = some (.ref (ga K "_law_kind")) := glo_ok X Gn (show (Fa.glo "_law_kind").ok K = true from c.fact 35 rfl)
  have g__law_step_right : mg "_law_step_right" = some (.ref (ga K "_law_step_right")) := glo_ok X Gn (show (Fa.glo "_law_step_right").ok K = true from c.fact 36 rfl)
  have g__law_sums_right : mg "_law_sums_right" = some (.ref (ga K "_law_sums_right")) := glo_ok X Gn (show (Fa.glo "_law_sums_right").ok K = true from c.fact 37 rfl)
  have g__law_shared_right : mg "_law_shared_right" = some (.ref (ga K "_law_shared_right")) := glo_ok X Gn (show (Fa.glo "_law_shared_right").ok K = true from c.fact 38 rfl)
  have g__law_forward_right : mg "_law_forward_right" = some (.ref (ga K "_law_forward_right")) := glo_ok X Gn (show (Fa.glo "_law_forward_right").ok K = true from c.fact 39 rfl)
  have g_law : mg "law" = some (.ref (ga K "law")) := glo_ok X Gn (show (Fa.glo "law").ok K = true from c.fact 40 rfl)
  have g_Ratio : mg "Ratio" = some (.ref (ga K "Ratio")) := glo_ok X Gn (show (Fa.glo "Ratio").ok K = true from c.fact 41 rfl)
  have k_Ratio : Cls K (ga K "Ratio") := cls_ok (show (Fa.cls "Ratio").ok K = true from c.fact 42 rfl)
  have m_Ratio : Mk K (ga K "Ratio") (ma K (ga K "Ratio") "__init__") := mkr_ok (show (Fa.mkr "Ratio").ok K = true from c.fact 43 rfl)
  have i_Ratio : G.IsiC K (ga K "Ratio") := isi_ok k_Ratio (show isiB K (ga K "Ratio") = true from c.fact 44 rfl)
  have sf_Ratio : PySem.W.selfFirst K (ga K "Ratio") = true := c.fact 45 rfl
  have ne_Ratio : G.NeO K (ga K "Ratio") := ne_ok (show neB K (ga K "Ratio") = true from c.fact 46 rfl)
  have g_Step : mg "Step" = some (.ref (ga K "Step")) := glo_ok X Gn (show (Fa.glo "Step").ok K = true from c.fact 47 rfl)
  have k_Step : Cls K (ga K "Step") := cls_ok (show (Fa.cls "Step").ok K = true from c.fact 48 rfl)
  have m_Step : Mk K (ga K "Step") (ma K (ga K "Step") "__init__") := mkr_ok (show (Fa.mkr "Step").ok K = true from c.fact 49 rfl)
  have i_Step : G.IsiC K (ga K "Step") := isi_ok k_Step (show isiB K (ga K "Step") = true from c.fact 50 rfl)
  have sf_Step : PySem.W.selfFirst K (ga K "Step") = true := c.fact 51 rfl
  have ne_Step : G.NeO K (ga K "Step") := ne_ok (show neB K (ga K "Step") = true from c.fact 52 rfl)
  have ki : PySem.W.kitOne K (.type "int") (.ref (ga K "Ratio")) = some false := of_decide_eq_true (show decide (PySem.W.kitOne K (.type "int") (.ref (ga K "Ratio")) = some false) = true from c.fact 75 rfl)
  have hne : ga K "Ratio" ≠ ga K "Step" := fun z => by
    have y : (!(ga K "Ratio" == ga K "Step")) = true := c.fact 76 rfl
    rw [z] at y
    simp at y
  have RC : G.RatC K mg (ga K "Ratio") := ⟨i_Ratio, (noat_ok (show (Fa.noat "Ratio" "top").ok K = true from c.fact 53 rfl)), (noat_ok (show (Fa.noat "Ratio" "bottom").ok K = true from c.fact 54 rfl)), (noat_ok (show (Fa.noat "Ratio" "sign").ok K = true from c.fact 55 rfl)), sf_Ratio, ki, g_Ratio⟩
  have SC : G.StepC K mg (ga K "Step") := ⟨i_Step, (noat_ok (show (Fa.noat "Step" "time").ok K = true from c.fact 56 rfl)), (noat_ok (show (Fa.noat "Step" "place").ok K = true from c.fact 57 rfl)), (noat_ok (show (Fa.noat "Step" "axes").ok K = true from c.fact 58 rfl)), (noat_ok (show (Fa.noat "Step" "square").ok K = true from c.fact 59 rfl)), (noat_ok (show (Fa.noat "Step" "kind").ok K = true from c.fact 60 rfl)), sf_Step, g_Step⟩
  have t_Ratio_is_below : Meth K (ga K "Ratio") "is_below" (ma K (ga K "Ratio") "is_below") := meth_ok (show (Fa.meth "Ratio" "is_below").ok K = true from c.fact 61 rfl)
  have t_Ratio_add : Meth K (ga K "Ratio") "__add__" (ma K (ga K "Ratio") "__add__") := meth_ok (show (Fa.meth "Ratio" "__add__").ok K = true from c.fact 62 rfl)
  have t_Ratio_sub : Meth K (ga K "Ratio") "__sub__" (ma K (ga K "Ratio") "__sub__") := meth_ok (show (Fa.meth "Ratio" "__sub__").ok K = true from c.fact 63 rfl)
  have t_Ratio_mul : Meth K (ga K "Ratio") "__mul__" (ma K (ga K "Ratio") "__mul__") := meth_ok (show (Fa.meth "Ratio" "__mul__").ok K = true from c.fact 64 rfl)
  have t_Ratio_neg : Meth K (ga K "Ratio") "__neg__" (ma K (ga K "Ratio") "__neg__") := meth_ok (show (Fa.meth "Ratio" "__neg__").ok K = true from c.fact 65 rfl)
  have t_Ratio_eq : Meth K (ga K "Ratio") "__eq__" (ma K (ga K "Ratio") "__eq__") := meth_ok (show (Fa.meth "Ratio" "__eq__").ok K = true from c.fact 66 rfl)
  have t_Step_add : Meth K (ga K "Step") "__add__" (ma K (ga K "Step") "__add__") := meth_ok (show (Fa.meth "Step" "__add__").ok K = true from c.fact 67 rfl)
  have t_Step_sub : Meth K (ga K "Step") "__sub__" (ma K (ga K "Step") "__sub__") := meth_ok (show (Fa.meth "Step" "__sub__").ok K = true from c.fact 68 rfl)
  have t_Step_mul : Meth K (ga K "Step") "__mul__" (ma K (ga K "Step") "__mul__") := meth_ok (show (Fa.meth "Step" "__mul__").ok K = true from c.fact 69 rfl)
  have t_Step_neg : Meth K (ga K "Step") "__neg__" (ma K (ga K "Step") "__neg__") := meth_ok (show (Fa.meth "Step" "__neg__").ok K = true from c.fact 70 rfl)
  have t_Step_eq : Meth K (ga K "Step") "__eq__" (ma K (ga K "Step") "__eq__") := meth_ok (show (Fa.meth "Step" "__eq__").ok K = true from c.fact 71 rfl)
  have slT : G.SlotT K (ga K "Step") "mul" "int" := slT_ok (show slTB K (ga K "Step") = true from c.fact 77 rfl)
  have slDb : (eqO (PySem.W.findIn K (.ref (ga K "Ratio")) (dunderR "mul")) (some none) && decide (PySem.W.subIn K (.ref (ga K "Ratio")) (.ref (ga K "Step")) = some false)) = true := c.fact 78 rfl
  have slD : G.SlotD K (ga K "Step") (ga K "Ratio") "mul" := ⟨Ne.symm hne, slT.r, ⟨_, t_Ratio_mul.at_⟩, ⟨_, eqO_ok (ba slDb).1, .inl rfl⟩, of_decide_eq_true (ba slDb).2, sf_Ratio⟩
  have nf : PySem.W.notFirst K (ga K "Ratio") (.type "int") = true := c.fact 79 rfl
  have sm : G.SMeth K (ga K "Ratio") "of" (smF K (ga K "Ratio") "of") := sm_ok (show smOk K (ga K "Ratio") "of" = true from c.fact 80 rfl)
  obtain ⟨d_is_integer, F_is_integer⟩ : ∃ fd, G.FnP K "is_integer" "is_integer" (G.top 4) [] (ga K "is_integer") fd := c.def_ 0 rfl
  obtain ⟨d_is_within, F_is_within⟩ : ∃ fd, G.FnP K "is_within" "is_within" (G.top 5) [] (ga K "is_within") fd := c.def_ 1 rfl
  obtain ⟨d_is_listed, F_is_listed⟩ : ∃ fd, G.FnP K "is_listed" "is_listed" (G.top 6) [] (ga K "is_listed") fd := c.def_ 2 rfl
  obtain ⟨d_sign_of, F_sign_of⟩ : ∃ fd, G.FnP K "sign_of" "sign_of" (G.top 22) [] (ga K "sign_of") fd := c.def_ 3 rfl
  obtain ⟨d_is_ratio, F_is_ratio⟩ : ∃ fd, G.FnP K "is_ratio" "is_ratio" (G.top 23) [] (ga K "is_ratio") fd := c.def_ 4 rfl
  obtain ⟨d_are_ratios, F_are_ratios⟩ : ∃ fd, G.FnP K "are_ratios" "are_ratios" (G.top 24) [] (ga K "are_ratios") fd := c.def_ 5 rfl
  obtain ⟨d_as_ratio, F_as_ratio⟩ : ∃ fd, G.FnP K "as_ratio" "as_ratio" (G.top 25) [] (ga K "as_ratio") fd := c.def_ 6 rfl
  obtain ⟨d_over_one_bottom, F_over_one_bottom⟩ : ∃ fd, G.FnP K "over_one_bottom" "over_one_bottom" (G.top 26) [] (ga K "over_one_bottom") fd := c.def_ 7 rfl
  obtain ⟨d_asked_ratio, F_asked_ratio⟩ : ∃ fd, G.FnP K "asked_ratio" "asked_ratio" (G.top 31) [] (ga K "asked_ratio") fd := c.def_ 8 rfl
  obtain ⟨d_is_axes, F_is_axes⟩ : ∃ fd, G.FnP K "is_axes" "is_axes" (G.top 32) [] (ga K "is_axes") fd := c.def_ 9 rfl
  obtain ⟨d_ask_equal_axes, F_ask_equal_axes⟩ : ∃ fd, G.FnP K "ask_equal_axes" "ask_equal_axes" (G.top 34) [] (ga K "ask_equal_axes") fd := c.def_ 10 rfl
  obtain ⟨d_ask_other, F_ask_other⟩ : ∃ fd, G.FnP K "ask_other" "ask_other" (G.top 37) [] (ga K "ask_other") fd := c.def_ 11 rfl
  obtain ⟨d_square_of, F_square_of⟩ : ∃ fd, G.FnP K "square_of" "square_of" (G.top 38) [] (ga K "square_of") fd := c.def_ 12 rfl
  obtain ⟨d_kind_of, F_kind_of⟩ : ∃ fd, G.FnP K "kind_of" "kind_of" (G.top 39) [] (ga K "kind_of") fd := c.def_ 13 rfl
  obtain ⟨d_product_of, F_product_of⟩ : ∃ fd, G.FnP K "product_of" "product_of" (G.top 40) [] (ga K "product_of") fd := c.def_ 14 rfl
  obtain ⟨d__law_sack, F__law_sack⟩ : ∃ fd, G.FnP K "_law_sack" "_law_sack" (G.top 42) [] (ga K "_law_sack") fd := c.def_ 15 rfl
  obtain ⟨d__law_take, F__law_take⟩ : ∃ fd, G.FnP K "_law_take" "_law_take" (G.top 43) [] (ga K "_law_take") fd := c.def_ 16 rfl
  obtain ⟨d__law_of, F__law_of⟩ : ∃ fd, G.FnP K "_law_of" "_law_of" (G.top 44) [] (ga K "_law_of") fd := c.def_ 17 rfl
  obtain ⟨d__law_plain, F__law_plain⟩ : ∃ fd, G.FnP K "_law_plain" "_law_plain" (G.top 45) [] (ga K "_law_plain") fd := c.def_ 18 rfl
  obtain ⟨d__law_forward, F__law_forward⟩ : ∃ fd, G.FnP K "_law_forward" "_law_forward" (G.top 46) [] (ga K "_law_forward") fd := c.def_ 19 rfl
  obtain ⟨d__law_made, F__law_made⟩ : ∃ fd, G.FnP K "_law_made" "_law_made" (G.top 47) [] (ga K "_law_made") fd := c.def_ 20 rfl
  obtain ⟨d__law_is, F__law_is⟩ : ∃ fd, G.FnP K "_law_is" "_law_is" (G.top 48) [] (ga K "_law_is") fd := c.def_ 21 rfl
  obtain ⟨d__law_times, F__law_times⟩ : ∃ fd, G.FnP K "_law_times" "_law_times" (G.top 49) [] (ga K "_law_times") fd := c.def_ 22 rfl
  obtain ⟨d__law_kind, F__law_kind⟩ : ∃ fd, G.FnP K "_law_kind" "_law_kind" (G.top 50) [] (ga K "_law_kind") fd := c.def_ 23 rfl
  obtain ⟨d__law_step_right, F__law_step_right⟩ : ∃ fd, G.FnP K "_law_step_right" "_law_step_right" (G.top 51) [] (ga K "_law_step_right") fd := c.def_ 24 rfl
  obtain ⟨d__law_sums_right, F__law_sums_right⟩ : ∃ fd, G.FnP K "_law_sums_right" "_law_sums_right" (G.top 52) [] (ga K "_law_sums_right") fd := c.def_ 25 rfl
  obtain ⟨d__law_shared_right, F__law_shared_right⟩ : ∃ fd, G.FnP K "_law_shared_right" "_law_shared_right" (G.top 53) [] (ga K "_law_shared_right") fd := c.def_ 26 rfl
  obtain ⟨d__law_forward_right, F__law_forward_right⟩ : ∃ fd, G.FnP K "_law_forward_right" "_law_forward_right" (G.top 54) [] (ga K "_law_forward_right") fd := c.def_ 27 rfl
  obtain ⟨d_law, F_law⟩ : ∃ fd, G.FnP K "law" "law" (G.top 55) [] (ga K "law") fd := c.def_ 28 rfl
  obtain ⟨d_Ratio_init, F_Ratio_init⟩ : ∃ fd, G.FnP K "__init__" "Ratio.__init__" (inClass (G.top 21) 0) [.int 1] (ma K (ga K "Ratio") "__init__") fd := c.def_ 29 rfl
  obtain ⟨d_Ratio_is_below, F_Ratio_is_below⟩ : ∃ fd, G.FnP K "is_below" "Ratio.is_below" (inClass (G.top 21) 4) [] (ma K (ga K "Ratio") "is_below") fd := c.def_ 30 rfl
  obtain ⟨d_Ratio_add, F_Ratio_add⟩ : ∃ fd, G.FnP K "__add__" "Ratio.__add__" (inClass (G.top 21) 5) [] (ma K (ga K "Ratio") "__add__") fd := c.def_ 31 rfl
  obtain ⟨d_Ratio_sub, F_Ratio_sub⟩ : ∃ fd, G.FnP K "__sub__" "Ratio.__sub__" (inClass (G.top 21) 6) [] (ma K (ga K "Ratio") "__sub__") fd := c.def_ 32 rfl
  obtain ⟨d_Ratio_mul, F_Ratio_mul⟩ : ∃ fd, G.FnP K "__mul__" "Ratio.__mul__" (inClass (G.top 21) 7) [] (ma K (ga K "Ratio") "__mul__") fd := c.def_ 33 rfl
  obtain ⟨d_Ratio_neg, F_Ratio_neg⟩ : ∃ fd, G.FnP K "__neg__" "Ratio.__neg__" (inClass (G.top 21) 8) [] (ma K (ga K "Ratio") "__neg__") fd := c.def_ 34 rfl
  obtain ⟨d_Ratio_eq, F_Ratio_eq⟩ : ∃ fd, G.FnP K "__eq__" "Ratio.__eq__" (inClass (G.top 21) 11) [] (ma K (ga K "Ratio") "__eq__") fd := c.def_ 35 rfl
  obtain ⟨d_Step_init, F_Step_init⟩ : ∃ fd, G.FnP K "__init__" "Step.__init__" (inClass (G.top 36) 0) [] (ma K (ga K "Step") "__init__") fd := c.def_ 36 rfl
  obtain ⟨d_Step_add, F_Step_add⟩ : ∃ fd, G.FnP K "__add__" "Step.__add__" (inClass (G.top 36) 3) [] (ma K (ga K "Step") "__add__") fd := c.def_ 37 rfl
  obtain ⟨d_Step_sub, F_Step_sub⟩ : ∃ fd, G.FnP K "__sub__" "Step.__sub__" (inClass (G.top 36) 4) [] (ma K (ga K "Step") "__sub__") fd := c.def_ 38 rfl
  obtain ⟨d_Step_mul, F_Step_mul⟩ : ∃ fd, G.FnP K "__mul__" "Step.__mul__" (inClass (G.top 36) 5) [] (ma K (ga K "Step") "__mul__") fd := c.def_ 39 rfl
  obtain ⟨d_Step_neg, F_Step_neg⟩ : ∃ fd, G.FnP K "__neg__" "Step.__neg__" (inClass (G.top 36) 6) [] (ma K (ga K "Step") "__neg__") fd := c.def_ 40 rfl
  obtain ⟨d_Step_eq, F_Step_eq⟩ : ∃ fd, G.FnP K "__eq__" "Step.__eq__" (inClass (G.top 36) 7) [] (ma K (ga K "Step") "__eq__") fd := c.def_ 41 rfl
  obtain ⟨d_of, F_of⟩ : ∃ fd, G.FnP K "of" "Ratio.of" (inClass (G.top 21) 1) [] (smF K (ga K "Ratio") "of") fd := c.def_ 42 rfl
  cases hfa.symm.trans g_law
  refine ⟨d_law, fun s v => (FunD.bindsA (ps := ["_law_script"]) F_law fun _ _ _ _ _ _ us hl => match us, hl with | [_], _ => rfl) s [v] rfl, fun base _ _ => ?_⟩
  have cInt := cal_of (P := P) (w := w) (base := base) F_is_integer (G.ok_is_integer A F_is_integer) g_is_integer (b1 F_is_integer (fun _ _ _ _ _ _ _ => rfl))
  have cWithin := cal_of (P := P) (w := w) (base := base) F_is_within (G.ok_is_within cInt F_is_within) g_is_within (b3 F_is_within (fun _ _ _ _ _ _ _ _ _ => rfl))
  have cListed := cal_of (P := P) (w := w) (base := base) F_is_listed (G.ok_is_listed (R := G.IsRI (ga K "Ratio")) A F_is_listed) g_is_listed (b1 F_is_listed (fun _ _ _ _ _ _ _ => rfl))
  have cSign := cal_of (P := P) (w := w) (base := base) F_sign_of (G.ok_sign_of F_sign_of) g_sign_of (b1 F_sign_of (fun _ _ _ _ _ _ _ => rfl))
  have oRI := G.ok_rinit (P := P) (w := w) (base := base) A RC cInt cSign F_Ratio_init
  have bI0 : Binds K d_Ratio_init ["self", "top", "bottom"] [] := by
    obtain ⟨ds, hv, hb⟩ := FunD.binds1 (ps := ["self", "top", "bottom"]) F_Ratio_init 3 1 (by simp) rfl fun T kV doc pm an cdv ct us its hl hi => match us, its, hl, hi with | [_, _, _], [_], _, _ => ⟨_, rfl, rfl⟩
    cases hv
    exact hb
  have kR1 : G.KCal P w K mg base "Ratio" (ga K "Ratio") 2 [.int 1] (G.SpRInit (ga K "Ratio")) := by
    obtain ⟨ds, hv, hb⟩ := FunD.binds1 (ps := ["self", "top", "bottom"]) F_Ratio_init 2 0 (by simp) rfl fun T kV doc pm an cdv ct us its hl hi => match us, its, hl, hi with | [_, _], [_], _, _ => ⟨_, rfl, rfl⟩
    exact ⟨_, _, _, ds, oRI, m_Ratio, g_Ratio, hb, hv⟩
  have kR0 : G.KCal P w K mg base "Ratio" (ga K "Ratio") 2 [] (G.SpRInit (ga K "Ratio")) := ⟨_, _, _, [], oRI, m_Ratio, g_Ratio, bI0, .nil⟩
  have cIsR := cal_of (P := P) (w := w) (base := base) F_is_ratio (G.ok_is_ratio A RC cInt F_is_ratio) g_is_ratio (b1 F_is_ratio (fun _ _ _ _ _ _ _ => rfl))
  have cAreR := cal_of (P := P) (w := w) (base := base) F_are_ratios (G.ok_are_ratios A cListed cIsR F_are_ratios) g_are_ratios (b1 F_are_ratios (fun _ _ _ _ _ _ _ => rfl))
  have cAs := cal_of (P := P) (w := w) (base := base) F_as_ratio (G.ok_as_ratio A RC cInt kR1 F_as_ratio) g_as_ratio (b2 F_as_ratio (fun _ _ _ _ _ _ _ _ => rfl))
  have sOf : G.SCal P w K mg base "Ratio" "of" 5 [] (G.SpOf (ga K "Ratio")) := ⟨_, _, _, _, [], G.ok_rof cAs F_of, g_Ratio, sm, b1 F_of (fun _ _ _ _ _ _ _ => rfl), .nil⟩
  have mBelow : G.MCal P w K mg base (ga K "Ratio") "is_below" 5 [] (G.SpRB (ga K "Ratio") fun a b => decide (a < b)) := ⟨_, _, _, [], G.ok_rbelow RC cAs F_Ratio_is_below, t_Ratio_is_below, b2 F_Ratio_is_below (fun _ _ _ _ _ _ _ _ => rfl), .nil⟩
  have oAdd : G.OCal P w K mg base (ga K "Ratio") G.dAdd 5 (G.SpR2 (ga K "Ratio") fun a b => a + b) := ocal_of t_Ratio_add (G.ok_radd RC cAs kR1 kR0 F_Ratio_add) (b2 F_Ratio_add (fun _ _ _ _ _ _ _ _ => rfl))
  have oSub : G.OCal P w K mg base (ga K "Ratio") G.dSub 5 (G.SpR2 (ga K "Ratio") fun a b => a - b) := ocal_of t_Ratio_sub (G.ok_rsub RC cAs kR0 F_Ratio_sub) (b2 F_Ratio_sub (fun _ _ _ _ _ _ _ _ => rfl))
  have oMul : G.OCal P w K mg base (ga K "Ratio") G.dMul 5 (G.SpR2 (ga K "Ratio") fun a b => a * b) := ocal_of t_Ratio_mul (G.ok_rmul RC cAs kR0 F_Ratio_mul) (b2 F_Ratio_mul (fun _ _ _ _ _ _ _ _ => rfl))
  have oNeg : G.OCal P w K mg base (ga K "Ratio") "__neg__" 5 (G.SpRNeg (ga K "Ratio")) := ocal_of t_Ratio_neg (G.ok_rneg RC kR0 F_Ratio_neg) (b1 F_Ratio_neg (fun _ _ _ _ _ _ _ => rfl))
  have oEq : G.OCal P w K mg base (ga K "Ratio") "__eq__" 2 (G.SpREq (ga K "Ratio")) := ocal_of t_Ratio_eq (G.ok_req A RC cInt F_Ratio_eq) (b2 F_Ratio_eq (fun _ _ _ _ _ _ _ _ => rfl))
  have cOver := cal_of (P := P) (w := w) (base := base) F_over_one_bottom (G.ok_over A RC F_over_one_bottom) g_over_one_bottom (b1 F_over_one_bottom (fun _ _ _ _ _ _ _ => rfl))
  have cAsked := cal_of (P := P) (w := w) (base := base) F_asked_ratio (G.ok_asked cIsR sOf F_asked_ratio) g_asked_ratio (b2 F_asked_ratio (fun _ _ _ _ _ _ _ _ => rfl))
  have cAxes := cal_of (P := P) (w := w) (base := base) F_is_axes (G.ok_is_axes ax cWithin F_is_axes) g_is_axes (b1 F_is_axes (fun _ _ _ _ _ _ _ => rfl))
  have cEqAx := cal_of (P := P) (w := w) (base := base) F_ask_equal_axes (G.ok_eqax (C := ga K "Ratio") SC F_ask_equal_axes) g_ask_equal_axes (b2 F_ask_equal_axes (fun _ _ _ _ _ _ _ _ => rfl))
  have cOther := cal_of (P := P) (w := w) (base := base) F_ask_other (G.ok_askother A SC cEqAx F_ask_other) g_ask_other (b2 F_ask_other (fun _ _ _ _ _ _ _ _ => rfl))
  have cKind := cal_of (P := P) (w := w) (base := base) F_kind_of (G.ok_kind RC F_kind_of) g_kind_of (b2 F_kind_of (fun _ _ _ _ _ _ _ _ => rfl))
  have cSq := cal_of (P := P) (w := w) (base := base) F_square_of (G.ok_sq A RC cOver kR0 F_square_of) g_square_of (b2 F_square_of (fun _ _ _ _ _ _ _ _ => rfl))
  have kS : G.KCal P w K mg base "Step" (ga K "Step") 6 [] (G.SpSInit (ga K "Step") (ga K "Ratio")) := ⟨_, _, _, [], G.ok_sinit A RC SC hne cIsR cAreR cAxes sOf cSq cKind F_Step_init, m_Step, g_Step, b3 F_Step_init (fun _ _ _ _ _ _ _ _ _ => rfl), .nil⟩
  have okP := G.ok_prod (P := P) (w := w) (base := base) A RC SC cOther oMul oSub F_product_of
  have cProd := cal_of (P := P) (w := w) (base := base) F_product_of (okP) g_product_of (b2 F_product_of (fun _ _ _ _ _ _ _ _ => rfl))
  have kwP : G.KwCal P w K mg base "product_of" 6 (G.SpProd (ga K "Step") (ga K "Ratio")) ["other"] := by
    refine ⟨_, _, _, okP, g_product_of, F_product_of.kp, ⟨fun s us ws _ hl => ?_, fun {vs us zs ws} r rz => ?_⟩⟩
    · obtain ⟨oc, od, dV, kV, doc, pm, an, cdv, ct, osl, e, lk, hcd, hD, hK⟩ := F_product_of.ex
      rcases hD with ⟨_, e2⟩ | ⟨e2, _⟩
      · subst e e2
        match us, ws, hl with
        | [u], [v], _ => exact .of_eq rfl
      · exact absurd rfl e2
    · cases r with
      | nil => exact .nil
      | cons r1 r =>
        cases r with
        | cons _ _ => exact .nil
        | nil =>
          cases rz with
          | nil => exact .nil
          | cons s1 s =>
            cases s with
            | cons _ _ => exact .nil
            | nil => exact .cons r1 (.cons s1 .nil)
  have sAdd : G.OCal P w K mg base (ga K "Step") G.dAdd 8 (G.SpSAdd (ga K "Step") (ga K "Ratio")) := ocal_of t_Step_add (G.ok_sadd A RC SC cOther oAdd kS F_Step_add) (b2 F_Step_add (fun _ _ _ _ _ _ _ _ => rfl))
  have sSub : G.OCal P w K mg base (ga K "Step") G.dSub 8 (G.SpSSub (ga K "Step") (ga K "Ratio")) := ocal_of t_Step_sub (G.ok_ssub A RC SC cOther oSub kS F_Step_sub) (b2 F_Step_sub (fun _ _ _ _ _ _ _ _ => rfl))
  have sMul : G.OCal P w K mg base (ga K "Step") G.dMul 8 (G.SpSMul (ga K "Step") (ga K "Ratio")) := ocal_of t_Step_mul (G.ok_smul A RC SC cAsked oMul kS F_Step_mul) (b2 F_Step_mul (fun _ _ _ _ _ _ _ _ => rfl))
  have sNeg : G.OCal P w K mg base (ga K "Step") "__neg__" 8 (G.SpSNeg (ga K "Step") (ga K "Ratio")) := ocal_of t_Step_neg (G.ok_sneg SC oNeg kS F_Step_neg) (b1 F_Step_neg (fun _ _ _ _ _ _ _ => rfl))
  have sEq : G.OCal P w K mg base (ga K "Step") "__eq__" 8 (G.SpSEq (ga K "Step") (ga K "Ratio")) := ocal_of t_Step_eq (G.ok_seq A RC SC oEq F_Step_eq) (b2 F_Step_eq (fun _ _ _ _ _ _ _ _ => rfl))
  have cSack := cal_of (P := P) (w := w) (base := base) F__law_sack (G.ok_sack A F__law_sack) g__law_sack (b1 F__law_sack (fun _ _ _ _ _ _ _ => rfl))
  have cTake := cal_of (P := P) (w := w) (base := base) F__law_take (G.ok_take A F__law_take) g__law_take (b2 F__law_take (fun _ _ _ _ _ _ _ _ => rfl))
  have cOfI := cal_of (P := P) (w := w) (base := base) F__law_of (G.ok_of (R := G.IsI) A cTake F__law_of) g__law_of (b2 F__law_of (fun _ _ _ _ _ _ _ _ => rfl))
  have cOfL := cal_of (P := P) (w := w) (base := base) F__law_of (G.ok_of (R := G.IsL G.IsI) A cTake F__law_of) g__law_of (b2 F__law_of (fun _ _ _ _ _ _ _ _ => rfl))
  have cPlain := cal_of (P := P) (w := w) (base := base) F__law_plain (G.ok_plain A cTake cOfI F__law_plain) g__law_plain (b2 F__law_plain (fun _ _ _ _ _ _ _ _ => rfl))
  have cFor := cal_of (P := P) (w := w) (base := base) F__law_forward (G.ok_forward A cTake cOfL cPlain F__law_forward) g__law_forward (b2 F__law_forward (fun _ _ _ _ _ _ _ _ => rfl))
  have cMade := cal_of (P := P) (w := w) (base := base) F__law_made (G.ok_made kR0 kS F__law_made) g__law_made (b1 F__law_made (fun _ _ _ _ _ _ _ => rfl))
  have cIs := cal_of (P := P) (w := w) (base := base) F__law_is (G.ok_lis A RC F__law_is) g__law_is (b3 F__law_is (fun _ _ _ _ _ _ _ _ _ => rfl))
  have cTimes := cal_of (P := P) (w := w) (base := base) F__law_times (G.ok_times A F__law_times) g__law_times (b2 F__law_times (fun _ _ _ _ _ _ _ _ => rfl))
  have cLK := cal_of (P := P) (w := w) (base := base) F__law_kind (G.ok_lkind cTimes F__law_kind) g__law_kind (b1 F__law_kind (fun _ _ _ _ _ _ _ => rfl))
  have cRight := cal_of (P := P) (w := w) (base := base) F__law_step_right (G.ok_right A RC SC cIs cTimes cLK F__law_step_right) g__law_step_right (b3 F__law_step_right (fun _ _ _ _ _ _ _ _ _ => rfl))
  have LD : G.LawD P w K mg base (ga K "Ratio") (ga K "Step") := ⟨kR0, cMade, cIs, cTimes, cRight, cProd, kwP, cTake, oAdd, oEq, sAdd, sSub, sMul, sNeg, sEq, ne_Ratio, ne_Step, slT, slD, nf⟩
  have cSums := cal_of (P := P) (w := w) (base := base) F__law_sums_right (G.ok_sums A RC SC LD F__law_sums_right) g__law_sums_right (b3 F__law_sums_right (fun _ _ _ _ _ _ _ _ _ => rfl))
  have cShared := cal_of (P := P) (w := w) (base := base) F__law_shared_right (G.ok_shared RC SC cMade cProd oAdd sAdd oEq sEq F__law_shared_right) g__law_shared_right (b3 F__law_shared_right (fun _ _ _ _ _ _ _ _ _ => rfl))
  have cFwd := cal_of (P := P) (w := w) (base := base) F__law_forward_right (G.ok_fwd RC SC LD cFor mBelow F__law_forward_right) g__law_forward_right (b2 F__law_forward_right (fun _ _ _ _ _ _ _ _ => rfl))
  exact G.ok_law A cSack cTake cPlain cSums cShared cFwd F_law
end GH
set_option maxHeartbeats 0
open PySem PySem.W PySem.Calls PyProof.Rows
set_option maxRecDepth 100000 in
set_option maxHeartbeats 0 in
theorem PySem.Challenge.cw_whosefirst_k05_steps_add_up_holds : PySem.Challenge.rw_whosefirst_k05_steps_add_up.Holds := by
  w_on; o_law
  refine HandSHeadRun.head_imp (r := OpenLaw.row PySem.Challenge.rw_whosefirst_k05_steps_add_up) (q := view (OpenLaw.row PySem.Challenge.rw_whosefirst_k05_steps_add_up).prog [0, 55]) (H := GH.hk) (ob := GH.ob) (M := 6000) (loose := GH.loose) (d := HandSHeadRun.topDef (OpenLaw.row PySem.Challenge.rw_whosefirst_k05_steps_add_up).prog 55) (kwd := []) GH.ob_eq
    GH.run (by kernel_rfl) (by kernel_rfl) (by kernel_rfl) (by rfl) (by first | assumption | decide +kernel) (by decide +kernel) ⟨rfl, rfl, rfl, rfl, rfl, by decide +kernel⟩ ?hw ?hc
  case hw => w_witness2
  case hc =>
    refine L2.walk_ofE (l := PySem.Challenge.rw_whosefirst_k05_steps_add_up) (n := 63) (k := 12) (x := "_law_script") (CX := L2.CX0) rfl (by decide) (by kernel_rfl) ⟨rfl, by decide, by decide⟩ ?F (fun _ _ _ _ z => z)
    intro w mg fa h Y G0 hmg0
    obtain ⟨K, KX, c⟩ := Y
    have hmg : mg ("law" : PySem.Str) = some (.ref fa) := by
      have e : (HandSHeadRun.topDef (OpenLaw.row PySem.Challenge.rw_whosefirst_k05_steps_add_up).prog 55).name = ("law" : PySem.Str) := by kernel_rfl
      rw [← e]
      exact hmg0
    obtain ⟨fd, hb, hF⟩ := GH.facts (P := (PySem.Challenge.rw_whosefirst_k05_steps_add_up).prog) (w := w) KX G0 hmg c
    exact ⟨K, fd, G.SpLaw K, KX, hb, fun H a ns hl _ hS => ⟨a, ns, rfl, hl, hS, fun _ => rfl⟩, hF⟩
