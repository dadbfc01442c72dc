import PyProof.Rows.All
import Wide.All
import OpenK.AllK
import Wide.FinOn
import HandS.Ends
import HandS.More
import HandS.Words
import HandS.Head0
import HandS.Head1
import HandS.Head2
import HandS.Head3
import HandS.HeadEnd
import HandS.HeadHook1
import HandS.HeadHook2
import KE.KStateDown
import KE.KOpsOwn
import KE.KMathG
import HandS.ForMost
import HandS.Defaults
import HandS.IsInst
import HandS.Star
import HandS.Gcd
import HandS.Wide
import HandS.Evl
import HandS.Zip
import HandS.Walk
import HandS.OwnEq
import HandS.Style
import KE.DataEq
import PyProof.NeKinds
import KE.GoesNew
import PySem.Challenge.RW_whosefirst_k92_ages_of_tours
set_option Elab.async false
set_option linter.all false
set_option maxRecDepth 100000
set_option exponentiation.threshold 100000
set_option maxHeartbeats 4000000
namespace GH
open PySem PySem.Spec PyProof.Rows L2 He
/-! ### defs by any address, facts of any kind -/
structure DefE where
  adr : PySem.W.Frag → Addr
  name : Str
  qual : Str
  st : Stmt
  dvs : List V := []
def fnE (K : PySem.W.Frag) (a : Addr) : FnW := match K.lookup a with
  | some ⟨_, _, .func fd, _⟩ => some (fd.name, fd.qualname, fd.params, fd.body, fd.scope, fd.globals, fd.closure, fd.builtins)
  | _ => none
def DefE.val (d : DefE) : FnW := some (d.name, d.qual, defArgs d.st, .stmts (defBody d.st), defScope d.st, mainGlobals, [], builtinsNs)
def DefE.ok (K : PySem.W.Frag) (d : DefE) : Bool := PySem.W.keepIn K (.ref (d.adr K)) && (match K.lookup (d.adr K) with
  | some ⟨_, _, .func fd, _⟩ => PySem.W.codeIn K fd.code d.qual && dflB K fd.defaults d.dvs
  | _ => false)
abbrev FaE := PySem.W.Frag → Bool
def obsE (fa : List FaE) (fn : List DefE) (K : PySem.W.Frag) : AlD := ((fa.all fun f => f K) && fn.all fun d => d.ok K, fn.map fun d => fnE K (d.adr K))
def valE (fn : List DefE) : AlD := (true, fn.map DefE.val)
def SaysE (fa : List FaE) (fn : List DefE) (K : PySem.W.Frag) : Prop := obsE fa fn K = valE fn
def obsEG (n : Nat) (fa : List FaE) (fn : List DefE) (g : Addr → Option Obj) : AlD := obsE fa fn (frG g (cStatics :: asD g n))
def hookE (n : Nat) (fa : List FaE) (fn : List DefE) : PySem.W.Hook where
  α := AlD
  obs := fun s => obsEG n fa fn s.heap.get?
  val := fun _ => valE fn
  says := fun _ h => ∃ K : PySem.W.Frag, K.In h ∧ SaysE fa fn K
  of := fun _ _ e => ⟨_, frG_in, e⟩
  keeps := fun _ _ _ ⟨K, hK, c⟩ k => ⟨K, PySem.W.Frag.In.keeps hK k, c⟩
theorem obsEG_eq {n : Nat} {fa : List FaE} {fn : List DefE} {g : Addr → Option Obj} {s : Shared} (h : ∀ a, g a = s.heap.get? a) : obsEG n fa fn g = (hookE n fa fn).obs s := by
  have e : g = s.heap.get? := funext h
  rw [e] <;> rfl
def isiB (K : PySem.W.Frag) (C : Addr) : Bool := eqO (PySem.W.findIn K (.ref C) "__class__") (some (some (.builtin "object.__class__"))) && (eqO (PySem.W.specialIn K (.builtin "object.__class__") "__get__") (some (some (.builtin "getset_descriptor.__get__"))) &&
  (decide (PySem.W.takesIn K (.builtin "object.__class__") = some true) && decide (PySem.W.mroIn K C (.type "object") = some true)))
def neB (K : PySem.W.Frag) (C : Addr) : Bool := eqO (PySem.W.findIn K (.ref C) "__ne__") (some (some (.builtin "object.__ne__"))) && decide (PySem.W.subIn K (.ref C) (.type "object") = some true)
def slTB (K : PySem.W.Frag) (C : Addr) : Bool := eqO (PySem.W.findIn K (.ref C) (dunderR "mul")) (some none) && ((PySem.W.findIn K (.type "int") (PySem.dunder "mul")).isSome && ((PySem.W.findIn K (.type "int") (dunderR "mul")).isSome && decide (PySem.W.subIn K (.type "int") (.ref C) = some false)))
def smB (K : PySem.W.Frag) (C : Addr) (m : Str) : Option Addr := match PySem.W.findCls K (.ref C) (.type "type") m with
  | some (.get (.builtin b) (.ref p) .none (.ref c)) => if b = "staticmethod.__get__" ∧ c = C then some p else none
  | _ => none
def smF (K : PySem.W.Frag) (C : Addr) (m : Str) : Addr := match smB K C m with
  | some p => (match PySem.W.recIn K p "staticmethod" with
    | some (.ref f :: _) => f
    | _ => 0)
  | none => 0
def smOk (K : PySem.W.Frag) (C : Addr) (m : Str) : Bool := eqO (PySem.W.specialIn K (.ref C) "__getattribute__") (some (some (.builtin "type.__getattribute__"))) && (decide (PySem.W.typeIn K (.ref C) = some (.type "type")) && (PySem.W.readsIn K C (.type "type") && ((match smB K C m with
  | some p => (match PySem.W.recIn K p "staticmethod" with
    | some (.ref _ :: _) => true
    | _ => false)
  | none => false) && PySem.W.keepIn K (.ref (smF K C m)))))
end GH
set_option maxHeartbeats 4000000
namespace G
open PySem PySem.Spec PyProof.Rows L2
def top (i : Nat) : Stmt := PySem.Challenge.pw_whosefirst_k92_ages_of_tours.main.body.getD i (.Pass ⟨0, 0, 0, 0⟩)
end G
namespace GH
open PySem PySem.Spec PyProof.Rows L2 He
def slTBo (K : PySem.W.Frag) (C : Addr) (nm : String) : Bool := eqO (PySem.W.findIn K (.ref C) (dunderR nm)) (some none) && ((PySem.W.findIn K (.type "int") (PySem.dunder nm)).isSome && ((PySem.W.findIn K (.type "int") (dunderR nm)).isSome && decide (PySem.W.subIn K (.type "int") (.ref C) = some false)))
def fn0 : List DefE := [
  ⟨fun K => ga K "is_integer", "is_integer", "is_integer", G.top 4, []⟩,
  ⟨fun K => ga K "is_within", "is_within", "is_within", G.top 5, []⟩,
  ⟨fun K => ga K "is_listed", "is_listed", "is_listed", G.top 6, []⟩,
  ⟨fun K => ma K (ga K "Ratio") "__init__", "__init__", "Ratio.__init__", inClass (G.top 23) 0, [.int 1]⟩,
  ⟨fun K => smF K (ga K "Ratio") "of", "of", "Ratio.of", inClass (G.top 23) 1, []⟩,
  ⟨fun K => ma K (ga K "Ratio") "over", "over", "Ratio.over", inClass (G.top 23) 3, []⟩,
  ⟨fun K => ma K (ga K "Ratio") "is_below", "is_below", "Ratio.is_below", inClass (G.top 23) 4, []⟩,
  ⟨fun K => ma K (ga K "Ratio") "__add__", "__add__", "Ratio.__add__", inClass (G.top 23) 5, []⟩,
  ⟨fun K => ma K (ga K "Ratio") "__sub__", "__sub__", "Ratio.__sub__", inClass (G.top 23) 6, []⟩,
  ⟨fun K => ma K (ga K "Ratio") "__mul__", "__mul__", "Ratio.__mul__", inClass (G.top 23) 7, []⟩]
def fn1 : List DefE := [
  ⟨fun K => ma K (ga K "Ratio") "__neg__", "__neg__", "Ratio.__neg__", inClass (G.top 23) 8, []⟩,
  ⟨fun K => ma K (ga K "Ratio") "__eq__", "__eq__", "Ratio.__eq__", inClass (G.top 23) 11, []⟩,
  ⟨fun K => ga K "is_ratio", "is_ratio", "is_ratio", G.top 24, []⟩,
  ⟨fun K => ga K "are_ratios", "are_ratios", "are_ratios", G.top 25, []⟩,
  ⟨fun K => ga K "as_ratio", "as_ratio", "as_ratio", G.top 26, []⟩,
  ⟨fun K => ga K "summed", "summed", "summed", G.top 27, []⟩,
  ⟨fun K => ga K "greatest_of", "greatest_of", "greatest_of", G.top 28, []⟩,
  ⟨fun K => ga K "least_of", "least_of", "least_of", G.top 29, []⟩,
  ⟨fun K => ga K "over_one_bottom", "over_one_bottom", "over_one_bottom", G.top 30, []⟩,
  ⟨fun K => ga K "asked_ratio", "asked_ratio", "asked_ratio", G.top 35, []⟩]
def fn2 : List DefE := [
  ⟨fun K => ga K "is_axes", "is_axes", "is_axes", G.top 36, []⟩,
  ⟨fun K => ga K "ask_axes", "ask_axes", "ask_axes", G.top 37, []⟩,
  ⟨fun K => ga K "ask_equal_axes", "ask_equal_axes", "ask_equal_axes", G.top 38, []⟩,
  ⟨fun K => ma K (ga K "Step") "__init__", "__init__", "Step.__init__", inClass (G.top 40) 0, []⟩,
  ⟨fun K => smF K (ga K "Step") "nothing", "nothing", "Step.nothing", inClass (G.top 40) 1, []⟩,
  ⟨fun K => ma K (ga K "Step") "__add__", "__add__", "Step.__add__", inClass (G.top 40) 3, []⟩,
  ⟨fun K => ma K (ga K "Step") "__sub__", "__sub__", "Step.__sub__", inClass (G.top 40) 4, []⟩,
  ⟨fun K => ma K (ga K "Step") "__eq__", "__eq__", "Step.__eq__", inClass (G.top 40) 7, []⟩,
  ⟨fun K => ga K "ask_other", "ask_other", "ask_other", G.top 41, []⟩,
  ⟨fun K => ga K "square_of", "square_of", "square_of", G.top 42, []⟩]
def fn3 : List DefE := [
  ⟨fun K => ga K "kind_of", "kind_of", "kind_of", G.top 43, []⟩,
  ⟨fun K => ga K "spot_of_lights", "spot_of_lights", "spot_of_lights", G.top 45, []⟩,
  ⟨fun K => ma K (ga K "Tour") "__init__", "__init__", "Tour.__init__", inClass (G.top 48) 0, []⟩,
  ⟨fun K => ma K (ga K "Tour") "joined", "joined", "Tour.joined", inClass (G.top 48) 2, []⟩,
  ⟨fun K => ma K (ga K "Tour") "__eq__", "__eq__", "Tour.__eq__", inClass (G.top 48) 3, []⟩,
  ⟨fun K => ga K "straight_square", "straight_square", "straight_square", G.top 49, []⟩,
  ⟨fun K => ga K "spot_at", "spot_at", "spot_at", G.top 50, []⟩,
  ⟨fun K => ga K "age_of_news", "age_of_news", "age_of_news", G.top 51, []⟩,
  ⟨fun K => ga K "age_past", "age_past", "age_past", G.top 52, []⟩,
  ⟨fun K => ga K "light_of", "light_of", "light_of", G.top 53, []⟩]
def fn4 : List DefE := [
  ⟨fun K => ga K "step_of_beats", "step_of_beats", "step_of_beats", G.top 54, []⟩,
  ⟨fun K => ga K "spots_along", "spots_along", "spots_along", G.top 55, []⟩,
  ⟨fun K => ga K "are_parts", "are_parts", "are_parts", G.top 56, []⟩,
  ⟨fun K => ga K "ask_tour", "ask_tour", "ask_tour", G.top 58, []⟩,
  ⟨fun K => ga K "_law_pen", "_law_pen", "_law_pen", G.top 60, []⟩,
  ⟨fun K => ga K "_law_draw", "_law_draw", "_law_draw", G.top 61, []⟩,
  ⟨fun K => ga K "_law_pick", "_law_pick", "_law_pick", G.top 62, []⟩,
  ⟨fun K => ga K "_law_parts", "_law_parts", "_law_parts", G.top 63, []⟩,
  ⟨fun K => ga K "_law_tour", "_law_tour", "_law_tour", G.top 64, []⟩,
  ⟨fun K => ga K "_law_plus", "_law_plus", "_law_plus", G.top 65, []⟩]
def fn5 : List DefE := [
  ⟨fun K => ga K "_law_lights", "_law_lights", "_law_lights", G.top 66, []⟩,
  ⟨fun K => ga K "_law_lit", "_law_lit", "_law_lit", G.top 67, []⟩,
  ⟨fun K => ga K "_law_is_less", "_law_is_less", "_law_is_less", G.top 68, []⟩,
  ⟨fun K => ga K "_law_sums_right", "_law_sums_right", "_law_sums_right", G.top 69, []⟩,
  ⟨fun K => ga K "_law_kin_right", "_law_kin_right", "_law_kin_right", G.top 70, []⟩,
  ⟨fun K => ga K "_law_ages_right", "_law_ages_right", "_law_ages_right", G.top 71, []⟩,
  ⟨fun K => ga K "_law_news_right", "_law_news_right", "_law_news_right", G.top 72, []⟩,
  ⟨fun K => ga K "law", "law", "law", G.top 73, []⟩]
def fn : List DefE := (fn0 ++ (fn1 ++ (fn2 ++ (fn3 ++ (fn4 ++ fn5)))))
def fa0 : List FaE := [
  fun K => (Fa.free "len").ok K,
  fun K => (Fa.free "int").ok K,
  fun K => (Fa.free "bool").ok K,
  fun K => (Fa.free "isinstance").ok K,
  fun K => (Fa.free "list").ok K,
  fun K => (Fa.free "tuple").ok K,
  fun K => (Fa.free "abs").ok K,
  fun K => (Fa.free "sum").ok K,
  fun K => (Fa.free "all").ok K,
  fun K => (Fa.free "zip").ok K]
def fa1 : List FaE := [
  fun K => (Fa.free "range").ok K,
  fun K => (Fa.free "max").ok K,
  fun K => (Fa.free "type").ok K,
  fun K => eqO (PySem.W.nsIn K mainGlobals "gcd") (some (some (.builtin "math.gcd"))),
  fun K => eqO (PySem.W.nsIn K mainGlobals "lcm") (some (some (.builtin "math.lcm"))),
  fun K => (Fa.int "MOST_AXES" 3).ok K,
  fun K => (Fa.int "MOST_PARTS" 12).ok K,
  fun K => (Fa.glo "is_integer").ok K,
  fun K => (Fa.glo "is_within").ok K,
  fun K => (Fa.glo "is_listed").ok K]
def fa2 : List FaE := [
  fun K => (Fa.glo "is_ratio").ok K,
  fun K => (Fa.glo "are_ratios").ok K,
  fun K => (Fa.glo "as_ratio").ok K,
  fun K => (Fa.glo "summed").ok K,
  fun K => (Fa.glo "greatest_of").ok K,
  fun K => (Fa.glo "least_of").ok K,
  fun K => (Fa.glo "over_one_bottom").ok K,
  fun K => (Fa.glo "asked_ratio").ok K,
  fun K => (Fa.glo "is_axes").ok K,
  fun K => (Fa.glo "ask_axes").ok K]
def fa3 : List FaE := [
  fun K => (Fa.glo "ask_equal_axes").ok K,
  fun K => (Fa.glo "ask_other").ok K,
  fun K => (Fa.glo "square_of").ok K,
  fun K => (Fa.glo "kind_of").ok K,
  fun K => (Fa.glo "spot_of_lights").ok K,
  fun K => (Fa.glo "straight_square").ok K,
  fun K => (Fa.glo "spot_at").ok K,
  fun K => (Fa.glo "age_of_news").ok K,
  fun K => (Fa.glo "age_past").ok K,
  fun K => (Fa.glo "light_of").ok K]
def fa4 : List FaE := [
  fun K => (Fa.glo "step_of_beats").ok K,
  fun K => (Fa.glo "spots_along").ok K,
  fun K => (Fa.glo "are_parts").ok K,
  fun K => (Fa.glo "ask_tour").ok K,
  fun K => (Fa.glo "_law_pen").ok K,
  fun K => (Fa.glo "_law_draw").ok K,
  fun K => (Fa.glo "_law_pick").ok K,
  fun K => (Fa.glo "_law_parts").ok K,
  fun K => (Fa.glo "_law_tour").ok K,
  fun K => (Fa.glo "_law_plus").ok K]
def fa5 : List FaE := [
  fun K => (Fa.glo "_law_lights").ok K,
  fun K => (Fa.glo "_law_lit").ok K,
  fun K => (Fa.glo "_law_is_less").ok K,
  fun K => (Fa.glo "_law_sums_right").ok K,
  fun K => (Fa.glo "_law_kin_right").ok K,
  fun K => (Fa.glo "_law_ages_right").ok K,
  fun K => (Fa.glo "_law_news_right").ok K,
  fun K => (Fa.glo "law").ok K,
  fun K => (Fa.glo "Ratio").ok K,
  fun K => (Fa.cls "Ratio").ok K]
def fa6 : List FaE := [
  fun K => (Fa.mkr "Ratio").ok K,
  fun K => isiB K (ga K "Ratio"),
  fun K => PySem.W.selfFirst K (ga K "Ratio"),
  fun K => neB K (ga K "Ratio"),
  fun K => PySem.W.notFirst K (ga K "Ratio") (.type "int"),
  fun K => PySem.W.notFirst K (ga K "Ratio") (.type "NoneType"),
  fun K => (Fa.noat "Ratio" "top").ok K,
  fun K => (Fa.noat "Ratio" "bottom").ok K,
  fun K => (Fa.noat "Ratio" "sign").ok K,
  fun K => smOk K (ga K "Ratio") "of"]
def fa7 : List FaE := [
  fun K => (Fa.meth "Ratio" "over").ok K,
  fun K => (Fa.meth "Ratio" "is_below").ok K,
  fun K => (Fa.meth "Ratio" "__add__").ok K,
  fun K => (Fa.meth "Ratio" "__sub__").ok K,
  fun K => (Fa.meth "Ratio" "__mul__").ok K,
  fun K => (Fa.meth "Ratio" "__neg__").ok K,
  fun K => (Fa.meth "Ratio" "__eq__").ok K,
  fun K => decide (PySem.W.kitOne K (.type "int") (.ref (ga K "Ratio")) = some false),
  fun K => decide (PySem.W.kitOne K (.ref (ga K "Ratio")) (.type "int") = some false),
  fun K => decide (PySem.W.kitOne K (.type "NoneType") (.ref (ga K "Ratio")) = some false)]
def fa8 : List FaE := [
  fun K => decide (PySem.W.kitOne K (.ref (ga K "Ratio")) (.ref (ga K "Step")) = some false),
  fun K => decide (PySem.W.kitOne K (.ref (ga K "Ratio")) (.ref (ga K "Tour")) = some false),
  fun K => (Fa.glo "Step").ok K,
  fun K => (Fa.cls "Step").ok K,
  fun K => (Fa.mkr "Step").ok K,
  fun K => isiB K (ga K "Step"),
  fun K => PySem.W.selfFirst K (ga K "Step"),
  fun K => neB K (ga K "Step"),
  fun K => (Fa.noat "Step" "time").ok K,
  fun K => (Fa.noat "Step" "place").ok K]
def fa9 : List FaE := [
  fun K => (Fa.noat "Step" "axes").ok K,
  fun K => (Fa.noat "Step" "numbers").ok K,
  fun K => (Fa.noat "Step" "bottom").ok K,
  fun K => (Fa.noat "Step" "square").ok K,
  fun K => (Fa.noat "Step" "kind").ok K,
  fun K => smOk K (ga K "Step") "nothing",
  fun K => (Fa.meth "Step" "__add__").ok K,
  fun K => (Fa.meth "Step" "__sub__").ok K,
  fun K => (Fa.meth "Step" "__eq__").ok K,
  fun K => decide (PySem.W.kitOne K (.ref (ga K "Step")) (.ref (ga K "Tour")) = some false)]
def fa10 : List FaE := [
  fun K => (Fa.glo "Tour").ok K,
  fun K => (Fa.cls "Tour").ok K,
  fun K => (Fa.mkr "Tour").ok K,
  fun K => isiB K (ga K "Tour"),
  fun K => neB K (ga K "Tour"),
  fun K => (Fa.noat "Tour" "parts").ok K,
  fun K => (Fa.noat "Tour" "age").ok K,
  fun K => (Fa.noat "Tour" "spots").ok K,
  fun K => (Fa.noat "Tour" "step").ok K,
  fun K => (Fa.meth "Tour" "joined").ok K]
def fa11 : List FaE := [
  fun K => (Fa.meth "Tour" "__eq__").ok K,
  fun K => slTBo K (ga K "Ratio") "mul"]
def fa : List FaE := (fa0 ++ (fa1 ++ (fa2 ++ (fa3 ++ (fa4 ++ (fa5 ++ (fa6 ++ (fa7 ++ (fa8 ++ (fa9 ++ (fa10 ++ fa11)))))))))))
abbrev R : PySem.W.OpenRow := PySem.W.OpenLaw.row PySem.Challenge.rw_whosefirst_k92_ages_of_tours
/-- what is looked at: the objects of some names, and what they name -/
def rootsN (ns : List Str) (g : Addr → Option Obj) : List Addr := ns.filterMap fun x => match PySem.W.nsIn (frG g [mainGlobals]) mainGlobals x with
  | some (some (.ref a)) => some a
  | _ => none
def nextN (g : Addr → Option Obj) (as : List Addr) : List Addr := as.flatMap fun a => match g a with
  | some o => (refsD o).filter fun b => b != mainGlobals
  | none => []
def asN (g : Addr → Option Obj) : Nat → List Addr → List Addr
  | 0, as => as
  | n + 1, as => as ++ asN g n (nextN g as)
def obsNG (ns : List Str) (n : Nat) (fa : List FaE) (fn : List DefE) (g : Addr → Option Obj) : AlD := obsE fa fn (frG g (mainGlobals :: cStatics :: asN g n (rootsN ns g)))
def hookN (ns : List Str) (n : Nat) (fa : List FaE) (fn : List DefE) : PySem.W.Hook where
  α := AlD
  obs := fun s => obsNG ns n fa fn s.heap.get?
  val := fun _ => valE fn
  says := fun _ h => ∃ K : PySem.W.Frag, K.In h ∧ SaysE fa fn K
  of := fun _ _ e => ⟨_, frG_in, e⟩
  keeps := fun _ _ _ ⟨K, hK, c⟩ k => ⟨K, PySem.W.Frag.In.keeps hK k, c⟩
def ns0 : List Str := ["is_integer", "is_within", "is_listed", "is_ratio", "are_ratios", "as_ratio", "summed", "greatest_of", "least_of", "over_one_bottom", "asked_ratio", "is_axes", "ask_axes", "ask_equal_axes", "ask_other", "square_of", "kind_of", "spot_of_lights", "straight_square", "spot_at", "age_of_news", "age_past", "light_of", "step_of_beats"]
def ns1 : List Str := ["spots_along", "are_parts", "ask_tour", "_law_pen", "_law_draw", "_law_pick", "_law_parts", "_law_tour", "_law_plus", "_law_lights", "_law_lit", "_law_is_less", "_law_sums_right", "_law_kin_right", "_law_ages_right", "_law_news_right", "law", "Ratio", "Step", "Tour"]
def nsR : List Str := ns0 ++ ns1
abbrev hk : PySem.W.Hook := hookN nsR 4 fa fn
def ob (s : PySem.W.SharedT) : AlD := obsNG nsR 4 fa fn (HandSHeadRun.getT s)
theorem obsNG_eq {ns : List Str} {n : Nat} {fa : List FaE} {fn : List DefE} {g : Addr → Option Obj} {s : Shared} (h : ∀ a, g a = s.heap.get? a) : obsNG ns n fa fn g = (hookN ns n fa fn).obs s := by
  have e : g = s.heap.get? := funext h
  rw [e] <;> rfl
theorem ob_eq (s : PySem.W.SharedT) : ob s = hk.obs s.abs := obsNG_eq (HandSHeadRun.getT_eq s)
def loose0 : List Str := ["_wall", "DIGITS", "is_integer", "is_within", "is_listed", "FirstError", "BadRatio", "BadStep", "BadTour", "BadNumber", "Unlike", "TooMany", "BadText", "MOST_DIGITS", "BLOCK_LENGTH", "Words", "are_digits", "digits_of", "Ratio", "is_ratio", "are_ratios", "as_ratio", "summed", "greatest_of"]
def loose1 : List Str := ["least_of", "over_one_bottom", "ratio_of_word", "take_ratio", "MOST_AXES", "asked_ratio", "is_axes", "ask_axes", "ask_equal_axes", "Step", "ask_other", "square_of", "kind_of", "spot_of_lights", "MOST_PARTS", "Tour", "straight_square", "spot_at", "age_of_news", "age_past", "light_of", "step_of_beats", "spots_along", "are_parts"]
def loose2 : List Str := ["take_above_nought", "ask_tour", "_law_pen", "_law_draw", "_law_pick", "_law_parts", "_law_tour", "_law_plus", "_law_lights", "_law_lit", "_law_is_less", "_law_sums_right", "_law_kin_right", "_law_ages_right", "_law_news_right"]
def loose : List Str := loose0 ++ loose1 ++ loose2
end GH
set_option maxHeartbeats 0
namespace GH
open PySem PySem.Spec PyProof.Rows L2 He
theorem run (w : World) : HandSHeadRun.RunEqI R (PySem.W.view R.prog [0, 73]) hk ob 20000 loose w := by
  unfold HandSHeadRun.RunEqI
  kernel_rfl
end GH
set_option maxHeartbeats 4000000
/-! G: what an expression of a def evaluates to, told by a word about the value that heaps which grow keep. -/
namespace G
open PySem PySem.Spec PyProof.Rows L2 Evl

/-! ### readings by meaning -/
def EW (X : Cx) (e : Expr) : TE := fun σ H Q => ∀ pins s, Inv X pins σ H s → wpAny (model X.prog X.w) X.A (eval e X.env) (EP X pins σ Q) X.xe s
def TW (X : Cx) (e : Expr) : TT := fun σ H Q => ∀ pins s, Inv X pins σ H s → wpAny (model X.prog X.w) X.A (isTrue e X.env (eval e X.env)) (TP X pins σ Q) X.xe s
def AW (X : Cx) (es : List Expr) : TA := fun σ H Q => ∀ pos pins s, Inv X pins σ H s → wpAny (model X.prog X.w) X.A (spliced (backTo pos (starEach es X.env))) (AP X pins σ Q) X.xe s
def KW (X : Cx) (kws : List Keyword) : TA := fun σ H Q => ∀ pos pins s, Inv X pins σ H s → wpAny (model X.prog X.w) X.A (evalAll ((backToKw pos (keywordEach kws X.env)).map (·.2))) (AP X pins σ Q) X.xe s
def SW (X : Cx) (st : Stmt) : TS := fun D σ H => ∀ pins s, Inv X pins σ H s → wpAny (model X.prog X.w) X.A (exec st X.env) (SP X pins D) X.xe s
def BW (X : Cx) (ss : List Stmt) : TS := fun D σ H => ∀ pins s, Inv X pins σ H s → wpAny (model X.prog X.w) X.A (execs ss X.env) (SP X pins D) X.xe s
section
variable {X : Cx} {e : Expr} {es : List Expr} {st : Stmt} {ss : List Stmt}
theorem pe_W : PE X e (EW X e) := ⟨fun pins s _ _ _ I h => h pins s I⟩
theorem pt_W : PT X e (TW X e) := ⟨fun pins s _ _ _ I h => h pins s I⟩
theorem pa_W : PA X es (AW X es) := ⟨fun pos pins s _ _ _ I h => h pos pins s I⟩
theorem pk_W {kws : List Keyword} : PK X kws (KW X kws) := ⟨fun pos pins s _ _ _ I h => h pos pins s I⟩
theorem ps_W : PS X st (SW X st) := ⟨fun pins s _ _ _ I h => h pins s I⟩
theorem pss_W : PSs X ss (BW X ss) := ⟨fun pins s _ _ _ I h => h pins s I⟩
end

/-! ### words about values -/
abbrev Rep := V → Hp → Prop
class Mono (P : Rep) : Prop where
  up : ∀ {v : V} {H H' : Hp}, Ex H H' → P v H → P v H'
def IsV (a : V) : Rep := fun v _ => v = a
abbrev IsI (i : Int) : Rep := IsV (.int i)
abbrev IsB (b : Bool) : Rep := IsV (.bl b)
abbrev IsS (z : Str) : Rep := IsV (.str z)
instance {a : V} : Mono (IsV a) := ⟨fun _ h => h⟩
/-- one after another -/
def All2 {α : Type} (R : α → Rep) : List α → List V → Hp → Prop
  | [], xs, _ => xs = []
  | a :: as, xs, H => ∃ x r, xs = x :: r ∧ R a x H ∧ All2 R as r H
theorem All2.up {α : Type} {R : α → Rep} (hR : ∀ a, Mono (R a)) {H H' : Hp} (e : Ex H H') : ∀ {as : List α} {xs : List V}, All2 R as xs H → All2 R as xs H'
  | [], _, h => h
  | a :: as, _, ⟨x, r, hx, h, t⟩ => ⟨x, r, hx, (hR a).up e h, All2.up hR e t⟩
theorem All2.length {α : Type} {R : α → Rep} {H : Hp} : ∀ {as : List α} {xs : List V}, All2 R as xs H → xs.length = as.length
  | [], _, h => by rw [show _ = _ from h]; rfl
  | a :: as, _, ⟨x, r, hx, h, t⟩ => by rw [hx, List.length_cons, List.length_cons, All2.length t]
theorem All2.get {α : Type} {R : α → Rep} {H : Hp} : ∀ {as : List α} {xs : List V} {i : Nat} {x : V}, All2 R as xs H → xs[i]? = some x → ∃ a, as[i]? = some a ∧ R a x H
  | [], _, i, x, h, hx => by rw [show _ = _ from h] at hx; simp at hx
  | a :: as, _, 0, x, ⟨y, r, hy, h, t⟩, hx => by
    subst hy
    cases (Option.some.inj (show some y = some x from by simpa using hx))
    exact ⟨a, rfl, h⟩
  | a :: as, _, i + 1, x, ⟨y, r, hy, h, t⟩, hx => by
    subst hy
    obtain ⟨b, hb, hr⟩ := All2.get t (show r[i]? = some x from by simpa using hx)
    exact ⟨b, by simpa using hb, hr⟩
theorem All2.get2 {α : Type} {R : α → Rep} {H : Hp} : ∀ {as : List α} {xs : List V} {i : Nat} {a : α}, All2 R as xs H → as[i]? = some a → ∃ x, xs[i]? = some x ∧ R a x H
  | [], _, i, a, h, ha => by simp at ha
  | b :: as, _, 0, a, ⟨y, r, hy, h, t⟩, ha => by
    subst hy
    cases (Option.some.inj (show some b = some a from by simpa using ha))
    exact ⟨y, rfl, h⟩
  | b :: as, _, i + 1, a, ⟨y, r, hy, h, t⟩, ha => by
    subst hy
    obtain ⟨x, hx, hr⟩ := All2.get2 t (show as[i]? = some a from by simpa using ha)
    exact ⟨x, by simpa using hx, hr⟩
theorem All2.snoc {α : Type} {R : α → Rep} {H : Hp} {b : α} {y : V} (hb : R b y H) : ∀ {as : List α} {xs : List V}, All2 R as xs H → All2 R (as ++ [b]) (xs ++ [y]) H
  | [], _, h => by rw [show _ = _ from h]; exact ⟨y, [], rfl, hb, rfl⟩
  | a :: as, _, ⟨x, r, hx, h, t⟩ => by
    subst hx
    exact ⟨x, r ++ [y], rfl, h, All2.snoc hb t⟩
theorem All2.drop {α : Type} {R : α → Rep} {H : Hp} : ∀ (n : Nat) {as : List α} {xs : List V}, All2 R as xs H → All2 R (as.drop n) (xs.drop n) H
  | 0, _, _, h => h
  | n + 1, [], _, h => by rw [show _ = _ from h]; exact rfl
  | n + 1, a :: as, _, ⟨x, r, hx, h, t⟩ => by
    subst hx
    exact All2.drop n t
theorem All2.map {α β : Type} {R : α → Rep} {S : β → Rep} {f : α → β} {H : Hp} (hf : ∀ a v, R a v H → S (f a) v H) : ∀ {as : List α} {xs : List V}, All2 R as xs H → All2 S (as.map f) xs H
  | [], _, h => h
  | a :: as, _, ⟨x, r, hx, h, t⟩ => ⟨x, r, hx, hf a x h, All2.map hf t⟩
theorem all2_ints {H : Hp} : ∀ {ns : List Int} {xs : List V}, All2 IsI ns xs H → xs = ns.map V.int
  | [], _, h => h
  | n :: ns, _, ⟨x, r, hx, h, t⟩ => by
    rw [hx, show x = _ from h, all2_ints t]
    rfl
theorem ints_all2 {H : Hp} : ∀ {ns : List Int}, All2 IsI ns (ns.map V.int) H
  | [] => rfl
  | n :: ns => ⟨_, _, rfl, rfl, ints_all2⟩
/-- a list, a tuple of these -/
def IsL {α : Type} (R : α → Rep) (as : List α) : Rep := fun v H => ∃ a xs, v = .ref a ∧ H a = some (.lst xs) ∧ All2 R as xs H
def IsT {α : Type} (R : α → Rep) (as : List α) : Rep := fun v H => ∃ a xs, v = .ref a ∧ H a = some (.tup xs) ∧ All2 R as xs H
instance {α : Type} {R : α → Rep} {as : List α} [hR : ∀ a, Mono (R a)] : Mono (IsL R as) := ⟨fun e ⟨a, xs, hv, ha, h⟩ => ⟨a, xs, hv, e a _ ha, h.up hR e⟩⟩
instance {α : Type} {R : α → Rep} {as : List α} [hR : ∀ a, Mono (R a)] : Mono (IsT R as) := ⟨fun e ⟨a, xs, hv, ha, h⟩ => ⟨a, xs, hv, e a _ ha, h.up hR e⟩⟩
/-- words one by one -/
def Args : List Rep → List V → Hp → Prop
  | [], xs, _ => xs = []
  | P :: Ps, xs, H => ∃ x r, xs = x :: r ∧ P x H ∧ Args Ps r H
def TupOf (Ps : List Rep) : Rep := fun v H => ∃ a xs, v = .ref a ∧ H a = some (.tup xs) ∧ Args Ps xs H
def LstOf (Ps : List Rep) : Rep := fun v H => ∃ a xs, v = .ref a ∧ H a = some (.lst xs) ∧ Args Ps xs H
theorem args_len {H : Hp} : ∀ {Ps : List Rep} {xs : List V}, Args Ps xs H → xs.length = Ps.length
  | [], _, h => by rw [show _ = _ from h]; rfl
  | P :: Ps, _, ⟨x, r, hx, _, t⟩ => by rw [hx, List.length_cons, List.length_cons, args_len t]
class MonoA (Ps : List Rep) : Prop where
  up : ∀ {xs : List V} {H H' : Hp}, Ex H H' → Args Ps xs H → Args Ps xs H'
instance : MonoA [] := ⟨fun _ h => h⟩
instance {P : Rep} {Ps : List Rep} [hP : Mono P] [hR : MonoA Ps] : MonoA (P :: Ps) := ⟨fun e ⟨x, r, hx, h, t⟩ => ⟨x, r, hx, hP.up e h, hR.up e t⟩⟩
instance {Ps : List Rep} [h : MonoA Ps] : Mono (TupOf Ps) := ⟨fun e ⟨a, xs, hv, ha, q⟩ => ⟨a, xs, hv, e a _ ha, h.up e q⟩⟩
instance {Ps : List Rep} [h : MonoA Ps] : Mono (LstOf Ps) := ⟨fun e ⟨a, xs, hv, ha, q⟩ => ⟨a, xs, hv, e a _ ha, h.up e q⟩⟩

/-! ### what evaluates to what -/
def EvP (te : TE) (σ : L2.St) (H : Hp) (P : Rep) : Prop := ∀ H1, Ex H H1 → ∀ Q : VK, (∀ v H2, Ex H1 H2 → P v H2 → Q v H2) → te σ H1 Q
def EvAP (ta : TA) (σ : L2.St) (H : Hp) (P : List V → Hp → Prop) : Prop := ∀ H1, Ex H H1 → ∀ Q : List V → Hp → Prop, (∀ vs H2, Ex H1 H2 → P vs H2 → Q vs H2) → ta σ H1 Q
abbrev EG (X : Cx) (e : Expr) (σ : L2.St) (H : Hp) (P : Rep) : Prop := EvP (EW X e) σ H P
abbrev TG (X : Cx) (e : Expr) (σ : L2.St) (H : Hp) (b : Bool) : Prop := EvT (TW X e) σ H b
abbrev AG (X : Cx) (es : List Expr) (σ : L2.St) (H : Hp) (Ps : List Rep) : Prop := EvAP (AW X es) σ H (Args Ps)
abbrev KG (X : Cx) (ks : List Keyword) (σ : L2.St) (H : Hp) (Ps : List Rep) : Prop := EvAP (KW X ks) σ H (Args Ps)
theorem eg_of {X : Cx} {e : Expr} {t : TE} {σ : L2.St} {H : Hp} {P : Rep} (h : PE X e t) (v : EvP t σ H P) : EG X e σ H P := fun H1 e1 Q q pins s I => h.run pins s σ H1 Q I (v H1 e1 Q q)
theorem tg_of {X : Cx} {e : Expr} {t : TT} {σ : L2.St} {H : Hp} {b : Bool} (h : PT X e t) (v : EvT t σ H b) : TG X e σ H b := fun H1 e1 Q q pins s I => h.run pins s σ H1 Q I (v H1 e1 Q q)
theorem ag_of {X : Cx} {es : List Expr} {t : TA} {σ : L2.St} {H : Hp} {P : List Rep} (h : PA X es t) (v : EvAP t σ H (Args P)) : AG X es σ H P := fun H1 e1 Q q pos pins s I => h.run pos pins s σ H1 Q I (v H1 e1 Q q)
theorem EvP.imp {te : TE} {σ : L2.St} {H : Hp} {P P' : Rep} (h : EvP te σ H P) (i : ∀ v H', Ex H H' → P v H' → P' v H') : EvP te σ H P' := fun H1 e Q q => h H1 e Q fun v H2 e2 p => q v H2 e2 (i v H2 (e.trans e2) p)
theorem EvP.at {te : TE} {σ : L2.St} {H H' : Hp} {P : Rep} (h : EvP te σ H P) (e : Ex H H') : EvP te σ H' P := fun H1 e1 Q q => h H1 (e.trans e1) Q q
theorem TG.is {X : Cx} {e : Expr} {σ : L2.St} {H : Hp} {b c : Bool} (h : TG X e σ H b) (q : b = c) : TG X e σ H c := q ▸ h
theorem EvP.int {te : TE} {σ : L2.St} {H : Hp} {i j : Int} (h : EvP te σ H (IsI i)) (q : i = j) : EvP te σ H (IsI j) := q ▸ h
theorem EvP.bl {te : TE} {σ : L2.St} {H : Hp} {i j : Bool} (h : EvP te σ H (IsB i)) (q : i = j) : EvP te σ H (IsB j) := q ▸ h

section
variable {X : Cx} {σ : L2.St} {H : Hp} {a b c e : Expr} {es : List Expr} {pos p : Pos} {P P1 P2 : Rep} {Ps : List Rep}

/-! ### readings -/
theorem ep_op {r : R2} {ta tb : TE} [hm : Mono P1] (ha : EvP ta σ H P1) (hb : EvP tb σ H P2)
    (hr : ∀ x y H1, Ex H H1 → P1 x H1 → P2 y H1 → ∀ Q : VK, (∀ z H2, Ex H1 H2 → P z H2 → Q z H2) → r x y H1 Q) : EvP (tOp r ta tb) σ H P := fun H1 e Q q =>
  ha H1 e _ fun x H2 e2 px => hb H2 (e.trans e2) _ fun y H3 e3 py => hr x y H3 ((e.trans e2).trans e3) (hm.up e3 px) py Q fun z H4 e4 pz => q z H4 ((e2.trans e3).trans e4) pz
theorem ep_un {r : V → Hp → VK → Prop} {ta : TE} (ha : EvP ta σ H P1) (hr : ∀ x H1, Ex H H1 → P1 x H1 → ∀ Q : VK, (∀ z H2, Ex H1 H2 → P z H2 → Q z H2) → r x H1 Q) : EvP (tUn r ta) σ H P := fun H1 e Q q =>
  ha H1 e _ fun x H2 e2 px => hr x H2 (e.trans e2) px Q fun z H3 e3 pz => q z H3 (e2.trans e3) pz
theorem ep_cb {r : List V → Hp → VK → Prop} {ta : TA} {PA : List V → Hp → Prop} (ha : EvAP ta σ H PA) (hr : ∀ vs H1, Ex H H1 → PA vs H1 → ∀ Q : VK, (∀ z H2, Ex H1 H2 → P z H2 → Q z H2) → r vs H1 Q) : EvP (tCB r ta) σ H P := fun H1 e Q q =>
  ha H1 e _ fun vs H2 e2 pv => hr vs H2 (e.trans e2) pv Q fun z H3 e3 pz => q z H3 (e2.trans e3) pz

/-! ### names, constants -/
theorem eg_var (i : Nat) {x : Str} {v : V} (hv : σ[i]? = some (some v)) (h : P v H) [hm : Mono P] (hN : X.N[i]? = some x := by rfl) (hs : Vis X.env.scope x := by first | exact Or.inl rfl | exact Or.inr (Or.inl rfl) | exact Or.inr (Or.inr rfl))
    (hd : (x == ("__debug__" : Str)) = false := by decide) (hcd : (x == ("__classdict__" : Str)) = false := by decide) : EG X (.Name x pos) σ H P :=
  eg_of (pe_var hN hs hd hcd) fun H1 e Q q => ⟨v, hv, q v H1 (Ex.refl H1) (hm.up e h)⟩
theorem eg_c {v : V} {t : TE} (h : PE X e (tC v)) : EG X e σ H (IsV v) := eg_of h fun H1 _ Q q => q v H1 (Ex.refl H1) rfl
theorem eg_int {i : Int} {j : Nat} : EG X (.Constant (.int i) j pos) σ H (IsI i) := eg_of pe_int fun H1 _ Q q => q _ H1 (Ex.refl H1) rfl
theorem eg_bl {i : Bool} {j : Nat} : EG X (.Constant (.bool i) j pos) σ H (IsB i) := eg_of pe_bl fun H1 _ Q q => q _ H1 (Ex.refl H1) rfl
theorem eg_non {j : Nat} : EG X (.Constant .none j pos) σ H (IsV .non) := eg_of pe_non fun H1 _ Q q => q _ H1 (Ex.refl H1) rfl
theorem eg_str {z : Str} {j : Nat} : EG X (.Constant (.str z) j pos) σ H (IsS z) := eg_of pe_str fun H1 _ Q q => q _ H1 (Ex.refl H1) rfl
theorem eg_glob {x : Str} {v : V} {u : Value} (hm : X.mg x = some u) (r : RelV v u) (hg : Gl X x := by rfl) (hd : (x == ("__debug__" : Str)) = false := by decide) : EG X (.Name x pos) σ H (IsV v) :=
  eg_of (pe_glob hg hm r hd) fun H1 _ Q q => q _ H1 (Ex.refl H1) rfl
theorem eg_bltn {x : Str} {v : V} {u : Value} (hm : X.mg x = none) (hv : bootBuiltins x = some u) (r : RelV v u) (hg : Gl X x := by rfl) (hn : x ≠ "__name__" := by decide) (hd : (x == ("__debug__" : Str)) = false := by decide) : EG X (.Name x pos) σ H (IsV v) :=
  eg_of (pe_bltn hg hm hv r hn hd) fun H1 _ Q q => q _ H1 (Ex.refl H1) rfl

/-! ### ints -/
variable {i j : Int}
theorem eg_add (ha : EG X a σ H (IsI i)) (hb : EG X b σ H (IsI j)) : EG X (.BinOp a .Add b pos) σ H (IsI (i + j)) :=
  eg_of (pe_op op_add pe_W pe_W) (ep_op ha hb fun x y H1 _ px py Q q => ⟨i, j, px, py, q _ H1 (Ex.refl H1) rfl⟩)
theorem eg_sub (ha : EG X a σ H (IsI i)) (hb : EG X b σ H (IsI j)) : EG X (.BinOp a .Sub b pos) σ H (IsI (i - j)) :=
  eg_of (pe_op op_sub pe_W pe_W) (ep_op ha hb fun x y H1 _ px py Q q => ⟨i, j, px, py, q _ H1 (Ex.refl H1) rfl⟩)
theorem eg_mul (hc : CMulW i j) (ha : EG X a σ H (IsI i)) (hb : EG X b σ H (IsI j)) : EG X (.BinOp a .Mult b pos) σ H (IsI (i * j)) :=
  eg_of (pe_op op_mulW pe_W pe_W) (ep_op ha hb fun x y H1 _ px py Q q => ⟨i, j, px, py, hc, q _ H1 (Ex.refl H1) rfl⟩)
theorem eg_pow {k : Nat} (hk : k ≤ 1000) (hi : i.natAbs < 2 ^ 64) (ha : EG X a σ H (IsI i)) (hb : EG X b σ H (IsI (k : Int))) : EG X (.BinOp a .Pow b pos) σ H (IsI (i ^ k)) :=
  eg_of (pe_op op_pow pe_W pe_W) (ep_op ha hb fun x y H1 _ px py Q q => ⟨i, k, px, py, ⟨by omega, by omega, hi⟩, q _ H1 (Ex.refl H1) rfl⟩)
theorem eg_fdiv (hc : CDivW i j) (ha : EG X a σ H (IsI i)) (hb : EG X b σ H (IsI j)) : EG X (.BinOp a .FloorDiv b pos) σ H (IsI (i / j)) :=
  eg_of (pe_op op_fdivW pe_W pe_W) (ep_op ha hb fun x y H1 _ px py Q q => ⟨i, j, px, py, hc, q _ H1 (Ex.refl H1) rfl⟩)
theorem eg_mod (hc : 0 < j) (ha : EG X a σ H (IsI i)) (hb : EG X b σ H (IsI j)) : EG X (.BinOp a .Mod b pos) σ H (IsI (i % j)) :=
  eg_of (pe_op op_mod pe_W pe_W) (ep_op ha hb fun x y H1 _ px py Q q => ⟨i, j, px, py, hc, q _ H1 (Ex.refl H1) rfl⟩)
theorem eg_neg (ha : EG X a σ H (IsI i)) : EG X (.UnaryOp .USub a pos) σ H (IsI (-i)) :=
  eg_of (pe_un un_neg pe_W) (ep_un ha fun x H1 _ px Q q => ⟨i, px, q _ H1 (Ex.refl H1) rfl⟩)

/-! ### comparisons -/
variable {bb bc : Bool}
def CW (X : Cx) (op : CmpOp) : R2 := fun x y H Q => ∀ pins s σ v u, Inv X pins σ H s → RelV x v → RelV y u → wpAny (model X.prog X.w) X.A (compareOp op v u) (EP X pins σ Q) X.xe s
theorem op_W {op : CmpOp} : OpR X (compareOp op) (CW X op) := fun pins s σ H x y v u Q I rx ry h => h pins s σ v u I rx ry
abbrev CG (X : Cx) (op : CmpOp) (a b : Expr) (σ : L2.St) (H : Hp) (bb : Bool) : Prop := EvP (tOp (CW X op) (EW X a) (EW X b)) σ H (IsB bb)
theorem cg_of {op : CmpOp} {r : R2} [Mono P1] (ho : OpR X (compareOp op) r) (ha : EG X a σ H P1) (hb : EG X b σ H P2)
    (hr : ∀ x y H1, Ex H H1 → P1 x H1 → P2 y H1 → ∀ Q : VK, (∀ H2, Ex H1 H2 → Q (.bl bb) H2) → r x y H1 Q) : CG X op a b σ H bb :=
  ep_op ha hb fun x y H1 e px py Q q pins s σ v u I rx ry => ho pins s σ H1 x y v u Q I rx ry (hr x y H1 e px py Q fun H2 e2 => q _ H2 e2 rfl)
theorem eg_cm {op : CmpOp} (h : CG X op a b σ H bb) (hm : behindInMarks op b = false := by first | exact nomark _ | rfl) : EG X (.Compare a [op] [b] pos) σ H (IsB bb) := eg_of (pe_cmpR op_W pe_W pe_W hm) h
theorem tg_cm {op : CmpOp} (h : CG X op a b σ H bb) (hm : behindInMarks op b = false := by first | exact nomark _ | rfl) : TG X (.Compare a [op] [b] pos) σ H bb :=
  tg_of (pt_cmpR op_W pe_W pe_W hm) fun H1 e Q q => h H1 e _ fun v H2 e2 pv => ⟨bb, pv, q H2 e2⟩
theorem cg_lt (ha : EG X a σ H (IsI i)) (hb : EG X b σ H (IsI j)) : CG X .Lt a b σ H (decide (i < j)) := cg_of op_lt ha hb fun x y H1 _ px py Q q => ⟨i, j, px, py, q H1 (Ex.refl H1)⟩
theorem cg_le (ha : EG X a σ H (IsI i)) (hb : EG X b σ H (IsI j)) : CG X .LtE a b σ H (decide (i ≤ j)) := cg_of op_le ha hb fun x y H1 _ px py Q q => ⟨i, j, px, py, q H1 (Ex.refl H1)⟩
theorem cg_gt (ha : EG X a σ H (IsI i)) (hb : EG X b σ H (IsI j)) : CG X .Gt a b σ H (decide (j < i)) := cg_of op_gt ha hb fun x y H1 _ px py Q q => ⟨i, j, px, py, q H1 (Ex.refl H1)⟩
theorem cg_ge (ha : EG X a σ H (IsI i)) (hb : EG X b σ H (IsI j)) : CG X .GtE a b σ H (decide (j ≤ i)) := cg_of op_ge ha hb fun x y H1 _ px py Q q => ⟨i, j, px, py, q H1 (Ex.refl H1)⟩
theorem dec_vint {i j : Int} : decide (V.int i = V.int j) = decide (i = j) := by rw [dec_int, Bool.beq_eq_decide_eq]
theorem dec_vstr {z w : Str} : decide (V.str z = V.str w) = decide (z = w) := by
  by_cases h : z = w
  · subst h; simp
  · rw [decide_eq_false h, decide_eq_false (fun q => h (V.str.inj q))]
theorem cg_eqV {v w : V} (hs : scal v w = true) (ha : EG X a σ H (IsV v)) (hb : EG X b σ H (IsV w)) : CG X .Eq a b σ H (decide (v = w)) := cg_of op_eq ha hb fun x y H1 _ px py Q q => by
  rw [show x = v from px, show y = w from py]
  exact ⟨hs, q H1 (Ex.refl H1)⟩
theorem cg_neV {v w : V} (hs : scal v w = true) (ha : EG X a σ H (IsV v)) (hb : EG X b σ H (IsV w)) : CG X .NotEq a b σ H (!decide (v = w)) := cg_of op_ne ha hb fun x y H1 _ px py Q q => by
  rw [show x = v from px, show y = w from py]
  exact ⟨hs, q H1 (Ex.refl H1)⟩
theorem cg_eqI (ha : EG X a σ H (IsI i)) (hb : EG X b σ H (IsI j)) : CG X .Eq a b σ H (decide (i = j)) := by
  rw [← dec_vint]
  exact cg_eqV rfl ha hb
theorem cg_neI (ha : EG X a σ H (IsI i)) (hb : EG X b σ H (IsI j)) : CG X .NotEq a b σ H (!decide (i = j)) := by
  rw [← dec_vint]
  exact cg_neV rfl ha hb
theorem cg_eqS {z w : Str} (ha : EG X a σ H (IsS z)) (hb : EG X b σ H (IsS w)) : CG X .Eq a b σ H (decide (z = w)) := by
  rw [← dec_vstr]
  exact cg_eqV rfl ha hb
theorem cg_neS {z w : Str} (ha : EG X a σ H (IsS z)) (hb : EG X b σ H (IsS w)) : CG X .NotEq a b σ H (!decide (z = w)) := by
  rw [← dec_vstr]
  exact cg_neV rfl ha hb
theorem cg_isN {v : V} {j : Nat} {p' : Pos} (ha : EG X a σ H (IsV v)) : CG X .Is a (.Constant .none j p') σ H (decide (v = .non)) :=
  cg_of (P2 := IsV .non) op_isN ha eg_non fun x y H1 _ px py Q q => ⟨py, by rw [show x = v from px]; exact q H1 (Ex.refl H1)⟩
theorem cg_isNot {v : V} {j : Nat} {p' : Pos} (ha : EG X a σ H (IsV v)) : CG X .IsNot a (.Constant .none j p') σ H (!decide (v = .non)) :=
  cg_of (P2 := IsV .non) op_notN ha eg_non fun x y H1 _ px py Q q => ⟨py, by rw [show x = v from px]; exact q H1 (Ex.refl H1)⟩
theorem CG.is {op : CmpOp} (h : CG X op a b σ H bb) (q : bb = bc) : CG X op a b σ H bc := q ▸ h

/-! ### tests, and, or -/
theorem tg_val (he : EG X e σ H (IsB bb)) (hp : ∀ whole, isTrue e X.env whole = (do let v ← whole; standAt e.pos; holding [v] (truthy v)) := by intro _; rfl) : TG X e σ H bb :=
  tg_of (pt_val pe_W hp) fun H1 e1 Q q => he H1 e1 _ fun v H2 e2 pv => ⟨bb, pv, q H2 e2⟩
theorem tg_not (h : TG X a σ H bb) : TG X (.UnaryOp .Not a pos) σ H (!bb) := tg_of (pt_not pt_W) (et_not h)
def WW (X : Cx) (e : Expr) : TT := fun σ H Q => ∀ (whole : Sem Value) pins s, Inv X pins σ H s → wpAny (model X.prog X.w) X.A (isTrue e X.env whole) (TP X pins σ Q) X.xe s
theorem pw_W : PW X e (WW X e) := ⟨fun wh pins s _ _ _ I h => h wh pins s I⟩
abbrev WG (X : Cx) (e : Expr) (σ : L2.St) (H : Hp) (b : Bool) : Prop := EvT (WW X e) σ H b
theorem wg_of {t : TT} (h : PW X e t) (v : EvT t σ H bb) : WG X e σ H bb := fun H1 e1 Q q wh pins s I => h.run wh pins s σ H1 Q I (v H1 e1 Q q)
theorem wg_and1 (h : TG X a σ H bb) : WG X (.BoolOp .And [a] pos) σ H bb := wg_of (pw_and1 pt_W) h
theorem wg_or1 (h : TG X a σ H bb) : WG X (.BoolOp .Or [a] pos) σ H bb := wg_of (pw_or1 pt_W) h
theorem wg_and {rest : List Expr} (h : TG X a σ H bb) (h2 : bb = true → WG X (.BoolOp .And (b :: rest) pos) σ H bc) : WG X (.BoolOp .And (a :: b :: rest) pos) σ H (bb && bc) := wg_of (pw_and pt_W pw_W) (et_and h h2)
theorem wg_or {rest : List Expr} (h : TG X a σ H bb) (h2 : bb = false → WG X (.BoolOp .Or (b :: rest) pos) σ H bc) : WG X (.BoolOp .Or (a :: b :: rest) pos) σ H (bb || bc) := wg_of (pw_or pt_W pw_W) (et_or h h2)
theorem tg_w (h : WG X e σ H bb) : TG X e σ H bb := fun H1 e1 Q q pins s I => h H1 e1 Q q _ pins s I
theorem eg_one {op} (h : EG X a σ H P) : EG X (.BoolOp op [a] pos) σ H P := eg_of (pe_one pe_W) h
theorem eg_and {rest : List Expr} (h : EG X a σ H (IsB bb)) (h2 : bb = true → EG X (.BoolOp .And (b :: rest) pos) σ H (IsB bc)) : EG X (.BoolOp .And (a :: b :: rest) pos) σ H (IsB (bb && bc)) :=
  eg_of (pe_and pe_W pe_W) fun H1 e1 Q q => h H1 e1 _ fun v H2 e2 pv => ⟨bb, pv, by
    cases bb with
    | true => rw [if_pos rfl]; exact h2 rfl H2 (e1.trans e2) Q fun w H3 e3 pw => q w H3 (e2.trans e3) pw
    | false => rw [if_neg Bool.false_ne_true]; exact q _ H2 e2 rfl⟩
theorem eg_or {rest : List Expr} (h : EG X a σ H (IsB bb)) (h2 : bb = false → EG X (.BoolOp .Or (b :: rest) pos) σ H (IsB bc)) : EG X (.BoolOp .Or (a :: b :: rest) pos) σ H (IsB (bb || bc)) :=
  eg_of (pe_or pe_W pe_W) fun H1 e1 Q q => h H1 e1 _ fun v H2 e2 pv => ⟨bb, pv, by
    cases bb with
    | false => rw [if_neg Bool.false_ne_true]; exact h2 rfl H2 (e1.trans e2) Q fun w H3 e3 pw => q w H3 (e2.trans e3) pw
    | true => rw [if_pos rfl]; exact q _ H2 e2 rfl⟩
theorem eg_not (h : EG X a σ H (IsB bb)) : EG X (.UnaryOp .Not a pos) σ H (IsB (!bb)) :=
  eg_of (pe_not pe_W) fun H1 e1 Q q => h H1 e1 _ fun v H2 e2 pv => ⟨bb, pv, q _ H2 e2 rfl⟩
theorem eg_if (hc : TG X c σ H bb) (h1 : bb = true → EG X a σ H P) (h2 : bb = false → EG X b σ H P) : EG X (.IfExp c a b pos) σ H P :=
  eg_of (pe_ifExp pt_W pe_W pe_W) fun H1 e1 Q q => hc H1 e1 _ fun H2 e2 => by
    cases bb with
    | true => rw [if_pos rfl]; exact h1 rfl H2 (e1.trans e2) Q fun w H3 e3 pw => q w H3 (e2.trans e3) pw
    | false => rw [if_neg Bool.false_ne_true]; exact h2 rfl H2 (e1.trans e2) Q fun w H3 e3 pw => q w H3 (e2.trans e3) pw

/-! ### arguments, displays -/
theorem ag_nil : AG X [] σ H [] := ag_of pa_nil fun H1 _ Q q => q [] H1 (Ex.refl H1) rfl
theorem ag_cons [hm : Mono P] (h : EG X e σ H P) (hr : AG X es σ H Ps) (hs : starEach (e :: es) X.env = (false, eval e X.env) :: starEach es X.env := by rfl) : AG X (e :: es) σ H (P :: Ps) :=
  ag_of (pa_cons pe_W pa_W hs) fun H1 e1 Q q => h H1 e1 _ fun v H2 e2 pv => hr H2 (e1.trans e2) _ fun vs H3 e3 pvs => q _ H3 (e2.trans e3) ⟨v, vs, rfl, hm.up e3 pv, pvs⟩
theorem eg_tup {x1} [hm : MonoA Ps] (h : AG X es σ H Ps) (hl : Ps.length ≤ 1000 := by decide) : EG X (.Tuple es x1 pos) σ H (TupOf Ps) :=
  eg_of (pe_tup pa_W) fun H1 e1 Q q => h H1 e1 _ fun vs H2 e2 pv => ⟨sz_of (Nat.le_trans (Nat.le_of_eq (args_len pv)) (Nat.le_trans hl (by decide))), fun p hp => q _ _ (e2.trans (Ex.new hp)) ⟨p, vs, rfl, upd_same, hm.up (Ex.new hp) pv⟩⟩
theorem eg_lst [hm : MonoA Ps] (h : AG X es σ H Ps) (hl : Ps.length ≤ 1000 := by decide) : EG X (.List es pos) σ H (LstOf Ps) :=
  eg_of (pe_lst pa_W) fun H1 e1 Q q => h H1 e1 _ fun vs H2 e2 pv => ⟨sz_of (Nat.le_trans (Nat.le_of_eq (args_len pv)) (Nat.le_trans hl (by decide))), fun p hp => q _ _ (e2.trans (Ex.new hp)) ⟨p, vs, rfl, upd_same, hm.up (Ex.new hp) pv⟩⟩
end
end G
set_option maxHeartbeats 4000000
namespace G
open PySem PySem.Spec PyProof.Rows L2 Evl

/-! ### a list that is hidden for a while: what does not know it leaves it -/
def hid (H : Hp) (D : Addr) : Hp := fun b => if b = D then none else H b
theorem hid_same {H : Hp} {D : Addr} : hid H D D = none := if_pos rfl
theorem hid_ne {H : Hp} {D b : Addr} (h : b ≠ D) : hid H D b = H b := if_neg h
theorem hid_upd {H : Hp} {D : Addr} {o : HO} (h : H D = none) : hid (upd H D o) D = H := by
  funext b
  by_cases e : b = D
  · rw [e, hid_same, h]
  · rw [hid_ne e, upd_ne e]
theorem upd_hid {H : Hp} {D : Addr} {o : HO} (h : H D = some o) : upd (hid H D) D o = H := by
  funext b
  by_cases e : b = D
  · rw [e, upd_same, h]
  · rw [upd_ne e, hid_ne e]
section
variable {X : Cx} {pins : List (Addr × Obj)} {σ σ' : L2.St} {H H2 : Hp} {s s2 : Shared} {D : Addr} {acc : List V}
theorem hide_ok (I : Inv X pins σ H s) (hD : H D = some (.lst acc)) : ∃ ob, s.heap.get? D = some ob ∧ Inv X ((D, ob) :: pins) σ (hid H D) s := by
  obtain ⟨hz, its, n, r, e⟩ := (show ObjOk X.prog X.w H s.heap D (.lst acc) from I.hok D _ hD)
  have neN : ∀ b, H b = none → b ≠ D := fun b q z => by rw [z, hD] at q; cases q
  refine ⟨_, e, I.ok, I.os, I.bare, ⟨I.base.keep, I.base.slot, fun b o q n hx => ?_, I.base.there, fun b xs q => ?_, fun b o u q => ?_, fun b ps q => ?_⟩, I.loc, I.cell, ?_, fun x c q => ?_, fun p hp => ?_, fun b u q => ?_, I.len⟩
  · have z := I.base.free b o q n hx
    rw [hid_ne (neN b z)]
    exact z
  · have z := I.base.tups b xs q
    rw [hid_ne (ne_of z hD (by intro y; cases y))]
    exact z
  · have z := I.base.frzs b o u q
    rw [hid_ne (ne_of z hD (by intro y; cases y))]
    exact z
  · obtain ⟨m, z⟩ := I.base.tbls b ps q
    exact ⟨m, by rw [hid_ne (ne_of z hD (by intro y; cases y))]; exact z⟩
  · rw [hid_ne (neN _ I.free)]
    exact I.free
  · rw [hid_ne (neN _ (I.freeC x c q))]
    exact I.freeC x c q
  · rcases List.mem_append.mp hp with hp | hp
    · obtain ⟨a1, a2, a3, a4, a5⟩ := I.pin p (List.mem_append_left _ hp)
      exact ⟨a1, by rw [hid_ne (neN _ a2)]; exact a2, a3, a4, a5⟩
    · rcases List.mem_cons.mp hp with hp | hp
      · subst hp
        refine ⟨e, hid_same, fun z => ?_, fun z => ?_, fun v z => ?_⟩
        · have y := I.free
          rw [← z, hD] at y
          cases y
        · obtain ⟨_, o, ho, _⟩ := I.ok.funs.mem z
          have y := I.base.free _ o ho (I.ok.frf _ z) fun q => I.ok.exfs _ q z
          rw [hD] at y
          cases y
        · cases z
      · obtain ⟨a1, a2, a3, a4, a5⟩ := I.pin p (List.mem_append_right _ hp)
        exact ⟨a1, by rw [hid_ne (neN _ a2)]; exact a2, a3, a4, a5⟩
  · have hb : b ≠ D := fun z => by rw [z, hid_same] at q; cases q
    rw [hid_ne hb] at q
    exact (I.hok b u q).stay (fun _ _ _ y => y) (fun c y => by rw [hid_ne (ne_of y hD (by intro z; cases z))]; exact y) fun c xs y => by rw [hid_ne (ne_of y hD (by intro z; cases z))]; exact y
theorem show_ok {ob : Obj} (I : Inv X pins σ H s) (hD : H D = some (.lst acc)) (e : s.heap.get? D = some ob) (J : Inv X ((D, ob) :: pins) σ' H2 s2) : H2 D = none ∧ Inv X pins σ' (upd H2 D (.lst acc)) s2 := by
  obtain ⟨hz, its, n, r, e'⟩ := (show ObjOk X.prog X.w H s.heap D (.lst acc) from I.hok D _ hD)
  rw [e] at e'
  cases e'
  obtain ⟨p1, p2, p3, p4, p5⟩ := J.pin (D, _) (List.mem_append_right _ (List.mem_cons_self ..))
  have p2' : H2 D = none := p2
  have neS : ∀ {b : Addr} {o : HO}, H2 b = some o → b ≠ D := fun {b o} q z => by rw [z, p2'] at q; cases q
  refine ⟨p2', J.ok, J.os, J.bare, ⟨J.base.keep, J.base.slot, fun b o q n hx => ?_, J.base.there, fun b xs q => ?_, fun b o u q => ?_, fun b ps q => ?_⟩, J.loc, J.cell, ?_, fun x c q => ?_, fun p hp => ?_, fun b u q => ?_, J.len⟩
  · have z := J.base.free b o q n hx
    have hb : b ≠ D := fun y => by
      have w := I.base.free b o q n hx
      rw [y, hD] at w
      cases w
    rw [upd_ne hb]
    exact z
  · have z := J.base.tups b xs q
    rw [upd_ne (neS z)]
    exact z
  · have z := J.base.frzs b o u q
    rw [upd_ne (neS z)]
    exact z
  · obtain ⟨m, z⟩ := J.base.tbls b ps q
    exact ⟨m, by rw [upd_ne (neS z)]; exact z⟩
  · rw [upd_ne (Ne.symm p3)]
    exact J.free
  · have y := J.freeC x c q
    obtain ⟨v, o, ho, hd⟩ := J.cell x c q
    have hc : c ≠ D := fun z => by
      rw [z] at ho
      have w : some o = some _ := ho.symm.trans p1
      cases w
      exact p5 _ hd
    rw [upd_ne hc]
    exact y
  · have hm : p ∈ X.pn ++ (D, { cls := Value.type "list", data := Data.seq its.toArray n }) :: pins := by
      rcases List.mem_append.mp hp with hp | hp
      · exact List.mem_append_left _ hp
      · exact List.mem_append_right _ (List.mem_cons_of_mem _ hp)
    obtain ⟨a1, a2, a3, a4, a5⟩ := J.pin p hm
    have hb : p.1 ≠ D := fun z => by
      obtain ⟨_, w, _⟩ := I.pin p hp
      rw [z, hD] at w
      cases w
    exact ⟨a1, by rw [upd_ne hb]; exact a2, a3, a4, a5⟩
  · by_cases hb : b = D
    · subst hb
      rw [upd_same] at q
      cases q
      exact ⟨hz, its, n, r, p1⟩
    · rw [upd_ne hb] at q
      exact (J.hok b u q).stay (fun _ _ _ y => y) (fun c y => by rw [upd_ne (neS y)]; exact y) fun c xs y => by rw [upd_ne (neS y)]; exact y
/-- THE FRAME RULE for expressions, tests -/
theorem ew_hid {e : Expr} {Q : VK} (hD : H D = some (.lst acc)) (h : EW X e σ (hid H D) fun v H2 => H2 D = none → Q v (upd H2 D (.lst acc))) : EW X e σ H Q := fun pins s I => by
  obtain ⟨ob, e1, J⟩ := hide_ok I hD
  refine thn (h _ s J) fun u s1 ⟨v, H1, J1, r1, q1⟩ => ?_
  obtain ⟨n1, I1⟩ := show_ok I hD e1 J1
  exact ⟨v, _, I1, r1, q1 n1⟩
theorem tw_hid {e : Expr} {Q : Bool → Hp → Prop} (hD : H D = some (.lst acc)) (h : TW X e σ (hid H D) fun v H2 => H2 D = none → Q v (upd H2 D (.lst acc))) : TW X e σ H Q := fun pins s I => by
  obtain ⟨ob, e1, J⟩ := hide_ok I hD
  refine thn (h _ s J) fun u s1 ⟨H1, J1, q1⟩ => ?_
  obtain ⟨n1, I1⟩ := show_ok I hD e1 J1
  exact ⟨_, I1, q1 n1⟩
theorem aw_hid {es : List Expr} {Q : List V → Hp → Prop} (hD : H D = some (.lst acc)) (h : AW X es σ (hid H D) fun v H2 => H2 D = none → Q v (upd H2 D (.lst acc))) : AW X es σ H Q := fun pos pins s I => by
  obtain ⟨ob, e1, J⟩ := hide_ok I hD
  refine thn (h pos _ s J) fun u s1 ⟨v, H1, J1, r1, q1⟩ => ?_
  obtain ⟨n1, I1⟩ := show_ok I hD e1 J1
  exact ⟨v, _, I1, r1, q1 n1⟩
end

/-! ### calls -/
def SpG (sp : Sp) (vs : List V) (H : Hp) (P : Rep) : Prop := ∀ Q : VK, (∀ v H2, Ex H H2 → P v H2 → Q v H2) → sp vs H Q E0
/-- a def under a global's name -/
structure Cal (P : Program) (w : World) (K : PySem.W.Frag) (mg : Str → Option Value) (base : Heap) (x : Str) (k : Nat) (dvs : List V) (sp : Sp) : Prop where
  ex : ∃ f fd ps ds, FnOk P w K mg base CX0 k f fd ps sp ∧ mg x = some (.ref f) ∧ PySem.W.keepIn K (.ref f) = true ∧ Binds K fd ps ds ∧ Vals dvs ds
/-- a method of the class at C -/
structure MCal (P : Program) (w : World) (K : PySem.W.Frag) (mg : Str → Option Value) (base : Heap) (C : Addr) (m : Str) (k : Nat) (dvs : List V) (sp : Sp) : Prop where
  ex : ∃ f fd ps ds, FnOk P w K mg base CX0 k f fd ps sp ∧ Meth K C m f ∧ Binds K fd ps ds ∧ Vals dvs ds
/-- a class that is made -/
structure KCal (P : Program) (w : World) (K : PySem.W.Frag) (mg : Str → Option Value) (base : Heap) (x : Str) (C : Addr) (k : Nat) (dvs : List V) (sp : Sp) : Prop where
  ex : ∃ f fd ps ds, FnOk P w K mg base CX0 k f fd ps sp ∧ Mk K C f ∧ mg x = some (.ref C) ∧ Binds K fd ps ds ∧ Vals dvs ds
/-- what a static method of the class at C must be: p the staticmethod object -/
structure SMeth (K : PySem.W.Frag) (C : Addr) (m : Str) (f : Addr) : Prop where
  ga : PySem.W.specialIn K (.ref C) "__getattribute__" = some (some (.builtin "type.__getattribute__"))
  ty : ∃ mc p rest, PySem.W.typeIn K (.ref C) = some mc ∧ PySem.W.readsIn K C mc = true ∧ PySem.W.findCls K (.ref C) mc m = some (.get (.builtin "staticmethod.__get__") (.ref p) .none (.ref C)) ∧ PySem.W.recIn K p "staticmethod" = some (.ref f :: rest)
  kp : PySem.W.keepIn K (.ref f) = true
structure SCal (P : Program) (w : World) (K : PySem.W.Frag) (mg : Str → Option Value) (base : Heap) (x : Str) (m : Str) (k : Nat) (dvs : List V) (sp : Sp) : Prop where
  ex : ∃ C f fd ps ds, FnOk P w K mg base CX0 k f fd ps sp ∧ mg x = some (.ref C) ∧ SMeth K C m f ∧ Binds K fd ps ds ∧ Vals dvs ds
/-- the promise of what changes nothing: from words about the arguments to a word about the value -/
def PSp {α : Type} (Ps : α → List Rep) (Post : α → Rep) : Sp := fun vs H Q _ => ∃ a, Args (Ps a) vs H ∧ ∀ v H', Ex H H' → Post a v H' → Q v H'
/-- of an __init__ that only sets fields -/
def ISp {α : Type} (C : Addr) (Ps : α → List Rep) (Fl : α → List (Str × V) → Hp → Prop) : Sp := fun vs H Q _ => ∃ a p dx args, vs = .ref p :: args ∧ H p = some (.ins C dx []) ∧ Args (Ps a) args H ∧
  ∀ H' fs, (∀ b o, b ≠ p → H b = some o → H' b = some o) → H' p = some (.ins C dx fs) → Fl a fs H' → Q .non H'
def Ins (C : Addr) (F : List (Str × V) → Hp → Prop) : Rep := fun v H => ∃ a dx fs, v = .ref a ∧ H a = some (.ins C dx fs) ∧ F fs H

section
variable {X : Cx} {σ : L2.St} {H : Hp} {a b c e o : Expr} {es : List Expr} {pos p apos : Pos} {P P1 P2 : Rep} {Ps : List Rep} {x m : Str} {k : Nat} {dvs : List V} {sp : Sp} {C : Addr}
theorem eg_call (D : Cal X.prog X.w X.K X.mg X.base x k dvs sp) (hr : Room k X.A) (ha : AG X (e :: es) σ H Ps) (hs : ∀ vs H1, Ex H H1 → Args Ps vs H1 → SpG sp (vs ++ dvs) H1 P) (hg : Gl X x := by rfl) (hdb : (x == ("__debug__" : Str)) = false := by decide)
    (he : starEach (e :: es) X.env = (false, eval e X.env) :: starEach es X.env := by rfl) (hpl : (backTo pos (starEach es X.env)).any (·.1) = false := by rfl) : EG X (.Call (.Name x p) (e :: es) [] pos) σ H P := by
  obtain ⟨f, fd, ps, ds, F, hm, hk, hb, hd⟩ := D.ex
  refine eg_of (pe_call F hr hg hm hk hb hd pass0 pa_W hdb he hpl) fun H1 e1 Q q => ha H1 e1 _ fun vs H2 e2 pv => ?_
  exact hs vs H2 (e1.trans e2) pv Q fun v H3 e3 pv => q v H3 (e2.trans e3) pv
theorem eg_callP {α : Type} {Qs : α → List Rep} {Post : α → Rep} (t : α) (D : Cal X.prog X.w X.K X.mg X.base x k [] (PSp Qs Post)) (hr : Room k X.A) (ha : AG X (e :: es) σ H (Qs t)) (hg : Gl X x := by rfl) (hdb : (x == ("__debug__" : Str)) = false := by decide)
    (he : starEach (e :: es) X.env = (false, eval e X.env) :: starEach es X.env := by rfl) (hpl : (backTo pos (starEach es X.env)).any (·.1) = false := by rfl) (hp : ∀ v H, Post t v H → P v H := by exact fun _ _ h => h) : EG X (.Call (.Name x p) (e :: es) [] pos) σ H P :=
  eg_call D hr ha (fun vs H1 _ h Q q => ⟨t, by rw [List.append_nil]; exact h, fun v H2 e2 h2 => q v H2 e2 (hp v H2 h2)⟩) hg hdb he hpl
theorem eg_meth {pl : Sem Bool} (c : Cls X.K C) (D : MCal X.prog X.w X.K X.mg X.base C m k dvs sp) (hr : Room k X.A) [h1 : Mono P1] (ho : EG X o σ H P1) (hi : ∀ v H1, P1 v H1 → ∃ a dx fs, v = .ref a ∧ H1 a = some (.ins C dx fs) ∧ fs.lookup m = none)
    (ha : AG X (e :: es) σ H Ps) (hs : ∀ v vs H1, Ex H H1 → P1 v H1 → Args Ps vs H1 → SpG sp (v :: (vs ++ dvs)) H1 P)
    (hst : starEach (e :: es) X.env = (false, eval e X.env) :: starEach es X.env := by rfl) (hpl : (backTo pos (starEach es X.env)).any (·.1) = false := by rfl)
    (ht : eval (.Call (.Attribute o m apos) (e :: es) [] pos) X.env = (do
      let ov ← eval o X.env
      standAt apos.atName
      let (f, first) ← holding [ov] (getMethod ov m pl)
      callWith pos f first (backTo pos (starEach (e :: es) X.env)) (backToKw pos (keywordEach [] X.env))) := by rfl) : EG X (.Call (.Attribute o m apos) (e :: es) [] pos) σ H P := by
  obtain ⟨f, fd, ps, ds, F, hm, hb, hd⟩ := D.ex
  refine eg_of (pe_meth pe_W c hm F hr hb hd pass0 pa_W hst hpl ht) fun H1 e1 Q q => ho H1 e1 _ fun v H2 e2 pv => ?_
  obtain ⟨aa, dx, fs, e3, e4, e5⟩ := hi v H2 pv
  refine ⟨aa, dx, fs, e3, e4, e5, ha H2 (e1.trans e2) _ fun vs H3 e6 pvs => ?_⟩
  exact hs v vs H3 ((e1.trans e2).trans e6) (h1.up e6 pv) pvs Q fun v H3 e7 pv => q v H3 ((e2.trans e6).trans e7) pv
theorem eg_meth0 {pl : Sem Bool} (c : Cls X.K C) (D : MCal X.prog X.w X.K X.mg X.base C m k dvs sp) (hr : Room k X.A) (ho : EG X o σ H P1) (hi : ∀ v H1, P1 v H1 → ∃ a dx fs, v = .ref a ∧ H1 a = some (.ins C dx fs) ∧ fs.lookup m = none)
    (hs : ∀ v H1, Ex H H1 → P1 v H1 → SpG sp (v :: dvs) H1 P)
    (ht : eval (.Call (.Attribute o m apos) [] [] pos) X.env = (do
      let ov ← eval o X.env
      standAt apos.atName
      let (f, first) ← holding [ov] (getMethod ov m pl)
      callWith pos f first (backTo pos (starEach [] X.env)) (backToKw pos (keywordEach [] X.env))) := by rfl) : EG X (.Call (.Attribute o m apos) [] [] pos) σ H P := by
  obtain ⟨f, fd, ps, ds, F, hm, hb, hd⟩ := D.ex
  refine eg_of (pe_meth0 pe_W c hm F hr hb hd pass0 ht) fun H1 e1 Q q => ho H1 e1 _ fun v H2 e2 pv => ?_
  obtain ⟨aa, dx, fs, e3, e4, e5⟩ := hi v H2 pv
  refine ⟨aa, dx, fs, e3, e4, e5, ?_⟩
  exact hs v H2 (e1.trans e2) pv Q fun v H3 e7 pv => q v H3 (e2.trans e7) pv
/-- C.m(e, ..), m a static method -/
theorem pe_smeth {pl : Sem Bool} {f : Addr} {fd : FuncData} {ps : List Str} {ds : List Value} {t : TA} (hm : X.mg x = some (.ref C)) (S : SMeth X.K C m f) (F : FnOk X.prog X.w X.K X.mg X.base CX0 k f fd ps sp) (hr : Room k X.A) (hb : Binds X.K fd ps ds) (hd : Vals dvs ds) (hg : Gl X x) (ha : PA X (e :: es) t)
    (hdb : (x == ("__debug__" : Str)) = false := by decide) (hst : starEach (e :: es) X.env = (false, eval e X.env) :: starEach es X.env := by rfl) (hpl : (backTo pos (starEach es X.env)).any (·.1) = false := by rfl)
    (ht : eval (.Call (.Attribute (.Name x p) m apos) (e :: es) [] pos) X.env = (do
      let ov ← eval (.Name x p) X.env
      standAt apos.atName
      let (f, first) ← holding [ov] (getMethod ov m pl)
      callWith pos f first (backTo pos (starEach (e :: es) X.env)) (backToKw pos (keywordEach [] X.env))) := by rfl) : PE X (.Call (.Attribute (.Name x p) m apos) (e :: es) [] pos) (tCall sp dvs E0 t) := by
  refine ⟨fun pins s σ H Q I h => ?_⟩
  refine PySem.W.methodCall_KW (pl := pl) (ld_glob I hg hm ?_ hdb) ht
  obtain ⟨mm, fr⟩ := I.fr
  obtain ⟨mc, pp, rest, h1, h2, h3, h4⟩ := S.ty
  refine PySem.W.method_of_cls fr I.ok.mod.kin S.ga (PySem.W.cls_sm fr I.ok.mod.kin h1 h2 h3 h4 rfl ?_)
  refine PySem.W.callWith_K (first := []) (h₀ := X.base) I.ok.mod.kin S.kp (thn (ha.run pos pins _ σ H _ (I.tok _) h) fun us s2 ⟨vs, H2, I2, r, q2⟩ => ⟨I2.kIn, ?_⟩) hst hpl
  exact run_fn (us := us) (vs := vs) F hr hb hd pass0 I2 r q2
theorem eg_scall {pl : Sem Bool} (D : SCal X.prog X.w X.K X.mg X.base x m k dvs sp) (hr : Room k X.A) (ha : AG X (e :: es) σ H Ps) (hs : ∀ vs H1, Ex H H1 → Args Ps vs H1 → SpG sp (vs ++ dvs) H1 P) (hg : Gl X x := by rfl) (hdb : (x == ("__debug__" : Str)) = false := by decide)
    (he : starEach (e :: es) X.env = (false, eval e X.env) :: starEach es X.env := by rfl) (hpl : (backTo pos (starEach es X.env)).any (·.1) = false := by rfl)
    (ht : eval (.Call (.Attribute (.Name x p) m apos) (e :: es) [] pos) X.env = (do
      let ov ← eval (.Name x p) X.env
      standAt apos.atName
      let (f, first) ← holding [ov] (getMethod ov m pl)
      callWith pos f first (backTo pos (starEach (e :: es) X.env)) (backToKw pos (keywordEach [] X.env))) := by rfl) : EG X (.Call (.Attribute (.Name x p) m apos) (e :: es) [] pos) σ H P := by
  obtain ⟨C, f, fd, ps, ds, F, hm, S, hb, hd⟩ := D.ex
  refine eg_of (pe_smeth hm S F hr hb hd hg pa_W hdb he hpl ht) fun H1 e1 Q q => ha H1 e1 _ fun vs H2 e2 pv => ?_
  exact hs vs H2 (e1.trans e2) pv Q fun v H3 e3 pv => q v H3 (e2.trans e3) pv
/-- C(e, ..) -/
theorem eg_make {α : Type} {Qs : α → List Rep} {Fl : α → List (Str × V) → Hp → Prop} (t : α) (D : KCal X.prog X.w X.K X.mg X.base x C k dvs (ISp C Qs Fl)) (hr : Room (k + 1) X.A) (ha : AG X (e :: es) σ H Ps) (hm : MonoA (Qs t)) (hv : ∀ vs H1, Args Ps vs H1 → Args (Qs t) (vs ++ dvs) H1) (hg : Gl X x := by rfl)
    (hdb : (x == ("__debug__" : Str)) = false := by decide) (he : starEach (e :: es) X.env = (false, eval e X.env) :: starEach es X.env := by rfl) (hpl : (backTo pos (starEach es X.env)).any (·.1) = false := by rfl) (hp : ∀ v H, Ins C (Fl t) v H → P v H := by exact fun _ _ h => h) : EG X (.Call (.Name x p) (e :: es) [] pos) σ H P := by
  obtain ⟨f, fd, ps, ds, F, M, hmg, hb, hd⟩ := D.ex
  refine eg_of (pe_make M F hr hg hmg hb hd pass0 pa_W hdb he hpl) fun H1 e1 Q q => ha H1 e1 _ fun vs H2 e2 pv => fun y dx ny nd ne => ?_
  have ex1 : Ex H2 (upd (upd H2 dx (.own y)) y (.ins C dx [])) := fun b o hb => by
    rw [upd_ne (ne_of_none hb ny), upd_ne (ne_of_none hb nd)]
    exact hb
  refine ⟨t, y, dx, _, rfl, upd_same, hm.up ex1 (hv vs H2 pv), fun H' fs hk hy hf => ⟨rfl, q _ H' (e2.trans fun b o hb => ?_) (hp _ _ ⟨y, dx, fs, rfl, hy, hf⟩)⟩⟩
  exact hk b o (ne_of_none hb ny) (ex1 b o hb)
/-- e.f -/
theorem eg_fld {f : Str} (c : Cls X.K C) (hn : NoAttr X.K C f) (he : EG X e σ H P1) (hi : ∀ v H1, Ex H H1 → P1 v H1 → ∃ a dx fs y, v = .ref a ∧ H1 a = some (.ins C dx fs) ∧ fs.lookup f = some y ∧ P y H1)
    (hb : attributeBase e f X.env (eval e X.env) = eval e X.env := by rfl) : EG X (.Attribute e f pos) σ H P :=
  eg_of (pe_fld pe_W hb) fun H1 e1 Q q => he H1 e1 _ fun v H2 e2 pv => by
    obtain ⟨aa, dx, fs, y, h1, h2, h3, h4⟩ := hi v H2 (e1.trans e2) pv
    exact ⟨aa, C, dx, fs, y, h1, h2, c, hn, h3, q y H2 e2 h4⟩
/-- a built-in by its name -/
theorem eg_callB {id : String} {r : List V → Hp → VK → Prop} (hc : CallR X (.builtin id) r) (hm : X.mg x = none) (hv : bootBuiltins x = some (.builtin id)) (ha : AG X (e :: es) σ H Ps)
    (hr : ∀ vs H1, Ex H H1 → Args Ps vs H1 → ∀ Q : VK, (∀ v H2, Ex H1 H2 → P v H2 → Q v H2) → r vs H1 Q) (hg : Gl X x := by rfl) (hn : x ≠ "__name__" := by decide) (hdb : (x == ("__debug__" : Str)) = false := by decide)
    (he : starEach (e :: es) X.env = (false, eval e X.env) :: starEach es X.env := by rfl) (hpl : (backTo pos (starEach es X.env)).any (·.1) = false := by rfl) : EG X (.Call (.Name x p) (e :: es) [] pos) σ H P :=
  eg_of (pe_callB hc hg hm hv pa_W hn hdb he hpl) (ep_cb ha hr)
theorem eg_callTy {T : String} {r : List V → Hp → VK → Prop} (hc : CallR X (.type T) r) (hm : X.mg x = none) (hv : bootBuiltins x = some (.type T)) (ha : AG X (e :: es) σ H Ps)
    (hr : ∀ vs H1, Ex H H1 → Args Ps vs H1 → ∀ Q : VK, (∀ v H2, Ex H1 H2 → P v H2 → Q v H2) → r vs H1 Q) (hg : Gl X x := by rfl) (hn : x ≠ "__name__" := by decide) (hdb : (x == ("__debug__" : Str)) = false := by decide)
    (he : starEach (e :: es) X.env = (false, eval e X.env) :: starEach es X.env := by rfl) (hpl : (backTo pos (starEach es X.env)).any (·.1) = false := by rfl) : EG X (.Call (.Name x p) (e :: es) [] pos) σ H P :=
  eg_of (pe_callTy hc hg hm hv pa_W hn hdb he hpl) (ep_cb ha hr)
/-- math's, by the module's name -/
theorem eg_callF {id : String} {r : List V → Hp → VK → Prop} (hc : CallR X (.builtin id) r) (hm : X.mg x = some (.builtin id)) (ha : AG X (e :: es) σ H Ps)
    (hr : ∀ vs H1, Ex H H1 → Args Ps vs H1 → ∀ Q : VK, (∀ v H2, Ex H1 H2 → P v H2 → Q v H2) → r vs H1 Q) (hg : Gl X x := by rfl) (hdb : (x == ("__debug__" : Str)) = false := by decide)
    (he : starEach (e :: es) X.env = (false, eval e X.env) :: starEach es X.env := by rfl) (hpl : (backTo pos (starEach es X.env)).any (·.1) = false := by rfl) : EG X (.Call (.Name x p) (e :: es) [] pos) σ H P :=
  eg_of (pe_callBfun hc hg hm pa_W hdb he hpl) (ep_cb ha hr)
end

/-! ### a def's body -/
theorem bw_self {X : Cx} {ss : List Stmt} : PSs X ss (BW X ss) := pss_W
section
variable {P : Program} {w : World} {K : PySem.W.Frag} {mg : Str → Option Value} {base : Heap} {x qual : Str} {params : Arguments} {body : List Stmt} {scope : Scope} {dvs : List V} {kws : List (Str × V)} {f : Addr} {fd : FuncData} {N ps : List Str} {k : Nat}
abbrev ctx (P : Program) (w : World) (K : PySem.W.Frag) (mg : Str → Option Value) (base : Heap) (N : List Str) (qual : Str) (scope : Scope) (f : Addr) (cdv : Value) (A : Around) (outer : List Env) (s : Shared) (H : Hp) (E : XK) : Cx := (cxOf CX0 P w K mg base N qual scope f cdv A outer s H E).nox
theorem fn_any {sp : Sp} (F : FunD K x qual params body scope dvs kws f fd) (S : FnScope N ps scope) (len : ∀ vs H Q E, sp vs H Q E → vs.length = ps.length)
    (h : ∀ cdv A outer s H E vs Q, Room k (A.deeper (envOfC qual scope s.heap.objs.size f cdv)) → sp vs H Q E → BW (ctx P w K mg base N qual scope f cdv A outer s H E) body { nx := fun _ H' => Q .non H', rt := Q } (start N vs) H) :
    FnOk P w K mg base CX0 (k + 1) f fd ps sp := F.ok S len fun cdv A outer s H vs Q E hr hs => ⟨_, PSs.nox bw_self, h cdv A outer s H E vs Q hr hs⟩
theorem fn_pure {α : Type} {Ps : α → List Rep} {Post : α → Rep} (F : FunD K x qual params body scope dvs kws f fd) (S : FnScope N ps scope) (hl : ∀ a, (Ps a).length = ps.length)
    (h : ∀ (t : α) cdv A outer s H E vs Q, Room k (A.deeper (envOfC qual scope s.heap.objs.size f cdv)) → Args (Ps t) vs H → (∀ v H', Ex H H' → Post t v H' → Q v H') →
      BW (ctx P w K mg base N qual scope f cdv A outer s H E) body { nx := fun _ H' => Q .non H', rt := Q } (start N vs) H) : FnOk P w K mg base CX0 (k + 1) f fd ps (PSp Ps Post) :=
  fn_any F S (fun vs H Q E ⟨t, ha, _⟩ => (args_len ha).trans (hl t)) fun cdv A outer s H E vs Q hr ⟨t, ha, hq⟩ => h t cdv A outer s H E vs Q hr ha hq
end

/-! ### statements -/
section
variable {X : Cx} {σ : L2.St} {H : Hp} {c e o : Expr} {rest A B : List Stmt} {st : Stmt} {pos p : Pos} {P : Rep} {D : Ends} {bb : Bool} {y : Str}
theorem b_nil (h : D.nx σ H) : BW X [] D σ H := fun pins s I => pss_nil.run pins s σ H D I h
theorem b_seq (h : SW X st { D with nx := BW X rest D } σ H) : BW X (st :: rest) D σ H := fun pins s I => (pss_cons ps_W pss_W).run pins s σ H D I h
theorem b_of {t : TS} (h : PS X st t) (q : t { D with nx := BW X rest D } σ H) : BW X (st :: rest) D σ H := fun pins s I => (pss_cons h pss_W).run pins s σ H D I q
theorem b_asg (i : Nat) (hN : X.N.Nodup) (he : EG X e σ H P) (k : ∀ v H1, Ex H H1 → P v H1 → BW X rest D (σ.set i (some v)) H1) (hi : X.N[i]? = some y := by rfl) (hl : Loc X.env.scope y := by first | exact Or.inl rfl | exact Or.inr rfl)
    (hs : swapsWith e (some (.Name y p)) pos.line X.env = pure false := by rfl) (hf : X.fn y = true ∨ X.env.scope.names.lookup y = some .local := by first | exact .inl rfl | exact .inr rfl) : BW X (.Assign [.Name y p] e pos :: rest) D σ H :=
  b_of (ps_set hN hi hl pe_W hs hf) (he H (Ex.refl H) _ k)
theorem b_ret (he : EG X e σ H P) (k : ∀ v H1, Ex H H1 → P v H1 → D.rt v H1) : BW X (.Return (some e) pos :: rest) D σ H := b_of (ps_ret pe_W) (he H (Ex.refl H) _ k)
theorem b_retN (k : D.rt .non H) : BW X (.Return none pos :: rest) D σ H := b_of ps_retN k
theorem b_expr (he : EG X e σ H P) (k : ∀ v H1, Ex H H1 → P v H1 → BW X rest D σ H1) (hs : swapsWith e none pos.line X.env = pure false := by rfl) : BW X (.Expr e pos :: rest) D σ H := b_of (ps_expr pe_W hs) (he H (Ex.refl H) _ k)
theorem b_if (hc : TG X c σ H bb) (h1 : bb = true → ∀ H1, Ex H H1 → BW X A { D with nx := BW X rest D } σ H1) (h2 : bb = false → ∀ H1, Ex H H1 → BW X B { D with nx := BW X rest D } σ H1) : BW X (.If c A B pos :: rest) D σ H :=
  b_of (ps_if pt_W pss_W pss_W) (hc H (Ex.refl H) _ fun H1 e1 => by
    cases bb with
    | true => rw [if_pos rfl]; exact h1 rfl H1 e1
    | false => rw [if_neg Bool.false_ne_true]; exact h2 rfl H1 e1)
/-- an if that is not taken, without else -/
theorem b_skip (hc : TG X c σ H false) (h : ∀ H1, Ex H H1 → BW X rest D σ H1) : BW X (.If c A [] pos :: rest) D σ H := b_if hc (fun q => nomatch q) fun _ H1 e1 => b_nil (h H1 e1)
/-- o.f = e of an instance -/
theorem b_fld {f : Str} {p' : Pos} {C dx a : Addr} {fs : List (Str × V)} [hm : Mono P] (c : Cls X.K C) (hn : NoAttr X.K C f) (he : EG X e σ H P) (ho : ∀ H1, Ex H H1 → EG X o σ H1 (IsV (.ref a))) (ha : H a = some (.ins C dx fs)) (hl : fs.length < 1000)
    (k : ∀ v H1, Ex H H1 → P v H1 → BW X rest D σ (upd H1 a (.ins C dx (putF f v fs)))) (hs : swapsWith e (some (.Attribute o f p')) pos.line X.env = pure false := by rfl) : BW X (.Assign [.Attribute o f p'] e pos :: rest) D σ H :=
  b_of (ps_fld pe_W pe_W hs) (he H (Ex.refl H) _ fun v H1 e1 pv => ho H1 e1 H1 (Ex.refl H1) _ fun w H2 e2 pw => ⟨a, C, dx, fs, pw, (e1.trans e2) a _ ha, c, hn, hl, k v H2 (e1.trans e2) (hm.up e2 pv)⟩)
end
end G
set_option maxHeartbeats 4000000
namespace G
open PySem PySem.Spec PyProof.Rows L2 Evl

theorem ex_hid_self {H H' : Hp} {D : Addr} (hD : H D = none) (e : Ex H H') : Ex H (hid H' D) := fun a o h => by
  rw [hid_ne (fun z => by rw [z, hD] at h; cases h)]
  exact e a o h
theorem hid_none {H : Hp} {D : Addr} (h : H D = none) : hid H D = H := by
  funext b
  by_cases e : b = D
  · rw [e, hid_same, h]
  · rw [hid_ne e]

/-! ### what is walked: n items, the i-th told by the i-th of as -/
structure WalkG {α : Type} (R : α → Rep) (as : List α) (H2 : Hp) (G : Hp → Prop) (Y : Nat → Hp → V → Hp → Prop) : Prop where
  g : ∀ H', (∀ a xs, (H2 a = some (.lst xs) → H' a = some (.lst xs)) ∧ (H2 a = some (.tup xs) → H' a = some (.tup xs))) → G H'
  y : ∀ i Ha x Hb, Ex H2 Ha → Y i Ha x Hb → Ex Ha Hb ∧ ∃ a, as[i]? = some a ∧ R a x Hb
  h : ∀ D o i Ha x Hb, Ha D = some o → H2 D = none → Ex H2 (hid Ha D) → Y i Ha x Hb → Hb D = some o ∧ Ex (hid Ha D) (hid Hb D) ∧ ∃ a, as[i]? = some a ∧ R a x (hid Hb D)
def IterP (X : Cx) {α : Type} (tg iter : Expr) (σ : L2.St) (H : Hp) (R : α → Rep) (as : List α) : Prop := ∃ wi, PI X tg iter wi ∧ ∀ H1, Ex H H1 → ∀ Rr : It → Hp → Prop,
  (∀ J H2 G Y, Ex H1 H2 → Walk J as.length G Y → WalkG R as H2 G Y → Rr J H2) → wi σ H1 Rr
section
variable {X : Cx} {α β : Type} {σ : L2.St} {H : Hp} {tg l l2 : Expr} {R : α → Rep} {S : β → Rep} {as : List α} {bs : List β} {pos p tpos : Pos} {elts : List Expr} {kk : Nat}
theorem wg_at [hR : ∀ a, Mono (R a)] {H2 : Hp} {xs : List V} {G : Hp → Prop} (hg : ∀ H', (∀ a xs, (H2 a = some (.lst xs) → H' a = some (.lst xs)) ∧ (H2 a = some (.tup xs) → H' a = some (.tup xs))) → G H') (h2 : All2 R as xs H2) : WalkG R as H2 G (YAt xs) where
  g := hg
  y := fun i Ha x Hb e y => by
    obtain ⟨rfl, hx⟩ := y
    obtain ⟨c, hc, hr⟩ := h2.get hx
    exact ⟨Ex.refl _, c, hc, (hR c).up e hr⟩
  h := fun D o i Ha x Hb hD n e y => by
    obtain ⟨rfl, hx⟩ := y
    obtain ⟨c, hc, hr⟩ := h2.get hx
    exact ⟨hD, Ex.refl _, c, hc, (hR c).up e hr⟩
theorem ip_list [hR : ∀ a, Mono (R a)] (h : EG X l σ H (IsL R as)) : IterP X tg l σ H R as :=
  ⟨_, pi_list pe_W, fun H1 e1 Rr k => h H1 e1 _ fun v H2 e2 ⟨a, xs, hv, ha, h2⟩ => ⟨a, hv, ⟨xs, SqL.of ha⟩, k _ H2 _ _ e2 (by rw [← h2.length]; exact walk_list) (wg_at (fun H' e => SqL.of ((e a xs).1 ha)) h2)⟩⟩
theorem ip_tup [hR : ∀ a, Mono (R a)] (h : EG X l σ H (IsT R as)) : IterP X tg l σ H R as :=
  ⟨_, pi_tup pe_W, fun H1 e1 Rr k => h H1 e1 _ fun v H2 e2 ⟨a, xs, hv, ha, h2⟩ => ⟨a, hv, ⟨xs, SqT.of ha⟩, k _ H2 _ _ e2 (by rw [← h2.length]; exact walk_tup) (wg_at (fun H' e => SqT.of ((e a xs).2 ha)) h2)⟩⟩
theorem range_get {n i : Nat} (h : i < n) : (List.range n)[i]? = some i := by
  rw [List.getElem?_eq_getElem (by rw [List.length_range]; exact h), List.getElem_range]
theorem ip_range {n : Nat} (hm : X.mg "range" = none) (hn : n ≤ 1000000) (h : EG X l σ H (IsI (n : Int))) (hg : Gl X "range" := by rfl) (hs : starEach [l] X.env = [(false, eval l X.env)] := by rfl) :
    IterP X tg (.Call (.Name "range" p) [l] [] pos) σ H (fun i : Nat => IsI (i : Int)) (List.range n) := by
  refine ⟨_, pi_range1 hg hm pa_W hs, fun H1 e1 Rr k => ?_⟩
  refine (ag_cons h ag_nil (hs := hs)) H1 e1 _ fun vs H2 e2 ⟨v, r, hv, hp, hr⟩ => ⟨(n : Int), by rw [hv, show v = V.int n from hp, show r = [] from hr], by omega, by omega, ?_⟩
  have w : Walk (Itr 0 ((n : Int)).toNat) (List.range n).length (fun _ => True) (fun i H x H' => H' = H ∧ i < n ∧ x = .int (i : Int)) := by
    rw [List.length_range]
    refine ⟨fun i _ hi _ => ?_, fun _ _ => ?_, fun i Ha x Hb hi _ y => ?_⟩
    · show i < ((n : Int)).toNat
      omega
    · show ((n : Int)).toNat ≤ n
      omega
    · obtain ⟨y1, y2⟩ := y
      exact ⟨y1, hi, by rw [y2, Int.zero_add]⟩
  refine k _ H2 _ _ e2 w ⟨fun _ _ => True.intro, fun i Ha x Hb e y => ?_, fun D o i Ha x Hb hD n e y => ?_⟩
  · obtain ⟨rfl, hi, rfl⟩ := y
    exact ⟨Ex.refl _, i, range_get hi, rfl⟩
  · obtain ⟨rfl, hi, rfl⟩ := y
    exact ⟨hD, Ex.refl _, i, range_get hi, rfl⟩
def Pr2 (R : α → Rep) (S : β → Rep) (q : α × β) : Rep := TupOf [R q.1, S q.2]
instance [hR : ∀ a, Mono (R a)] [hS : ∀ a, Mono (S a)] {q : α × β} : Mono (Pr2 R S q) := by unfold Pr2; infer_instance
theorem wg_pair [hR : ∀ a, Mono (R a)] [hS : ∀ a, Mono (S a)] {H2 : Hp} {f g : Nat → Option V} {qs : List (α × β)} {G : Hp → Prop} (hg : ∀ H', (∀ a xs, (H2 a = some (.lst xs) → H' a = some (.lst xs)) ∧ (H2 a = some (.tup xs) → H' a = some (.tup xs))) → G H')
    (hf : ∀ i x y, f i = some x → g i = some y → ∃ q, qs[i]? = some q ∧ R q.1 x H2 ∧ S q.2 y H2) : WalkG (Pr2 R S) qs H2 G (YPair f g) where
  g := hg
  y := fun i Ha v Hb e ⟨T, x, y, hv, hT, hb, hx, hy⟩ => by
    obtain ⟨q, hq, h1, h2⟩ := hf i x y hx hy
    subst hb hv
    have e2 : Ex Ha (upd Ha T (.tup [x, y])) := Ex.new hT
    exact ⟨e2, q, hq, T, _, rfl, upd_same, x, _, rfl, (hR _).up (e.trans e2) h1, y, _, rfl, (hS _).up (e.trans e2) h2, rfl⟩
  h := fun D o i Ha v Hb hD n e ⟨T, x, y, hv, hT, hb, hx, hy⟩ => by
    obtain ⟨q, hq, h1, h2⟩ := hf i x y hx hy
    subst hb hv
    have ne : T ≠ D := fun z => by rw [z, hD] at hT; cases hT
    have eq : hid (upd Ha T (.tup [x, y])) D = upd (hid Ha D) T (.tup [x, y]) := by
      funext b
      by_cases z : b = D
      · rw [z, hid_same, upd_ne (Ne.symm ne), hid_same]
      · rw [hid_ne z]
        by_cases z2 : b = T
        · rw [z2, upd_same, upd_same]
        · rw [upd_ne z2, upd_ne z2, hid_ne z]
    have e2 : Ex (hid Ha D) (upd (hid Ha D) T (.tup [x, y])) := Ex.new (by rw [hid_ne ne]; exact hT)
    refine ⟨by rw [upd_ne (Ne.symm ne)]; exact hD, by rw [eq]; exact e2, q, hq, ?_⟩
    rw [eq]
    exact ⟨T, _, rfl, upd_same, x, _, rfl, (hR _).up (e.trans e2) h1, y, _, rfl, (hS _).up (e.trans e2) h2, rfl⟩
theorem zip_hf {xs ys : List V} {H2 : Hp} (h1 : All2 R as xs H2) (h2 : All2 S bs ys H2) (i : Nat) (x y : V) (hx : xs[i]? = some x) (hy : ys[i]? = some y) : ∃ q, (as.zip bs)[i]? = some q ∧ R q.1 x H2 ∧ S q.2 y H2 := by
  obtain ⟨a, ha, ra⟩ := h1.get hx
  obtain ⟨b, hb, rb⟩ := h2.get hy
  refine ⟨(a, b), ?_, ra, rb⟩
  rw [List.getElem?_zip_eq_some]
  exact ⟨ha, hb⟩
theorem ip_zip [hR : ∀ a, Mono (R a)] [hS : ∀ a, Mono (S a)] (hm : X.mg "zip" = none) (h : EG X l σ H (IsL R as)) (h' : EG X l2 σ H (IsL S bs)) (hg : Gl X "zip" := by rfl)
    (hs : starEach [l, l2] X.env = (false, eval l X.env) :: starEach [l2] X.env := by rfl) (hs2 : starEach [l2] X.env = (false, eval l2 X.env) :: starEach [] X.env := by rfl) (hpl : (backTo pos (starEach [l2] X.env)).any (·.1) = false := by rfl) :
    IterP X (.Tuple elts kk tpos) (.Call (.Name "zip" p) [l, l2] [] pos) σ H (Pr2 R S) (as.zip bs) := by
  refine ⟨_, RZ.pi_zipA hg hm pa_W hs hpl, fun H1 e1 Rr k => ?_⟩
  refine (ag_cons h (ag_cons h' ag_nil (hs := hs2)) (hs := hs)) H1 e1 _ fun vs H2 e2 ⟨v, r, hv, ⟨a, xs, h1, h2, h3⟩, w, r2, hr, ⟨b, ys, h4, h5, h6⟩, hr2⟩ => ?_
  refine ⟨a, b, xs, ys, by rw [hv, hr, show r2 = [] from hr2, h1, h4], .inl ⟨SqL.of h2, SqL.of h5, ?_⟩⟩
  exact k _ H2 _ _ e2 (walk_zip (by rw [List.length_zip, h3.length, h6.length])) (wg_pair (fun H' e => ⟨SqL.of ((e a xs).1 h2), SqL.of ((e b ys).1 h5)⟩) (zip_hf h3 h6))
theorem ip_zipT [hR : ∀ a, Mono (R a)] [hS : ∀ a, Mono (S a)] (hm : X.mg "zip" = none) (h : EG X l σ H (IsT R as)) (h' : EG X l2 σ H (IsT S bs)) (hg : Gl X "zip" := by rfl)
    (hs : starEach [l, l2] X.env = (false, eval l X.env) :: starEach [l2] X.env := by rfl) (hs2 : starEach [l2] X.env = (false, eval l2 X.env) :: starEach [] X.env := by rfl) (hpl : (backTo pos (starEach [l2] X.env)).any (·.1) = false := by rfl) :
    IterP X (.Tuple elts kk tpos) (.Call (.Name "zip" p) [l, l2] [] pos) σ H (Pr2 R S) (as.zip bs) := by
  refine ⟨_, RZ.pi_zipA hg hm pa_W hs hpl, fun H1 e1 Rr k => ?_⟩
  refine (ag_cons h (ag_cons h' ag_nil (hs := hs2)) (hs := hs)) H1 e1 _ fun vs H2 e2 ⟨v, r, hv, ⟨a, xs, h1, h2, h3⟩, w, r2, hr, ⟨b, ys, h4, h5, h6⟩, hr2⟩ => ?_
  refine ⟨a, b, xs, ys, by rw [hv, hr, show r2 = [] from hr2, h1, h4], .inr ⟨SqT.of h2, SqT.of h5, ?_⟩⟩
  have w : Walk (RZ.ItzT X.K a b) (as.zip bs).length (fun H => SqT X.K H a xs ∧ SqT X.K H b ys) (YPair (fun i => xs[i]?) (fun i => ys[i]?)) := by
    rw [List.length_zip, ← h3.length, ← h6.length]
    refine ⟨fun i _ hi q => ?_, fun _ q => ⟨xs, ys, q.1, q.2, by omega⟩, fun i H v H' _ q y => ?_⟩
    · have h1 : i < xs.length := by omega
      have h2 : i < ys.length := by omega
      exact ⟨xs, ys, xs[i], ys[i], q.1, q.2, by simp [h1], by simp [h2]⟩
    · obtain ⟨T, x, z, h1, h2, h3, h4, h5⟩ := y
      exact ⟨T, x, z, h1, h2, h3, h4 xs q.1, h5 ys q.2⟩
  exact k _ H2 _ _ e2 w (wg_pair (fun H' e => ⟨SqT.of ((e a xs).2 h2), SqT.of ((e b ys).2 h5)⟩) (zip_hf h3 h6))
theorem ip_enum [hR : ∀ a, Mono (R a)] (hm : X.mg "enumerate" = none) (h : EG X l σ H (IsL R as)) (hg : Gl X "enumerate" := by rfl) (hs : starEach [l] X.env = [(false, eval l X.env)] := by rfl) :
    IterP X (.Tuple elts kk tpos) (.Call (.Name "enumerate" p) [l] [] pos) σ H (Pr2 (fun i : Nat => IsI (i : Int)) R) ((List.range as.length).zip as) := by
  refine ⟨_, pi_enum hg hm pa_W hs, fun H1 e1 Rr k => ?_⟩
  refine (ag_cons h ag_nil (hs := hs)) H1 e1 _ fun vs H2 e2 ⟨v, r, hv, ⟨a, xs, h1, h2, h3⟩, hr⟩ => ⟨a, xs, by rw [hv, show r = [] from hr, h1], SqL.of h2, ?_⟩
  refine k _ H2 _ _ e2 (by rw [List.length_zip, List.length_range, Nat.min_self, ← h3.length]; exact walk_enum) (wg_pair (fun H' e => SqL.of ((e a xs).1 h2)) fun i x y hx hy => ?_)
  cases hx
  obtain ⟨c, hc, rc⟩ := h3.get hy
  have hi : i < as.length := (List.getElem?_eq_some_iff.mp hc).1
  exact ⟨(i, c), by rw [List.getElem?_zip_eq_some]; exact ⟨range_get hi, hc⟩, rfl, rc⟩
end

/-! ### comprehensions -/
def UE (X : Cx) (scope : Scope) (elt : Expr) : TE := fun σ H Q => ∀ s H0 C cl fp, EW (X.blk s H0 scope (compEnvC scope cl C X.env) fp) elt σ H Q
def UT (X : Cx) (scope : Scope) (t : Expr) : TT := fun σ H Q => ∀ s H0 C cl fp, TW (X.blk s H0 scope (compEnvC scope cl C X.env) fp) t σ H Q
/-- what a target leaves of an item that is told by a -/
structure TgtG {α : Type} (R : α → Rep) (g : L2.TG) (T : α → L2.St → Hp → Prop) (σ0 : L2.St) (vs : List Nat) (H : Hp) : Prop where
  st : ∀ a x H', Ex H H' → R a x H' → ∀ H2 Qs, (∀ σ2, T a σ2 H' → Qs σ2 H2) → (∀ p o, H' p = some o → H2 p = some o) → g x σ0 H2 Qs
  wp : ∀ a σ2 H', T a σ2 H' → wipe σ2 vs = σ0
  up : ∀ a σ2 H' H2, Ex H' H2 → T a σ2 H' → T a σ2 H2
section
variable {X : Cx} {α β : Type} {σ : L2.St} {H : Hp} {tg iter elt t : Expr} {R : α → Rep} {S : β → Rep} {as : List α} {pos : Pos} {scope : Scope} {own : List (Str × Nat)}
theorem ue_pe : ∀ (s : Shared) (H : Hp) (C : Addr) (cl : List (Str × Addr)) (fp : List Addr), PE (X.blk s H scope (compEnvC scope cl C X.env) fp) elt (UE X scope elt) := fun s H0 C cl fp => ⟨fun pins s' σ H Q I h => h s H0 C cl fp pins s' I⟩
theorem ut_pt : ∀ (s : Shared) (H : Hp) (C : Addr) (cl : List (Str × Addr)) (fp : List Addr), PT (X.blk s H scope (compEnvC scope cl C X.env) fp) t (UT X scope t) := fun s H0 C cl fp => ⟨fun pins s' σ H Q I h => h s H0 C cl fp pins s' I⟩
/-- where the list's tests answer q: what is kept, mapped -/
theorem lc_read [hS : ∀ b, Mono (S b)] {f : α → β} {q : α → Bool} {g : L2.TG} {tt : TT} {T : α → L2.St → Hp → Prop} {vs : List Nat} (hi : IterP X tg iter σ H R as) (hz : as.length ≤ 1000000) (TG : TgtG R g T (wipe σ vs) vs H)
    (ht : ∀ a ∈ as, ∀ σ2 H', Ex H H' → T a σ2 H' → ∀ D acc H2, H2 D = some (.lst acc) → hid H2 D = H' → ∀ Q : Bool → Hp → Prop, (∀ H3, H3 D = some (.lst acc) → Ex H' (hid H3 D) → Q (q a) H3) → tt σ2 H2 Q)
    (he : ∀ a ∈ as, q a = true → ∀ σ2 H', Ex H H' → T a σ2 H' → EvP (UE X scope elt) σ2 H' (S (f a))) : ∃ wi, PI X tg iter wi ∧ EvP (tLc wi g tt (UE X scope elt) vs) σ H (IsL S ((as.filter q).map f)) := by
  obtain ⟨wi, hpi, hw⟩ := hi
  refine ⟨wi, hpi, fun H1 e1 Q hQ => hw H1 e1 _ fun J H2 G Y e2 W WG D hD => ?_⟩
  refine lc_it W (fun i H' => ∃ acc, H' D = some (.lst acc) ∧ Ex H2 (hid H' D) ∧ All2 S (((as.take i).filter q).map f) acc (hid H' D)) ⟨[], upd_same, ex_hid_self hD (Ex.new hD), by rw [List.take_zero]; exact rfl⟩ (fun i H' _ ⟨acc, h1, h2, h3⟩ => WG.g H' fun a xs => ⟨fun h => ?_, fun h => ?_⟩)
    (fun i x Ha Hb hi ⟨acc, h1, h2, h3⟩ y => ?_) (fun H' ⟨acc, h1, h2, h3⟩ => ?_)
  · have z := h2 a _ h
    rwa [hid_ne (fun e => by rw [e, hid_same] at z; cases z)] at z
  · have z := h2 a _ h
    rwa [hid_ne (fun e => by rw [e, hid_same] at z; cases z)] at z
  · obtain ⟨hb, eb, a, ha, ra⟩ := WG.h D _ i Ha x Hb h1 hD h2 y
    have ex1 : Ex H (hid Hb D) := (e1.trans e2).trans (h2.trans eb)
    have hmem : a ∈ as := List.mem_of_getElem? ha
    have tk : as.take (i + 1) = as.take i ++ [a] := by
      rw [List.take_succ, ha]
      rfl
    refine TG.st a x (hid Hb D) ex1 ra Hb _ (fun σ2 hT => ⟨TG.wp a σ2 _ hT, ?_⟩) (fun p o hp => by
      rw [hid_ne (fun e => by rw [e, hid_same] at hp; cases hp)] at hp
      exact hp)
    refine ht a hmem σ2 (hid Hb D) ex1 hT D acc Hb hb rfl _ fun H3 h3D e3 => ?_
    cases hq : q a with
    | false =>
      rw [if_neg Bool.false_ne_true]
      refine ⟨acc, h3D, h2.trans (eb.trans e3), ?_⟩
      rw [tk, List.filter_append, List.filter_cons, hq]
      simp only [Bool.false_eq_true, if_false, List.filter_nil, List.append_nil]
      exact h3.up hS (eb.trans e3)
    | true =>
      rw [if_pos rfl]
      have fin := he a hmem hq σ2 (hid H3 D) (ex1.trans e3) (TG.up a σ2 _ _ e3 hT)
      intro s H0 C cl fp
      refine ew_hid h3D ?_
      refine fin (hid H3 D) (Ex.refl _) (fun v H4 => H4 D = none → _) (fun v H4 e4 pv n4 => ⟨acc, upd_same, ?_, acc ++ [v], upd_same, ?_, ?_⟩) s H0 C cl fp
      · have l1 := h3.length
        rw [List.length_map] at l1
        have l2 := List.length_filter_le q (as.take i)
        rw [List.length_take] at l2
        have : acc.length ≤ 1000000 := by omega
        exact Nat.lt_of_le_of_lt this (by decide)
      · rw [upd_upd, hid_upd n4]
        exact h2.trans (eb.trans (e3.trans e4))
      · rw [upd_upd, hid_upd n4, tk, List.filter_append, List.filter_cons, hq]
        simp only [if_true, List.filter_nil, List.map_append, List.map_cons, List.map_nil]
        exact (h3.up hS (eb.trans (e3.trans e4))).snoc pv
  · rw [List.take_length] at h3
    have ex2 : Ex H2 H' := fun b o hb => by
      have z := h2 b o hb
      rwa [hid_ne (fun e => by rw [e, hid_same] at z; cases z)] at z
    have ex3 : Ex (hid H' D) H' := fun b o hb => by rwa [hid_ne (fun e => by rw [e, hid_same] at hb; cases hb)] at hb
    exact hQ _ H' (e2.trans ex2) ⟨D, acc, rfl, h1, h3.up hS ex3⟩
theorem yes_read {q : α → Bool} {T : α → L2.St → Hp → Prop} (hq : ∀ a ∈ as, q a = true) : ∀ a ∈ as, ∀ σ2 H', Ex H H' → T a σ2 H' → ∀ D acc H2, H2 D = some (HO.lst acc) → hid H2 D = H' → ∀ Q : Bool → Hp → Prop, (∀ H3, H3 D = some (HO.lst acc) → Ex H' (hid H3 D) → Q (q a) H3) → tYes σ2 H2 Q :=
  fun a ha σ2 H' _ _ D acc H2 h1 h2 Q hQ => by
    have z := hQ H2 h1 (by rw [h2]; exact Ex.refl _)
    rw [hq a ha] at z
    exact z
theorem test_read {q : α → Bool} {T : α → L2.St → Hp → Prop} (h : ∀ a ∈ as, ∀ σ2 H', Ex H H' → T a σ2 H' → EvT (UT X scope t) σ2 H' (q a)) : ∀ a ∈ as, ∀ σ2 H', Ex H H' → T a σ2 H' → ∀ D acc H2, H2 D = some (HO.lst acc) → hid H2 D = H' → ∀ Q : Bool → Hp → Prop, (∀ H3, H3 D = some (HO.lst acc) → Ex H' (hid H3 D) → Q (q a) H3) → UT X scope t σ2 H2 Q :=
  fun a ha σ2 H' e hT D acc H2 h1 h2 Q hQ s H0 C cl fp => by
    refine tw_hid h1 ?_
    subst h2
    exact h a ha σ2 _ e hT (hid H2 D) (Ex.refl _) _ (fun H3 e3 n3 => hQ _ upd_same (by rw [hid_upd n3]; exact e3)) s H0 C cl fp
/-- targets -/
def TNm (R : α → Rep) (σ0 : L2.St) (j : Nat) (a : α) (σ2 : L2.St) (H' : Hp) : Prop := ∃ x, σ2 = σ0.set j (some x) ∧ R a x H'
def TPr {γ : Type} (R : α → Rep) (S : γ → Rep) (σ0 : L2.St) (j k : Nat) (q : α × γ) (σ2 : L2.St) (H' : Hp) : Prop := ∃ x y, σ2 = (σ0.set j (some x)).set k (some y) ∧ R q.1 x H' ∧ S q.2 y H'
theorem wipe1 (σ : L2.St) (j : Nat) (x : Option V) : wipe ((wipe σ [j]).set j x) [j] = wipe σ [j] := by
  show (((σ.set j none).set j x).set j none) = σ.set j none
  rw [List.set_set, List.set_set]
theorem wipe2 (σ : L2.St) (j k : Nat) (x y : Option V) : wipe (((wipe σ [j, k]).set j x).set k y) [j, k] = wipe σ [j, k] := by
  show ((((((σ.set k none).set j none).set j x).set k y).set k none).set j none) = (σ.set k none).set j none
  by_cases h : j = k
  · subst h
    simp only [List.set_set]
  · simp only [List.set_set]
    rw [List.set_comm (i := j) (j := k) _ _ h]
    simp only [List.set_set]
theorem tgt_nm [hR : ∀ a, Mono (R a)] {j : Nat} : TgtG R (gName j) (TNm R (wipe σ [j]) j) (wipe σ [j]) [j] H where
  st := fun a x H' _ r H2 Qs hq _ => hq _ ⟨x, rfl, r⟩
  wp := fun a σ2 H' ⟨x, h, _⟩ => by rw [h]; exact wipe1 σ j _
  up := fun a σ2 H' H2 e ⟨x, h, r⟩ => ⟨x, h, (hR a).up e r⟩
theorem tgt_pr {γ : Type} {S : γ → Rep} [hR : ∀ a, Mono (R a)] [hS : ∀ a, Mono (S a)] {j k : Nat} : TgtG (Pr2 R S) (gTup X.K 2 (gCons (gName j) (gCons (gName k) gNil))) (TPr R S (wipe σ [j, k]) j k) (wipe σ [j, k]) [j, k] H where
  st := fun a x H' _ ⟨p, xs, hx, hp, y1, r1, e1, h1, y2, r2, e2, h2, e3⟩ H2 Qs hq hH => by
    refine ⟨p, xs, hx, SqT.of (hH p _ hp), by rw [e1, e2, show r2 = [] from e3]; rfl, y1, r1, e1, y2, r2, e2, e3, hq _ ⟨y1, y2, rfl, h1, h2⟩⟩
  wp := fun a σ2 H' ⟨x, y, h, _⟩ => by rw [h]; exact wipe2 σ j k _ _
  up := fun a σ2 H' H2 e ⟨x, y, h, r, r'⟩ => ⟨x, y, h, (hR _).up e r, (hS _).up e r'⟩
end
end G
namespace G
open PySem PySem.Spec PyProof.Rows L2 Evl
section
variable {P : Rep} {X : Cx} {α β γ : Type} {σ : L2.St} {H : Hp} {tg iter elt t : Expr} {R : α → Rep} {S : β → Rep} {R2 : γ → Rep} {as : List α} {qs : List (α × γ)} {pos spos py : Pos} {scope : Scope} {x y z : Str}
theorem filter_true {as : List α} : as.filter (fun _ => true) = as := List.filter_eq_self.mpr fun _ _ => rfl
/-- [elt for x in iter if ..] -/
theorem eg_lc (j : Nat) {px : Pos} [hR : ∀ a, Mono (R a)] [hS : ∀ b, Mono (S b)] (f : α → β) (hN : X.N.Nodup) (hi : IterP X (.Name x px) iter σ H R as) (hz : as.length ≤ 1000000)
    (he : ∀ a ∈ as, ∀ v H', Ex H H' → R a v H' → ∀ s H0 C cl fp, EG (X.blk s H0 scope (compEnvC scope cl C X.env) fp) elt ((σ.set j none).set j (some v)) H' (S (f a)))
    (hg : ∀ (s : Shared) (H : Hp) (C : Addr) (cl : List (Str × Addr)) (fp : List Addr), PG (X.blk s H scope (compEnvC scope cl C X.env) fp) (.Name x px) (gName j)) (ok : BlkOk X.N X.env.scope scope [(x, j)] := by exact blkOk_by (by rfl)) (hc : X.calm = true := by rfl)
    (hs : ∀ x, foldedSetIterable iter X.env x = pure x := by intro _; rfl) (hp : ∀ v H, IsL S (as.map f) v H → P v H := by exact fun _ _ h => h) : EG X (.ListComp elt [⟨.Name x px, iter, [], 0⟩] scope pos) σ H P := by
  obtain ⟨wi, hpi, h⟩ := lc_read (q := fun _ => true) (vs := [j]) hi hz tgt_nm (yes_read fun _ _ => rfl) (scope := scope) (elt := elt) (S := S) (f := f) fun a ha _ σ2 H' e ⟨v, hv, hr⟩ H1 e1 Q hQ s H0 C cl fp => by
    subst hv
    exact (he a ha v H' e hr s H0 C cl fp) H1 e1 Q hQ
  rw [filter_true] at h
  exact eg_of (pe_lc (own := [(x, j)]) hc hN hpi ok hg (fun _ _ _ _ _ => pts_nil) ue_pe hs) (h.imp fun v H' _ => hp v H')
theorem eg_lcT (j : Nat) {px : Pos} [hR : ∀ a, Mono (R a)] [hS : ∀ b, Mono (S b)] (f : α → β) (q : α → Bool) (hN : X.N.Nodup) (hi : IterP X (.Name x px) iter σ H R as) (hz : as.length ≤ 1000000)
    (ht : ∀ a ∈ as, ∀ v H', Ex H H' → R a v H' → ∀ s H0 C cl fp, TG (X.blk s H0 scope (compEnvC scope cl C X.env) fp) t ((σ.set j none).set j (some v)) H' (q a))
    (he : ∀ a ∈ as, q a = true → ∀ v H', Ex H H' → R a v H' → ∀ s H0 C cl fp, EG (X.blk s H0 scope (compEnvC scope cl C X.env) fp) elt ((σ.set j none).set j (some v)) H' (S (f a)))
    (hg : ∀ (s : Shared) (H : Hp) (C : Addr) (cl : List (Str × Addr)) (fp : List Addr), PG (X.blk s H scope (compEnvC scope cl C X.env) fp) (.Name x px) (gName j)) (ok : BlkOk X.N X.env.scope scope [(x, j)] := by exact blkOk_by (by rfl)) (hc : X.calm = true := by rfl)
    (hs : ∀ x, foldedSetIterable iter X.env x = pure x := by intro _; rfl) (hp : ∀ v H, IsL S ((as.filter q).map f) v H → P v H := by exact fun _ _ h => h) : EG X (.ListComp elt [⟨.Name x px, iter, [t], 0⟩] scope pos) σ H P := by
  obtain ⟨wi, hpi, h⟩ := lc_read (q := q) (vs := [j]) hi hz tgt_nm (test_read (t := t) fun a ha σ2 H' e ⟨v, hv, hr⟩ H1 e1 Q hQ s H0 C cl fp => by
    subst hv
    exact (ht a ha v H' e hr s H0 C cl fp) H1 e1 Q hQ) (scope := scope) (elt := elt) (S := S) (f := f) fun a ha hq σ2 H' e ⟨v, hv, hr⟩ H1 e1 Q hQ s H0 C cl fp => by
    subst hv
    exact (he a ha hq v H' e hr s H0 C cl fp) H1 e1 Q hQ
  exact eg_of (pe_lc (own := [(x, j)]) hc hN hpi ok hg (fun _ _ _ _ _ => pts_one (ut_pt _ _ _ _ _)) ue_pe hs) (h.imp fun v H' _ => hp v H')
/-- [elt for x, y in iter if ..] -/
theorem eg_lc2 (j k : Nat) {px pz tp : Pos} {kk : Nat} [hR : ∀ a, Mono (R a)] [hR2 : ∀ a, Mono (R2 a)] [hS : ∀ b, Mono (S b)] (f : α × γ → β) (hN : X.N.Nodup) (hi : IterP X (.Tuple [.Name x px, .Name z pz] kk tp) iter σ H (Pr2 R R2) qs) (hz : qs.length ≤ 1000000)
    (he : ∀ q ∈ qs, ∀ v w H', Ex H H' → R q.1 v H' → R2 q.2 w H' → ∀ s H0 C cl fp, EG (X.blk s H0 scope (compEnvC scope cl C X.env) fp) elt ((((σ.set k none).set j none).set j (some v)).set k (some w)) H' (S (f q)))
    (hg : ∀ (s : Shared) (H : Hp) (C : Addr) (cl : List (Str × Addr)) (fp : List Addr), PG (X.blk s H scope (compEnvC scope cl C X.env) fp) (.Tuple [.Name x px, .Name z pz] kk tp) (gTup X.K 2 (gCons (gName j) (gCons (gName k) gNil))))
    (ok : BlkOk X.N X.env.scope scope [(x, j), (z, k)] := by exact blkOk_by (by rfl)) (hc : X.calm = true := by rfl)
    (hs : ∀ x, foldedSetIterable iter X.env x = pure x := by intro _; rfl) (hp : ∀ v H, IsL S (qs.map f) v H → P v H := by exact fun _ _ h => h) : EG X (.ListComp elt [⟨.Tuple [.Name x px, .Name z pz] kk tp, iter, [], 0⟩] scope pos) σ H P := by
  obtain ⟨wi, hpi, h⟩ := lc_read (q := fun _ => true) (vs := [j, k]) hi hz (tgt_pr (X := X)) (yes_read fun _ _ => rfl) (scope := scope) (elt := elt) (S := S) (f := f) fun a ha _ σ2 H' e ⟨v, w, hv, hr, hr2⟩ H1 e1 Q hQ s H0 C cl fp => by
    subst hv
    exact (he a ha v w H' e hr hr2 s H0 C cl fp) H1 e1 Q hQ
  rw [filter_true] at h
  exact eg_of (pe_lc (own := [(x, j), (z, k)]) hc hN hpi ok hg (fun _ _ _ _ _ => pts_nil) ue_pe hs) (h.imp fun v H' _ => hp v H')
theorem eg_lc2T (j k : Nat) {px pz tp : Pos} {kk : Nat} [hR : ∀ a, Mono (R a)] [hR2 : ∀ a, Mono (R2 a)] [hS : ∀ b, Mono (S b)] (f : α × γ → β) (p : α × γ → Bool) (hN : X.N.Nodup) (hi : IterP X (.Tuple [.Name x px, .Name z pz] kk tp) iter σ H (Pr2 R R2) qs) (hz : qs.length ≤ 1000000)
    (ht : ∀ q ∈ qs, ∀ v w H', Ex H H' → R q.1 v H' → R2 q.2 w H' → ∀ s H0 C cl fp, TG (X.blk s H0 scope (compEnvC scope cl C X.env) fp) t ((((σ.set k none).set j none).set j (some v)).set k (some w)) H' (p q))
    (he : ∀ q ∈ qs, p q = true → ∀ v w H', Ex H H' → R q.1 v H' → R2 q.2 w H' → ∀ s H0 C cl fp, EG (X.blk s H0 scope (compEnvC scope cl C X.env) fp) elt ((((σ.set k none).set j none).set j (some v)).set k (some w)) H' (S (f q)))
    (hg : ∀ (s : Shared) (H : Hp) (C : Addr) (cl : List (Str × Addr)) (fp : List Addr), PG (X.blk s H scope (compEnvC scope cl C X.env) fp) (.Tuple [.Name x px, .Name z pz] kk tp) (gTup X.K 2 (gCons (gName j) (gCons (gName k) gNil))))
    (ok : BlkOk X.N X.env.scope scope [(x, j), (z, k)] := by exact blkOk_by (by rfl)) (hc : X.calm = true := by rfl)
    (hs : ∀ x, foldedSetIterable iter X.env x = pure x := by intro _; rfl) (hp : ∀ v H, IsL S ((qs.filter p).map f) v H → P v H := by exact fun _ _ h => h) : EG X (.ListComp elt [⟨.Tuple [.Name x px, .Name z pz] kk tp, iter, [t], 0⟩] scope pos) σ H P := by
  obtain ⟨wi, hpi, h⟩ := lc_read (q := p) (vs := [j, k]) hi hz (tgt_pr (X := X)) (test_read (t := t) fun a ha σ2 H' e ⟨v, w, hv, hr, hr2⟩ H1 e1 Q hQ s H0 C cl fp => by
    subst hv
    exact (ht a ha v w H' e hr hr2 s H0 C cl fp) H1 e1 Q hQ) (scope := scope) (elt := elt) (S := S) (f := f) fun a ha hq σ2 H' e ⟨v, w, hv, hr, hr2⟩ H1 e1 Q hQ s H0 C cl fp => by
    subst hv
    exact (he a ha hq v w H' e hr hr2 s H0 C cl fp) H1 e1 Q hQ
  exact eg_of (pe_lc (own := [(x, j), (z, k)]) hc hN hpi ok hg (fun _ _ _ _ _ => pts_one (ut_pt _ _ _ _ _)) ue_pe hs) (h.imp fun v H' _ => hp v H')
/-- name = [..]: an assignment of a comprehension's value: by what its value is -/
theorem b_asgLc (i j : Nat) {px p1 : Pos} [hR : ∀ a, Mono (R a)] [hS : ∀ b, Mono (S b)] (f : α → β) {rest : List Stmt} {D : Ends} (hN : X.N.Nodup) (hi : IterP X (.Name x px) iter σ H R as) (hz : as.length ≤ 1000000)
    (he : ∀ a ∈ as, ∀ v H', Ex H H' → R a v H' → ∀ s H0 C cl fp, EG (X.blk s H0 scope (compEnvC scope cl C X.env) fp) elt ((σ.set j none).set j (some v)) H' (S (f a)))
    (hg : ∀ (s : Shared) (H : Hp) (C : Addr) (cl : List (Str × Addr)) (fp : List Addr), PG (X.blk s H scope (compEnvC scope cl C X.env) fp) (.Name x px) (gName j)) (hy : X.N[i]? = some y) (hyl : X.env.scope.names.lookup y = some .local)
    (hsw : swapsWith (.ListComp elt [⟨.Name x px, iter, [], 0⟩] scope pos) (some (.Name y py)) spos.line X.env = pure true) (k : ∀ v H1, Ex H H1 → IsL S (as.map f) v H1 → BW X rest D (σ.set i (some v)) H1)
    (ok : BlkOk X.N X.env.scope scope [(x, j)] := by exact blkOk_by (by rfl)) (hc : X.calm = true := by rfl)
    (hs : ∀ x, foldedSetIterable iter X.env x = pure x := by intro _; rfl) : BW X (.Assign [.Name y py] (.ListComp elt [⟨.Name x px, iter, [], 0⟩] scope pos) spos :: rest) D σ H := by
  obtain ⟨wi, hpi, h⟩ := lc_read (q := fun _ => true) (vs := [j]) hi hz tgt_nm (yes_read fun _ _ => rfl) (scope := scope) (elt := elt) (S := S) (f := f) fun a ha _ σ2 H' e ⟨v, hv, hr⟩ H1 e1 Q hQ s H0 C cl fp => by
    subst hv
    exact (he a ha v H' e hr s H0 C cl fp) H1 e1 Q hQ
  rw [filter_true] at h
  exact b_of (ps_setLc (own := [(x, j)]) hc hN hy hyl hsw hpi ok hg (fun _ _ _ _ _ => pts_nil) ue_pe hs) (h H (Ex.refl H) _ k)

/-! ### loops -/
/-- what a turn is to reach -/
def Nxt (Hb : Hp) (P : L2.St → Hp → Prop) : L2.St → Hp → Prop := fun s h => Ex Hb h ∧ P s h
theorem b_forN (j : Nat) {px : Pos} {body rest : List Stmt} {D : Ends} (Pv : Nat → L2.St → Hp → Prop) (hN : X.N.Nodup) (hi : IterP X (.Name x px) iter σ H R as) (h0 : ∀ H1, Ex H H1 → Pv 0 σ H1)
    (hs : ∀ i a v σ' Ha Hb, as[i]? = some a → Ex H Ha → Pv i σ' Ha → Ex Ha Hb → R a v Hb → BW X body { nx := Nxt Hb (Pv (i + 1)), ct := Nxt Hb (Pv (i + 1)), bk := BW X rest D, rt := D.rt } (σ'.set j (some v)) Hb)
    (hd : ∀ σ' H', Ex H H' → Pv as.length σ' H' → BW X rest D σ' H') (hj : X.N[j]? = some x := by rfl) (hl : Loc X.env.scope x := by first | exact Or.inl rfl | exact Or.inr rfl)
    (hxe : PassesOwn (model X.prog X.w) X.A X.env X.xe := by exact PassesOwn.never) (hc : X.calm = true := by rfl) (hf : ∀ x, foldedSetIterable iter X.env x = pure x := by intro _; rfl)
    (hfn : X.fn x = true ∨ X.env.scope.names.lookup x = some .local := by first | exact .inl rfl | exact .inr rfl) : BW X (.For (.Name x px) iter body [] pos :: rest) D σ H := by
  obtain ⟨wi, hpi, hw⟩ := hi
  refine b_of (ps_for hxe hc hpi (pg_name hN hj hl hfn) pss_W hf) ?_
  refine hw H (Ex.refl H) _ fun J H2 G Y e2 W WG => ?_
  refine for_it W (fun i σ' H' => Ex H2 H' ∧ Pv i σ' H') ⟨Ex.refl _, h0 H2 e2⟩ (fun i σ' H' _ p => WG.g H' fun a xs => ⟨fun h => p.1 a _ h, fun h => p.1 a _ h⟩) (fun i v σ' Ha Hb hi p y => ?_) (fun σ' H' p => hd σ' H' (e2.trans p.1) p.2)
  obtain ⟨eb, a, ha, ra⟩ := WG.y i Ha v Hb p.1 y
  have z := hs i a v σ' Ha Hb ha (e2.trans p.1) p.2 eb ra
  intro pins s I
  refine thn (z pins s I) fun f s1 q => ?_
  cases f with
  | next =>
    obtain ⟨σ2, H3, I3, q1, q2⟩ := q
    exact ⟨σ2, H3, I3, (p.1.trans eb).trans q1, q2⟩
  | cont =>
    obtain ⟨σ2, H3, I3, q1, q2⟩ := q
    exact ⟨σ2, H3, I3, (p.1.trans eb).trans q1, q2⟩
  | brk => exact q
  | ret u => exact q
theorem b_for2 (j k : Nat) {px pz tp : Pos} {kk : Nat} {body rest : List Stmt} {D : Ends} (Pv : Nat → L2.St → Hp → Prop) (hN : X.N.Nodup) (hi : IterP X (.Tuple [.Name x px, .Name z pz] kk tp) iter σ H (Pr2 R R2) qs) (h0 : ∀ H1, Ex H H1 → Pv 0 σ H1)
    (hs : ∀ i q v w σ' Ha Hb, qs[i]? = some q → Ex H Ha → Pv i σ' Ha → Ex Ha Hb → R q.1 v Hb → R2 q.2 w Hb → BW X body { nx := Nxt Hb (Pv (i + 1)), ct := Nxt Hb (Pv (i + 1)), bk := BW X rest D, rt := D.rt } ((σ'.set j (some v)).set k (some w)) Hb)
    (hd : ∀ σ' H', Ex H H' → Pv qs.length σ' H' → BW X rest D σ' H') (hg : PG X (.Tuple [.Name x px, .Name z pz] kk tp) (gTup X.K 2 (gCons (gName j) (gCons (gName k) gNil))))
    (hxe : PassesOwn (model X.prog X.w) X.A X.env X.xe := by exact PassesOwn.never) (hc : X.calm = true := by rfl) (hf : ∀ x, foldedSetIterable iter X.env x = pure x := by intro _; rfl) : BW X (.For (.Tuple [.Name x px, .Name z pz] kk tp) iter body [] pos :: rest) D σ H := by
  obtain ⟨wi, hpi, hw⟩ := hi
  refine b_of (ps_for hxe hc hpi hg pss_W hf) ?_
  refine hw H (Ex.refl H) _ fun J H2 G Y e2 W WG => ?_
  refine for_it W (fun i σ' H' => Ex H2 H' ∧ Pv i σ' H') ⟨Ex.refl _, h0 H2 e2⟩ (fun i σ' H' _ p => WG.g H' fun a xs => ⟨fun h => p.1 a _ h, fun h => p.1 a _ h⟩) (fun i v σ' Ha Hb hi p y => ?_) (fun σ' H' p => hd σ' H' (e2.trans p.1) p.2)
  obtain ⟨eb, a, ha, ⟨pp, xs, hx, hp, y1, r1, e1, h1, y2, r2, e3, h2, e4⟩⟩ := WG.y i Ha v Hb p.1 y
  refine ⟨pp, xs, hx, SqT.of hp, by rw [e1, e3, show r2 = [] from e4]; rfl, y1, r1, e1, y2, r2, e3, e4, ?_⟩
  have z := hs i a y1 y2 σ' Ha Hb ha (e2.trans p.1) p.2 eb h1 h2
  intro pins s I
  refine thn (z pins s I) fun f s1 q => ?_
  cases f with
  | next =>
    obtain ⟨σ2, H3, I3, q1, q2⟩ := q
    exact ⟨σ2, H3, I3, (p.1.trans eb).trans q1, q2⟩
  | cont =>
    obtain ⟨σ2, H3, I3, q1, q2⟩ := q
    exact ⟨σ2, H3, I3, (p.1.trans eb).trans q1, q2⟩
  | brk => exact q
  | ret u => exact q
/-- while: the number falls -/
theorem b_while {c : Expr} {body rest : List Stmt} {D : Ends} (Pv : Nat → L2.St → Hp → Prop) (m0 : Nat) (h0 : Pv m0 σ H)
    (hs : ∀ m σ' H', Pv m σ' H' → ∃ b, TG X c σ' H' b ∧ (b = true → ∀ H1, Ex H' H1 → BW X body { nx := fun s h => ∃ m', m' < m ∧ Pv m' s h, ct := fun s h => ∃ m', m' < m ∧ Pv m' s h, bk := BW X rest D, rt := D.rt } σ' H1) ∧ (b = false → ∀ H1, Ex H' H1 → BW X rest D σ' H1))
    (hxe : PassesOwn (model X.prog X.w) X.A X.env X.xe := by exact PassesOwn.never) : BW X (.While c body [] pos :: rest) D σ H := by
  refine b_of (ps_while hxe pt_W pss_W) ⟨Pv, ⟨m0, h0⟩, fun m σ' H' p => ?_⟩
  obtain ⟨b, ht, h1, h2⟩ := hs m σ' H' p
  refine ht H' (Ex.refl _) _ fun H1 e1 => ?_
  cases b with
  | true => rw [if_pos rfl]; exact ⟨_, fun _ _ q => q, h1 rfl H1 e1⟩
  | false => rw [if_neg Bool.false_ne_true]; exact h2 rfl H1 e1
end
end G
set_option maxHeartbeats 4000000
namespace G
open PySem PySem.Spec PyProof.Rows L2 Evl

/-! ### operators of own classes -/
theorem relV_back {v : V} {u : Value} {Q : Value → Shared → Prop} {s : Shared} (r : RelV v u) (q : Q u s) : PySem.W.CmpBack Q u s := by
  cases v with
  | non => cases (show u = _ from r); exact q
  | bl b => cases (show u = _ from r); exact q
  | int i => obtain ⟨t, e⟩ := (show ∃ t, u = _ from r); cases e; exact q
  | str i => obtain ⟨t, e⟩ := (show ∃ t, u = _ from r); cases e; exact q
  | byt i => obtain ⟨t, e⟩ := (show ∃ t, u = _ from r); cases e; exact q
  | flt i => obtain ⟨t, e⟩ := (show ∃ t, u = _ from r); cases e; exact q
  | ref a => cases (show u = _ from r); exact q
  | ty n => cases (show u = _ from r); exact q
/-- a method that an operator asks for -/
structure OCal (P : Program) (w : World) (K : PySem.W.Frag) (mg : Str → Option Value) (base : Heap) (C : Addr) (m : Str) (k : Nat) (sp : Sp) : Prop where
  ex : ∃ f fd ps, FnOk P w K mg base CX0 k f fd ps sp ∧ PySem.W.findIn K (.ref C) m = some (some (.ref f)) ∧ PySem.W.isFn K (.ref f) = true ∧ Binds K fd ps []
section
variable {X : Cx} {σ : L2.St} {H : Hp} {a b e : Expr} {pos p : Pos} {P P1 P2 : Rep} {k : Nat} {sp : Sp} {C : Addr}
theorem call_own {A : Around} {pins : List (Addr × Obj)} {s : Shared} {f : Addr} {fd : FuncData} {ps : List Str} {vs : List V} {us : List Value} {Q : VK} (F : FnOk X.prog X.w X.K X.mg X.base CX0 k f fd ps sp) (hb : Binds X.K fd ps []) (sb : Sub X k A) (I : Inv X pins σ H s) (r : Vals vs us) (h : sp vs H Q E0) :
    wpAny (model X.prog X.w) A (call (.ref f) us) (EP X pins σ Q) X.xe s := by
  have e0 : Env0 X.prog X.w X.K X.mg X.base A X.stack s H := by
    have e := I.env0
    exact ⟨by rw [sb.fr]; exact e.frames, e.mod, e.bs, e.bsz, e.funs, e.frf, e.hok, e.bare⟩
  have hl := F.len _ _ _ _ h
  refine wpAny_call (codeAny_mono (F.run A X.stack s H ⟨us, []⟩ us vs Q E0 sb.room e0 (by
    have := hb s us I.kIn (by rw [List.append_nil, ← r.length, hl])
    simpa using this) r h) fun z s' hq => ?_)
  cases z with
  | error e => exact pass0 pins σ H s e s' I hq
  | ok fl =>
    cases fl with
    | ret w =>
      obtain ⟨z, H', I', rz, q⟩ := I.after hq
      exact ⟨z, H', I', rz, q⟩
    | next => exact False.elim hq
    | brk => exact False.elim hq
    | cont => exact False.elim hq
/-- a op b by a's own method: b of a's class -/
def rOwn (K : PySem.W.Frag) (C : Addr) (sp : Sp) : R2 := fun x y H Q => ∃ a b dx dy fs gs, x = .ref a ∧ y = .ref b ∧ H a = some (.ins C dx fs) ∧ H b = some (.ins C dy gs) ∧ sp [x, y] H Q E0
theorem op_own {op : Operator} (hc : PySem.W.selfFirst X.K C = true) (D : OCal X.prog X.w X.K X.mg X.base C (PySem.dunder op.info.2) k sp) (hr : Room k X.A) : OpR X (binaryOp op) (rOwn X.K C sp) := by
  intro pins s σ H x y v u Q I rx ry ⟨a, b, dx, dy, fs, gs, h1, h2, h3, h4, h5⟩
  obtain ⟨f, fd, ps, F, hs, hf, hb⟩ := D.ex
  subst h1 h2
  cases rx
  cases ry
  obtain ⟨mA, J, _⟩ := ins_get I.hok h3
  obtain ⟨mB, J', _⟩ := ins_get I.hok h4
  obtain ⟨od, J, _⟩ := J.look
  obtain ⟨od', J', _⟩ := J'.look
  obtain ⟨m, hF⟩ := I.fr
  refine PySem.W.binop_K hF I.ok.mod.kin J J'.type hc hs hf ?_
  refine thn (call_own (vs := [.ref a, .ref b]) (us := [.ref a, .ref b]) F hb ⟨hr, rfl⟩ I (.cons rfl (.cons rfl .nil)) h5) fun w s1 ⟨v, H1, I1, r1, q1⟩ => relV_back r1 ⟨v, H1, I1, r1, q1⟩
/-- the built-in type T as the right one -/
structure SlotT (K : PySem.W.Frag) (C : Addr) (nm T : String) : Prop where
  r : ∃ rc, PySem.W.findIn K (.ref C) (dunderR nm) = some rc ∧ (rc = none ∨ ∃ g : Addr, rc = some (.ref g))
  a : ∃ fo, PySem.W.findIn K (.type T) (PySem.dunder nm) = some fo
  b : ∃ fo, PySem.W.findIn K (.type T) (dunderR nm) = some fo
  s : PySem.W.subIn K (.type T) (.ref C) = some false
def rOwnI (C : Addr) (sp : Sp) : R2 := fun x y H Q => ∃ a dx fs i, x = .ref a ∧ y = .int i ∧ H a = some (.ins C dx fs) ∧ sp [x, y] H Q E0
theorem op_ownI {op : Operator} (hc : PySem.W.selfFirst X.K C = true) (D : OCal X.prog X.w X.K X.mg X.base C (PySem.dunder op.info.2) k sp) (hr : Room k X.A) (S : SlotT X.K C op.info.2 "int") : OpR X (binaryOp op) (rOwnI C sp) := by
  intro pins s σ H x y v u Q I rx ry ⟨a, dx, fs, i, h1, h2, h3, h5⟩
  obtain ⟨f, fd, ps, F, hs, hf, hb⟩ := D.ex
  subst h1 h2
  cases rx
  obtain ⟨t, ry⟩ := ry
  subst ry
  obtain ⟨mA, J, _⟩ := ins_get I.hok h3
  obtain ⟨od, J, _⟩ := J.look
  obtain ⟨m, hF⟩ := I.fr
  obtain ⟨rc, hr1, hr2⟩ := S.r
  obtain ⟨fo, hfo⟩ := S.a
  obtain ⟨ro, hro⟩ := S.b
  refine PySem.W.ksp_binT (T := "int") hF I.ok.mod.kin J rfl hc hs hf hr1 hr2 hfo hro S.s ?_
  refine thn (call_own (vs := [.ref a, .int i]) (us := [.ref a, .int i t]) F hb ⟨hr, rfl⟩ I (.cons rfl (.cons ⟨t, rfl⟩ .nil)) h5) fun w s1 ⟨v, H1, I1, r1, q1⟩ => relV_back r1 ⟨v, H1, I1, r1, q1⟩
/-- a op b by a's own method: b of another own class -/
def rOwnD (C B : Addr) (sp : Sp) : R2 := fun x y H Q => ∃ a b dx dy fs gs, x = .ref a ∧ y = .ref b ∧ H a = some (.ins C dx fs) ∧ H b = some (.ins B dy gs) ∧ sp [x, y] H Q E0
/-- - a by its own method -/
def rOwnN (C : Addr) (sp : Sp) : V → Hp → VK → Prop := fun x H Q => ∃ a dx fs, x = .ref a ∧ H a = some (.ins C dx fs) ∧ sp [x] H Q E0
theorem un_own (D : OCal X.prog X.w X.K X.mg X.base C "__neg__" k sp) (hr : Room k X.A) : UnR X (unaryOp .USub) (rOwnN C sp) := by
  intro pins s σ H x v Q I rx ⟨a, dx, fs, h1, h3, h5⟩
  obtain ⟨f, fd, ps, F, hs, hf, hb⟩ := D.ex
  subst h1
  cases rx
  obtain ⟨mA, J, _⟩ := ins_get I.hok h3
  obtain ⟨od, J, _⟩ := J.look
  obtain ⟨m, hF⟩ := I.fr
  refine PySem.W.ksp_neg hF I.ok.mod.kin J hs hf ?_
  exact call_own (vs := [.ref a]) (us := [.ref a]) F hb ⟨hr, rfl⟩ I (.cons rfl .nil) h5
/-- == of two of one own class by its own == -/
theorem op_eqO (D : OCal X.prog X.w X.K X.mg X.base C "__eq__" k sp) (hr : Room k X.A) : OpR X (compareOp .Eq) (rOwn X.K C sp) := by
  intro pins s σ H x y v u Q I rx ry ⟨a, b, dx, dy, fs, gs, h1, h2, h3, h4, h5⟩
  obtain ⟨f, fd, ps, F, hs, hf, hb⟩ := D.ex
  subst h1 h2
  cases rx
  cases ry
  obtain ⟨mA, J, _⟩ := ins_get I.hok h3
  obtain ⟨mB, J', _⟩ := ins_get I.hok h4
  obtain ⟨od, J, _⟩ := J.look
  obtain ⟨od', J', _⟩ := J'.look
  obtain ⟨m, hF⟩ := I.fr
  show wpAny _ _ (richCompare .Eq _ _) _ _ _
  refine PySem.W.cmp_K (op := .Eq) (tb := .ref C) hr.units0 hF I.ok.mod.kin J J'.type (by simp [PySem.W.notFirst]) hs hf ?_
  refine thn (call_own (vs := [.ref a, .ref b]) (us := [.ref a, .ref b]) F hb ⟨hr, rfl⟩ I (.cons rfl (.cons rfl .nil)) h5) fun w s1 ⟨v, H1, I1, r1, q1⟩ => relV_back r1 ⟨v, H1, I1, r1, q1⟩
/-- == of one of an own class and an int -/
theorem op_eqOI (D : OCal X.prog X.w X.K X.mg X.base C "__eq__" k sp) (hr : Room k X.A) (hn : PySem.W.notFirst X.K C (.type "int") = true) : OpR X (compareOp .Eq) (rOwnI C sp) := by
  intro pins s σ H x y v u Q I rx ry ⟨a, dx, fs, i, h1, h2, h3, h5⟩
  obtain ⟨f, fd, ps, F, hs, hf, hb⟩ := D.ex
  subst h1 h2
  cases rx
  obtain ⟨t, ry⟩ := ry
  subst ry
  obtain ⟨mA, J, _⟩ := ins_get I.hok h3
  obtain ⟨od, J, _⟩ := J.look
  obtain ⟨m, hF⟩ := I.fr
  show wpAny _ _ (richCompare .Eq _ _) _ _ _
  refine PySem.W.cmp_K (op := .Eq) (tb := .type "int") hr.units0 hF I.ok.mod.kin J (PySem.W.Looks.of_pure rfl) hn hs hf ?_
  refine thn (call_own (vs := [.ref a, .int i]) (us := [.ref a, .int i t]) F hb ⟨hr, rfl⟩ I (.cons rfl (.cons ⟨t, rfl⟩ .nil)) h5) fun w s1 ⟨v, H1, I1, r1, q1⟩ => relV_back r1 ⟨v, H1, I1, r1, q1⟩

end
end G
namespace PySem.W
open PySem PySem.Calls PyProof.Rows
section
variable {prog : Program} {w : World} {A : Around} {E : Value → Shared → Prop} {s : Shared} {K : Frag} {x C L f : Addr} {h₀ : Heap} {m : Str → Option Value} {ox : Obj} {od : Option Obj} {b tb : Value}
theorem gne_bound {M : Model} {args : List Value} {Q : Option Value → Shared → Prop} (X : K.In s.heap) (I : InstAt s.heap x ox C od) (hs : findIn K (.ref C) "__ne__" = some (some (.builtin "object.__ne__")))
    (h : wpAny M A (call (.builtin "object.__ne__") (.ref x :: args)) (fun v => Q (some v)) E s) : wpAny M A (callSpecialIfBound? (.ref x) "__ne__" args) Q E s := by
  simp only [callSpecialIfBound?, bindSpecialIfBound?]
  refine wpAny_holding (wpAny_bind (wpAny_bind (wpAny_bind (I.type.here ((looks_findIn X hs).here ?_)))))
  refine wpAny_bind (wpAny_askSetting (wpAny_ite ?_))
  have fin : wpAny M A (call (.builtin "object.__ne__") ([.ref x] ++ args) >>= fun v => pure (some v)) Q E s := wpAny_bind (wpAny_mono h (fun v s' h' => wpAny_pure h') fun _ _ h' => h')
  have L : Looks M s.heap (bindSpecial (.builtin "object.__ne__") (.ref x)) (.builtin "object.__ne__", [.ref x]) := Looks.of_pure (F.cmp_object.ne.bind _)
  split
  · exact wpAny_bind (L.here (wpAny_pure (by exact fin)))
  · exact wpAny_tryCatch (wpAny_bind (L.here (wpAny_pure (by exact fin))))
theorem gne_entry {Q : Fin → Shared → Prop} (X : K.In s.heap) (I : InstAt s.heap x ox C od) (hu : A.units < cLine) (hs : findIn K (.ref C) "__eq__" = some (some (.ref f))) (hf : isFn K (.ref f) = true)
    (h : wpAny (model prog w) A (call (.ref f) [.ref x, b]) (fun v s' => ∃ r, v = .bool r ∧ Q (.done (.ret (.bool (!r)))) s') E s) : wpAny (model prog w) A (Builtin.«object.__ne__» ⟨[.ref x, b], []⟩) Q E s := by
  unfold Builtin.«object.__ne__»
  repeat (first
    | with_reducible refine wpAny_cRoomFor hu ?_
    | (refine wpAny_bind (m := callSpecialIfBound? (.ref x) (Str.ofString "__eq__") [b])
        (ifBound_K X I hs hf (wpAny_mono h (fun r s' hr => by
          obtain ⟨q, rfl, hq⟩ := hr
          repeat (first | exact hq | exact wpAny_pure hq | exact wpAny_truthy_bool hq | (refine wpAny_bind (m := truthy (.bool _)) (wpAny_truthy_bool ?_)) | wp_step)) fun _ _ e => e)))
    | wp_step)
theorem gne_K {Q : Value → Shared → Prop} (hu : A.units + 1 < cLine) (FF : Fr h₀ L s.heap m) (X₀ : K.In h₀) (I : InstAt s.heap x ox C od) (hb : Looks (model prog w) s.heap (typeOf b) tb) (hn : notFirst K C tb = true)
    (hne : findIn K (.ref C) "__ne__" = some (some (.builtin "object.__ne__"))) (hob : subIn K (.ref C) (.type "object") = some true) (hs : findIn K (.ref C) "__eq__" = some (some (.ref f))) (hf : isFn K (.ref f) = true)
    (h : wpAny (model prog w) A.in1 (call (.ref f) [.ref x, b]) (fun v s' => ∃ r, v = .bool r ∧ Q (.bool (!r)) s') E s) : wpAny (model prog w) A (richCompare .NotEq (.ref x) b) Q E s := by
  have X := X₀.keeps FF.keep
  have one : wpAny (model prog w) A (tryCompare (.ref x) "__ne__" b) (fun r s' => ∃ v, r = some v ∧ Q v s') E s := by
    unfold tryCompare
    refine wpAny_bind (gne_bound X I hne (wpAny_call (codeAny_call_builtin F.cmp_object.ne.plain F.cmpEntry_ne (check_slot F.cmpKind_ne F.cmpSplit_ne (I.type.andThen (looks_subIn X hob)) (F.cmpArgs_ne _ _) (gne_entry X I hu hs hf (wpAny_mono h (fun v s' hv => ?_) fun _ _ e => e))))))
    obtain ⟨r, rfl, hq⟩ := hv
    exact ⟨r, rfl, by first | exact wpAny_pure ⟨_, rfl, hq⟩ | exact ⟨_, rfl, hq⟩⟩
  unfold richCompare
  simp only [oneThing_ref]
  refine wpAny_holding (wpAny_bind (wpAny_cRoomFor (Nat.lt_of_succ_lt hu) ?_))
  refine wpAny_bind (I.type.here (wpAny_bind (hb.here ?_)))
  rw [cmpInfo_NotEq]
  dsimp only
  split
  · rename_i q
    have e : subIn K tb (.ref C) = some false := by
      rcases Bool.or_eq_true_iff.mp hn with e | e
      · rw [beq_iff_eq.mp e] at q; simp at q
      · exact beq_iff_eq.mp e
    refine wpAny_bind ((looks_subIn X e).here ?_)
    simp only [Bool.false_eq_true, if_false]
    refine wpAny_bind (wpAny_mono one (fun r s' z => ?_) fun _ _ e => e)
    obtain ⟨v, rfl, hq⟩ := z
    exact wpAny_pure hq
  · refine wpAny_bind (wpAny_pure ?_)
    simp only [Bool.false_eq_true, if_false]
    refine wpAny_bind (wpAny_mono one (fun r s' z => ?_) fun _ _ e => e)
    obtain ⟨v, rfl, hq⟩ := z
    exact wpAny_pure hq
end
end PySem.W
set_option maxHeartbeats 4000000
namespace G
open PySem PySem.Spec PyProof.Rows L2 Evl
section
variable {X : Cx} {σ : L2.St} {H : Hp} {a b e l : Expr} {es : List Expr} {pos p : Pos} {P P1 P2 : Rep} {k : Nat} {sp : Sp} {C : Addr} {α : Type} {Qs : α → List Rep} {Post : α → Rep} {i j : Int}
/-- an instance of the class at C, whatever its fields -/
abbrev AtC (C : Addr) : Rep := fun v H => ∃ a dx fs, v = .ref a ∧ H a = some (.ins C dx fs)
theorem ins_at {F : List (Str × V) → Hp → Prop} {v : V} {H : Hp} (h : Ins C F v H) : AtC C v H := let ⟨a, dx, fs, h1, h2, _⟩ := h; ⟨a, dx, fs, h1, h2⟩
theorem eg_mulO (hc : IntMulOk i j) (ha : EG X a σ H (IsI i)) (hb : EG X b σ H (IsI j)) : EG X (.BinOp a .Mult b pos) σ H (IsI (i * j)) :=
  eg_of (pe_op (r := rI IntMulOk fun i j => .int (i * j)) (opI fun _ _ _ _ _ _ _ hc q => mul_int q hc) pe_W pe_W) (ep_op ha hb fun x y H1 _ px py Q q => ⟨i, j, px, py, hc, q _ H1 (Ex.refl H1) rfl⟩)
/-- a op b, both of the class at C -/
theorem eg_opO {op : Operator} (t : α) [h1 : Mono P1] (D : OCal X.prog X.w X.K X.mg X.base C (PySem.dunder op.info.2) k (PSp Qs Post)) (hr : Room k X.A) (hc : PySem.W.selfFirst X.K C = true) (ha : EG X a σ H P1) (hb : EG X b σ H P2)
    (i1 : ∀ v H, P1 v H → AtC C v H) (i2 : ∀ v H, P2 v H → AtC C v H) (hq : ∀ x y H, P1 x H → P2 y H → Args (Qs t) [x, y] H) (hp : ∀ v H, Post t v H → P v H := by exact fun _ _ h => h) : EG X (.BinOp a op b pos) σ H P :=
  eg_of (pe_op (op_own hc D hr) pe_W pe_W) (ep_op ha hb fun x y H1 _ px py Q q => by
    obtain ⟨a, dx, fs, e1, e2⟩ := i1 x H1 px
    obtain ⟨b, dy, gs, e3, e4⟩ := i2 y H1 py
    exact ⟨a, b, dx, dy, fs, gs, e1, e3, e2, e4, t, hq x y H1 px py, fun v H2 e h => q v H2 e (hp v H2 h)⟩)
theorem eg_opOI {op : Operator} (t : α) [h1 : Mono P1] (D : OCal X.prog X.w X.K X.mg X.base C (PySem.dunder op.info.2) k (PSp Qs Post)) (hr : Room k X.A) (hc : PySem.W.selfFirst X.K C = true) (S : SlotT X.K C op.info.2 "int") (ha : EG X a σ H P1) (hb : EG X b σ H (IsI i))
    (i1 : ∀ v H, P1 v H → AtC C v H) (hq : ∀ x H, P1 x H → Args (Qs t) [x, .int i] H) (hp : ∀ v H, Post t v H → P v H := by exact fun _ _ h => h) : EG X (.BinOp a op b pos) σ H P :=
  eg_of (pe_op (op_ownI hc D hr S) pe_W pe_W) (ep_op ha hb fun x y H1 _ px py Q q => by
    obtain ⟨a, dx, fs, e1, e2⟩ := i1 x H1 px
    have e3 : y = .int i := py
    subst e3
    exact ⟨a, dx, fs, i, e1, rfl, e2, t, hq x H1 px, fun v H2 e h => q v H2 e (hp v H2 h)⟩)
theorem eg_negO (t : α) (D : OCal X.prog X.w X.K X.mg X.base C "__neg__" k (PSp Qs Post)) (hr : Room k X.A) (ha : EG X a σ H P1) (i1 : ∀ v H, P1 v H → AtC C v H) (hq : ∀ x H, P1 x H → Args (Qs t) [x] H) (hp : ∀ v H, Post t v H → P v H := by exact fun _ _ h => h) : EG X (.UnaryOp .USub a pos) σ H P :=
  eg_of (pe_un (un_own D hr) pe_W) (ep_un ha fun x H1 _ px Q q => by
    obtain ⟨a, dx, fs, e1, e2⟩ := i1 x H1 px
    exact ⟨a, dx, fs, e1, e2, t, hq x H1 px, fun v H2 e h => q v H2 e (hp v H2 h)⟩)
/-- == by an own one -/
theorem cg_eqO {bz : Bool} {bb : α → Bool} (t : α) [h1 : Mono P1] (D : OCal X.prog X.w X.K X.mg X.base C "__eq__" k (PSp Qs fun a => IsB (bb a))) (hr : Room k X.A) (ha : EG X a σ H P1) (hb : EG X b σ H P2)
    (i1 : ∀ v H, P1 v H → AtC C v H) (i2 : ∀ v H, P2 v H → AtC C v H) (hq : ∀ x y H, P1 x H → P2 y H → Args (Qs t) [x, y] H) (hbb : bb t = bz) : CG X .Eq a b σ H bz := hbb ▸
  cg_of (op_eqO D hr) ha hb fun x y H1 _ px py Q q => by
    obtain ⟨a, dx, fs, e1, e2⟩ := i1 x H1 px
    obtain ⟨b, dy, gs, e3, e4⟩ := i2 y H1 py
    exact ⟨a, b, dx, dy, fs, gs, e1, e3, e2, e4, t, hq x y H1 px py, fun v H' e hv => by rw [show v = .bl (bb t) from hv]; exact q H' e⟩
theorem cg_eqOI {bz : Bool} {bb : α → Bool} (t : α) [h1 : Mono P1] (D : OCal X.prog X.w X.K X.mg X.base C "__eq__" k (PSp Qs fun a => IsB (bb a))) (hr : Room k X.A) (hn : PySem.W.notFirst X.K C (.type "int") = true) (ha : EG X a σ H P1) (hb : EG X b σ H (IsI i))
    (i1 : ∀ v H, P1 v H → AtC C v H) (hq : ∀ x H, P1 x H → Args (Qs t) [x, .int i] H) (hbb : bb t = bz) : CG X .Eq a b σ H bz := hbb ▸
  cg_of (op_eqOI D hr hn) ha hb fun x y H1 _ px py Q q => by
    obtain ⟨a, dx, fs, e1, e2⟩ := i1 x H1 px
    have e3 : y = .int i := py
    subst e3
    exact ⟨a, dx, fs, i, e1, rfl, e2, t, hq x H1 px, fun v H' e hv => by rw [show v = .bl (bb t) from hv]; exact q H' e⟩
/-- != by an own == -/
structure NeO (K : PySem.W.Frag) (C : Addr) : Prop where
  ne : PySem.W.findIn K (.ref C) "__ne__" = some (some (.builtin "object.__ne__"))
  ob : PySem.W.subIn K (.ref C) (.type "object") = some true
def rOwnNe (C : Addr) (sp : Sp) : R2 := fun x y H Q => ∃ a b dx dy fs gs, x = .ref a ∧ y = .ref b ∧ H a = some (.ins C dx fs) ∧ H b = some (.ins C dy gs) ∧ sp [x, y] H (fun v H' => ∃ r, v = .bl r ∧ Q (.bl (!r)) H') E0
theorem op_neO (N : NeO X.K C) (D : OCal X.prog X.w X.K X.mg X.base C "__eq__" k sp) (hr : Room (k + 1) X.A) : OpR X (compareOp .NotEq) (rOwnNe C sp) := by
  intro pins s σ H x y v u Q I rx ry ⟨a, b, dx, dy, fs, gs, h1, h2, h3, h4, h5⟩
  obtain ⟨f, fd, ps, F, hs, hf, hb⟩ := D.ex
  subst h1 h2
  cases rx
  cases ry
  obtain ⟨mA, J, _⟩ := ins_get I.hok h3
  obtain ⟨mB, J', _⟩ := ins_get I.hok h4
  obtain ⟨od, J, _⟩ := J.look
  obtain ⟨od', J', _⟩ := J'.look
  obtain ⟨m, hF⟩ := I.fr
  show wpAny _ _ (richCompare .NotEq _ _) _ _ _
  have sb : Sub X k X.A.in1 := L2.Sub.in1 ⟨hr, rfl⟩
  refine PySem.W.gne_K (tb := .ref C) sb.room.units0 hF I.ok.mod.kin J J'.type (by simp [PySem.W.notFirst]) N.ne N.ob hs hf ?_
  refine thn (call_own (vs := [.ref a, .ref b]) (us := [.ref a, .ref b]) F hb sb I (.cons rfl (.cons rfl .nil)) h5) fun w s1 ⟨v, H1, I1, r1, r, q1, q2⟩ => ?_
  subst q1
  cases (show w = _ from r1)
  exact ⟨r, rfl, .bl (!r), H1, I1, rfl, q2⟩
theorem cg_neO {bz : Bool} {bb : α → Bool} (t : α) [h1 : Mono P1] (N : NeO X.K C) (D : OCal X.prog X.w X.K X.mg X.base C "__eq__" k (PSp Qs fun a => IsB (bb a))) (hr : Room (k + 1) X.A) (ha : EG X a σ H P1) (hb : EG X b σ H P2)
    (i1 : ∀ v H, P1 v H → AtC C v H) (i2 : ∀ v H, P2 v H → AtC C v H) (hq : ∀ x y H, P1 x H → P2 y H → Args (Qs t) [x, y] H) (hbb : (!bb t) = bz) : CG X .NotEq a b σ H bz := hbb ▸
  cg_of (op_neO N D hr) ha hb fun x y H1 _ px py Q q => by
    obtain ⟨a, dx, fs, e1, e2⟩ := i1 x H1 px
    obtain ⟨b, dy, gs, e3, e4⟩ := i2 y H1 py
    exact ⟨a, b, dx, dy, fs, gs, e1, e3, e2, e4, t, hq x y H1 px py, fun v H' e hv => ⟨bb t, hv, q H' e⟩⟩

/-! ### subscripts, slices -/
theorem all2_at {R : α → Rep} {as : List α} {xs : List V} {n : Nat} {x : α} (h : All2 R as xs H) (hx : as[n]? = some x) : ∃ v, xs[n]? = some v ∧ R x v H := h.get2 hx
theorem eg_ixL {R : α → Rep} {as : List α} {n : Nat} {x : α} [hR : ∀ a, Mono (R a)] (ha : EG X a σ H (IsL R as)) (hb : EG X b σ H (IsI (n : Int))) (hx : as[n]? = some x) (hs : PlainIx b := by exact fun _ _ => rfl) : EG X (.Subscript a b pos) σ H (R x) :=
  eg_of (pe_ix ix_list pe_W pe_W hs) (ep_op ha hb fun v y H1 _ ⟨q, xs, h1, h2, h3⟩ py Q qq => by
    obtain ⟨w, hw, rw⟩ := h3.get2 hx
    exact ⟨q, xs, n, w, h1, py, SqL.of h2, atI_nat hw, qq w H1 (Ex.refl H1) rw⟩)
theorem eg_ixT {R : α → Rep} {as : List α} {n : Nat} {x : α} [hR : ∀ a, Mono (R a)] (ha : EG X a σ H (IsT R as)) (hb : EG X b σ H (IsI (n : Int))) (hx : as[n]? = some x) (hs : PlainIx b := by exact fun _ _ => rfl) : EG X (.Subscript a b pos) σ H (R x) :=
  eg_of (pe_ix ix_tup pe_W pe_W hs) (ep_op ha hb fun v y H1 _ ⟨q, xs, h1, h2, h3⟩ py Q qq => by
    obtain ⟨w, hw, rw⟩ := h3.get2 hx
    exact ⟨q, xs, n, w, h1, py, SqT.of h2, atI_nat hw, qq w H1 (Ex.refl H1) rw⟩)
/-- l[i:] of a list, i a number -/
theorem eg_from {R : α → Rep} {as : List α} {n : Nat} {p2 : Pos} [hR : ∀ a, Mono (R a)] (ha : EG X a σ H (IsL R as)) (hb : EG X b σ H (IsI (n : Int))) : EG X (.Subscript a (.Slice (some b) none none p2) pos) σ H (IsL R (as.drop n)) :=
  eg_of (pe_slice sl_list pe_W (po_some pe_W) po_none) fun H1 e1 Q q => ha H1 e1 _ fun v H2 e2 ⟨c, xs, h1, h2, h3⟩ => hb H2 (e1.trans e2) _ fun y H3 e3 py => by
    refine ⟨n, py, c, xs, h1, SqL.of (e3 _ _ h2), fun d hd => ?_⟩
    have cut : cutV xs (some (n : Int)) none = xs.drop n := by
      unfold cutV
      rw [HT.sIx_none, HT.sIx_nat]
      by_cases hn : n ≤ xs.length
      · rw [Nat.min_eq_left hn]
        exact List.take_of_length_le (by rw [List.length_drop]; omega)
      · rw [Nat.min_eq_right (by omega), List.drop_length, List.drop_of_length_le (by omega)]
        simp
    rw [cut]
    exact q _ _ ((e2.trans e3).trans (Ex.new hd)) ⟨d, _, rfl, upd_same, (h3.drop n).up hR (e3.trans (Ex.new hd))⟩
/-- l[:i] -/
theorem eg_upto {R : α → Rep} {as : List α} {n : Nat} {p2 : Pos} [hR : ∀ a, Mono (R a)] (ha : EG X a σ H (IsL R as)) (hb : EG X b σ H (IsI (n : Int))) (hl : as.length ≤ n) : EG X (.Subscript a (.Slice none (some b) none p2) pos) σ H (IsL R as) :=
  eg_of (pe_slice sl_list pe_W po_none (po_some pe_W)) fun H1 e1 Q q => ha H1 e1 _ fun v H2 e2 ⟨c, xs, h1, h2, h3⟩ => hb H2 (e1.trans e2) _ fun y H3 e3 py => by
    refine ⟨n, py, c, xs, h1, SqL.of (e3 _ _ h2), fun d hd => ?_⟩
    have hx := h3.length
    have cut : cutV xs none (some (n : Int)) = xs := by
      unfold cutV
      rw [HT.sIx_none, HT.sIx_nat, Nat.min_eq_right (by omega), List.drop_zero, Nat.sub_zero, List.take_length]
    rw [cut]
    exact q _ _ ((e2.trans e3).trans (Ex.new hd)) ⟨d, _, rfl, upd_same, h3.up hR (e3.trans (Ex.new hd))⟩

/-! ### built-in calls -/
theorem eg_len {R : α → Rep} {as : List α} (hm : X.mg "len" = none) (ha : EG X e σ H (IsL R as)) (hg : Gl X "len" := by rfl) (he : starEach [e] X.env = (false, eval e X.env) :: starEach [] X.env := by rfl) [hR : ∀ a, Mono (R a)] : EG X (.Call (.Name "len" p) [e] [] pos) σ H (IsI (as.length : Int)) :=
  eg_callB call_len_seq hm rfl (ag_cons ha ag_nil he) (fun vs H1 _ ⟨v, r, h1, ⟨c, xs, h2, h3, h4⟩, h5⟩ Q q => ⟨c, xs, by rw [h1, show r = [] from h5, h2], .inl (SqL.of h3), q _ H1 (Ex.refl H1) (by rw [h4.length]; rfl)⟩) hg (by decide) (by decide) he rfl
theorem eg_lenT {R : α → Rep} {as : List α} (hm : X.mg "len" = none) (ha : EG X e σ H (IsT R as)) (hg : Gl X "len" := by rfl) (he : starEach [e] X.env = (false, eval e X.env) :: starEach [] X.env := by rfl) [hR : ∀ a, Mono (R a)] : EG X (.Call (.Name "len" p) [e] [] pos) σ H (IsI (as.length : Int)) :=
  eg_callB call_len_seq hm rfl (ag_cons ha ag_nil he) (fun vs H1 _ ⟨v, r, h1, ⟨c, xs, h2, h3, h4⟩, h5⟩ Q q => ⟨c, xs, by rw [h1, show r = [] from h5, h2], .inr (SqT.of h3), q _ H1 (Ex.refl H1) (by rw [h4.length]; rfl)⟩) hg (by decide) (by decide) he rfl
theorem eg_sum {ns : List Int} (hm : X.mg "sum" = none) (hc : X.calm = true) (ha : EG X e σ H (IsL IsI ns)) (hg : Gl X "sum" := by rfl) (he : starEach [e] X.env = (false, eval e X.env) :: starEach [] X.env := by rfl) : EG X (.Call (.Name "sum" p) [e] [] pos) σ H (IsI ns.sum) :=
  eg_callB (cr_sum hc) hm rfl (ag_cons ha ag_nil he) (fun vs H1 _ ⟨v, r, h1, ⟨c, xs, h2, h3, h4⟩, h5⟩ Q q => ⟨c, ns, by rw [h1, show r = [] from h5, h2], SqL.of (by rw [h3, all2_ints h4]), q _ H1 (Ex.refl H1) rfl⟩) hg (by decide) (by decide) he rfl
theorem all2_bls {H : Hp} : ∀ {bs : List Bool} {xs : List V}, All2 IsB bs xs H → xs = bs.map V.bl
  | [], _, h => h
  | n :: ns, _, ⟨x, r, hx, h, t⟩ => by
    rw [hx, show x = _ from h, all2_bls t]
    rfl
theorem eg_all {bs : List Bool} (hm : X.mg "all" = none) (hc : X.calm = true) (ha : EG X e σ H (IsL IsB bs)) (hg : Gl X "all" := by rfl) (he : starEach [e] X.env = (false, eval e X.env) :: starEach [] X.env := by rfl) : EG X (.Call (.Name "all" p) [e] [] pos) σ H (IsB (bs.all id)) :=
  eg_callB (cr_all hc) hm rfl (ag_cons ha ag_nil he) (fun vs H1 _ ⟨v, r, h1, ⟨c, xs, h2, h3, h4⟩, h5⟩ Q q => ⟨c, bs, by rw [h1, show r = [] from h5, h2], SqL.of (by rw [h3, all2_bls h4]), q _ H1 (Ex.refl H1) rfl⟩) hg (by decide) (by decide) he rfl
/-- tuple(l) of a list -/
theorem eg_tupleL {R : α → Rep} {as : List α} [hR : ∀ a, Mono (R a)] (hm : X.mg "tuple" = none) (ha : EG X e σ H (IsL R as)) (hg : Gl X "tuple" := by rfl) (he : starEach [e] X.env = (false, eval e X.env) :: starEach [] X.env := by rfl) : EG X (.Call (.Name "tuple" p) [e] [] pos) σ H (IsT R as) :=
  eg_callTy call_tuple_of hm rfl (ag_cons ha ag_nil he) (fun vs H1 _ ⟨v, r, h1, ⟨c, xs, h2, h3, h4⟩, h5⟩ Q q => ⟨c, xs, by rw [h1, show r = [] from h5, h2], .inl ⟨SqL.of h3, fun l hl => q _ _ (Ex.new hl) ⟨l, xs, rfl, upd_same, h4.up hR (Ex.new hl)⟩⟩⟩) hg (by decide) (by decide) he rfl
theorem eg_intI (hm : X.mg "int" = none) (ha : EG X e σ H (IsI i)) (hg : Gl X "int" := by rfl) (he : starEach [e] X.env = (false, eval e X.env) :: starEach [] X.env := by rfl) : EG X (.Call (.Name "int" p) [e] [] pos) σ H (IsI i) :=
  eg_callTy call_int1 hm rfl (ag_cons ha ag_nil he) (fun vs H1 _ ⟨v, r, h1, h2, h5⟩ Q q => .inl ⟨i, by rw [h1, show r = [] from h5, show v = _ from h2], q _ H1 (Ex.refl H1) rfl⟩) hg (by decide) (by decide) he rfl
theorem eg_intB {bb : Bool} (hm : X.mg "int" = none) (ha : EG X e σ H (IsB bb)) (hg : Gl X "int" := by rfl) (he : starEach [e] X.env = (false, eval e X.env) :: starEach [] X.env := by rfl) : EG X (.Call (.Name "int" p) [e] [] pos) σ H (IsI (if bb then 1 else 0)) :=
  eg_callTy call_int1 hm rfl (ag_cons ha ag_nil he) (fun vs H1 _ ⟨v, r, h1, h2, h5⟩ Q q => .inr ⟨bb, by rw [h1, show r = [] from h5, show v = _ from h2], q _ H1 (Ex.refl H1) rfl⟩) hg (by decide) (by decide) he rfl
theorem eg_abs (hm : X.mg "abs" = none) (ha : EG X e σ H (IsI i)) (hg : Gl X "abs" := by rfl) (he : starEach [e] X.env = (false, eval e X.env) :: starEach [] X.env := by rfl) : EG X (.Call (.Name "abs" p) [e] [] pos) σ H (IsI (i.natAbs : Int)) :=
  eg_callB L2.call_abs hm rfl (ag_cons ha ag_nil he) (fun vs H1 _ ⟨v, r, h1, h2, h5⟩ Q q => ⟨i, by rw [h1, show r = [] from h5, show v = _ from h2], q _ H1 (Ex.refl H1) (by show V.int _ = V.int _; congr 1; split <;> omega)⟩) hg (by decide) (by decide) he rfl
theorem eg_gcd {x : Str} (hm : X.mg x = some (.builtin "math.gcd")) (ha : EG X a σ H (IsI i)) (hb : EG X b σ H (IsI j)) (hg : Gl X x := by rfl) (hdb : (x == ("__debug__" : Str)) = false := by decide) (he : starEach [a, b] X.env = (false, eval a X.env) :: starEach [b] X.env := by rfl) (he2 : starEach [b] X.env = (false, eval b X.env) :: starEach [] X.env := by rfl)
    (hpl : (backTo pos (starEach [b] X.env)).any (·.1) = false := by rfl) : EG X (.Call (.Name x p) [a, b] [] pos) σ H (IsI ((Nat.gcd i.natAbs j.natAbs : Nat) : Int)) :=
  eg_callF cr_gcd hm (ag_cons ha (ag_cons hb ag_nil he2) he) (fun vs H1 _ ⟨v, r, h1, h2, w, r2, h3, h4, h5⟩ Q q => ⟨i, j, by rw [h1, h3, show r2 = [] from h5, show v = _ from h2, show w = _ from h4], q _ H1 (Ex.refl H1) rfl⟩) hg hdb he hpl
/-- math.lcm of two ints below 2 ^ 13000 -/
def rLcm : List V → Hp → VK → Prop := fun vs H Q => ∃ a b : Int, vs = [.int a, .int b] ∧ 0 < a ∧ 0 < b ∧ a.natAbs < 2 ^ 6000 ∧ b.natAbs < 2 ^ 6000 ∧ Q (.int ((Nat.lcm a.natAbs b.natAbs : Nat) : Int)) H
end
end G
set_option maxHeartbeats 4000000
namespace G
open PySem PySem.Spec PyProof.Rows L2 Evl
section
variable {X : Cx} {σ : L2.St} {H : Hp} {a b c e l : Expr} {es : List Expr} {pos p : Pos} {P P1 P2 P3 : Rep} {k : Nat} {sp : Sp} {C : Addr} {α : Type} {Qs : α → List Rep} {Post : α → Rep} {i j : Int} {bb : Bool}
/-! ### lcm -/
theorem lcm_log {n : Nat} (h : n < 2 ^ 13000) : ¬ n.log2 / 30 + 1 > 450 := by
  have : n.log2 ≤ 12999 := PySem.W.mg_log h
  omega
theorem cr_lcm : CallR X (.builtin "math.lcm") rLcm := by
  intro pins s σ H vs us Q I r ⟨a, b, h1, ha, hb, h2, h3, q⟩
  subst h1
  obtain ⟨t, u, rfl⟩ := Vals.int2 r
  have pw : (2 : Nat) ^ 6000 * 2 ^ 6000 = 2 ^ 12000 := by rw [← Nat.pow_add]
  have p13 : (2 : Nat) ^ 12000 ≤ 2 ^ 13000 := Nat.pow_le_pow_right (by decide) (by decide)
  have p6 : (2 : Nat) ^ 6000 ≤ 2 ^ 12000 := Nat.pow_le_pow_right (by decide) (by decide)
  have o6 : 1 ≤ (2 : Nat) ^ 6000 := Nat.one_le_two_pow
  have lt : a.natAbs.lcm b.natAbs < 2 ^ 12000 := by
    refine Nat.lt_of_le_of_lt (Nat.le_trans (Nat.div_le_self _ _) (Nat.le_refl _)) ?_
    rw [← pw]
    exact Nat.mul_lt_mul'' h2 h3
  have e1 : Nat.lcm 1 a.natAbs = a.natAbs := PySem.W.mc_lcm_one _
  have l1 : ¬ (max 1 a.natAbs).log2 / 30 + 1 > 450 := lcm_log (by omega)
  have l2 : ¬ (max a.natAbs b.natAbs).log2 / 30 + 1 > 450 := lcm_log (by omega)
  have hsz : ((((Nat.lcm 1 a.natAbs).lcm b.natAbs : Nat) : Int)).natAbs.log2 < bitsLine := by
    rw [e1, Int.natAbs_natCast]
    have z : (a.natAbs.lcm b.natAbs).log2 ≤ 12999 := PySem.W.mg_log (Nat.lt_of_lt_of_le lt p13)
    rw [bitsLine_eq]
    omega
  have g := PySem.W.mg_run_lcm a t b u l1 l2 hsz
  refine call_function_meets PySem.W.MGF.kind_lcm PySem.W.MGF.plain_lcm PySem.W.MGF.entry_lcm (PySem.W.MGF.args_lcm _ _) g.meets ?_
  exact ⟨.int _, H, I.tok _, ⟨_, by rw [e1]⟩, q⟩
theorem eg_lcm {x : Str} (hm : X.mg x = some (.builtin "math.lcm")) (h1 : 0 < i) (h2 : 0 < j) (h3 : i.natAbs < 2 ^ 6000) (h4 : j.natAbs < 2 ^ 6000) (ha : EG X a σ H (IsI i)) (hb : EG X b σ H (IsI j)) (hg : Gl X x := by rfl) (hdb : (x == ("__debug__" : Str)) = false := by decide)
    (he : starEach [a, b] X.env = (false, eval a X.env) :: starEach [b] X.env := by rfl) (he2 : starEach [b] X.env = (false, eval b X.env) :: starEach [] X.env := by rfl)
    (hpl : (backTo pos (starEach [b] X.env)).any (·.1) = false := by rfl) : EG X (.Call (.Name x p) [a, b] [] pos) σ H (IsI ((Nat.lcm i.natAbs j.natAbs : Nat) : Int)) :=
  eg_callF cr_lcm hm (ag_cons ha (ag_cons hb ag_nil he2) he) (fun vs H1 _ ⟨v, r, q1, q2, w, r2, q3, q4, q5⟩ Q q => ⟨i, j, by rw [q1, q3, show r2 = [] from q5, show v = _ from q2, show w = _ from q4], h1, h2, h3, h4, q _ H1 (Ex.refl H1) rfl⟩) hg hdb he hpl

/-! ### isinstance -/
structure IsiC (K : PySem.W.Frag) (C : Addr) : Prop where
  cl : Cls K C
  ha : PySem.W.findIn K (.ref C) "__class__" = some (some (.builtin "object.__class__"))
  hn : PySem.W.specialIn K (.builtin "object.__class__") "__get__" = some (some (.builtin "getset_descriptor.__get__"))
  ht : PySem.W.takesIn K (.builtin "object.__class__") = some true
  hm : PySem.W.mroIn K C (.type "object") = some true
theorem IsiC.ty {K : PySem.W.Frag} {v : V} (c : IsiC K C) (h : AtC C v H) : TyX K H v (.ref C) := by
  obtain ⟨a, dx, fs, h1, h2⟩ := h
  subst h1
  exact .base (.ins h2 c.cl c.ha c.hn c.ht c.hm)
theorem eg_isi {w : V} {u : Value} [h1 : Mono P1] (hm : X.mg "isinstance" = none) (ha : EG X a σ H P1) (hb : EG X b σ H (IsV w)) (hk : ClsV w u) (ht : ∀ v H, P1 v H → ∃ t, TyX X.K H v t ∧ PySem.W.kitOne X.K t u = some bb) (hg : Gl X "isinstance" := by rfl)
    (he : starEach [a, b] X.env = (false, eval a X.env) :: starEach [b] X.env := by rfl) (he2 : starEach [b] X.env = (false, eval b X.env) :: starEach [] X.env := by rfl) (hpl : (backTo pos (starEach [b] X.env)).any (·.1) = false := by rfl) :
    EG X (.Call (.Name "isinstance" p) [a, b] [] pos) σ H (IsB bb) :=
  eg_callB call_isi hm rfl (ag_cons ha (ag_cons hb ag_nil he2) he) (fun vs H1 _ ⟨v, r, q1, q2, x, r2, q3, q4, q5⟩ Q q => by
    obtain ⟨t, h3, h4⟩ := ht v H1 q2
    exact ⟨v, w, t, u, bb, by rw [q1, q3, show r2 = [] from q5, show x = _ from q4], hk, h3, h4, q _ H1 (Ex.refl H1) rfl⟩) hg (by decide) (by decide) he hpl
theorem eg_isiT {w1 w2 : V} {u1 u2 : Value} [h1 : Mono P1] (hm : X.mg "isinstance" = none) (ha : EG X a σ H P1) (hb : EG X b σ H (TupOf [IsV w1, IsV w2])) (k1 : ClsV w1 u1) (k2 : ClsV w2 u2) (ht : ∀ v H, P1 v H → ∃ t, TyX X.K H v t ∧ PySem.W.kitAny X.K t [u1, u2] = some bb) (hg : Gl X "isinstance" := by rfl)
    (he : starEach [a, b] X.env = (false, eval a X.env) :: starEach [b] X.env := by rfl) (he2 : starEach [b] X.env = (false, eval b X.env) :: starEach [] X.env := by rfl) (hpl : (backTo pos (starEach [b] X.env)).any (·.1) = false := by rfl) :
    EG X (.Call (.Name "isinstance" p) [a, b] [] pos) σ H (IsB bb) :=
  eg_callB call_isiT hm rfl (ag_cons ha (ag_cons hb ag_nil he2) he) (fun vs H1 _ ⟨v, r, q1, q2, x, r2, q3, ⟨tp, xs, z1, z2, y1, s1, z3, z4, y2, s2, z5, z6, z7⟩, q5⟩ Q q => by
    obtain ⟨t, h3, h4⟩ := ht v H1 q2
    refine ⟨v, tp, [w1, w2], t, [u1, u2], bb, by rw [q1, q3, show r2 = [] from q5, z1], ?_, .cons k1 (.cons k2 .nil), h3, h4, q _ H1 (Ex.refl H1) rfl⟩
    rw [z2, z3, z5, show s2 = [] from z7, show y1 = _ from z4, show y2 = _ from z6]) hg (by decide) (by decide) he hpl

/-! ### more arguments -/
/-- [.., *l] where l is a tuple, a list: behind it words one by one -/
def Args2 {α : Type} (Ps : List Rep) (R : α → Rep) (as : List α) : List V → Hp → Prop := fun xs H => ∃ ys zs, xs = ys ++ zs ∧ Args Ps ys H ∧ All2 R as zs H
/-- [e, *t] as a list of one kind -/
theorem eg_lstStar {R : α → Rep} {x : α} {as : List α} {px : Pos} [hR : ∀ a, Mono (R a)] (he : EG X e σ H (R x)) (hl : EG X l σ H (IsT R as)) (hz : as.length ≤ 1000) (hs : starEach [e, .Starred l px] X.env = (false, eval e X.env) :: starEach [.Starred l px] X.env := by rfl)
    (hs2 : starEach [.Starred l px] X.env = (true, eval l X.env) :: starEach [] X.env := by rfl) : EG X (.List [e, .Starred l px] pos) σ H (IsL R (x :: as)) :=
  eg_of (pe_lst (pa_cons pe_W (StX.pa_star pe_W pa_nil hs2) hs)) fun H1 e1 Q q => he H1 e1 _ fun v H2 e2 pv => hl H2 (e1.trans e2) _ fun w H3 e3 ⟨c, xs, h1, h2, h3⟩ => by
    have hx := h3.length
    refine ⟨c, xs, h1, .inl (SqT.of h2), ?_⟩
    refine ⟨sz_of ?_, fun d hd => q _ _ ((e2.trans e3).trans (Ex.new hd)) ⟨d, v :: xs, rfl, by rw [upd_same, List.append_nil], v, xs, rfl, (hR x).up (e3.trans (Ex.new hd)) pv, h3.up hR (Ex.new hd)⟩⟩
    rw [List.append_nil, List.length_cons, hx]
    exact Nat.le_trans (Nat.succ_le_succ hz) (by decide)
/-! ### targets -/
section
variable {rest : List Stmt} {D : Ends} {x y z : Str} {px py pz pt : Pos} {kt k2 : Nat} {spos : Pos}
/-- x, y = e, e a tuple of two -/
theorem b_two (i j : Nat) {pt : Pos} (hN : X.N.Nodup) (he : EG X e σ H (TupOf [P1, P2])) (k : ∀ v w H1, Ex H H1 → P1 v H1 → P2 w H1 → BW X rest D ((σ.set i (some v)).set j (some w)) H1)
    (hi : X.N[i]? = some x := by rfl) (hj : X.N[j]? = some y := by rfl) (hl : Loc X.env.scope x := by first | exact Or.inl rfl | exact Or.inr rfl) (hl2 : Loc X.env.scope y := by first | exact Or.inl rfl | exact Or.inr rfl) (hc : X.calm = true := by rfl)
    (hf : X.fn x = true ∨ X.env.scope.names.lookup x = some .local := by first | exact .inl rfl | exact .inr rfl) (hf2 : X.fn y = true ∨ X.env.scope.names.lookup y = some .local := by first | exact .inl rfl | exact .inr rfl)
    (hn : (assignEach [.Name x px, .Name y py] X.env).length = 2 := by rfl) (hst : (assignEach [.Name x px, .Name y py] X.env).findIdx? (·.1) = none := by rfl)
    (hs1 : (assignEach [.Name x px, .Name y py] X.env).map (·.2) = assign (.Name x px) X.env :: (assignEach [.Name y py] X.env).map (·.2) := by rfl) (hs2 : (assignEach [.Name y py] X.env).map (·.2) = assign (.Name y py) X.env :: (assignEach [] X.env).map (·.2) := by rfl)
    (hs : swapsWithSole [.Tuple [.Name x px, .Name y py] kt pt] e spos.line X.env = pure false := by rfl) (hw : swappedStores [.Tuple [.Name x px, .Name y py] kt pt] e X.env = pure none := by rfl)
    (h1 : (assignEach [.Tuple [.Name x px, .Name y py] kt pt] X.env).map (·.2) = [assign (.Tuple [.Name x px, .Name y py] kt pt) X.env] := by rfl) : BW X (.Assign [.Tuple [.Name x px, .Name y py] kt pt] e spos :: rest) D σ H :=
  b_of (ps_asg pe_W (pg_tup hc (pgs_cons (pg_name hN hi hl hf) (pgs_cons (pg_name hN hj hl2 hf2) pgs_nil hs2) hs1) hn hst) hs hw h1) (he H (Ex.refl H) _ fun v H1 e1 ⟨c, xs, q1, q2, v1, r1, q3, q4, v2, r2, q5, q6, q7⟩ => by
    refine ⟨c, xs, q1, SqT.of q2, by rw [q3, q5, show r2 = [] from q7]; rfl, v1, r1, q3, v2, r2, q5, q7, ?_⟩
    exact k v1 v2 H1 e1 q4 q6)
/-- x, y = a, b: right away -/
theorem b_par (i j : Nat) {pt2 : Pos} (hN : X.N.Nodup) [h1 : Mono P1] (ha : EG X a σ H P1) (hb : EG X b σ H P2) (hij : i ≠ j) (k : ∀ v w H1, Ex H H1 → P1 v H1 → P2 w H1 → BW X rest D ((σ.set i (some v)).set j (some w)) H1)
    (hw : swappedStores [.Tuple [.Name x px, .Name y py] kt pt] (.Tuple [a, b] k2 pt2) X.env = pure (some [x, y])) (hi : X.N[i]? = some x := by rfl) (hj : X.N[j]? = some y := by rfl) (hx : X.env.scope.names.lookup x = some .local := by rfl) (hy : X.env.scope.names.lookup y = some .local := by rfl) (hc : X.calm = true := by rfl)
    (he : starEach [a, b] X.env = (false, eval a X.env) :: starEach [b] X.env := by rfl) (he2 : starEach [b] X.env = (false, eval b X.env) :: starEach [] X.env := by rfl)
    (hs : swapsWithSole [.Tuple [.Name x px, .Name y py] kt pt] (.Tuple [a, b] k2 pt2) spos.line X.env = pure false := by rfl) : BW X (.Assign [.Tuple [.Name x px, .Name y py] kt pt] (.Tuple [a, b] k2 pt2) spos :: rest) D σ H :=
  b_of (ps_par hc hN hi hj hij hx hy (pa_cons pe_W (pa_cons pe_W pa_nil he2) he) hw hs) (ha H (Ex.refl H) _ fun v H1 e1 pv => hb H1 e1 _ fun w H2 e2 pw => ⟨v, w, rfl, k v w H2 (e1.trans e2) (h1.up e2 pv) pw⟩)
end
end
end G
set_option maxHeartbeats 4000000
/-! E: values as plain data; what an expression of a def evaluates to, by the data that its names hold. -/
namespace E
open PySem PySem.Spec PyProof.Rows L2 Evl G

/-- a value as data -/
inductive PV where
  | non | bl (b : Bool) | int (i : Int) | str (z : Str) | ty (n : String) | ref (a : Addr)
  | lst (xs : List PV) | tup (xs : List PV) | dct (ks : List Key) (xs : List PV) | ins (C : Addr) (ks : List Str) (xs : List PV)
mutual
/-- the value v holds this data in the heap H -/
def PV.Is : PV → V → Hp → Prop
  | .non, v, _ => v = .non
  | .bl b, v, _ => v = .bl b
  | .int i, v, _ => v = .int i
  | .str z, v, _ => v = .str z
  | .ty n, v, _ => v = .ty n
  | .ref a, v, _ => v = .ref a
  | .lst xs, v, H => ∃ a vs, v = .ref a ∧ H a = some (.lst vs) ∧ PV.Iss xs vs H
  | .tup xs, v, H => ∃ a vs, v = .ref a ∧ H a = some (.tup vs) ∧ PV.Iss xs vs H
  | .dct ks xs, v, H => ∃ a vs, v = .ref a ∧ H a = some (.dK (ks.zip vs)) ∧ ks.length = xs.length ∧ PV.Iss xs vs H
  | .ins C ks xs, v, H => ∃ a dx vs, v = .ref a ∧ H a = some (.ins C dx (ks.zip vs)) ∧ ks.length = xs.length ∧ PV.Iss xs vs H
def PV.Iss : List PV → List V → Hp → Prop
  | [], vs, _ => vs = []
  | x :: xs, vs, H => ∃ y r, vs = y :: r ∧ x.Is y H ∧ PV.Iss xs r H
end
mutual
theorem PV.Is.up {H H' : Hp} (e : Ex H H') : ∀ {p : PV} {v : V}, p.Is v H → p.Is v H'
  | .non, _, h => h
  | .bl _, _, h => h
  | .int _, _, h => h
  | .str _, _, h => h
  | .ty _, _, h => h
  | .ref _, _, h => h
  | .lst _, _, ⟨a, vs, h1, h2, h3⟩ => ⟨a, vs, h1, e _ _ h2, PV.Iss.up e h3⟩
  | .tup _, _, ⟨a, vs, h1, h2, h3⟩ => ⟨a, vs, h1, e _ _ h2, PV.Iss.up e h3⟩
  | .dct _ _, _, ⟨a, vs, h1, h2, h3, h4⟩ => ⟨a, vs, h1, e _ _ h2, h3, PV.Iss.up e h4⟩
  | .ins _ _ _, _, ⟨a, dx, vs, h1, h2, h3, h4⟩ => ⟨a, dx, vs, h1, e _ _ h2, h3, PV.Iss.up e h4⟩
theorem PV.Iss.up {H H' : Hp} (e : Ex H H') : ∀ {ps : List PV} {vs : List V}, PV.Iss ps vs H → PV.Iss ps vs H'
  | [], _, h => h
  | _ :: _, _, ⟨y, r, h1, h2, h3⟩ => ⟨y, r, h1, PV.Is.up e h2, PV.Iss.up e h3⟩
end
instance {p : PV} : Mono p.Is := ⟨fun e h => h.up e⟩
theorem iss_all {H : Hp} : ∀ {ps : List PV} {vs : List V}, PV.Iss ps vs H ↔ All2 PV.Is ps vs H
  | [], _ => Iff.rfl
  | p :: ps, vs => ⟨fun ⟨y, r, h1, h2, h3⟩ => ⟨y, r, h1, h2, iss_all.mp h3⟩, fun ⟨y, r, h1, h2, h3⟩ => ⟨y, r, h1, h2, iss_all.mpr h3⟩⟩
theorem iss_args {H : Hp} : ∀ {ps : List PV} {vs : List V}, PV.Iss ps vs H ↔ Args (ps.map PV.Is) vs H
  | [], _ => Iff.rfl
  | p :: ps, vs => ⟨fun ⟨y, r, h1, h2, h3⟩ => ⟨y, r, h1, h2, iss_args.mp h3⟩, fun ⟨y, r, h1, h2, h3⟩ => ⟨y, r, h1, h2, iss_args.mpr h3⟩⟩
instance monoA : ∀ {ps : List PV}, MonoA (ps.map PV.Is)
  | ps => ⟨fun e h => iss_args.mp ((iss_args.mpr h).up e)⟩
theorem lst_is {xs : List PV} {v : V} {H : Hp} : (PV.lst xs).Is v H ↔ IsL PV.Is xs v H := ⟨fun ⟨a, vs, h1, h2, h3⟩ => ⟨a, vs, h1, h2, iss_all.mp h3⟩, fun ⟨a, vs, h1, h2, h3⟩ => ⟨a, vs, h1, h2, iss_all.mpr h3⟩⟩
theorem tup_is {xs : List PV} {v : V} {H : Hp} : (PV.tup xs).Is v H ↔ IsT PV.Is xs v H := ⟨fun ⟨a, vs, h1, h2, h3⟩ => ⟨a, vs, h1, h2, iss_all.mp h3⟩, fun ⟨a, vs, h1, h2, h3⟩ => ⟨a, vs, h1, h2, iss_all.mpr h3⟩⟩
theorem tup_of {xs : List PV} {v : V} {H : Hp} : (PV.tup xs).Is v H ↔ TupOf (xs.map PV.Is) v H := ⟨fun ⟨a, vs, h1, h2, h3⟩ => ⟨a, vs, h1, h2, iss_args.mp h3⟩, fun ⟨a, vs, h1, h2, h3⟩ => ⟨a, vs, h1, h2, iss_args.mpr h3⟩⟩
theorem lst_of {xs : List PV} {v : V} {H : Hp} : (PV.lst xs).Is v H ↔ LstOf (xs.map PV.Is) v H := ⟨fun ⟨a, vs, h1, h2, h3⟩ => ⟨a, vs, h1, h2, iss_args.mp h3⟩, fun ⟨a, vs, h1, h2, h3⟩ => ⟨a, vs, h1, h2, iss_args.mpr h3⟩⟩
example {i : Int} {v : V} {H : Hp} : (PV.int i).Is v H = IsI i v H := rfl
example {xs : List PV} {v : V} {H : Hp} : (PV.lst xs).Is v H = (∃ a vs, v = .ref a ∧ H a = some (.lst vs) ∧ PV.Iss xs vs H) := rfl
/-- names of an instance's fields -/
def lookF (f : Str) : List Str → List PV → Option PV
  | k :: ks, x :: xs => if f = k then some x else lookF f ks xs
  | _, _ => none
theorem lookF_is {H : Hp} {f : Str} {p : PV} : ∀ {ks : List Str} {xs : List PV} {vs : List V}, PV.Iss xs vs H → lookF f ks xs = some p → ∃ v, (ks.zip vs).lookup f = some v ∧ p.Is v H
  | [], xs, vs, _, h => by cases xs <;> exact absurd h (by simp [lookF])
  | k :: ks, [], vs, _, h => by exact absurd h (by simp [lookF])
  | k :: ks, x :: xs, _, ⟨y, r, h1, h2, h3⟩, h => by
    subst h1
    rw [List.zip_cons_cons, List.lookup_cons]
    unfold lookF at h
    by_cases e : f = k
    · subst e
      rw [if_pos rfl] at h
      cases h
      refine ⟨y, by simp, h2⟩
    · rw [if_neg e] at h
      obtain ⟨v, a, b⟩ := lookF_is h3 h
      refine ⟨v, ?_, b⟩
      rw [show (f == k) = false from beq_eq_false_iff_ne.mpr e]
      exact a
theorem lookF_no {f : Str} : ∀ {ks : List Str} {vs : List V}, f ∉ ks → (ks.zip vs).lookup f = none
  | [], _, _ => by simp
  | k :: ks, [], _ => by simp
  | k :: ks, v :: vs, h => by
    rw [List.zip_cons_cons, List.lookup_cons, show (f == k) = false from beq_eq_false_iff_ne.mpr fun z => h (by simp [z])]
    exact lookF_no fun z => h (List.mem_cons_of_mem _ z)

/-! ### what a def's names hold -/
abbrev Rho := List (Option PV)
def Env (ρ : Rho) (σ : L2.St) (H : Hp) : Prop := ∀ (i : Nat) (p : PV), ρ[i]? = some (some p) → ∃ v, σ[i]? = some (some v) ∧ p.Is v H
theorem Env.up {ρ : Rho} {σ : L2.St} {H H' : Hp} (h : Env ρ σ H) (e : Ex H H') : Env ρ σ H' := fun i p q => let ⟨v, a, b⟩ := h i p q; ⟨v, a, b.up e⟩
theorem Env.set {ρ : Rho} {σ : L2.St} {H : Hp} {j : Nat} {p : PV} {v : V} (h : Env ρ σ H) (hv : p.Is v H) (hl : ρ.length = σ.length) : Env (ρ.set j (some p)) (σ.set j (some v)) H := fun i q e => by
  by_cases z : i = j
  · subst z
    have hi : i < ρ.length := by
      have := (List.getElem?_eq_some_iff.mp e).1
      simpa using this
    rw [List.getElem?_set_self hi] at e
    cases e
    exact ⟨v, by rw [List.getElem?_set_self (by omega)], hv⟩
  · rw [List.getElem?_set_ne (Ne.symm z)] at e
    rw [List.getElem?_set_ne (Ne.symm z)]
    exact h i q e
/-- some slots forgotten -/
theorem Env.wipe {ρ : Rho} {σ : L2.St} {H : Hp} {j : Nat} {x : Option V} (h : Env ρ σ H) : Env (ρ.set j none) (σ.set j x) H := fun i q e => by
  by_cases z : i = j
  · subst z
    have hi : i < ρ.length := by
      have := (List.getElem?_eq_some_iff.mp e).1
      simpa using this
    rw [List.getElem?_set_self hi] at e
    cases e
  · rw [List.getElem?_set_ne (Ne.symm z)] at e
    rw [List.getElem?_set_ne (Ne.symm z)]
    exact h i q e
def EV (X : Cx) (e : Expr) (ρ : Rho) (p : PV) : Prop := ∀ σ H, ρ.length = σ.length → Env ρ σ H → EG X e σ H p.Is
def TV (X : Cx) (e : Expr) (ρ : Rho) (b : Bool) : Prop := ∀ σ H, ρ.length = σ.length → Env ρ σ H → TG X e σ H b
def WV (X : Cx) (e : Expr) (ρ : Rho) (b : Bool) : Prop := ∀ σ H, ρ.length = σ.length → Env ρ σ H → WG X e σ H b
def AV (X : Cx) (es : List Expr) (ρ : Rho) (ps : List PV) : Prop := ∀ σ H, ρ.length = σ.length → Env ρ σ H → AG X es σ H (ps.map PV.Is)
def CV (X : Cx) (op : CmpOp) (a b : Expr) (ρ : Rho) (bb : Bool) : Prop := ∀ σ H, ρ.length = σ.length → Env ρ σ H → CG X op a b σ H bb
def IV (X : Cx) (tg iter : Expr) (ρ : Rho) (ps : List PV) : Prop := ∀ σ H, ρ.length = σ.length → Env ρ σ H → IterP X tg iter σ H PV.Is ps
section
variable {X : Cx} {ρ : Rho} {a b c e l : Expr} {es : List Expr} {pos p1 : Pos} {p q r : PV} {ps qs : List PV} {x : Str} {i j : Int} {bb bc : Bool}
theorem EV.as (h : EV X e ρ p) (hq : p = q) : EV X e ρ q := hq ▸ h
theorem TV.as (h : TV X e ρ bb) (hq : bb = bc) : TV X e ρ bc := hq ▸ h
theorem CV.as {op : CmpOp} (h : CV X op a b ρ bb) (hq : bb = bc) : CV X op a b ρ bc := hq ▸ h
theorem IV.as {tg : Expr} (h : IV X tg l ρ ps) (hq : ps = qs) : IV X tg l ρ qs := hq ▸ h
/-! ### names, constants -/
theorem ev_var (i : Nat) (hp : ρ[i]? = some (some p) := by rfl) (hN : X.N[i]? = some x := by rfl) (hs : Vis X.env.scope x := by first | exact Or.inl rfl | exact Or.inr (Or.inl rfl) | exact Or.inr (Or.inr rfl))
    (hd : (x == ("__debug__" : Str)) = false := by decide) (hcd : (x == ("__classdict__" : Str)) = false := by decide) : EV X (.Name x pos) ρ p := fun σ H _ h => by
  obtain ⟨v, h1, h2⟩ := h i p hp
  exact eg_var i h1 h2 hN hs hd hcd
theorem ev_int {k : Nat} : EV X (.Constant (.int i) k pos) ρ (.int i) := fun σ H _ h => eg_int
theorem ev_bl {k : Nat} : EV X (.Constant (.bool bb) k pos) ρ (.bl bb) := fun σ H _ h => eg_bl
theorem ev_non {k : Nat} : EV X (.Constant .none k pos) ρ .non := fun σ H _ h => eg_non
theorem ev_str {z : Str} {k : Nat} : EV X (.Constant (.str z) k pos) ρ (.str z) := fun σ H _ h => eg_str
theorem ev_glob (hp : ∀ H, ∃ v u, X.mg x = some u ∧ RelV v u ∧ p.Is v H) (hg : Gl X x := by rfl) (hd : (x == ("__debug__" : Str)) = false := by decide) : EV X (.Name x pos) ρ p := fun σ H _ h => by
  obtain ⟨v, u, h1, h2, h3⟩ := hp H
  exact EvP.imp (eg_glob h1 h2 hg hd) fun v' H' e h' => by
    rw [show v' = v from h']
    exact h3.up e
theorem ev_cls {C : Addr} (hm : X.mg x = some (.ref C)) (hg : Gl X x := by rfl) (hd : (x == ("__debug__" : Str)) = false := by decide) : EV X (.Name x pos) ρ (.ref C) := ev_glob (fun H => ⟨.ref C, _, hm, rfl, rfl⟩) hg hd
theorem ev_gint {t : Tok} (hm : X.mg x = some (.int i t)) (hg : Gl X x := by rfl) (hd : (x == ("__debug__" : Str)) = false := by decide) : EV X (.Name x pos) ρ (.int i) := ev_glob (fun H => ⟨.int i, _, hm, ⟨t, rfl⟩, rfl⟩) hg hd
theorem ev_gstr {z : Str} {t : Tok} (hm : X.mg x = some (.str z t)) (hg : Gl X x := by rfl) (hd : (x == ("__debug__" : Str)) = false := by decide) : EV X (.Name x pos) ρ (.str z) := ev_glob (fun H => ⟨.str z, _, hm, ⟨t, rfl⟩, rfl⟩) hg hd
theorem ev_ty {T : String} (hm : X.mg x = none) (hv : bootBuiltins x = some (.type T)) (hg : Gl X x := by rfl) (hn : x ≠ "__name__" := by decide) (hd : (x == ("__debug__" : Str)) = false := by decide) : EV X (.Name x pos) ρ (.ty T) :=
  fun σ H _ h => eg_bltn (v := .ty T) hm hv rfl hg hn hd
/-! ### ints -/
theorem ev_add (ha : EV X a ρ (.int i)) (hb : EV X b ρ (.int j)) : EV X (.BinOp a .Add b pos) ρ (.int (i + j)) := fun σ H l h => eg_add (ha σ H l h) (hb σ H l h)
theorem ev_sub (ha : EV X a ρ (.int i)) (hb : EV X b ρ (.int j)) : EV X (.BinOp a .Sub b pos) ρ (.int (i - j)) := fun σ H l h => eg_sub (ha σ H l h) (hb σ H l h)
theorem ev_mulW (hc : CMulW i j) (ha : EV X a ρ (.int i)) (hb : EV X b ρ (.int j)) : EV X (.BinOp a .Mult b pos) ρ (.int (i * j)) := fun σ H l h => eg_mul hc (ha σ H l h) (hb σ H l h)
theorem ev_fdivW (hc : CDivW i j) (ha : EV X a ρ (.int i)) (hb : EV X b ρ (.int j)) : EV X (.BinOp a .FloorDiv b pos) ρ (.int (i / j)) := fun σ H l h => eg_fdiv hc (ha σ H l h) (hb σ H l h)
theorem ev_mod (hc : 0 < j) (ha : EV X a ρ (.int i)) (hb : EV X b ρ (.int j)) : EV X (.BinOp a .Mod b pos) ρ (.int (i % j)) := fun σ H l h => eg_mod hc (ha σ H l h) (hb σ H l h)
theorem ev_pow {k : Nat} (hk : k ≤ 1000) (hi : i.natAbs < 2 ^ 64) (ha : EV X a ρ (.int i)) (hb : EV X b ρ (.int (k : Int))) : EV X (.BinOp a .Pow b pos) ρ (.int (i ^ k)) := fun σ H l h => eg_pow hk hi (ha σ H l h) (hb σ H l h)
theorem ev_neg (ha : EV X a ρ (.int i)) : EV X (.UnaryOp .USub a pos) ρ (.int (-i)) := fun σ H l h => eg_neg (ha σ H l h)
/-! ### comparisons -/
theorem ev_cm {op : CmpOp} (h : CV X op a b ρ bb) (hm : behindInMarks op b = false := by first | exact nomark _ | rfl) : EV X (.Compare a [op] [b] pos) ρ (.bl bb) := fun σ H l g => eg_cm (h σ H l g) hm
theorem tv_cm {op : CmpOp} (h : CV X op a b ρ bb) (hm : behindInMarks op b = false := by first | exact nomark _ | rfl) : TV X (.Compare a [op] [b] pos) ρ bb := fun σ H l g => tg_cm (h σ H l g) hm
theorem cv_lt (ha : EV X a ρ (.int i)) (hb : EV X b ρ (.int j)) : CV X .Lt a b ρ (decide (i < j)) := fun σ H l h => cg_lt (ha σ H l h) (hb σ H l h)
theorem cv_le (ha : EV X a ρ (.int i)) (hb : EV X b ρ (.int j)) : CV X .LtE a b ρ (decide (i ≤ j)) := fun σ H l h => cg_le (ha σ H l h) (hb σ H l h)
theorem cv_gt (ha : EV X a ρ (.int i)) (hb : EV X b ρ (.int j)) : CV X .Gt a b ρ (decide (j < i)) := fun σ H l h => cg_gt (ha σ H l h) (hb σ H l h)
theorem cv_ge (ha : EV X a ρ (.int i)) (hb : EV X b ρ (.int j)) : CV X .GtE a b ρ (decide (j ≤ i)) := fun σ H l h => cg_ge (ha σ H l h) (hb σ H l h)
theorem cv_eqI (ha : EV X a ρ (.int i)) (hb : EV X b ρ (.int j)) : CV X .Eq a b ρ (decide (i = j)) := fun σ H l h => cg_eqI (ha σ H l h) (hb σ H l h)
theorem cv_neI (ha : EV X a ρ (.int i)) (hb : EV X b ρ (.int j)) : CV X .NotEq a b ρ (!decide (i = j)) := fun σ H l h => cg_neI (ha σ H l h) (hb σ H l h)
theorem cv_eqS {z w : Str} (ha : EV X a ρ (.str z)) (hb : EV X b ρ (.str w)) : CV X .Eq a b ρ (decide (z = w)) := fun σ H l h => cg_eqS (ha σ H l h) (hb σ H l h)
theorem cv_neS {z w : Str} (ha : EV X a ρ (.str z)) (hb : EV X b ρ (.str w)) : CV X .NotEq a b ρ (!decide (z = w)) := fun σ H l h => cg_neS (ha σ H l h) (hb σ H l h)
theorem cv_eqB (ha : EV X a ρ (.bl bb)) (hb : EV X b ρ (.bl bc)) : CV X .Eq a b ρ (bb == bc) := fun σ H l h => by
  have z := cg_eqV (v := .bl bb) (w := .bl bc) rfl (ha σ H l h) (hb σ H l h)
  rw [dec_bl] at z
  exact z
theorem cv_neB (ha : EV X a ρ (.bl bb)) (hb : EV X b ρ (.bl bc)) : CV X .NotEq a b ρ (bb != bc) := fun σ H l h => by
  have z := cg_neV (v := .bl bb) (w := .bl bc) rfl (ha σ H l h) (hb σ H l h)
  rw [dec_bl] at z
  exact z
/-- is None -/
def PV.isNon : PV → Bool
  | .non => true
  | _ => false
theorem is_non {p : PV} {v : V} {H : Hp} (h : p.Is v H) : decide (v = .non) = p.isNon := by
  cases p with
  | non => exact decide_eq_true h
  | bl b => rw [show v = _ from h]; rfl
  | int b => rw [show v = _ from h]; rfl
  | str b => rw [show v = _ from h]; rfl
  | ty b => rw [show v = _ from h]; rfl
  | ref b => rw [show v = _ from h]; rfl
  | lst b => obtain ⟨a, vs, h1, _⟩ := h; rw [h1]; rfl
  | tup b => obtain ⟨a, vs, h1, _⟩ := h; rw [h1]; rfl
  | dct b c => obtain ⟨a, vs, h1, _⟩ := h; rw [h1]; rfl
  | ins b c d => obtain ⟨a, dx, vs, h1, _⟩ := h; rw [h1]; rfl
theorem cv_isN {k : Nat} {p' : Pos} (ha : EV X a ρ p) : CV X .Is a (.Constant .none k p') ρ p.isNon := fun σ H l h =>
  cg_of (P1 := p.Is) (P2 := IsV .non) op_isN (ha σ H l h) eg_non fun x y H1 _ px py Q q => ⟨py, by rw [is_non px]; exact q H1 (Ex.refl H1)⟩
theorem cv_notN {k : Nat} {p' : Pos} (ha : EV X a ρ p) : CV X .IsNot a (.Constant .none k p') ρ (!p.isNon) := fun σ H l h =>
  cg_of (P1 := p.Is) (P2 := IsV .non) op_notN (ha σ H l h) eg_non fun x y H1 _ px py Q q => ⟨py, by rw [is_non px]; exact q H1 (Ex.refl H1)⟩
/-! ### tests -/
theorem tv_val (he : EV X e ρ (.bl bb)) (hp : ∀ whole, isTrue e X.env whole = (do let v ← whole; standAt e.pos; holding [v] (truthy v)) := by intro _; rfl) : TV X e ρ bb := fun σ H l h => tg_val (he σ H l h) hp
theorem tv_not (h : TV X a ρ bb) : TV X (.UnaryOp .Not a pos) ρ (!bb) := fun σ H l g => tg_not (h σ H l g)
theorem wv_and1 (h : TV X a ρ bb) : WV X (.BoolOp .And [a] pos) ρ bb := fun σ H l g => wg_and1 (h σ H l g)
theorem wv_or1 (h : TV X a ρ bb) : WV X (.BoolOp .Or [a] pos) ρ bb := fun σ H l g => wg_or1 (h σ H l g)
theorem wv_and {rest : List Expr} (h : TV X a ρ bb) (h2 : bb = true → WV X (.BoolOp .And (b :: rest) pos) ρ bc) : WV X (.BoolOp .And (a :: b :: rest) pos) ρ (bb && bc) := fun σ H l g => wg_and (h σ H l g) fun z => h2 z σ H l g
theorem wv_or {rest : List Expr} (h : TV X a ρ bb) (h2 : bb = false → WV X (.BoolOp .Or (b :: rest) pos) ρ bc) : WV X (.BoolOp .Or (a :: b :: rest) pos) ρ (bb || bc) := fun σ H l g => wg_or (h σ H l g) fun z => h2 z σ H l g
theorem tv_w (h : WV X e ρ bb) : TV X e ρ bb := fun σ H l g => tg_w (h σ H l g)
theorem ev_one {op} (h : EV X a ρ p) : EV X (.BoolOp op [a] pos) ρ p := fun σ H l g => eg_one (h σ H l g)
theorem ev_and {rest : List Expr} (h : EV X a ρ (.bl bb)) (h2 : bb = true → EV X (.BoolOp .And (b :: rest) pos) ρ (.bl bc)) : EV X (.BoolOp .And (a :: b :: rest) pos) ρ (.bl (bb && bc)) := fun σ H l g => eg_and (h σ H l g) fun z => h2 z σ H l g
theorem ev_or {rest : List Expr} (h : EV X a ρ (.bl bb)) (h2 : bb = false → EV X (.BoolOp .Or (b :: rest) pos) ρ (.bl bc)) : EV X (.BoolOp .Or (a :: b :: rest) pos) ρ (.bl (bb || bc)) := fun σ H l g => eg_or (h σ H l g) fun z => h2 z σ H l g
theorem ev_not (h : EV X a ρ (.bl bb)) : EV X (.UnaryOp .Not a pos) ρ (.bl (!bb)) := fun σ H l g => eg_not (h σ H l g)
theorem ev_if (hc : TV X c ρ bb) (h1 : bb = true → EV X a ρ p) (h2 : bb = false → EV X b ρ q) : EV X (.IfExp c a b pos) ρ (if bb then p else q) := fun σ H l g =>
  eg_if (hc σ H l g) (fun z => by rw [if_pos z]; exact h1 z σ H l g) fun z => by rw [if_neg (by rw [z]; exact Bool.false_ne_true)]; exact h2 z σ H l g
/-! ### arguments, displays -/
theorem av_nil : AV X [] ρ [] := fun σ H l h => ag_nil
theorem av_cons (h : EV X e ρ p) (hr : AV X es ρ ps) (hs : starEach (e :: es) X.env = (false, eval e X.env) :: starEach es X.env := by rfl) : AV X (e :: es) ρ (p :: ps) := fun σ H l g => ag_cons (h σ H l g) (hr σ H l g) hs
theorem ev_tup {x1} (h : AV X es ρ ps) (hl : ps.length ≤ 1000 := by exact of_decide_eq_true rfl) : EV X (.Tuple es x1 pos) ρ (.tup ps) := fun σ H l g => (eg_tup (h σ H l g) (by rw [List.length_map]; exact hl)).imp fun v H' _ z => tup_of.mpr z
theorem ev_lst (h : AV X es ρ ps) (hl : ps.length ≤ 1000 := by exact of_decide_eq_true rfl) : EV X (.List es pos) ρ (.lst ps) := fun σ H l g => (eg_lst (h σ H l g) (by rw [List.length_map]; exact hl)).imp fun v H' _ z => lst_of.mpr z
end
end E
set_option maxHeartbeats 4000000
namespace G
/-! ### rationals -/
theorem q_num {a b : Int} (hb : 0 < b) : a / ((Nat.gcd a.natAbs b.natAbs : Nat) : Int) = (Rat.divInt a b).num := by
  rw [Rat.num_divInt, Int.sign_eq_one_of_pos hb, Int.one_mul, Int.gcd, Nat.gcd_comm]
theorem q_den {a b : Int} (hb : 0 < b) : b / ((Nat.gcd a.natAbs b.natAbs : Nat) : Int) = ((Rat.divInt a b).den : Int) := by
  rw [Rat.den_divInt, if_neg (by omega), Int.gcd, Nat.gcd_comm]
  have : ((b.natAbs : Nat) : Int) = b := by omega
  rw [Int.natCast_ediv, this]
/-- of few bits -/
def Sm (n : Nat) (q : Rat) : Prop := q.num.natAbs < 2 ^ n ∧ q.den < 2 ^ n
theorem Sm.mono {n m : Nat} {q : Rat} (h : Sm n q) (k : n ≤ m) : Sm m q := ⟨Nat.lt_of_lt_of_le h.1 (Nat.pow_le_pow_right (by decide) k), Nat.lt_of_lt_of_le h.2 (Nat.pow_le_pow_right (by decide) k)⟩
theorem sm_div {n : Nat} {a b : Int} (hb : 0 < b) (h1 : a.natAbs < 2 ^ n) (h2 : b.natAbs < 2 ^ n) : Sm n (Rat.divInt a b) := by
  refine ⟨?_, ?_⟩
  · rw [← q_num hb]
    refine Nat.lt_of_le_of_lt ?_ h1
    rw [Int.natAbs_ediv_of_dvd (Int.natAbs_dvd_natAbs.mp (by rw [Int.natAbs_natCast]; exact Nat.gcd_dvd_left _ _))]
    exact Nat.div_le_self _ _
  · have e := q_den (a := a) hb
    have h3 : (Rat.divInt a b).den ≤ b.natAbs := by
      rw [Rat.den_divInt, if_neg (by omega)]
      exact Nat.div_le_self _ _
    exact Nat.lt_of_le_of_lt h3 h2
theorem q_dpos (q : Rat) : (0 : Int) < q.den := by
  have := q.den_pos
  omega
theorem q_add (a b : Rat) : Rat.divInt (a.num * b.den + b.num * a.den) (a.den * b.den) = a + b := by
  have e := Rat.divInt_add_divInt a.num b.num (d₁ := a.den) (d₂ := b.den) (by have := q_dpos a; omega) (by have := q_dpos b; omega)
  rw [Rat.num_divInt_den, Rat.num_divInt_den] at e
  exact e.symm
theorem q_sub (a b : Rat) : Rat.divInt (a.num * b.den - b.num * a.den) (a.den * b.den) = a - b := by
  have e := Rat.divInt_sub_divInt a.num b.num (d₁ := a.den) (d₂ := b.den) (by have := q_dpos a; omega) (by have := q_dpos b; omega)
  rw [Rat.num_divInt_den, Rat.num_divInt_den] at e
  exact e.symm
theorem q_mul (a b : Rat) : Rat.divInt (a.num * b.num) (a.den * b.den) = a * b := by
  have e := Rat.divInt_mul_divInt a.num b.num (d₁ := a.den) (d₂ := b.den)
  rw [Rat.num_divInt_den, Rat.num_divInt_den] at e
  exact e.symm
theorem q_neg (a : Rat) : Rat.divInt (-a.num) a.den = -a := by
  rw [← Rat.neg_divInt, Rat.num_divInt_den]
theorem q_int (i : Int) : Rat.divInt i 1 = (i : Rat) := by
  have := Rat.num_divInt_den (i : Rat)
  rwa [Rat.num_intCast, Rat.den_intCast] at this
theorem b_mul {n m : Nat} {i j : Int} (h1 : i.natAbs < 2 ^ n) (h2 : j.natAbs < 2 ^ m) : (i * j).natAbs < 2 ^ (n + m) := L2.wide_lt h1 h2
theorem b_add {n : Nat} {i j : Int} (h1 : i.natAbs < 2 ^ n) (h2 : j.natAbs < 2 ^ n) : (i + j).natAbs < 2 ^ (n + 1) := by
  rw [Nat.pow_succ]; omega
theorem b_sub {n : Nat} {i j : Int} (h1 : i.natAbs < 2 ^ n) (h2 : j.natAbs < 2 ^ n) : (i - j).natAbs < 2 ^ (n + 1) := by
  rw [Nat.pow_succ]; omega
theorem b_up {n m : Nat} {i : Int} (h : i.natAbs < 2 ^ n) (k : n ≤ m) : i.natAbs < 2 ^ m := Nat.lt_of_lt_of_le h (Nat.pow_le_pow_right (by decide) k)
theorem sm_den {n : Nat} {q : Rat} (h : Sm n q) : ((q.den : Int)).natAbs < 2 ^ n := by rw [Int.natAbs_natCast]; exact h.2
theorem add_top {n m : Nat} {a b : Rat} (h1 : Sm n a) (h2 : Sm m b) : (a.num * b.den + b.num * a.den).natAbs < 2 ^ (n + m + 1) := b_add (b_mul h1.1 (sm_den h2)) (by rw [Nat.add_comm n m]; exact b_mul h2.1 (sm_den h1))
theorem sub_top {n m : Nat} {a b : Rat} (h1 : Sm n a) (h2 : Sm m b) : (a.num * b.den - b.num * a.den).natAbs < 2 ^ (n + m + 1) := b_sub (b_mul h1.1 (sm_den h2)) (by rw [Nat.add_comm n m]; exact b_mul h2.1 (sm_den h1))
theorem den_bot {n m : Nat} {a b : Rat} (h1 : Sm n a) (h2 : Sm m b) : ((a.den : Int) * b.den).natAbs < 2 ^ (n + m) := b_mul (sm_den h1) (sm_den h2)
theorem den_pos2 (a b : Rat) : (0 : Int) < (a.den : Int) * b.den := Int.mul_pos (q_dpos a) (q_dpos b)
theorem sm_add {n m : Nat} {a b : Rat} (h1 : Sm n a) (h2 : Sm m b) : Sm (n + m + 1) (a + b) := by
  rw [← q_add]
  exact sm_div (den_pos2 a b) (add_top h1 h2) (b_up (den_bot h1 h2) (by omega))
theorem sm_sub {n m : Nat} {a b : Rat} (h1 : Sm n a) (h2 : Sm m b) : Sm (n + m + 1) (a - b) := by
  rw [← q_sub]
  exact sm_div (den_pos2 a b) (sub_top h1 h2) (b_up (den_bot h1 h2) (by omega))
theorem sm_mul {n m : Nat} {a b : Rat} (h1 : Sm n a) (h2 : Sm m b) : Sm (n + m) (a * b) := by
  rw [← q_mul]
  exact sm_div (den_pos2 a b) (b_mul h1.1 h2.1) (den_bot h1 h2)
theorem sm_neg {n : Nat} {a : Rat} (h : Sm n a) : Sm n (-a) := ⟨by rw [Rat.neg_num, Int.natAbs_neg]; exact h.1, h.2⟩
theorem sm_int {n : Nat} {i : Int} (h : i.natAbs < 2 ^ n) (h0 : 0 < n) : Sm n (i : Rat) := ⟨by rw [Rat.num_intCast]; exact h, by rw [Rat.den_intCast]; exact Nat.one_lt_two_pow (by omega)⟩
/-- signs -/
theorem q_sign_pos {q : Rat} : q.num.sign = 1 ↔ 0 < q := by
  rw [Int.sign_eq_one_iff_pos]
  have := Rat.num_nonneg (q := q)
  have := Rat.num_eq_zero (q := q)
  grind
theorem q_sign_neg {q : Rat} : q.num.sign = -1 ↔ q < 0 := by
  rw [Int.sign_eq_neg_one_iff_neg]
  have := Rat.num_nonneg (q := q)
  have := Rat.num_eq_zero (q := q)
  grind
theorem q_sign_zero {q : Rat} : q.num.sign = 0 ↔ q = 0 := by
  rw [Int.sign_eq_zero_iff_zero]
  exact Rat.num_eq_zero
end G
namespace G
/-! ### one bottom -/
def lcmF (qs : List Rat) : Nat := qs.foldl (fun b q => Nat.lcm b q.den) 1
theorem lcmF_snoc (qs : List Rat) (q : Rat) : lcmF (qs ++ [q]) = Nat.lcm (lcmF qs) q.den := by
  unfold lcmF
  rw [List.foldl_append]
  rfl
theorem lcm_fold_pos : ∀ (qs : List Rat) (b : Nat), 0 < b → 0 < qs.foldl (fun b q => Nat.lcm b q.den) b
  | [], _, h => h
  | q :: qs, b, h => lcm_fold_pos qs _ (Nat.lcm_pos h q.den_pos)
theorem lcmF_pos (qs : List Rat) : 0 < lcmF qs := lcm_fold_pos qs 1 Nat.one_pos
theorem lcm_fold_le {n : Nat} : ∀ (qs : List Rat) (b : Nat), (∀ q ∈ qs, q.den < 2 ^ n) → qs.foldl (fun b q => Nat.lcm b q.den) b ≤ b * 2 ^ (n * qs.length)
  | [], b, _ => by simp
  | q :: qs, b, h => by
    have h1 := lcm_fold_le qs (Nat.lcm b q.den) fun p hp => h p (List.mem_cons_of_mem _ hp)
    have h2 : Nat.lcm b q.den ≤ b * 2 ^ n := Nat.le_trans (Nat.div_le_self _ _) (Nat.mul_le_mul_left _ (Nat.le_of_lt (h q (List.mem_cons_self ..))))
    refine Nat.le_trans h1 (Nat.le_trans (Nat.mul_le_mul_right _ h2) ?_)
    rw [List.length_cons, Nat.mul_add, Nat.mul_one, Nat.pow_add, Nat.mul_assoc, Nat.mul_comm (2 ^ n)]
    exact Nat.le_refl _
theorem lcmF_lt {n k : Nat} {qs : List Rat} (h : ∀ q ∈ qs, Sm n q) (hk : n * qs.length < k) : lcmF qs < 2 ^ k := by
  have h1 := lcm_fold_le qs 1 fun q hq => (h q hq).2
  rw [Nat.one_mul] at h1
  exact Nat.lt_of_le_of_lt h1 (Nat.pow_lt_pow_right (by decide) hk)
theorem lcm_fold_dvd0 : ∀ (qs : List Rat) (b : Nat), b ∣ qs.foldl (fun b q => Nat.lcm b q.den) b
  | [], b => Nat.dvd_refl b
  | q :: qs, b => Nat.dvd_trans (Nat.dvd_lcm_left b q.den) (lcm_fold_dvd0 qs _)
theorem lcm_fold_dvd : ∀ (qs : List Rat) (b : Nat) (q : Rat), q ∈ qs → q.den ∣ qs.foldl (fun b q => Nat.lcm b q.den) b
  | p :: qs, b, q, h => by
    rcases List.mem_cons.mp h with h | h
    · rw [h]
      exact Nat.dvd_trans (Nat.dvd_lcm_right b p.den) (lcm_fold_dvd0 qs _)
    · exact lcm_fold_dvd qs _ q h
theorem lcmF_dvd {qs : List Rat} {q : Rat} (h : q ∈ qs) : q.den ∣ lcmF qs := lcm_fold_dvd qs 1 q h
/-- over the one bottom -/
def overQ (L : Nat) (q : Rat) : Int := q.num * ((L : Int) / q.den)
theorem overQ_eq {L : Nat} {q : Rat} (h : q.den ∣ L) : ((overQ L q : Int) : Rat) = q * (L : Rat) := by
  obtain ⟨c, hc⟩ := h
  have hd := q_dpos q
  have e1 : (L : Int) / q.den = c := by
    rw [hc, Int.natCast_mul, Int.mul_ediv_cancel_left _ (by omega)]
  have e2 : (q.num : Rat) = q * (q.den : Rat) := by
    have e := Rat.num_divInt_den q
    rw [Rat.divInt_eq_div] at e
    have hd2 : ((q.den : Int) : Rat) ≠ 0 := by
      intro z
      have : (q.den : Int) = 0 := by exact_mod_cast z
      omega
    have e3 : (q.num : Rat) = q * ((q.den : Int) : Rat) := by
      have := Rat.div_mul_cancel (a := (q.num : Rat)) hd2
      rw [e] at this
      exact this.symm
    exact e3
  unfold overQ
  rw [e1, hc, Rat.intCast_mul, e2, Rat.natCast_mul]
  rw [Rat.mul_assoc]
  rfl
end G
namespace G
/-! ### squares -/
def sumQ : List Rat → Rat
  | [] => 0
  | q :: qs => q * q + sumQ qs
def sqQ (t : Rat) (ps : List Rat) : Rat := t * t - sumQ ps
theorem sum_int {L : Nat} : ∀ (ps : List Rat), (∀ q ∈ ps, q.den ∣ L) → ((((ps.map (overQ L)).map fun n => n * n).sum : Int) : Rat) = sumQ ps * ((L : Rat) * L)
  | [], _ => by
    show ((0 : Int) : Rat) = 0 * _
    rw [Rat.zero_mul]
    rfl
  | q :: qs, h => by
    have h1 := sum_int qs fun p hp => h p (List.mem_cons_of_mem _ hp)
    have h2 := overQ_eq (h q (List.mem_cons_self ..))
    show (((overQ L q * overQ L q + ((qs.map (overQ L)).map fun n => n * n).sum : Int)) : Rat) = (q * q + sumQ qs) * _
    rw [Rat.intCast_add, Rat.intCast_mul, h1, h2]
    grind
theorem sq_div {L : Nat} {t : Rat} {ps : List Rat} (hL : 0 < L) (ht : t.den ∣ L) (h : ∀ q ∈ ps, q.den ∣ L) :
    Rat.divInt (overQ L t * overQ L t - ((ps.map (overQ L)).map fun n => n * n).sum) ((L : Int) * L) = sqQ t ps := by
  have h1 := sum_int ps h
  have h2 := overQ_eq ht
  rw [Rat.divInt_eq_div, Rat.intCast_sub, Rat.intCast_mul, Rat.intCast_mul, h1, h2]
  have e : ((L : Int) : Rat) = (L : Rat) := rfl
  have hz : (L : Rat) * L ≠ 0 := by
    have : (0 : Rat) < (L : Rat) := by exact_mod_cast (Rat.natCast_pos.mpr hL)
    have := Rat.mul_pos this this
    exact Rat.ne_of_gt this
  rw [e]
  unfold sqQ
  have k : t * ↑L * (t * ↑L) - sumQ ps * (↑L * ↑L) = (t * t - sumQ ps) * ((L : Rat) * L) := by grind
  rw [k, Rat.mul_div_cancel hz]
theorem over_bits {n k : Nat} {L : Nat} {q : Rat} (h : Sm n q) (hL : L < 2 ^ k) : (overQ L q).natAbs < 2 ^ (n + k) := by
  unfold overQ
  refine b_mul h.1 ?_
  have hd := q_dpos q
  refine Nat.lt_of_le_of_lt ?_ hL
  rw [← Int.natCast_ediv, Int.natAbs_natCast]
  exact Nat.div_le_self _ _
theorem sum_bits {k m : Nat} : ∀ (ns : List Int), (∀ n ∈ ns, n.natAbs < 2 ^ k) → ns.length ≤ m → ns.sum.natAbs ≤ m * 2 ^ k
  | [], _, _ => by
    show (0 : Nat) ≤ _
    exact Nat.zero_le _
  | n :: ns, h, hl => by
    have h1 := sum_bits (m := ns.length) ns (fun x hx => h x (List.mem_cons_of_mem _ hx)) (Nat.le_refl _)
    have h2 := h n (List.mem_cons_self ..)
    have h3 : (ns.length + 1) * 2 ^ k ≤ m * 2 ^ k := Nat.mul_le_mul_right _ hl
    rw [Nat.add_mul, Nat.one_mul] at h3
    rw [List.sum_cons]
    omega
def kindQ (t s : Rat) : PySem.Str := if s < 0 then "apart" else if t = 0 then "nothing" else if 0 < t then "forward" else "backward"
/-- products -/
def prodF (qs : List (Rat × Rat)) (a : Rat) : Rat := qs.foldl (fun a q => a - q.1 * q.2) a
theorem prodF_snoc (qs : List (Rat × Rat)) (a : Rat) (q : Rat × Rat) : prodF (qs ++ [q]) a = prodF qs a - q.1 * q.2 := by
  unfold prodF
  rw [List.foldl_append]
  rfl
end G
set_option maxHeartbeats 4000000
namespace E
open PySem PySem.Spec PyProof.Rows L2 Evl G
/-! ### how many bits -/
class Bt (i : Int) (n : outParam Nat) : Prop where
  lt : i.natAbs < 2 ^ n
theorem Bt.up {i : Int} {n m : Nat} (h : Bt i n) (k : n ≤ m) : Bt i m := ⟨b_up h.lt k⟩
instance bt_add {i j : Int} {n m : Nat} [a : Bt i n] [b : Bt j m] : Bt (i + j) (max n m + 1) := ⟨b_add (b_up a.lt (Nat.le_max_left _ _)) (b_up b.lt (Nat.le_max_right _ _))⟩
instance bt_sub {i j : Int} {n m : Nat} [a : Bt i n] [b : Bt j m] : Bt (i - j) (max n m + 1) := ⟨b_sub (b_up a.lt (Nat.le_max_left _ _)) (b_up b.lt (Nat.le_max_right _ _))⟩
instance bt_mul {i j : Int} {n m : Nat} [a : Bt i n] [b : Bt j m] : Bt (i * j) (n + m) := ⟨b_mul a.lt b.lt⟩
instance bt_neg {i : Int} {n : Nat} [a : Bt i n] : Bt (-i) n := ⟨by rw [Int.natAbs_neg]; exact a.lt⟩
instance bt_abs {i : Int} {n : Nat} [a : Bt i n] : Bt (i.natAbs : Int) n := ⟨by rw [Int.natAbs_natCast]; exact a.lt⟩
theorem log_lt (k : Nat) : k < 2 ^ (k.log2 + 1) := by
  by_cases h : k = 0
  · subst h; decide
  · exact Nat.lt_log2_self
instance bt_lit {k : Nat} : Bt (no_index (OfNat.ofNat k)) (k.log2 + 1) := ⟨log_lt k⟩
instance bt_0 : Bt 0 0 := ⟨by decide⟩
instance bt_1 : Bt 1 1 := ⟨by decide⟩
theorem mul_w {i j : Int} {n m : Nat} (h1 : i.natAbs < 2 ^ n) (h2 : j.natAbs < 2 ^ m) (h : n + m ≤ 1000000) : CMulW i j := by
  have g : ∀ {x : Nat} {k : Nat}, x < 2 ^ k → x.log2 + 1 ≤ k ∨ x.log2 = 0 ∧ x < 1 := fun {x k} hx => by
    by_cases z : x = 0
    · subst z; right; decide
    · left
      exact (Nat.log2_lt z).mpr hx
  unfold CMulW
  rcases g h1 with a | ⟨a, a'⟩ <;> rcases g h2 with b | ⟨b, b'⟩
  · omega
  · have : j.natAbs.log2 = 0 := b
    by_cases hn : n ≤ 1000000
    · omega
    · omega
  · omega
  · omega
theorem div_w {i j : Int} {n : Nat} (h0 : 0 < j) (h : j.natAbs < 2 ^ n) (hn : n ≤ 9000) : CDivW i j := ⟨h0, by
  have : j.natAbs.log2 < n := (Nat.log2_lt (by omega)).mpr h
  omega⟩
/-- a list of pints -/
abbrev pints (ns : List Int) : List PV := ns.map PV.int
theorem ints_is {H : Hp} {ns : List Int} {v : V} (h : (PV.lst (pints ns)).Is v H) : ∃ a, v = .ref a ∧ H a = some (.lst (ns.map V.int)) := by
  obtain ⟨a, vs, h1, h2, h3⟩ := h
  refine ⟨a, h1, ?_⟩
  rw [h2]
  congr 2
  clear h1 h2
  induction ns generalizing vs with
  | nil => exact h3
  | cons n ns ih =>
    obtain ⟨y, r, q1, q2, q3⟩ := h3
    rw [q1, show y = _ from q2, ih r q3]
    rfl
theorem vints_iss {H : Hp} : ∀ {ns : List Int}, PV.Iss (pints ns) (ns.map V.int) H
  | [] => rfl
  | n :: ns => ⟨_, _, rfl, rfl, vints_iss⟩
theorem iss_len {H : Hp} {ps : List PV} {vs : List V} (h : PV.Iss ps vs H) : vs.length = ps.length := (iss_all.mp h).length
theorem iss_drop {H : Hp} {n : Nat} {ps : List PV} {vs : List V} (h : PV.Iss ps vs H) : PV.Iss (ps.drop n) (vs.drop n) H := iss_all.mpr ((iss_all.mp h).drop n)
theorem iss_take {H : Hp} : ∀ {n : Nat} {ps : List PV} {vs : List V}, PV.Iss ps vs H → PV.Iss (ps.take n) (vs.take n) H
  | 0, _, _, _ => rfl
  | n + 1, [], _, h => by rw [show _ = _ from h]; exact rfl
  | n + 1, p :: ps, _, ⟨y, r, h1, h2, h3⟩ => by subst h1; exact ⟨y, _, rfl, h2, iss_take h3⟩
theorem iss_app {H : Hp} : ∀ {ps qs : List PV} {vs ws : List V}, PV.Iss ps vs H → PV.Iss qs ws H → PV.Iss (ps ++ qs) (vs ++ ws) H
  | [], _, _, _, h, g => by rw [show _ = _ from h]; exact g
  | p :: ps, _, _, _, ⟨y, r, h1, h2, h3⟩, g => by subst h1; exact ⟨y, _, rfl, h2, iss_app h3 g⟩
theorem iss_rev {H : Hp} : ∀ {ps : List PV} {vs : List V}, PV.Iss ps vs H → PV.Iss ps.reverse vs.reverse H
  | [], _, h => by rw [show _ = _ from h]; exact rfl
  | p :: ps, _, ⟨y, r, h1, h2, h3⟩ => by
    subst h1
    rw [List.reverse_cons, List.reverse_cons]
    exact iss_app (iss_rev h3) ⟨y, [], rfl, h2, rfl⟩
theorem iss_get {H : Hp} {ps : List PV} {vs : List V} {i : Nat} {p : PV} (h : PV.Iss ps vs H) (hp : ps[i]? = some p) : ∃ v, vs[i]? = some v ∧ p.Is v H := (iss_all.mp h).get2 hp
theorem iss_atI {H : Hp} {ps : List PV} {vs : List V} {i : Int} {p : PV} (h : PV.Iss ps vs H) (hp : atI ps i = some p) : ∃ v, atI vs i = some v ∧ p.Is v H := by
  unfold atI at hp ⊢
  rw [iss_len h]
  cases e : ixN ps.length i with
  | none => rw [e] at hp; cases hp
  | some j =>
    rw [e] at hp
    exact iss_get h hp
theorem lst_new {ps : List PV} {vs : List V} {H : Hp} {d : Addr} (hd : H d = none) (h : PV.Iss ps vs H) : (PV.lst ps).Is (.ref d) (upd H d (.lst vs)) := ⟨d, vs, rfl, upd_same, h.up (Ex.new hd)⟩
theorem tup_new {ps : List PV} {vs : List V} {H : Hp} {d : Addr} (hd : H d = none) (h : PV.Iss ps vs H) : (PV.tup ps).Is (.ref d) (upd H d (.tup vs)) := ⟨d, vs, rfl, upd_same, h.up (Ex.new hd)⟩
def cutP (xs : List PV) (lo hi : Option Int) : List PV := (xs.drop (HT.sIx xs.length 0 lo)).take (HT.sIx xs.length xs.length hi - HT.sIx xs.length 0 lo)
theorem iss_cut {H : Hp} {ps : List PV} {vs : List V} {lo hi : Option Int} (h : PV.Iss ps vs H) : PV.Iss (cutP ps lo hi) (cutV vs lo hi) H := by
  unfold cutP cutV
  rw [iss_len h]
  exact iss_take (iss_drop h)
theorem cut_from {ps : List PV} {n : Nat} : cutP ps (some (n : Int)) none = ps.drop n := by
  unfold cutP
  rw [HT.sIx_none, HT.sIx_nat]
  by_cases hn : n ≤ ps.length
  · rw [Nat.min_eq_left hn]
    exact List.take_of_length_le (by rw [List.length_drop]; omega)
  · rw [Nat.min_eq_right (by omega), List.drop_length, List.drop_of_length_le (by omega)]
    simp
theorem cut_upto {ps : List PV} {n : Nat} : cutP ps none (some (n : Int)) = ps.take n := by
  unfold cutP
  rw [HT.sIx_none, HT.sIx_nat, List.drop_zero, Nat.sub_zero]
  by_cases hn : n ≤ ps.length
  · rw [Nat.min_eq_left hn]
  · rw [Nat.min_eq_right (by omega), List.take_length, List.take_of_length_le (by omega)]
section
variable {X : Cx} {ρ : Rho} {a b c e l : Expr} {es : List Expr} {pos pp p2 : Pos} {p q r : PV} {ps qs : List PV} {x : Str} {i j : Int} {bb bc : Bool} {n m : Nat}
theorem ev_mul [h1 : Bt i n] [h2 : Bt j m] (ha : EV X a ρ (.int i)) (hb : EV X b ρ (.int j)) (h : n + m ≤ 1000000 := by decide) : EV X (.BinOp a .Mult b pos) ρ (.int (i * j)) := ev_mulW (mul_w h1.lt h2.lt h) ha hb
theorem ev_fdiv [h2 : Bt j m] (h0 : 0 < j) (ha : EV X a ρ (.int i)) (hb : EV X b ρ (.int j)) (h : m ≤ 9000 := by decide) : EV X (.BinOp a .FloorDiv b pos) ρ (.int (i / j)) := ev_fdivW (div_w h0 h2.lt h) ha hb
/-! ### subscripts -/
theorem ev_ixL (ha : EV X a ρ (.lst ps)) (hb : EV X b ρ (.int i)) (hx : atI ps i = some p := by rfl) (hs : PlainIx b := by exact fun _ _ => rfl) : EV X (.Subscript a b pos) ρ p := fun σ H l h =>
  eg_of (pe_ix ix_list pe_W pe_W hs) (ep_op (ha σ H l h) (hb σ H l h) fun v y H1 _ ⟨q, xs, h1, h2, h3⟩ py Q qq => by
    obtain ⟨w, hw, rw⟩ := iss_atI h3 hx
    exact ⟨q, xs, i, w, h1, py, SqL.of h2, hw, qq w H1 (Ex.refl H1) rw⟩)
theorem ev_ixT (ha : EV X a ρ (.tup ps)) (hb : EV X b ρ (.int i)) (hx : atI ps i = some p := by rfl) (hs : PlainIx b := by exact fun _ _ => rfl) : EV X (.Subscript a b pos) ρ p := fun σ H l h =>
  eg_of (pe_ix ix_tup pe_W pe_W hs) (ep_op (ha σ H l h) (hb σ H l h) fun v y H1 _ ⟨q, xs, h1, h2, h3⟩ py Q qq => by
    obtain ⟨w, hw, rw⟩ := iss_atI h3 hx
    exact ⟨q, xs, i, w, h1, py, SqT.of h2, hw, qq w H1 (Ex.refl H1) rw⟩)
theorem ev_from (ha : EV X a ρ (.lst ps)) (hb : EV X b ρ (.int (n : Int))) : EV X (.Subscript a (.Slice (some b) none none p2) pos) ρ (.lst (ps.drop n)) := fun σ H l h =>
  eg_of (pe_slice sl_list pe_W (po_some pe_W) po_none) fun H1 e1 Q q => ha σ H l h H1 e1 _ fun v H2 e2 ⟨c, xs, h1, h2, h3⟩ => hb σ H l h H2 (e1.trans e2) _ fun y H3 e3 py =>
    ⟨n, py, c, xs, h1, SqL.of (e3 _ _ h2), fun d hd => q _ _ ((e2.trans e3).trans (Ex.new hd)) (by rw [← cut_from]; exact lst_new hd (iss_cut (h3.up e3)))⟩
theorem ev_upto (ha : EV X a ρ (.lst ps)) (hb : EV X b ρ (.int (n : Int))) : EV X (.Subscript a (.Slice none (some b) none p2) pos) ρ (.lst (ps.take n)) := fun σ H l h =>
  eg_of (pe_slice sl_list pe_W po_none (po_some pe_W)) fun H1 e1 Q q => ha σ H l h H1 e1 _ fun v H2 e2 ⟨c, xs, h1, h2, h3⟩ => hb σ H l h H2 (e1.trans e2) _ fun y H3 e3 py =>
    ⟨n, py, c, xs, h1, SqL.of (e3 _ _ h2), fun d hd => q _ _ ((e2.trans e3).trans (Ex.new hd)) (by rw [← cut_upto]; exact lst_new hd (iss_cut (h3.up e3)))⟩
/-! ### built-ins -/
theorem ev_lenL (hm : X.mg "len" = none) (ha : EV X e ρ (.lst ps)) (hg : Gl X "len" := by rfl) (he : starEach [e] X.env = (false, eval e X.env) :: starEach [] X.env := by rfl) : EV X (.Call (.Name "len" pp) [e] [] pos) ρ (.int (ps.length : Int)) := fun σ H l h =>
  eg_callB call_len_seq hm rfl (ag_cons (ha σ H l h) ag_nil he) (fun vs H1 _ ⟨v, r, h1, ⟨c, xs, h2, h3, h4⟩, h5⟩ Q q => ⟨c, xs, by rw [h1, show r = [] from h5, h2], .inl (SqL.of h3), q _ H1 (Ex.refl H1) (by rw [iss_len h4]; rfl)⟩) hg (by decide) (by decide) he rfl
theorem ev_lenT (hm : X.mg "len" = none) (ha : EV X e ρ (.tup ps)) (hg : Gl X "len" := by rfl) (he : starEach [e] X.env = (false, eval e X.env) :: starEach [] X.env := by rfl) : EV X (.Call (.Name "len" pp) [e] [] pos) ρ (.int (ps.length : Int)) := fun σ H l h =>
  eg_callB call_len_seq hm rfl (ag_cons (ha σ H l h) ag_nil he) (fun vs H1 _ ⟨v, r, h1, ⟨c, xs, h2, h3, h4⟩, h5⟩ Q q => ⟨c, xs, by rw [h1, show r = [] from h5, h2], .inr (SqT.of h3), q _ H1 (Ex.refl H1) (by rw [iss_len h4]; rfl)⟩) hg (by decide) (by decide) he rfl
theorem ev_sum {ns : List Int} (hm : X.mg "sum" = none) (ha : EV X e ρ (.lst (pints ns))) (hc : X.calm = true := by rfl) (hg : Gl X "sum" := by rfl) (he : starEach [e] X.env = (false, eval e X.env) :: starEach [] X.env := by rfl) : EV X (.Call (.Name "sum" pp) [e] [] pos) ρ (.int ns.sum) := fun σ H l h =>
  eg_callB (cr_sum hc) hm rfl (ag_cons (ha σ H l h) ag_nil he) (fun vs H1 _ ⟨v, r, h1, h2, h5⟩ Q q => by
    obtain ⟨c, h3, h4⟩ := ints_is h2
    exact ⟨c, ns, by rw [h1, show r = [] from h5, h3], SqL.of h4, q _ H1 (Ex.refl H1) rfl⟩) hg (by decide) (by decide) he rfl
theorem bls_is {H : Hp} {bs : List Bool} {v : V} (h : (PV.lst (bs.map PV.bl)).Is v H) : ∃ a, v = .ref a ∧ H a = some (.lst (bs.map V.bl)) := by
  obtain ⟨a, vs, h1, h2, h3⟩ := h
  refine ⟨a, h1, ?_⟩
  rw [h2]
  congr 2
  clear h1 h2
  induction bs generalizing vs with
  | nil => exact h3
  | cons n ns ih =>
    obtain ⟨y, r, q1, q2, q3⟩ := h3
    rw [q1, show y = _ from q2, ih r q3]
    rfl
theorem ev_all {bs : List Bool} (hm : X.mg "all" = none) (ha : EV X e ρ (.lst (bs.map PV.bl))) (hc : X.calm = true := by rfl) (hg : Gl X "all" := by rfl) (he : starEach [e] X.env = (false, eval e X.env) :: starEach [] X.env := by rfl) : EV X (.Call (.Name "all" pp) [e] [] pos) ρ (.bl (bs.all id)) := fun σ H l h =>
  eg_callB (cr_all hc) hm rfl (ag_cons (ha σ H l h) ag_nil he) (fun vs H1 _ ⟨v, r, h1, h2, h5⟩ Q q => by
    obtain ⟨c, h3, h4⟩ := bls_is h2
    exact ⟨c, bs, by rw [h1, show r = [] from h5, h3], SqL.of h4, q _ H1 (Ex.refl H1) rfl⟩) hg (by decide) (by decide) he rfl
theorem ev_tupleL (hm : X.mg "tuple" = none) (ha : EV X e ρ (.lst ps)) (hg : Gl X "tuple" := by rfl) (he : starEach [e] X.env = (false, eval e X.env) :: starEach [] X.env := by rfl) : EV X (.Call (.Name "tuple" pp) [e] [] pos) ρ (.tup ps) := fun σ H l h =>
  eg_callTy call_tuple_of hm rfl (ag_cons (ha σ H l h) ag_nil he) (fun vs H1 _ ⟨v, r, h1, ⟨c, xs, h2, h3, h4⟩, h5⟩ Q q => ⟨c, xs, by rw [h1, show r = [] from h5, h2], .inl ⟨SqL.of h3, fun l hl => q _ _ (Ex.new hl) (tup_new hl h4)⟩⟩) hg (by decide) (by decide) he rfl
theorem ev_listL (hm : X.mg "list" = none) (ha : EV X e ρ (.lst ps)) (hg : Gl X "list" := by rfl) (he : starEach [e] X.env = (false, eval e X.env) :: starEach [] X.env := by rfl) : EV X (.Call (.Name "list" pp) [e] [] pos) ρ (.lst ps) := fun σ H l h =>
  eg_callTy call_list_of hm rfl (ag_cons (ha σ H l h) ag_nil he) (fun vs H1 _ ⟨v, r, h1, ⟨c, xs, h2, h3, h4⟩, h5⟩ Q q => ⟨c, xs, by rw [h1, show r = [] from h5, h2], .inl (SqL.of h3), fun l hl => q _ _ (Ex.new hl) (lst_new hl h4)⟩) hg (by decide) (by decide) he rfl
theorem ev_listT (hm : X.mg "list" = none) (ha : EV X e ρ (.tup ps)) (hg : Gl X "list" := by rfl) (he : starEach [e] X.env = (false, eval e X.env) :: starEach [] X.env := by rfl) : EV X (.Call (.Name "list" pp) [e] [] pos) ρ (.lst ps) := fun σ H l h =>
  eg_callTy call_list_of hm rfl (ag_cons (ha σ H l h) ag_nil he) (fun vs H1 _ ⟨v, r, h1, ⟨c, xs, h2, h3, h4⟩, h5⟩ Q q => ⟨c, xs, by rw [h1, show r = [] from h5, h2], .inr (SqT.of h3), fun l hl => q _ _ (Ex.new hl) (lst_new hl h4)⟩) hg (by decide) (by decide) he rfl
theorem ev_intI (hm : X.mg "int" = none) (ha : EV X e ρ (.int i)) (hg : Gl X "int" := by rfl) (he : starEach [e] X.env = (false, eval e X.env) :: starEach [] X.env := by rfl) : EV X (.Call (.Name "int" pp) [e] [] pos) ρ (.int i) := fun σ H l h => eg_intI hm (ha σ H l h) hg he
theorem ev_intB (hm : X.mg "int" = none) (ha : EV X e ρ (.bl bb)) (hg : Gl X "int" := by rfl) (he : starEach [e] X.env = (false, eval e X.env) :: starEach [] X.env := by rfl) : EV X (.Call (.Name "int" pp) [e] [] pos) ρ (.int (if bb then 1 else 0)) := fun σ H l h => eg_intB hm (ha σ H l h) hg he
theorem ev_abs (hm : X.mg "abs" = none) (ha : EV X e ρ (.int i)) (hg : Gl X "abs" := by rfl) (he : starEach [e] X.env = (false, eval e X.env) :: starEach [] X.env := by rfl) : EV X (.Call (.Name "abs" pp) [e] [] pos) ρ (.int (i.natAbs : Int)) := fun σ H l h => eg_abs hm (ha σ H l h) hg he
theorem ev_gcd (hm : X.mg x = some (.builtin "math.gcd")) (ha : EV X a ρ (.int i)) (hb : EV X b ρ (.int j)) (hg : Gl X x := by rfl) (hdb : (x == ("__debug__" : Str)) = false := by decide) (he : starEach [a, b] X.env = (false, eval a X.env) :: starEach [b] X.env := by rfl) (he2 : starEach [b] X.env = (false, eval b X.env) :: starEach [] X.env := by rfl)
    (hpl : (backTo pos (starEach [b] X.env)).any (·.1) = false := by rfl) : EV X (.Call (.Name x pp) [a, b] [] pos) ρ (.int ((Nat.gcd i.natAbs j.natAbs : Nat) : Int)) := fun σ H l h => eg_gcd hm (ha σ H l h) (hb σ H l h) hg hdb he he2 hpl
theorem ev_lcm (hm : X.mg x = some (.builtin "math.lcm")) (h1 : 0 < i) (h2 : 0 < j) (h3 : i.natAbs < 2 ^ 6000) (h4 : j.natAbs < 2 ^ 6000) (ha : EV X a ρ (.int i)) (hb : EV X b ρ (.int j)) (hg : Gl X x := by rfl) (hdb : (x == ("__debug__" : Str)) = false := by decide) (he : starEach [a, b] X.env = (false, eval a X.env) :: starEach [b] X.env := by rfl) (he2 : starEach [b] X.env = (false, eval b X.env) :: starEach [] X.env := by rfl)
    (hpl : (backTo pos (starEach [b] X.env)).any (·.1) = false := by rfl) : EV X (.Call (.Name x pp) [a, b] [] pos) ρ (.int ((Nat.lcm i.natAbs j.natAbs : Nat) : Int)) := fun σ H l h => eg_lcm hm h1 h2 h3 h4 (ha σ H l h) (hb σ H l h) hg hdb he he2 hpl
/-! ### fields -/
theorem ev_attr {C : Addr} {f : Str} {ks : List Str} (c : Cls X.K C) (hn : NoAttr X.K C f) (he : EV X e ρ (.ins C ks ps)) (hf : lookF f ks ps = some p := by rfl) (hb : attributeBase e f X.env (eval e X.env) = eval e X.env := by rfl) : EV X (.Attribute e f pos) ρ p := fun σ H l h =>
  eg_fld c hn (he σ H l h) (fun v H1 _ ⟨a, dx, vs, h1, h2, h3, h4⟩ => by
    obtain ⟨y, z1, z2⟩ := lookF_is h4 hf
    exact ⟨a, dx, _, y, h1, h2, z1, z2⟩) hb
/-! ### isinstance -/
/-- the class of a value, as isinstance asks it -/
def PV.cls : PV → Option Value
  | .bl _ => some (.type "bool")
  | .int _ => some (.type "int")
  | .str _ => some (.type "str")
  | .lst _ => some (.type "list")
  | .tup _ => some (.type "tuple")
  | .dct _ _ => some (.type "dict")
  | .non => some (.type "NoneType")
  | .ins C _ _ => some (.ref C)
  | _ => none
end
end E
set_option maxHeartbeats 4000000
/-! E3: objects that are hidden while what does not know them runs. -/
namespace E
open PySem PySem.Spec PyProof.Rows L2 Evl G
def Hdb : HO → Bool
  | .lst _ => true
  | .dK _ => true
  | .ins _ _ _ => true
  | .own _ => true
  | _ => false
section
variable {X : Cx} {pins : List (Addr × Obj)} {σ σ' : L2.St} {H H2 : Hp} {s s2 : Shared} {D : Addr} {o : HO} {ob : Obj}
theorem hide1 (I : Inv X pins σ H s) (hD : H D = some o) (hk : Hdb o = true) (e : s.heap.get? D = some ob) (nc : ∀ v, ob.data ≠ .cell v) (ow : ∀ b, o = .own b → H b = none) : Inv X ((D, ob) :: pins) σ (hid H D) s := by
  have neN : ∀ b, H b = none → b ≠ D := fun b q z => by rw [z, hD] at q; cases q
  have nt : ∀ xs, o ≠ .tup xs := fun xs z => by rw [z] at hk; cases hk
  have nf : ∀ a b, o ≠ .frz a b := fun a b z => by rw [z] at hk; cases hk
  have nb : ∀ a, o ≠ .tbl a := fun a z => by rw [z] at hk; cases hk
  refine ⟨I.ok, I.os, I.bare, ⟨I.base.keep, I.base.slot, fun b o q n hx => ?_, I.base.there, fun b xs q => ?_, fun b o u q => ?_, fun b ps q => ?_⟩, I.loc, I.cell, ?_, fun x c q => ?_, fun p hp => ?_, fun b u q => ?_, I.len⟩
  · have z := I.base.free b o q n hx
    rw [hid_ne (neN b z)]
    exact z
  · have z := I.base.tups b xs q
    rw [hid_ne (ne_of z hD (Ne.symm (nt xs)))]
    exact z
  · have z := I.base.frzs b o u q
    rw [hid_ne (ne_of z hD (Ne.symm (nf _ _)))]
    exact z
  · obtain ⟨m, z⟩ := I.base.tbls b ps q
    exact ⟨m, by rw [hid_ne (ne_of z hD (Ne.symm (nb _)))]; exact z⟩
  · rw [hid_ne (neN _ I.free)]
    exact I.free
  · rw [hid_ne (neN _ (I.freeC x c q))]
    exact I.freeC x c q
  · rcases List.mem_append.mp hp with hp | hp
    · obtain ⟨a1, a2, a3, a4, a5⟩ := I.pin p (List.mem_append_left _ hp)
      exact ⟨a1, by rw [hid_ne (neN _ a2)]; exact a2, a3, a4, a5⟩
    · rcases List.mem_cons.mp hp with hp | hp
      · subst hp
        refine ⟨e, hid_same, fun z => ?_, fun z => ?_, nc⟩
        · have y := I.free
          rw [← z, hD] at y
          cases y
        · obtain ⟨_, o, ho, _⟩ := I.ok.funs.mem z
          have y := I.base.free _ o ho (I.ok.frf _ z) fun q => I.ok.exfs _ q z
          rw [hD] at y
          cases y
      · obtain ⟨a1, a2, a3, a4, a5⟩ := I.pin p (List.mem_append_right _ hp)
        exact ⟨a1, by rw [hid_ne (neN _ a2)]; exact a2, a3, a4, a5⟩
  · have hb : b ≠ D := fun z => by rw [z, hid_same] at q; cases q
    rw [hid_ne hb] at q
    refine (I.hok b u q).stay (fun _ _ _ y => y) (fun c y => ?_) fun c xs y => by rw [hid_ne (ne_of y hD (Ne.symm (nt _)))]; exact y
    by_cases z : c = D
    · rw [z, hD] at y
      have := ow b (Option.some.inj y)
      rw [q] at this
      cases this
    · rw [hid_ne z]
      exact y
theorem show1 (I : Inv X pins σ H s) (hD : H D = some o) (hk : Hdb o = true) (e : s.heap.get? D = some ob) (nc : ∀ v, ob.data ≠ .cell v) (J : Inv X ((D, ob) :: pins) σ' H2 s2) (hob : s2.heap.get? D = some ob → H2 D = none → ObjOk X.prog X.w (upd H2 D o) s2.heap D o) :
    s2.heap.get? D = some ob ∧ H2 D = none ∧ Inv X pins σ' (upd H2 D o) s2 := by
  obtain ⟨p1, p2, p3, p4, p5⟩ := J.pin (D, ob) (List.mem_append_right _ (List.mem_cons_self ..))
  have p2' : H2 D = none := p2
  have neS : ∀ {b : Addr} {u : HO}, H2 b = some u → b ≠ D := fun {b u} q z => by rw [z, p2'] at q; cases q
  refine ⟨p1, p2', J.ok, J.os, J.bare, ⟨J.base.keep, J.base.slot, fun b o q n hx => ?_, J.base.there, fun b xs q => ?_, fun b o u q => ?_, fun b ps q => ?_⟩, J.loc, J.cell, ?_, fun x c q => ?_, fun p hp => ?_, fun b u q => ?_, J.len⟩
  · have z := J.base.free b o q n hx
    have hb : b ≠ D := fun y => by
      have w := I.base.free b o q n hx
      rw [y, hD] at w
      cases w
    rw [upd_ne hb]
    exact z
  · have z := J.base.tups b xs q
    rw [upd_ne (neS z)]
    exact z
  · have z := J.base.frzs b o u q
    rw [upd_ne (neS z)]
    exact z
  · obtain ⟨m, z⟩ := J.base.tbls b ps q
    exact ⟨m, by rw [upd_ne (neS z)]; exact z⟩
  · rw [upd_ne (Ne.symm p3)]
    exact J.free
  · have y := J.freeC x c q
    obtain ⟨v, o', ho, hd⟩ := J.cell x c q
    have hc : c ≠ D := fun z => by
      rw [z] at ho
      have w : some o' = some ob := ho.symm.trans p1
      cases w
      exact p5 _ hd
    rw [upd_ne hc]
    exact y
  · have hm : p ∈ X.pn ++ (D, ob) :: pins := by
      rcases List.mem_append.mp hp with hp | hp
      · exact List.mem_append_left _ hp
      · exact List.mem_append_right _ (List.mem_cons_of_mem _ hp)
    obtain ⟨a1, a2, a3, a4, a5⟩ := J.pin p hm
    have hb : p.1 ≠ D := fun z => by
      obtain ⟨_, w, _⟩ := I.pin p hp
      rw [z, hD] at w
      cases w
    exact ⟨a1, by rw [upd_ne hb]; exact a2, a3, a4, a5⟩
  · by_cases hb : b = D
    · subst hb
      rw [upd_same] at q
      cases q
      exact hob p1 p2'
    · rw [upd_ne hb] at q
      exact (J.hok b u q).stay (fun _ _ _ y => y) (fun c y => by rw [upd_ne (neS y)]; exact y) fun c xs y => by rw [upd_ne (neS y)]; exact y
/-- a list, a dict -/
def Smp : HO → Bool
  | .lst _ => true
  | .dK _ => true
  | _ => false
theorem smp_hdb (h : Smp o = true) : Hdb o = true := by
  cases o <;> first | rfl | cases h
theorem smp_ob (I : Inv X pins σ H s) (hD : H D = some o) (h : Smp o = true) : ∃ ob, s.heap.get? D = some ob ∧ (∀ v, ob.data ≠ .cell v) ∧ ∀ H2 h2, h2.get? D = some ob → ObjOk X.prog X.w H2 h2 D o := by
  cases o with
  | lst xs =>
    obtain ⟨hz, its, n, r, e⟩ := (show ObjOk X.prog X.w H s.heap D (.lst xs) from I.hok D _ hD)
    exact ⟨_, e, fun v z => (by cases z), fun H2 h2 q => ⟨hz, its, n, r, q⟩⟩
  | dK kvs =>
    obtain ⟨hz, y, vs, r, ob, es, ep, e, c⟩ := (show ObjOk X.prog X.w H s.heap D (.dK kvs) from I.hok D _ hD)
    exact ⟨ob, e, fun v z => (by
      have w := c.2.1.symm.trans z
      cases w), fun H2 h2 q => ⟨hz, y, vs, r, ob, es, ep, q, c⟩⟩
  | _ => cases h
end
/-- a thing of X whose run may be told over a hidden heap: Wp pins σ H s Q -/
def visL (L : List Addr) (H : Hp) : Hp := fun b => if b ∈ L then none else H b
def fillL (L : List Addr) (H h : Hp) : Hp := fun b => if b ∈ L then H b else h b
inductive Hideable : List Addr → Hp → Prop where
  | nil {H : Hp} : Hideable [] H
  | one {H : Hp} {D : Addr} {o : HO} {L : List Addr} (h : H D = some o) (hs : Smp o = true) (r : Hideable L (hid H D)) : Hideable (D :: L) H
  | obj {H : Hp} {D dx C : Addr} {fs : List (Str × V)} {L : List Addr} (h : H D = some (.ins C dx fs)) (hx : H dx = some (.own D)) (r : Hideable L (hid (hid H D) dx)) : Hideable (D :: dx :: L) H
theorem ex_hid2 {p : Addr} {H H' : Hp} (e : Ex H H') : Ex (hid H p) (hid H' p) := fun a o h => by
  have hn : a ≠ p := fun z => by rw [z, hid_same] at h; cases h
  rw [hid_ne hn] at h ⊢
  exact e a o h
theorem visL_nil {H : Hp} : visL [] H = H := funext fun b => if_neg (by simp)
theorem fillL_nil {H h : Hp} : fillL [] H h = h := funext fun b => if_neg (by simp)
theorem visL_cons {H : Hp} {D : Addr} {L : List Addr} : visL (D :: L) H = visL L (hid H D) := by
  funext b
  unfold visL
  by_cases hb : b = D
  · subst hb
    rw [if_pos (by simp)]
    by_cases hl : b ∈ L
    · rw [if_pos hl]
    · rw [if_neg hl, hid_same]
  · rw [hid_ne hb]
    by_cases hl : b ∈ L
    · rw [if_pos (by simp [hl]), if_pos hl]
    · rw [if_neg (by simp [hl, hb]), if_neg hl]
theorem fillL_cons {H h : Hp} {D : Addr} {o : HO} {L : List Addr} (hD : H D = some o) : fillL (D :: L) H h = upd (fillL L (hid H D) h) D o := by
  funext b
  unfold fillL
  by_cases hb : b = D
  · subst hb
    rw [if_pos (by simp), upd_same, hD]
  · rw [upd_ne hb, hid_ne hb]
    by_cases hl : b ∈ L
    · rw [if_pos (by simp [hl]), if_pos hl]
    · rw [if_neg (by simp [hl, hb]), if_neg hl]
theorem ex_visL {L : List Addr} {H H' : Hp} (e : Ex H H') : Ex (visL L H) (visL L H') := fun b o h => by
  unfold visL at h ⊢
  by_cases hl : b ∈ L
  · rw [if_pos hl] at h; cases h
  · rw [if_neg hl] at h ⊢; exact e b o h
theorem ex_vis {L : List Addr} {H : Hp} : Ex (visL L H) H := fun b o h => by
  unfold visL at h
  by_cases hl : b ∈ L
  · rw [if_pos hl] at h; cases h
  · rw [if_neg hl] at h; exact h
theorem Hideable.up {L : List Addr} {H H' : Hp} (h : Hideable L H) : Ex H H' → Hideable L H' := by
  intro e
  induction h generalizing H' with
  | nil => exact .nil
  | one h hs r ih => exact .one (e _ _ h) hs (ih (ex_hid2 e))
  | obj h hx r ih => exact .obj (e _ _ h) (e _ _ hx) (ih (ex_hid2 (ex_hid2 e)))
theorem Hideable.some {L : List Addr} {H : Hp} (h : Hideable L H) : ∀ b ∈ L, ∃ o, H b = .some o ∧ Hdb o = true := by
  induction h with
  | nil => intro b hb; cases hb
  | @one H D o L h hs r ih =>
    intro b hb
    by_cases z : b = D
    · subst z; exact ⟨o, h, smp_hdb hs⟩
    · obtain ⟨u, q1, q2⟩ := ih b ((List.mem_cons.mp hb).resolve_left z)
      rw [hid_ne z] at q1
      exact ⟨u, q1, q2⟩
  | @obj H D dx C fs L h hx r ih =>
    intro b hb
    by_cases z : b = D
    · subst z; exact ⟨_, h, rfl⟩
    · by_cases z2 : b = dx
      · subst z2; exact ⟨_, hx, rfl⟩
      · obtain ⟨u, q1, q2⟩ := ih b ((List.mem_cons.mp ((List.mem_cons.mp hb).resolve_left z)).resolve_left z2)
        rw [hid_ne z2, hid_ne z] at q1
        exact ⟨u, q1, q2⟩
/-- what was hidden stands as it stood: the new heap grows -/
theorem ex_fill {L : List Addr} {H h : Hp} (e : Ex (visL L H) h) : Ex H (fillL L H h) := fun b o hb => by
  unfold fillL
  by_cases hl : b ∈ L
  · rw [if_pos hl]; exact hb
  · rw [if_neg hl]; exact e b o (by unfold visL; rw [if_neg hl]; exact hb)
theorem vis_fill {L : List Addr} {H h : Hp} (n : ∀ b ∈ L, h b = none) : visL L (fillL L H h) = h := by
  funext b
  unfold visL fillL
  by_cases hl : b ∈ L
  · rw [if_pos hl, n b hl]
  · rw [if_neg hl, if_neg hl]
section
variable {X : Cx}
theorem ew_hid1 {e : Expr} {σ : L2.St} {H : Hp} {D : Addr} {o : HO} {Q : VK} (hD : H D = some o) (hs : Smp o = true) (h : EW X e σ (hid H D) fun v H2 => H2 D = none → Q v (upd H2 D o)) : EW X e σ H Q := fun pins s I => by
  obtain ⟨ob, e1, nc, ok⟩ := smp_ob I hD hs
  have J := hide1 I hD (smp_hdb hs) e1 nc (fun b z => by rw [z] at hs; cases hs)
  refine thn (h _ s J) fun u s1 ⟨v, H1, J1, r1, q1⟩ => ?_
  obtain ⟨_, n1, I1⟩ := show1 I hD (smp_hdb hs) e1 nc J1 fun q _ => ok _ _ q
  exact ⟨v, _, I1, r1, q1 n1⟩
theorem tw_hid1 {e : Expr} {σ : L2.St} {H : Hp} {D : Addr} {o : HO} {Q : Bool → Hp → Prop} (hD : H D = some o) (hs : Smp o = true) (h : TW X e σ (hid H D) fun v H2 => H2 D = none → Q v (upd H2 D o)) : TW X e σ H Q := fun pins s I => by
  obtain ⟨ob, e1, nc, ok⟩ := smp_ob I hD hs
  have J := hide1 I hD (smp_hdb hs) e1 nc (fun b z => by rw [z] at hs; cases hs)
  refine thn (h _ s J) fun u s1 ⟨H1, J1, q1⟩ => ?_
  obtain ⟨_, n1, I1⟩ := show1 I hD (smp_hdb hs) e1 nc J1 fun q _ => ok _ _ q
  exact ⟨_, I1, q1 n1⟩
theorem aw_hid1 {es : List Expr} {σ : L2.St} {H : Hp} {D : Addr} {o : HO} {Q : List V → Hp → Prop} (hD : H D = some o) (hs : Smp o = true) (h : AW X es σ (hid H D) fun v H2 => H2 D = none → Q v (upd H2 D o)) : AW X es σ H Q := fun pos pins s I => by
  obtain ⟨ob, e1, nc, ok⟩ := smp_ob I hD hs
  have J := hide1 I hD (smp_hdb hs) e1 nc (fun b z => by rw [z] at hs; cases hs)
  refine thn (h pos _ s J) fun u s1 ⟨v, H1, J1, r1, q1⟩ => ?_
  obtain ⟨_, n1, I1⟩ := show1 I hD (smp_hdb hs) e1 nc J1 fun q _ => ok _ _ q
  exact ⟨v, _, I1, r1, q1 n1⟩
end
section
variable {X : Cx} {pins : List (Addr × Obj)} {σ σ' : L2.St} {H H2 : Hp} {s s2 : Shared} {D dx C : Addr} {fs : List (Str × V)}
theorem hide2 (I : Inv X pins σ H s) (hD : H D = some (.ins C dx fs)) (hx : H dx = some (.own D)) : ∃ o1 o2, Inv X ((dx, o2) :: (D, o1) :: pins) σ (hid (hid H D) dx) s ∧
    ∀ σ' H2 s2, Inv X ((dx, o2) :: (D, o1) :: pins) σ' H2 s2 → H2 D = none ∧ H2 dx = none ∧ Inv X pins σ' (upd (upd H2 dx (.own D)) D (.ins C dx fs)) s2 := by
  obtain ⟨d, z, ne, e, mA, ⟨od, es, ep, e2, c⟩, r⟩ := (show ObjOk X.prog X.w H s.heap D (.ins C dx fs) from I.hok D _ hD)
  have nc1 : ∀ v, (PySem.W.instObj C dx).data ≠ .cell v := fun v z => by cases z
  have nc2 : ∀ v, od.data ≠ .cell v := fun v z => by rw [c.1] at z; cases z
  have J := hide1 I hD rfl e nc1 (fun b z => by cases z)
  have hx' : hid H D dx = some (.own D) := by rw [hid_ne ne]; exact hx
  have J2 := hide1 J hx' rfl e2 nc2 (fun b z => by cases z; exact hid_same)
  refine ⟨_, _, J2, fun σ' H2 s2 K => ?_⟩
  obtain ⟨g1, n1, K1⟩ := show1 J hx' rfl e2 nc2 K fun q _ => ⟨_, q⟩
  obtain ⟨g2, n2, K2⟩ := show1 I hD rfl e nc1 K1 fun q n => ⟨by rw [upd_ne ne, upd_same], z, ne, q, mA, ⟨od, es, ep, g1, c⟩, r⟩
  have n3 : H2 D = none := by
    rw [upd_ne (Ne.symm ne)] at n2
    exact n2
  exact ⟨n3, n1, K2⟩
theorem ew_hid2 {e : Expr} {Q : VK} (hD : H D = some (.ins C dx fs)) (hx : H dx = some (.own D)) (h : EW X e σ (hid (hid H D) dx) fun v H2 => H2 D = none → H2 dx = none → Q v (upd (upd H2 dx (.own D)) D (.ins C dx fs))) : EW X e σ H Q := fun pins s I => by
  obtain ⟨o1, o2, J, back⟩ := hide2 I hD hx
  refine thn (h _ s J) fun u s1 ⟨v, H1, J1, r1, q1⟩ => ?_
  obtain ⟨n1, n2, I1⟩ := back _ _ _ J1
  exact ⟨v, _, I1, r1, q1 n1 n2⟩
theorem tw_hid2 {e : Expr} {Q : Bool → Hp → Prop} (hD : H D = some (.ins C dx fs)) (hx : H dx = some (.own D)) (h : TW X e σ (hid (hid H D) dx) fun v H2 => H2 D = none → H2 dx = none → Q v (upd (upd H2 dx (.own D)) D (.ins C dx fs))) : TW X e σ H Q := fun pins s I => by
  obtain ⟨o1, o2, J, back⟩ := hide2 I hD hx
  refine thn (h _ s J) fun u s1 ⟨H1, J1, q1⟩ => ?_
  obtain ⟨n1, n2, I1⟩ := back _ _ _ J1
  exact ⟨_, I1, q1 n1 n2⟩
theorem aw_hid2 {es : List Expr} {Q : List V → Hp → Prop} (hD : H D = some (.ins C dx fs)) (hx : H dx = some (.own D)) (h : AW X es σ (hid (hid H D) dx) fun v H2 => H2 D = none → H2 dx = none → Q v (upd (upd H2 dx (.own D)) D (.ins C dx fs))) : AW X es σ H Q := fun pos pins s I => by
  obtain ⟨o1, o2, J, back⟩ := hide2 I hD hx
  refine thn (h pos _ s J) fun u s1 ⟨v, H1, J1, r1, q1⟩ => ?_
  obtain ⟨n1, n2, I1⟩ := back _ _ _ J1
  exact ⟨v, _, I1, r1, q1 n1 n2⟩
theorem fill2 {h : Hp} {L : List Addr} (hD : H D = some (.ins C dx fs)) (hx : H dx = some (.own D)) : fillL (D :: dx :: L) H h = upd (upd (fillL L (hid (hid H D) dx) h) dx (.own D)) D (.ins C dx fs) := by
  have ne : dx ≠ D := ne_of hx hD (by intro z; cases z)
  rw [fillL_cons hD, fillL_cons (o := .own D) (by rw [hid_ne ne]; exact hx)]
theorem ew_hidL {e : Expr} {Q : VK} {L : List Addr} (hL : Hideable L H) (h : EW X e σ (visL L H) fun v h2 => (∀ b ∈ L, h2 b = none) → Q v (fillL L H h2)) : EW X e σ H Q := by
  induction hL generalizing Q with
  | nil =>
    rw [visL_nil] at h
    intro pins s I
    refine thn (h pins s I) fun u s1 ⟨v, H1, J1, r1, q1⟩ => ⟨v, H1, J1, r1, ?_⟩
    have := q1 (fun b hb => nomatch hb)
    rwa [fillL_nil] at this
  | @one H D o L hD hs r ih =>
    refine ew_hid1 hD hs (ih ?_)
    rw [visL_cons] at h
    intro pins s I
    refine thn (h pins s I) fun u s1 ⟨v, H1, J1, r1, q1⟩ => ⟨v, H1, J1, r1, fun n1 n2 => ?_⟩
    rw [← fillL_cons hD]
    refine q1 fun b hb => ?_
    rcases List.mem_cons.mp hb with z | z
    · subst z
      unfold fillL at n2
      by_cases hl : b ∈ L
      · exact n1 b hl
      · rw [if_neg hl] at n2; exact n2
    · exact n1 b z
  | @obj H D dx C fs L hD hx r ih =>
    refine ew_hid2 hD hx (ih ?_)
    rw [visL_cons, visL_cons] at h
    intro pins s I
    refine thn (h pins s I) fun u s1 ⟨v, H1, J1, r1, q1⟩ => ⟨v, H1, J1, r1, fun n1 n2 n3 => ?_⟩
    rw [← fill2 hD hx]
    refine q1 fun b hb => ?_
    unfold fillL at n2 n3
    rcases List.mem_cons.mp hb with z | z
    · subst z
      by_cases hl : b ∈ L
      · exact n1 b hl
      · rw [if_neg hl] at n2; exact n2
    · rcases List.mem_cons.mp z with z | z
      · subst z
        by_cases hl : b ∈ L
        · exact n1 b hl
        · rw [if_neg hl] at n3; exact n3
      · exact n1 b z
theorem tw_hidL {e : Expr} {Q : Bool → Hp → Prop} {L : List Addr} (hL : Hideable L H) (h : TW X e σ (visL L H) fun v h2 => (∀ b ∈ L, h2 b = none) → Q v (fillL L H h2)) : TW X e σ H Q := by
  induction hL generalizing Q with
  | nil =>
    rw [visL_nil] at h
    intro pins s I
    refine thn (h pins s I) fun u s1 ⟨H1, J1, q1⟩ => ⟨H1, J1, ?_⟩
    have := q1 (fun b hb => nomatch hb)
    rwa [fillL_nil] at this
  | @one H D o L hD hs r ih =>
    refine tw_hid1 hD hs (ih ?_)
    rw [visL_cons] at h
    intro pins s I
    refine thn (h pins s I) fun u s1 ⟨H1, J1, q1⟩ => ⟨H1, J1, fun n1 n2 => ?_⟩
    rw [← fillL_cons hD]
    refine q1 fun b hb => ?_
    rcases List.mem_cons.mp hb with z | z
    · subst z
      unfold fillL at n2
      by_cases hl : b ∈ L
      · exact n1 b hl
      · rw [if_neg hl] at n2; exact n2
    · exact n1 b z
  | @obj H D dx C fs L hD hx r ih =>
    refine tw_hid2 hD hx (ih ?_)
    rw [visL_cons, visL_cons] at h
    intro pins s I
    refine thn (h pins s I) fun u s1 ⟨H1, J1, q1⟩ => ⟨H1, J1, fun n1 n2 n3 => ?_⟩
    rw [← fill2 hD hx]
    refine q1 fun b hb => ?_
    unfold fillL at n2 n3
    rcases List.mem_cons.mp hb with z | z
    · subst z
      by_cases hl : b ∈ L
      · exact n1 b hl
      · rw [if_neg hl] at n2; exact n2
    · rcases List.mem_cons.mp z with z | z
      · subst z
        by_cases hl : b ∈ L
        · exact n1 b hl
        · rw [if_neg hl] at n3; exact n3
      · exact n1 b z
end
/-! ### pure things, beside what is hidden -/
section
variable {X : Cx} {ρ : Rho} {e l l2 : Expr} {p : PV} {σ : L2.St} {H : Hp} {L : List Addr} {bb : Bool}
theorem ev_lift (h : EV X e ρ p) (hL : Hideable L H) (hl : ρ.length = σ.length) (en : Env ρ σ (visL L H)) : EG X e σ H fun v H' => p.Is v (visL L H') := fun H1 e1 Q q =>
  ew_hidL (hL.up e1) (h σ _ hl (en.up (ex_visL e1)) _ (Ex.refl _) _ fun v h2 e2 pv n => q v _ (ex_fill e2) (by show p.Is v (visL L _); rw [vis_fill n]; exact pv))
theorem tv_lift (h : TV X e ρ bb) (hL : Hideable L H) (hl : ρ.length = σ.length) (en : Env ρ σ (visL L H)) : TG X e σ H bb := fun H1 e1 Q q =>
  tw_hidL (hL.up e1) (h σ _ hl (en.up (ex_visL e1)) _ (Ex.refl _) _ fun h2 e2 n => q _ (ex_fill e2))
end
end E
set_option maxHeartbeats 4000000
/-! E4: a def's names: data, or an object of its own that it may change. -/
namespace E
open PySem PySem.Spec PyProof.Rows L2 Evl G
/-- an object that is changed: a list, a dict, an instance, the pen (a list of cells, a turn, a rest; so many turns at most) -/
inductive PO where
  | lst (xs : List PV) | dct (ks : List Key) (xs : List PV) | obj (C dx : Addr) (ks : List Str) (xs : List PV) | pen (n : Nat)
inductive Sl where
  | no | pv (p : PV) | own (a : Addr) (o : PO)
def PO.adr (a : Addr) : PO → List Addr
  | .obj _ dx _ _ => [a, dx]
  | _ => [a]
def Sl.adr : Sl → List Addr
  | .own a o => o.adr a
  | _ => []
def adrs : List Sl → List Addr
  | [] => []
  | s :: S => s.adr ++ adrs S
def Sl.view : Sl → Option PV
  | .pv p => some p
  | _ => none
def view (S : List Sl) : Rho := S.map Sl.view
abbrev vis (S : List Sl) (H : Hp) : Hp := visL (adrs S) H
/-- the pen: cells, at most 63; the turn; the rest of a great cell -/
def PenAt (n : Nat) (vs : List V) (h : Hp) : Prop := ∃ (cs : List Int) (t : Nat) (r : Nat), PV.Iss [.lst (pints cs), .int t, .int r] vs h ∧ cs.length ≤ 63 ∧ t ≤ n
def PO.Is (a : Addr) (H h : Hp) : PO → Prop
  | .lst xs => ∃ vs, H a = some (.lst vs) ∧ PV.Iss xs vs h
  | .dct ks xs => ∃ vs, H a = some (.dK (ks.zip vs)) ∧ ks.length = xs.length ∧ PV.Iss xs vs h
  | .obj C dx ks xs => ∃ vs, H a = some (.ins C dx (ks.zip vs)) ∧ H dx = some (.own a) ∧ ks.length = xs.length ∧ PV.Iss xs vs h
  | .pen n => ∃ vs, H a = some (.lst vs) ∧ PenAt n vs h
theorem PenAt.up {n : Nat} {vs : List V} {h h' : Hp} (p : PenAt n vs h) (e : Ex h h') : PenAt n vs h' := let ⟨cs, t, r, h1, h2, h3⟩ := p; ⟨cs, t, r, h1.up e, h2, h3⟩
theorem PO.Is.up {a : Addr} {H H' h h' : Hp} {o : PO} (p : o.Is a H h) (eH : ∀ b ∈ o.adr a, ∀ u, H b = some u → H' b = some u) (e : Ex h h') : o.Is a H' h' := by
  cases o with
  | lst xs => obtain ⟨vs, h1, h2⟩ := p; exact ⟨vs, eH a (by simp [PO.adr]) _ h1, h2.up e⟩
  | dct ks xs => obtain ⟨vs, h1, h2, h3⟩ := p; exact ⟨vs, eH a (by simp [PO.adr]) _ h1, h2, h3.up e⟩
  | obj C dx ks xs => obtain ⟨vs, h1, h2, h3, h4⟩ := p; exact ⟨vs, eH a (by simp [PO.adr]) _ h1, eH dx (by simp [PO.adr]) _ h2, h3, h4.up e⟩
  | pen n => obtain ⟨vs, h1, h2⟩ := p; exact ⟨vs, eH a (by simp [PO.adr]) _ h1, h2.up e⟩
structure Rep (S : List Sl) (σ : L2.St) (H : Hp) : Prop where
  len : S.length = σ.length
  hd : Hideable (adrs S) H
  env : Env (view S) σ (vis S H)
  own : ∀ (i : Nat) (a : Addr) (o : PO), S[i]? = some (.own a o) → σ[i]? = some (some (.ref a)) ∧ o.Is a H (vis S H)
theorem view_len {S : List Sl} : (view S).length = S.length := by unfold view; rw [List.length_map]
theorem view_get {S : List Sl} {i : Nat} {p : PV} (h : (view S)[i]? = some (some p)) : S[i]? = some (.pv p) := by
  unfold view at h
  rw [List.getElem?_map] at h
  cases e : S[i]? with
  | none => rw [e] at h; cases h
  | some s =>
    rw [e] at h
    cases s with
    | pv q => cases h; rfl
    | no => cases h
    | own a o => cases h
theorem get_view {S : List Sl} {i : Nat} {p : PV} (h : S[i]? = some (.pv p)) : (view S)[i]? = some (some p) := by
  unfold view
  rw [List.getElem?_map, h]
  rfl
theorem view_set {S : List Sl} {i : Nat} {s : Sl} : view (S.set i s) = (view S).set i s.view := by
  unfold view
  rw [List.map_set]
theorem Rep.rl {S : List Sl} {σ : L2.St} {H : Hp} (r : Rep S σ H) : (view S).length = σ.length := view_len.trans r.len
theorem mem_adrs {S : List Sl} {i : Nat} {s : Sl} (h : S[i]? = some s) {b : Addr} (hb : b ∈ s.adr) : b ∈ adrs S := by
  induction S generalizing i with
  | nil => cases h
  | cons t S ih =>
    cases i with
    | zero => cases h; exact List.mem_append_left _ hb
    | succ i => exact List.mem_append_right _ (ih (by simpa using h))
theorem adrs_mem {S : List Sl} {b : Addr} (hb : b ∈ adrs S) : ∃ (i : Nat) (s : Sl), S[i]? = some s ∧ b ∈ s.adr := by
  induction S with
  | nil => cases hb
  | cons t S ih =>
    rcases List.mem_append.mp hb with h | h
    · exact ⟨0, t, rfl, h⟩
    · obtain ⟨i, s, h1, h2⟩ := ih h
      exact ⟨i + 1, s, h1, h2⟩
theorem Hideable.nodup {L : List Addr} {H : Hp} (h : Hideable L H) : L.Nodup := by
  induction h with
  | nil => exact List.nodup_nil
  | @one H D o L h hs r ih =>
    refine List.nodup_cons.mpr ⟨fun z => ?_, ih⟩
    obtain ⟨u, q, _⟩ := r.some D z
    rw [hid_same] at q
    cases q
  | @obj H D dx C fs L h hx r ih =>
    refine List.nodup_cons.mpr ⟨fun z => ?_, List.nodup_cons.mpr ⟨fun z => ?_, ih⟩⟩
    · rcases List.mem_cons.mp z with z | z
      · rw [z, hx] at h; cases h
      · obtain ⟨u, q, _⟩ := r.some D z
        by_cases e : D = dx
        · rw [e, hx] at h; cases h
        · rw [hid_ne e, hid_same] at q; cases q
    · obtain ⟨u, q, _⟩ := r.some dx z
      rw [hid_same] at q
      cases q
/-- unlike slots have unlike addresses -/
theorem adr_ne {S : List Sl} (h : (adrs S).Nodup) {i j : Nat} {s t : Sl} (hi : S[i]? = some s) (hj : S[j]? = some t) (ne : i ≠ j) {b : Addr} (hb : b ∈ s.adr) : b ∉ t.adr := by
  induction S generalizing i j with
  | nil => cases hi
  | cons u S ih =>
    have h' : (u.adr ++ adrs S).Nodup := h
    obtain ⟨n1, n2, n3⟩ := List.nodup_append.mp h'
    cases i with
    | zero =>
      cases j with
      | zero => exact absurd rfl ne
      | succ j => cases hi; exact fun z => n3 b hb b (mem_adrs (show S[j]? = some t by simpa using hj) z) rfl
    | succ i =>
      cases j with
      | zero => cases hj; exact fun z => n3 b z b (mem_adrs (show S[i]? = some s by simpa using hi) hb) rfl
      | succ j => exact ih n2 (by simpa using hi) (by simpa using hj) fun z => ne (by rw [z])
/-- the heap grows -/
theorem Rep.up {S : List Sl} {σ : L2.St} {H H' : Hp} (r : Rep S σ H) (e : Ex H H') : Rep S σ H' where
  len := r.len
  hd := r.hd.up e
  env := r.env.up (ex_visL e)
  own := fun i a o h => let ⟨h1, h2⟩ := r.own i a o h; ⟨h1, h2.up (fun b _ u q => e b u q) (ex_visL e)⟩
theorem Hideable.hid {L : List Addr} {H : Hp} {a : Addr} (h : Hideable L H) : a ∉ L → Hideable L (hid H a) := by
  intro hn
  induction h with
  | nil => exact .nil
  | @one H D o L h hs r ih =>
    have n1 : D ≠ a := fun z => hn (by simp [z])
    refine .one (by rw [hid_ne n1]; exact h) hs ?_
    have := ih fun z => hn (List.mem_cons_of_mem _ z)
    rw [show G.hid (G.hid H a) D = G.hid (G.hid H D) a from by funext b; unfold G.hid; by_cases z : b = a <;> by_cases y : b = D <;> simp [z, y]]
    exact this
  | @obj H D dx C fs L h hx r ih =>
    have n1 : D ≠ a := fun z => hn (by simp [z])
    have n2 : dx ≠ a := fun z => hn (by simp [z])
    refine .obj (by rw [hid_ne n1]; exact h) (by rw [hid_ne n2]; exact hx) ?_
    have := ih fun z => hn (List.mem_cons_of_mem _ (List.mem_cons_of_mem _ z))
    rw [show G.hid (G.hid (G.hid H a) D) dx = G.hid (G.hid (G.hid H D) dx) a from by funext b; unfold G.hid; by_cases z : b = a <;> by_cases y : b = D <;> by_cases x : b = dx <;> simp [z, y, x]]
    exact this
def PO.smp : PO → Bool
  | .obj _ _ _ _ => false
  | _ => true
theorem po_hide {a : Addr} {H h : Hp} {o : PO} (p : o.Is a H h) : ∀ {L : List Addr}, Hideable L H → (∀ b ∈ o.adr a, b ∉ L) → Hideable (o.adr a ++ L) H := by
  intro L hL hn
  cases o with
  | lst xs => obtain ⟨vs, h1, _⟩ := p; exact .one h1 rfl (hL.hid (hn a (by simp [PO.adr])))
  | dct ks xs => obtain ⟨vs, h1, _⟩ := p; exact .one h1 rfl (hL.hid (hn a (by simp [PO.adr])))
  | pen n => obtain ⟨vs, h1, _⟩ := p; exact .one h1 rfl (hL.hid (hn a (by simp [PO.adr])))
  | obj C dx ks xs =>
    obtain ⟨vs, h1, h2, _⟩ := p
    exact .obj h1 h2 ((hL.hid (hn a (by simp [PO.adr]))).hid (hn dx (by simp [PO.adr])))
theorem ex_hid1 {p : Addr} {H : Hp} : Ex (hid H p) H := fun b o h => by
  by_cases z : b = p
  · rw [z, hid_same] at h; cases h
  · rwa [hid_ne z] at h
theorem po_unhide {a : Addr} {H h : Hp} {o : PO} (p : o.Is a H h) {L : List Addr} (hL : Hideable (o.adr a ++ L) H) : Hideable L H ∧ ∀ b ∈ o.adr a, b ∉ L := by
  refine ⟨?_, fun b hb hc => (List.nodup_append.mp hL.nodup).2.2 b hb b hc rfl⟩
  have smp : ∀ {w : HO}, H a = some w → Smp w = true → Hideable (a :: L) H → Hideable L H := fun {w} hw hs z => by
    cases z with
    | one h hs' r => exact r.up ex_hid1
    | obj h hx r => rw [hw] at h; cases h; cases hs
  cases o with
  | lst xs => obtain ⟨vs, h1, _⟩ := p; exact smp h1 rfl hL
  | dct ks xs => obtain ⟨vs, h1, _⟩ := p; exact smp h1 rfl hL
  | pen n => obtain ⟨vs, h1, _⟩ := p; exact smp h1 rfl hL
  | obj C dx ks xs =>
    obtain ⟨vs, h1, h2, _⟩ := p
    cases (show Hideable (a :: dx :: L) H from hL) with
    | one h hs r => rw [h1] at h; cases h; cases hs
    | obj h hx r => exact (r.up ex_hid1).up ex_hid1
/-- a slot's own object let go: what is left is hidden -/
theorem hide_drop {S : List Sl} {H : Hp} {i : Nat} {s : Sl} (ho : ∀ (j : Nat) (a : Addr) (o : PO), S[j]? = some (.own a o) → ∃ h, o.Is a H h) (hs : s.adr = []) (hL : Hideable (adrs S) H) : Hideable (adrs (S.set i s)) H := by
  induction S generalizing i H with
  | nil => exact hL
  | cons t S ih =>
    have step : Hideable (adrs S) H ∧ ∀ b ∈ t.adr, b ∉ adrs S := by
      cases t with
      | no => exact ⟨hL, fun b hb => nomatch hb⟩
      | pv p => exact ⟨hL, fun b hb => nomatch hb⟩
      | own a o => obtain ⟨h, q⟩ := ho 0 a o rfl; exact po_unhide q hL
    cases i with
    | zero =>
      show Hideable (s.adr ++ adrs S) H
      rw [hs]
      exact step.1
    | succ i =>
      have hs2 : Hideable (adrs (S.set i s)) H := ih (fun j a o q => ho (j + 1) a o (by simpa using q)) step.1
      show Hideable (t.adr ++ adrs (S.set i s)) H
      have sub : ∀ b, b ∈ adrs (S.set i s) → b ∈ adrs S := fun b hb => by
        obtain ⟨j, u, q1, q2⟩ := adrs_mem hb
        by_cases e : j = i
        · subst e
          have hi : j < S.length := by
            have := (List.getElem?_eq_some_iff.mp q1).1
            simpa using this
          rw [List.getElem?_set_self hi] at q1
          cases q1
          rw [hs] at q2
          cases q2
        · rw [List.getElem?_set_ne (Ne.symm e)] at q1
          exact mem_adrs q1 q2
      cases t with
      | no => exact hs2
      | pv p => exact hs2
      | own a o =>
        obtain ⟨h, q⟩ := ho 0 a o rfl
        exact po_hide q hs2 fun b hb hc => step.2 b hb (sub b hc)
/-- a slot gets an own object -/
theorem hide_put {S : List Sl} {H h : Hp} {i : Nat} {a : Addr} {o : PO} (p : o.Is a H h) (ho : ∀ (j : Nat) (a : Addr) (o : PO), S[j]? = some (.own a o) → ∃ h, o.Is a H h) (hi : ∀ s, S[i]? = some s → s.adr = []) (hn : ∀ b ∈ o.adr a, b ∉ adrs S) (hL : Hideable (adrs S) H) : Hideable (adrs (S.set i (.own a o))) H := by
  induction S generalizing i with
  | nil => exact hL
  | cons t S ih =>
    have step : Hideable (adrs S) H ∧ ∀ b ∈ t.adr, b ∉ adrs S := by
      cases t with
      | no => exact ⟨hL, fun b hb => nomatch hb⟩
      | pv p => exact ⟨hL, fun b hb => nomatch hb⟩
      | own a o => obtain ⟨h, q⟩ := ho 0 a o rfl; exact po_unhide q hL
    cases i with
    | zero =>
      show Hideable (o.adr a ++ adrs S) H
      exact po_hide p step.1 fun b hb hc => hn b hb (List.mem_append_right _ hc)
    | succ i =>
      have hs2 : Hideable (adrs (S.set i (.own a o))) H := ih (fun j a o q => ho (j + 1) a o (by simpa using q)) (fun s q => hi s (by simpa using q)) (fun b hb hc => hn b hb (List.mem_append_right _ hc)) step.1
      show Hideable (t.adr ++ adrs (S.set i (.own a o))) H
      have sub : ∀ b, b ∈ adrs (S.set i (.own a o)) → b ∈ adrs S ∨ b ∈ o.adr a := fun b hb => by
        obtain ⟨j, u, q1, q2⟩ := adrs_mem hb
        by_cases e : j = i
        · subst e
          have hi : j < S.length := by
            have := (List.getElem?_eq_some_iff.mp q1).1
            simpa using this
          rw [List.getElem?_set_self hi] at q1
          cases q1
          exact .inr q2
        · rw [List.getElem?_set_ne (Ne.symm e)] at q1
          exact .inl (mem_adrs q1 q2)
      cases t with
      | no => exact hs2
      | pv p => exact hs2
      | own c u =>
        obtain ⟨h, q⟩ := ho 0 c u rfl
        refine po_hide q hs2 fun b hb hc => ?_
        rcases sub b hc with z | z
        · exact step.2 b hb z
        · exact hn b z (List.mem_append_left _ hb)
theorem adrs_set_own {S : List Sl} {i : Nat} {a : Addr} {o u : PO} (h : S[i]? = some (.own a o)) (e : o.adr a = u.adr a) : adrs (S.set i (.own a u)) = adrs S := by
  induction S generalizing i with
  | nil => rfl
  | cons t S ih =>
    cases i with
    | zero => cases h; show u.adr a ++ adrs S = o.adr a ++ adrs S; rw [e]
    | succ i => show t.adr ++ adrs (S.set i _) = _; rw [ih (by simpa using h)]; rfl
theorem adrs_set_pure {S : List Sl} {i : Nat} {s t : Sl} (h : S[i]? = some s) (e : s.adr = []) (e2 : t.adr = []) : adrs (S.set i t) = adrs S := by
  induction S generalizing i with
  | nil => rfl
  | cons u S ih =>
    cases i with
    | zero => cases h; show t.adr ++ adrs S = s.adr ++ adrs S; rw [e, e2]
    | succ i => show u.adr ++ adrs (S.set i _) = _; rw [ih (by simpa using h)]; rfl
/-! ### what becomes of the state -/
def Sl.pure : Sl → Bool
  | .own _ _ => false
  | _ => true
def NotOwn (S : List Sl) (i : Nat) : Prop := ((S[i]?).map Sl.pure).getD true = true
theorem NotOwn.adr {S : List Sl} {i : Nat} (h : NotOwn S i) {s : Sl} (e : S[i]? = some s) : s.adr = [] := by
  unfold NotOwn at h
  rw [e] at h
  cases s with
  | own a o => cases h
  | _ => rfl
theorem adrs_pure {S : List Sl} {i : Nat} {t : Sl} (h : NotOwn S i) (e : t.adr = []) : adrs (S.set i t) = adrs S := by
  cases q : S[i]? with
  | none => rw [List.set_eq_of_length_le (by simpa using List.getElem?_eq_none_iff.mp q)]
  | some s => exact adrs_set_pure q (h.adr q) e
section
variable {S : List Sl} {σ : L2.St} {H H' : Hp} {i : Nat} {p : PV} {v : V} {a : Addr} {o u : PO}
theorem Rep.setP (r : Rep S σ H) (hn : NotOwn S i) (hv : p.Is v (vis S H)) : Rep (S.set i (.pv p)) (σ.set i (some v)) H := by
  have ea : adrs (S.set i (.pv p)) = adrs S := adrs_pure hn rfl
  refine ⟨by simp [r.len], by rw [ea]; exact r.hd, ?_, fun j b w q => ?_⟩
  · show Env (view (S.set i _)) _ (visL (adrs (S.set i _)) H)
    rw [ea, view_set]
    exact r.env.set hv r.rl
  · show _ ∧ w.Is b H (visL (adrs (S.set i _)) H)
    rw [ea]
    by_cases e : j = i
    · subst e
      have hi : j < S.length := by
        have := (List.getElem?_eq_some_iff.mp q).1
        simpa using this
      rw [List.getElem?_set_self hi] at q
      cases q
    · rw [List.getElem?_set_ne (Ne.symm e)] at q ⊢
      exact r.own j b w q
/-- a slot is forgotten (its object, if it had one, is let go) -/
theorem vis_mono {S T : List Sl} {H : Hp} (h : ∀ b, b ∈ adrs T → b ∈ adrs S) : Ex (vis S H) (vis T H) := fun b w q => by
  unfold vis visL at *
  by_cases e : b ∈ adrs S
  · rw [if_pos e] at q; cases q
  · rw [if_neg e] at q
    rw [if_neg fun z => e (h b z)]
    exact q
theorem sub_drop {S : List Sl} {i : Nat} {s : Sl} (hs : s.adr = []) : ∀ b, b ∈ adrs (S.set i s) → b ∈ adrs S := fun b hb => by
  obtain ⟨j, u, q1, q2⟩ := adrs_mem hb
  by_cases e : j = i
  · subst e
    have hi : j < S.length := by
      have := (List.getElem?_eq_some_iff.mp q1).1
      simpa using this
    rw [List.getElem?_set_self hi] at q1
    cases q1
    rw [hs] at q2
    cases q2
  · rw [List.getElem?_set_ne (Ne.symm e)] at q1
    exact mem_adrs q1 q2
theorem Rep.drop (r : Rep S σ H) : Rep (S.set i .no) σ H := by
  have e1 : Ex (vis S H) (vis (S.set i .no) H) := vis_mono (sub_drop rfl)
  refine ⟨by simp [r.len], hide_drop (fun j a o q => ⟨_, (r.own j a o q).2⟩) rfl r.hd, ?_, fun j b w q => ?_⟩
  · rw [view_set]
    intro j q hq
    by_cases z : j = i
    · subst z
      have hi : j < (view S).length := by
        have := (List.getElem?_eq_some_iff.mp hq).1
        simpa using this
      rw [List.getElem?_set_self hi] at hq
      cases hq
    · rw [List.getElem?_set_ne (Ne.symm z)] at hq
      obtain ⟨v, h1, h2⟩ := r.env j q hq
      exact ⟨v, h1, h2.up e1⟩
  · by_cases e : j = i
    · subst e
      have hi : j < S.length := by
        have := (List.getElem?_eq_some_iff.mp q).1
        simpa using this
      rw [List.getElem?_set_self hi] at q
      cases q
    · rw [List.getElem?_set_ne (Ne.symm e)] at q
      obtain ⟨h1, h2⟩ := r.own j b w q
      exact ⟨h1, h2.up (fun _ _ _ y => y) e1⟩
def PO.pv : PO → PV
  | .lst xs => .lst xs
  | .dct ks xs => .dct ks xs
  | .obj C _ ks xs => .ins C ks xs
  | .pen _ => .non
def PO.still : PO → Bool
  | .pen _ => false
  | _ => true
/-- an own object is left as it is from now on: data -/
theorem Rep.freeze (r : Rep S σ H) (hi : S[i]? = some (.own a o)) (hs : o.still = true) : Rep (S.set i (.pv o.pv)) σ H := by
  have e1 : Ex (vis S H) (vis (S.set i (.pv o.pv)) H) := vis_mono (sub_drop rfl)
  have hl : i < S.length := (List.getElem?_eq_some_iff.mp hi).1
  obtain ⟨o1, o2⟩ := r.own i a o hi
  have hna : ∀ b ∈ o.adr a, b ∉ adrs (S.set i (.pv o.pv)) := fun b hb hc => by
    obtain ⟨j, t, q1, q2⟩ := adrs_mem hc
    by_cases e : j = i
    · subst e
      rw [List.getElem?_set_self hl] at q1
      cases q1
      cases q2
    · rw [List.getElem?_set_ne (Ne.symm e)] at q1
      exact adr_ne r.hd.nodup hi q1 (Ne.symm e) hb q2
  have va : ∀ b ∈ o.adr a, vis (S.set i (.pv o.pv)) H b = H b := fun b hb => by
    unfold vis visL
    rw [if_neg (hna b hb)]
  refine ⟨by simp [r.len], hide_drop (fun j a o q => ⟨_, (r.own j a o q).2⟩) rfl r.hd, ?_, fun j b w q => ?_⟩
  · rw [view_set]
    intro j q hq
    by_cases z : j = i
    · subst z
      rw [List.getElem?_set_self (by rw [view_len]; exact hl)] at hq
      cases hq
      refine ⟨_, o1, ?_⟩
      cases o with
      | lst xs => obtain ⟨vs, h1, h2⟩ := o2; exact ⟨a, vs, rfl, by rw [va a (by simp [PO.adr])]; exact h1, h2.up e1⟩
      | dct ks xs => obtain ⟨vs, h1, h2, h3⟩ := o2; exact ⟨a, vs, rfl, by rw [va a (by simp [PO.adr])]; exact h1, h2, h3.up e1⟩
      | obj C dx ks xs => obtain ⟨vs, h1, h2, h3, h4⟩ := o2; exact ⟨a, dx, vs, rfl, by rw [va a (by simp [PO.adr])]; exact h1, h3, h4.up e1⟩
      | pen n => cases hs
    · rw [List.getElem?_set_ne (Ne.symm z)] at hq
      obtain ⟨v, h1, h2⟩ := r.env j q hq
      exact ⟨v, h1, h2.up e1⟩
  · by_cases e : j = i
    · subst e
      rw [List.getElem?_set_self hl] at q
      cases q
    · rw [List.getElem?_set_ne (Ne.symm e)] at q
      obtain ⟨h1, h2⟩ := r.own j b w q
      exact ⟨h1, h2.up (fun _ _ _ y => y) e1⟩
/-- an own object is changed -/
theorem Rep.chg (r : Rep S σ H) (hi : S[i]? = some (.own a o)) (ea : o.adr a = u.adr a) (hH : ∀ b, b ∉ o.adr a → H' b = H b) (hu : u.Is a H' (vis S H)) : Rep (S.set i (.own a u)) σ H' ∧ vis (S.set i (.own a u)) H' = vis S H := by
  have hl : i < S.length := (List.getElem?_eq_some_iff.mp hi).1
  have e2 : adrs (S.set i (.own a u)) = adrs S := adrs_set_own hi ea
  have ev : visL (adrs S) H' = visL (adrs S) H := by
    funext b
    unfold visL
    by_cases e : b ∈ adrs S
    · rw [if_pos e, if_pos e]
    · rw [if_neg e, if_neg e]
      exact hH b fun z => e (mem_adrs hi z)
  have ev2 : vis (S.set i (.own a u)) H' = vis S H := by show visL (adrs (S.set i _)) H' = _; rw [e2]; exact ev
  have hS : ∀ (j : Nat) (b : Addr) (w : PO), (S.set i (.own a u))[j]? = some (.own b w) → σ[j]? = some (some (.ref b)) ∧ w.Is b H' (vis S H) := fun j b w q => by
    by_cases e : j = i
    · subst e
      rw [List.getElem?_set_self hl] at q
      cases q
      exact ⟨(r.own j a o hi).1, hu⟩
    · rw [List.getElem?_set_ne (Ne.symm e)] at q
      obtain ⟨h1, h2⟩ := r.own j b w q
      refine ⟨h1, h2.up (fun c hc t y => ?_) (Ex.refl _)⟩
      rw [hH c fun z => adr_ne r.hd.nodup hi q (Ne.symm e) z hc]
      exact y
  refine ⟨⟨by simp [r.len], ?_, ?_, fun j b w q => ?_⟩, ev2⟩
  · -- all but this one stand; this one is put again
    have d1 : Hideable (adrs ((S.set i (.own a u)).set i .no)) H := by
      rw [List.set_set]
      exact hide_drop (fun j a o q => ⟨_, (r.own j a o q).2⟩) rfl r.hd
    have hna : ∀ b ∈ u.adr a, b ∉ adrs ((S.set i (.own a u)).set i .no) := fun b hb hc => by
      rw [List.set_set] at hc
      obtain ⟨j, t, q1, q2⟩ := adrs_mem hc
      by_cases e : j = i
      · subst e
        rw [List.getElem?_set_self hl] at q1
        cases q1
        cases q2
      · rw [List.getElem?_set_ne (Ne.symm e)] at q1
        exact adr_ne r.hd.nodup hi q1 (Ne.symm e) (by show b ∈ o.adr a; rw [ea]; exact hb) q2
    have d2 : Hideable (adrs ((S.set i (.own a u)).set i .no)) H' := by
      have fr : ∀ {L : List Addr} {G G' : Hp}, Hideable L G → (∀ b ∈ L, G' b = G b) → Hideable L G' := fun {L G G'} h => by
        intro hh
        induction h generalizing G' with
        | nil => exact .nil
        | @one G D w L h hs r ih =>
          refine .one (by rw [hh D (by simp)]; exact h) hs (ih fun b hb => ?_)
          by_cases z : b = D
          · rw [z, hid_same, hid_same]
          · rw [hid_ne z, hid_ne z]; exact hh b (List.mem_cons_of_mem _ hb)
        | @obj G D dx C fs L h hx r ih =>
          refine .obj (by rw [hh D (by simp)]; exact h) (by rw [hh dx (by simp)]; exact hx) (ih fun b hb => ?_)
          by_cases y : b = dx
          · rw [y, hid_same, hid_same]
          · rw [hid_ne y, hid_ne y]
            by_cases z : b = D
            · rw [z, hid_same, hid_same]
            · rw [hid_ne z, hid_ne z]; exact hh b (List.mem_cons_of_mem _ (List.mem_cons_of_mem _ hb))
      exact fr d1 fun b hb => hH b fun z => hna b (by rw [← ea]; exact z) hb
    have d3 := hide_put (S := (S.set i (.own a u)).set i .no) (i := i) hu (fun j b w q => ?_) (fun s q => ?_) hna d2
    · rw [List.set_set, List.set_set] at d3
      exact d3
    · rw [List.set_set] at q
      by_cases e : j = i
      · subst e
        rw [List.getElem?_set_self hl] at q
        cases q
      · rw [List.getElem?_set_ne (Ne.symm e)] at q
        exact ⟨_, (hS j b w (by rw [List.getElem?_set_ne (Ne.symm e)]; exact q)).2⟩
    · rw [List.set_set, List.getElem?_set_self hl] at q
      cases q
      rfl
  · rw [ev2, view_set]
    intro j q hq
    by_cases z : j = i
    · subst z
      rw [List.getElem?_set_self (by rw [view_len]; exact hl)] at hq
      cases hq
    · rw [List.getElem?_set_ne (Ne.symm z)] at hq
      exact r.env j q hq
  · rw [ev2]
    exact hS j b w q
/-- a new own object: a list, a dict -/
theorem Rep.new {d : Addr} {w : HO} (r : Rep S σ H) (hn : NotOwn S i) (hl : i < S.length) (hd : H d = none) (ea : o.adr d = [d]) (ho : o.Is d (upd H d w) (vis S H)) : Rep (S.set i (.own d o)) (σ.set i (some (.ref d))) (upd H d w) ∧ vis (S.set i (.own d o)) (upd H d w) = vis S H := by
  have hnd : d ∉ adrs S := fun z => by
    obtain ⟨u, q, _⟩ := r.hd.some d z
    rw [hd] at q
    cases q
  have mem : ∀ b, b ∈ adrs (S.set i (.own d o)) ↔ b ∈ adrs S ∨ b = d := fun b => by
    constructor
    · intro hb
      obtain ⟨j, t, q1, q2⟩ := adrs_mem hb
      by_cases e : j = i
      · subst e
        rw [List.getElem?_set_self hl] at q1
        cases q1
        have q3 : b ∈ o.adr d := q2
        rw [ea] at q3
        exact .inr (List.mem_singleton.mp q3)
      · rw [List.getElem?_set_ne (Ne.symm e)] at q1
        exact .inl (mem_adrs q1 q2)
    · rintro (hb | hb)
      · obtain ⟨j, t, q1, q2⟩ := adrs_mem hb
        by_cases e : j = i
        · subst e
          rw [hn.adr q1] at q2
          cases q2
        · exact mem_adrs (i := j) (by rw [List.getElem?_set_ne (Ne.symm e)]; exact q1) q2
      · subst hb
        exact mem_adrs (i := i) (List.getElem?_set_self hl) (by show _ ∈ o.adr _; rw [ea]; simp)
  have ev : vis (S.set i (.own d o)) (upd H d w) = vis S H := by
    funext b
    unfold vis visL
    by_cases e : b = d
    · subst e
      rw [if_pos ((mem b).mpr (.inr rfl)), if_neg hnd, hd]
    · by_cases m : b ∈ adrs S
      · rw [if_pos ((mem b).mpr (.inl m)), if_pos m]
      · rw [if_neg (fun z => ((mem b).mp z).elim m e), if_neg m, upd_ne e]
  have old : ∀ (j : Nat) (a : Addr) (u : PO), S[j]? = some (.own a u) → σ[j]? = some (some (.ref a)) ∧ u.Is a (upd H d w) (vis S H) := fun j a u q => by
    obtain ⟨h1, h2⟩ := r.own j a u q
    refine ⟨h1, h2.up (fun b hb t y => ?_) (Ex.refl _)⟩
    rw [upd_ne (ne_of_none y hd)]
    exact y
  refine ⟨⟨by simp [r.len], ?_, ?_, fun j b u q => ?_⟩, ev⟩
  · refine hide_put ho (fun j a u q => ⟨_, (old j a u q).2⟩) (fun s q => hn.adr q) (fun b hb => ?_) (r.hd.up (Ex.new hd))
    rw [ea] at hb
    rw [List.mem_singleton.mp hb]
    exact hnd
  · rw [ev, view_set]
    intro j q hq
    by_cases z : j = i
    · subst z
      rw [List.getElem?_set_self (by rw [view_len]; exact hl)] at hq
      cases hq
    · rw [List.getElem?_set_ne (Ne.symm z)] at hq ⊢
      exact r.env j q hq
  · rw [ev]
    by_cases e : j = i
    · subst e
      rw [List.getElem?_set_self hl] at q
      cases q
      exact ⟨by rw [List.getElem?_set_self (by rw [← r.len]; exact hl)], ho⟩
    · rw [List.getElem?_set_ne (Ne.symm e)] at q ⊢
      exact old j b u q
end
end E
set_option maxHeartbeats 4000000
/-! E5: targets; what a block does, by the state of the def's names. -/
namespace E
open PySem PySem.Spec PyProof.Rows L2 Evl G
/-! ### targets -/
inductive Pat where
  | nm (j : Nat) | tp (ps : List Pat)
mutual
def Pat.bind : Pat → PV → Option (List (Nat × PV))
  | .nm j, p => some [(j, p)]
  | .tp ps, .tup xs => Pat.binds ps xs
  | .tp _, _ => none
def Pat.binds : List Pat → List PV → Option (List (Nat × PV))
  | [], [] => some []
  | p :: ps, x :: xs => match p.bind x with
    | some a => (match Pat.binds ps xs with
      | some b => some (a ++ b)
      | none => none)
    | none => none
  | _, _ => none
end
mutual
def gPat (K : PySem.W.Frag) : Pat → L2.TG
  | .nm j => gName j
  | .tp ps => gTup K ps.length (gPats K ps)
def gPats (K : PySem.W.Frag) : List Pat → TGs
  | [] => gNil
  | p :: ps => gCons (gPat K p) (gPats K ps)
end
mutual
def Pat.vars : Pat → List Nat
  | .nm j => [j]
  | .tp ps => Pat.varss ps
def Pat.varss : List Pat → List Nat
  | [] => []
  | p :: ps => p.vars ++ Pat.varss ps
end
def setR (ρ : Rho) (bs : List (Nat × PV)) : Rho := bs.foldl (fun r b => r.set b.1 (some b.2)) ρ
def setS (S : List Sl) (bs : List (Nat × PV)) : List Sl := bs.foldl (fun r b => r.set b.1 (.pv b.2)) S
/-- the slots behind an assignment -/
def Bound : List (Nat × PV) → L2.St → L2.St → Hp → Prop
  | [], σ, σ2, _ => σ2 = σ
  | b :: bs, σ, σ2, H => ∃ v, b.2.Is v H ∧ Bound bs (σ.set b.1 (some v)) σ2 H
theorem bound_app {H : Hp} : ∀ {as bs : List (Nat × PV)} {σ σ1 σ2 : L2.St}, Bound as σ σ1 H → Bound bs σ1 σ2 H → Bound (as ++ bs) σ σ2 H
  | [], bs, σ, σ1, σ2, h, g => by
    have e : σ1 = σ := h
    subst e
    exact g
  | a :: as, bs, σ, σ1, σ2, ⟨v, h1, h2⟩, g => ⟨v, h1, bound_app h2 g⟩
theorem bound_up {H H' : Hp} (e : Ex H H') : ∀ {bs : List (Nat × PV)} {σ σ2 : L2.St}, Bound bs σ σ2 H → Bound bs σ σ2 H'
  | [], _, _, h => h
  | b :: bs, _, _, ⟨v, h1, h2⟩ => ⟨v, h1.up e, bound_up e h2⟩
theorem bound_len {H : Hp} : ∀ {bs : List (Nat × PV)} {σ σ2 : L2.St}, Bound bs σ σ2 H → σ2.length = σ.length
  | [], _, _, h => by rw [show _ = _ from h]
  | b :: bs, _, _, ⟨v, _, h⟩ => by rw [bound_len h, List.length_set]
theorem bound_env {H : Hp} : ∀ {bs : List (Nat × PV)} {ρ : Rho} {σ σ2 : L2.St}, ρ.length = σ.length → Env ρ σ H → Bound bs σ σ2 H → Env (setR ρ bs) σ2 H
  | [], _, _, _, _, e, h => by rw [show _ = _ from h]; exact e
  | b :: bs, ρ, σ, σ2, hl, e, ⟨v, h1, h2⟩ => by
    show Env (setR (ρ.set b.1 (some b.2)) bs) σ2 H
    exact bound_env (by simp [hl]) (e.set h1 hl) h2
theorem setR_len {ρ : Rho} {bs : List (Nat × PV)} : (setR ρ bs).length = ρ.length := by
  unfold setR
  induction bs generalizing ρ with
  | nil => rfl
  | cons b bs ih => rw [List.foldl_cons, ih, List.length_set]
theorem wipe_bound {H : Hp} : ∀ {bs : List (Nat × PV)} {σ σ2 : L2.St} {vs : List Nat}, (∀ b ∈ bs, b.1 ∈ vs) → Bound bs σ σ2 H → wipe σ2 vs = wipe σ vs
  | [], _, _, _, _, h => by rw [show _ = _ from h]
  | b :: bs, σ, σ2, vs, hb, ⟨v, _, h⟩ => by
    rw [wipe_bound (fun c hc => hb c (List.mem_cons_of_mem _ hc)) h]
    have hm := hb b (List.mem_cons_self ..)
    clear h hb
    induction vs with
    | nil => cases hm
    | cons w vs ih =>
      show (wipe (σ.set b.1 (some v)) vs).set w none = (wipe σ vs).set w none
      by_cases e : b.1 ∈ vs
      · rw [ih e]
      · have ew : b.1 = w := (List.mem_cons.mp hm).resolve_right e
        have sw : ∀ (vs : List Nat), wipe (σ.set b.1 (some v)) vs = wipe σ vs ∨ wipe (σ.set b.1 (some v)) vs = (wipe σ vs).set b.1 (some v) := by
          intro vs
          induction vs with
          | nil => exact .inr rfl
          | cons u us iu =>
            show (wipe (σ.set b.1 (some v)) us).set u none = (wipe σ us).set u none ∨ (wipe (σ.set b.1 (some v)) us).set u none = ((wipe σ us).set u none).set b.1 (some v)
            rcases iu with z | z
            · rw [z]; exact .inl rfl
            · rw [z]
              by_cases y : b.1 = u
              · subst y; rw [List.set_set]; exact .inl rfl
              · rw [List.set_comm _ _ y]; exact .inr rfl
        rcases sw vs with z | z
        · rw [z]
        · rw [z, ← ew, List.set_set]
theorem wipe_idem {σ : L2.St} {vs : List Nat} : wipe (wipe σ vs) vs = wipe σ vs := by
  apply List.ext_getElem?
  intro i
  have len : ∀ (τ : L2.St), (wipe τ vs).length = τ.length := fun τ => wipe_length τ vs
  have key : ∀ (τ : L2.St) (us : List Nat) (j : Nat), (wipe τ us)[j]? = if j ∈ us then (if j < τ.length then some none else none) else τ[j]? := by
    intro τ us
    induction us with
    | nil => intro j; rfl
    | cons u us ih =>
      intro j
      show ((wipe τ us).set u none)[j]? = _
      by_cases e : u = j
      · subst e
        by_cases hl : u < τ.length
        · rw [List.getElem?_set_self (by rw [wipe_length]; exact hl), if_pos (by simp), if_pos hl]
        · rw [if_pos (by simp), if_neg hl, List.getElem?_eq_none_iff.mpr (by simp [wipe_length]; omega)]
      · rw [List.getElem?_set_ne e, ih j]
        by_cases m : j ∈ us
        · rw [if_pos m, if_pos (List.mem_cons_of_mem _ m)]
        · rw [if_neg m, if_neg fun z => (List.mem_cons.mp z).elim (fun y => e y.symm) m]
  rw [key, key]
  by_cases m : i ∈ vs
  · rw [if_pos m, if_pos m, wipe_length]
  · rw [if_neg m]
theorem env_wipe {ρ : Rho} {σ : L2.St} {H : Hp} {vs : List Nat} (e : Env ρ σ H) (hv : ∀ j ∈ vs, ∀ p, ρ[j]? ≠ some (some p)) : Env ρ (wipe σ vs) H := fun i p h => by
  obtain ⟨v, h1, h2⟩ := e i p h
  refine ⟨v, ?_, h2⟩
  have hn : i ∉ vs := fun z => hv i z p h
  clear hv
  induction vs with
  | nil => exact h1
  | cons u us ih =>
    show ((wipe σ us).set u none)[i]? = _
    rw [List.getElem?_set_ne (fun z => hn (by simp [z]))]
    exact ih fun z => hn (List.mem_cons_of_mem _ z)
def forget (ρ : Rho) (vs : List Nat) : Rho := vs.foldr (fun v r => r.set v none) ρ
theorem forget_len {ρ : Rho} {vs : List Nat} : (forget ρ vs).length = ρ.length := by
  induction vs with
  | nil => rfl
  | cons u us ih => show ((forget ρ us).set u none).length = _; rw [List.length_set, ih]
theorem env_forget {ρ : Rho} {σ : L2.St} {H : Hp} {vs : List Nat} (e : Env ρ σ H) : Env (forget ρ vs) (wipe σ vs) H := by
  induction vs with
  | nil => exact e
  | cons u us ih => exact ih.wipe
mutual
theorem gPat_run {K : PySem.W.Frag} {h H2 : Hp} (hH : ∀ a xs, h a = some (.tup xs) → H2 a = some (.tup xs)) : ∀ {pat : Pat} {p : PV} {bs : List (Nat × PV)} {v : V} {σ : L2.St} {Q : L2.St → Hp → Prop},
    pat.bind p = some bs → p.Is v h → (∀ σ2, Bound bs σ σ2 h → Q σ2 H2) → gPat K pat v σ H2 Q
  | .nm j, p, bs, v, σ, Q, hb, hv, hq => by
    cases (show some [(j, p)] = some bs from hb)
    exact hq _ ⟨v, hv, rfl⟩
  | .tp ps, .tup xs, bs, v, σ, Q, hb, ⟨a, vs, h1, h2, h3⟩, hq => by
    refine ⟨a, vs, h1, SqT.of (hH a vs h2), ?_, ?_⟩
    · rw [iss_len h3]
      have := binds_len (show Pat.binds ps xs = some bs from hb)
      exact this.symm
    · exact gPats_run hH (show Pat.binds ps xs = some bs from hb) h3 hq
  | .tp ps, .non, _, _, _, _, hb, _, _ => nomatch hb
  | .tp ps, .bl _, _, _, _, _, hb, _, _ => nomatch hb
  | .tp ps, .int _, _, _, _, _, hb, _, _ => nomatch hb
  | .tp ps, .str _, _, _, _, _, hb, _, _ => nomatch hb
  | .tp ps, .ty _, _, _, _, _, hb, _, _ => nomatch hb
  | .tp ps, .ref _, _, _, _, _, hb, _, _ => nomatch hb
  | .tp ps, .lst _, _, _, _, _, hb, _, _ => nomatch hb
  | .tp ps, .dct _ _, _, _, _, _, hb, _, _ => nomatch hb
  | .tp ps, .ins _ _ _, _, _, _, _, hb, _, _ => nomatch hb
theorem gPats_run {K : PySem.W.Frag} {h H2 : Hp} (hH : ∀ a xs, h a = some (.tup xs) → H2 a = some (.tup xs)) : ∀ {ps : List Pat} {xs : List PV} {bs : List (Nat × PV)} {vs : List V} {σ : L2.St} {Q : L2.St → Hp → Prop},
    Pat.binds ps xs = some bs → PV.Iss xs vs h → (∀ σ2, Bound bs σ σ2 h → Q σ2 H2) → gPats K ps vs σ H2 Q
  | [], [], bs, vs, σ, Q, hb, hv, hq => by
    cases (show some [] = some bs from hb)
    exact ⟨hv, hq σ rfl⟩
  | p :: ps, x :: xs, bs, vs, σ, Q, hb, ⟨y, r, h1, h2, h3⟩, hq => by
    unfold Pat.binds at hb
    cases e1 : p.bind x with
    | none => rw [e1] at hb; cases hb
    | some a =>
      rw [e1] at hb
      cases e2 : Pat.binds ps xs with
      | none => rw [e2] at hb; cases hb
      | some b =>
        rw [e2] at hb
        cases hb
        refine ⟨y, r, h1, gPat_run hH e1 h2 fun σ1 b1 => gPats_run hH e2 h3 fun σ2 b2 => hq σ2 (bound_app b1 b2)⟩
  | [], _ :: _, _, _, _, _, hb, _, _ => nomatch hb
  | _ :: _, [], _, _, _, _, hb, _, _ => nomatch hb
theorem binds_len : ∀ {ps : List Pat} {xs : List PV} {bs : List (Nat × PV)}, Pat.binds ps xs = some bs → ps.length = xs.length
  | [], [], _, _ => rfl
  | p :: ps, x :: xs, bs, hb => by
    unfold Pat.binds at hb
    cases e1 : p.bind x with
    | none => rw [e1] at hb; cases hb
    | some a =>
      rw [e1] at hb
      cases e2 : Pat.binds ps xs with
      | none => rw [e2] at hb; cases hb
      | some b => rw [List.length_cons, List.length_cons, binds_len e2]
  | [], _ :: _, _, hb => nomatch hb
  | _ :: _, [], _, hb => nomatch hb
end
mutual
theorem bind_vars : ∀ {pat : Pat} {p : PV} {bs : List (Nat × PV)}, pat.bind p = some bs → ∀ b ∈ bs, b.1 ∈ pat.vars
  | .nm j, p, bs, hb => by
    cases (show some [(j, p)] = some bs from hb)
    intro b hb
    rw [List.mem_singleton.mp hb]
    exact List.mem_singleton_self _
  | .tp ps, .tup xs, bs, hb => binds_vars (show Pat.binds ps xs = some bs from hb)
  | .tp ps, .non, _, hb => nomatch hb
  | .tp ps, .bl _, _, hb => nomatch hb
  | .tp ps, .int _, _, hb => nomatch hb
  | .tp ps, .str _, _, hb => nomatch hb
  | .tp ps, .ty _, _, hb => nomatch hb
  | .tp ps, .ref _, _, hb => nomatch hb
  | .tp ps, .lst _, _, hb => nomatch hb
  | .tp ps, .dct _ _, _, hb => nomatch hb
  | .tp ps, .ins _ _ _, _, hb => nomatch hb
theorem binds_vars : ∀ {ps : List Pat} {xs : List PV} {bs : List (Nat × PV)}, Pat.binds ps xs = some bs → ∀ b ∈ bs, b.1 ∈ Pat.varss ps
  | [], [], bs, hb => by
    cases (show some [] = some bs from hb)
    intro b h
    cases h
  | p :: ps, x :: xs, bs, hb => by
    unfold Pat.binds at hb
    cases e1 : p.bind x with
    | none => rw [e1] at hb; cases hb
    | some a =>
      rw [e1] at hb
      cases e2 : Pat.binds ps xs with
      | none => rw [e2] at hb; cases hb
      | some b =>
        rw [e2] at hb
        cases hb
        intro c hc
        rcases List.mem_append.mp hc with h | h
        · exact List.mem_append_left _ (bind_vars e1 c h)
        · exact List.mem_append_right _ (binds_vars e2 c h)
  | [], _ :: _, _, hb => nomatch hb
  | _ :: _, [], _, hb => nomatch hb
end
/-! ### what is walked, beside what is hidden -/
/-- h: what was seen of the heap when the walk began; M: what is hidden at a turn -/
structure WalkU {α : Type} (f : α → PV) (as : List α) (h : Hp) (G : Hp → Prop) (Y : Nat → Hp → V → Hp → Prop) : Prop where
  g : ∀ H', Ex h H' → G H'
  y : ∀ M i Ha x Hb, Ex h (visL M Ha) → (∀ b ∈ M, ∃ o, Ha b = some o) → Y i Ha x Hb → Ex Ha Hb ∧ ∃ a, as[i]? = some a ∧ (f a).Is x (visL M Hb)
def IU (X : Cx) {α : Type} (tg iter : Expr) (ρ : Rho) (f : α → PV) (as : List α) : Prop := ∀ L σ H, Hideable L H → ρ.length = σ.length → Env ρ σ (visL L H) → ∃ wi, PI X tg iter wi ∧ ∀ H1, Ex H H1 → ∀ Rr : It → Hp → Prop,
  (∀ J H2 G Y, Ex H1 H2 → Walk J as.length G Y → WalkU f as (visL L H2) G Y → Rr J H2) → wi σ H1 Rr
section
variable {X : Cx} {ρ : Rho} {α β γ : Type} {f : α → PV} {g : β → PV} {as : List α} {bs : List β} {tg l l2 l3 : Expr} {pos pp tpos : Pos} {elts : List Expr} {kk n : Nat} {L : List Addr} {σ : L2.St} {H : Hp}
theorem iss_map {H : Hp} : ∀ {as : List α} {vs : List V}, PV.Iss (as.map f) vs H ↔ All2 (fun a => (f a).Is) as vs H
  | [], _ => Iff.rfl
  | a :: as, vs => ⟨fun ⟨y, r, h1, h2, h3⟩ => ⟨y, r, h1, h2, iss_map.mp h3⟩, fun ⟨y, r, h1, h2, h3⟩ => ⟨y, r, h1, h2, iss_map.mpr h3⟩⟩
theorem vis_new {M : List Addr} {H : Hp} {T : Addr} {o : HO} (hT : H T = none) (hM : ∀ b ∈ M, ∃ o, H b = some o) : visL M (upd H T o) = upd (visL M H) T o ∧ visL M H T = none := by
  have hn : T ∉ M := fun z => by obtain ⟨w, q⟩ := hM T z; rw [hT] at q; cases q
  constructor
  · funext b
    unfold visL
    by_cases e : b = T
    · subst e; rw [if_neg hn, upd_same, upd_same]
    · rw [upd_ne e, upd_ne e]
  · unfold visL
    rw [if_neg hn]
    exact hT
theorem wu_at {h : Hp} {xs : List V} {G : Hp → Prop} (hg : ∀ H', Ex h H' → G H') (h2 : PV.Iss (as.map f) xs h) : WalkU f as h G (YAt xs) where
  g := hg
  y := fun M i Ha x Hb e _ y => by
    obtain ⟨rfl, hx⟩ := y
    obtain ⟨c, hc, hr⟩ := (iss_map.mp h2).get hx
    exact ⟨Ex.refl _, c, hc, hr.up e⟩
theorem lst_lift (h : EV X l ρ (.lst (as.map f))) (hL : Hideable L H) (hl : ρ.length = σ.length) (en : Env ρ σ (visL L H)) : EG X l σ H fun v H' => ∃ a vs, v = .ref a ∧ visL L H' a = some (.lst vs) ∧ PV.Iss (as.map f) vs (visL L H') := ev_lift h hL hl en
theorem iu_list (h : EV X l ρ (.lst (as.map f))) : IU X tg l ρ f as := fun L σ H hL hl en =>
  ⟨_, pi_list pe_W, fun H1 e1 Rr k => ev_lift h hL hl en H1 e1 _ fun v H2 e2 ⟨a, xs, hv, ha, h2⟩ => ⟨a, hv, ⟨xs, SqL.of (ex_vis _ _ ha)⟩, k _ H2 _ _ e2 (by rw [← List.length_map (f := f), ← iss_len h2]; exact walk_list) (wu_at (fun H' e => SqL.of (e _ _ ha)) h2)⟩⟩
theorem iu_tup (h : EV X l ρ (.tup (as.map f))) : IU X tg l ρ f as := fun L σ H hL hl en =>
  ⟨_, pi_tup pe_W, fun H1 e1 Rr k => ev_lift h hL hl en H1 e1 _ fun v H2 e2 ⟨a, xs, hv, ha, h2⟩ => ⟨a, hv, ⟨xs, SqT.of (ex_vis _ _ ha)⟩, k _ H2 _ _ e2 (by rw [← List.length_map (f := f), ← iss_len h2]; exact walk_tup) (wu_at (fun H' e => SqT.of (e _ _ ha)) h2)⟩⟩
theorem iu_range (hm : X.mg "range" = none) (h : EV X l ρ (.int (n : Int))) (hn : n ≤ 1000000) (hg : Gl X "range" := by rfl) (hs : starEach [l] X.env = [(false, eval l X.env)] := by rfl) : IU X tg (.Call (.Name "range" pp) [l] [] pos) ρ (fun i : Nat => PV.int (i : Int)) (List.range n) := fun L σ H hL hl en => by
  refine ⟨_, pi_range1 hg hm pa_W hs, fun H1 e1 Rr k => ?_⟩
  refine (ag_cons (P := IsI (n : Int)) (ev_lift h hL hl en) ag_nil (hs := hs)) H1 e1 _ fun vs H2 e2 ⟨v, r, hv, hp, hr⟩ => ⟨(n : Int), by rw [hv, show v = V.int n from hp, show r = [] from hr], by omega, by omega, ?_⟩
  have w : Walk (Itr 0 ((n : Int)).toNat) (List.range n).length (fun _ => True) (fun i H x H' => H' = H ∧ i < n ∧ x = .int (i : Int)) := by
    rw [List.length_range]
    refine ⟨fun i _ hi _ => ?_, fun _ _ => ?_, fun i Ha x Hb hi _ y => ?_⟩
    · show i < ((n : Int)).toNat
      omega
    · show ((n : Int)).toNat ≤ n
      omega
    · obtain ⟨y1, y2⟩ := y
      exact ⟨y1, hi, by rw [y2, Int.zero_add]⟩
  refine k _ H2 _ _ e2 w ⟨fun _ _ => True.intro, fun M i Ha x Hb e _ y => ?_⟩
  obtain ⟨rfl, hi, rfl⟩ := y
  exact ⟨Ex.refl _, i, range_get hi, rfl⟩
def pr2 (f : α → PV) (g : β → PV) (q : α × β) : PV := .tup [f q.1, g q.2]
theorem wu_pair {h : Hp} {u v : Nat → Option V} {qs : List (α × β)} {G : Hp → Prop} (hg : ∀ H', Ex h H' → G H') (hf : ∀ i x y, u i = some x → v i = some y → ∃ q, qs[i]? = some q ∧ (f q.1).Is x h ∧ (g q.2).Is y h) : WalkU (pr2 f g) qs h G (YPair u v) where
  g := hg
  y := fun M i Ha w Hb e hM ⟨T, x, y, hv, hT, hb, hx, hy⟩ => by
    obtain ⟨q, hq, h1, h2⟩ := hf i x y hx hy
    subst hb hv
    obtain ⟨z1, z2⟩ := vis_new (o := .tup [x, y]) hT hM
    refine ⟨Ex.new hT, q, hq, ?_⟩
    rw [z1]
    exact tup_new z2 ⟨x, _, rfl, h1.up e, y, _, rfl, h2.up e, rfl⟩
theorem zip_hu {xs ys : List V} {h : Hp} (h1 : PV.Iss (as.map f) xs h) (h2 : PV.Iss (bs.map g) ys h) (i : Nat) (x y : V) (hx : xs[i]? = some x) (hy : ys[i]? = some y) : ∃ q, (as.zip bs)[i]? = some q ∧ (f q.1).Is x h ∧ (g q.2).Is y h := by
  obtain ⟨a, ha, ra⟩ := (iss_map.mp h1).get hx
  obtain ⟨b, hb, rb⟩ := (iss_map.mp h2).get hy
  refine ⟨(a, b), ?_, ra, rb⟩
  rw [List.getElem?_zip_eq_some]
  exact ⟨ha, hb⟩
theorem iss_len' {H : Hp} {vs : List V} (h : PV.Iss (as.map f) vs H) : vs.length = as.length := by rw [iss_len h, List.length_map]
theorem iu_zip (hm : X.mg "zip" = none) (h : EV X l ρ (.lst (as.map f))) (h' : EV X l2 ρ (.lst (bs.map g))) (hg : Gl X "zip" := by rfl)
    (hs : starEach [l, l2] X.env = (false, eval l X.env) :: starEach [l2] X.env := by rfl) (hs2 : starEach [l2] X.env = (false, eval l2 X.env) :: starEach [] X.env := by rfl) (hpl : (backTo pos (starEach [l2] X.env)).any (·.1) = false := by rfl) :
    IU X (.Tuple elts kk tpos) (.Call (.Name "zip" pp) [l, l2] [] pos) ρ (pr2 f g) (as.zip bs) := fun L σ H hL hl en => by
  refine ⟨_, RZ.pi_zipA hg hm pa_W hs hpl, fun H1 e1 Rr k => ?_⟩
  haveI m1 : Mono (fun v H' => (PV.lst (as.map f)).Is v (visL L H')) := ⟨fun e h => PV.Is.up (ex_visL e) h⟩
  haveI m2 : Mono (fun v H' => (PV.lst (bs.map g)).Is v (visL L H')) := ⟨fun e h => PV.Is.up (ex_visL e) h⟩
  refine (ag_cons (ev_lift h hL hl en) (ag_cons (ev_lift h' hL hl en) ag_nil (hs := hs2)) (hs := hs)) H1 e1 _ fun vs H2 e2 ⟨v, r, hv, ⟨a, xs, h1, h2, h3⟩, w, r2, hr, ⟨b, ys, h4, h5, h6⟩, hr2⟩ => ?_
  refine ⟨a, b, xs, ys, by rw [hv, hr, show r2 = [] from hr2, h1, h4], .inl ⟨SqL.of (ex_vis _ _ h2), SqL.of (ex_vis _ _ h5), ?_⟩⟩
  exact k _ H2 _ _ e2 (walk_zip (by rw [List.length_zip, iss_len' h3, iss_len' h6])) (wu_pair (fun H' e => ⟨SqL.of (e _ _ h2), SqL.of (e _ _ h5)⟩) (zip_hu h3 h6))
theorem iu_zipT (hm : X.mg "zip" = none) (h : EV X l ρ (.tup (as.map f))) (h' : EV X l2 ρ (.tup (bs.map g))) (hg : Gl X "zip" := by rfl)
    (hs : starEach [l, l2] X.env = (false, eval l X.env) :: starEach [l2] X.env := by rfl) (hs2 : starEach [l2] X.env = (false, eval l2 X.env) :: starEach [] X.env := by rfl) (hpl : (backTo pos (starEach [l2] X.env)).any (·.1) = false := by rfl) :
    IU X (.Tuple elts kk tpos) (.Call (.Name "zip" pp) [l, l2] [] pos) ρ (pr2 f g) (as.zip bs) := fun L σ H hL hl en => by
  refine ⟨_, RZ.pi_zipA hg hm pa_W hs hpl, fun H1 e1 Rr k => ?_⟩
  haveI m1 : Mono (fun v H' => (PV.tup (as.map f)).Is v (visL L H')) := ⟨fun e h => PV.Is.up (ex_visL e) h⟩
  haveI m2 : Mono (fun v H' => (PV.tup (bs.map g)).Is v (visL L H')) := ⟨fun e h => PV.Is.up (ex_visL e) h⟩
  refine (ag_cons (ev_lift h hL hl en) (ag_cons (ev_lift h' hL hl en) ag_nil (hs := hs2)) (hs := hs)) H1 e1 _ fun vs H2 e2 ⟨v, r, hv, ⟨a, xs, h1, h2, h3⟩, w, r2, hr, ⟨b, ys, h4, h5, h6⟩, hr2⟩ => ?_
  refine ⟨a, b, xs, ys, by rw [hv, hr, show r2 = [] from hr2, h1, h4], .inr ⟨SqT.of (ex_vis _ _ h2), SqT.of (ex_vis _ _ h5), ?_⟩⟩
  have lx := iss_len' h3
  have ly := iss_len' h6
  have w : Walk (RZ.ItzT X.K a b) (as.zip bs).length (fun H => SqT X.K H a xs ∧ SqT X.K H b ys) (YPair (fun i => xs[i]?) (fun i => ys[i]?)) := by
    rw [List.length_zip, ← lx, ← ly]
    refine ⟨fun i _ hi q => ?_, fun _ q => ⟨xs, ys, q.1, q.2, by omega⟩, fun i H v H' _ q y => ?_⟩
    · have h1 : i < xs.length := by omega
      have h2 : i < ys.length := by omega
      exact ⟨xs, ys, xs[i], ys[i], q.1, q.2, by simp [h1], by simp [h2]⟩
    · obtain ⟨T, x, z, h1, h2, h3, h4, h5⟩ := y
      exact ⟨T, x, z, h1, h2, h3, h4 xs q.1, h5 ys q.2⟩
  exact k _ H2 _ _ e2 w (wu_pair (fun H' e => ⟨SqT.of (e _ _ h2), SqT.of (e _ _ h5)⟩) (zip_hu h3 h6))
theorem iu_enum (hm : X.mg "enumerate" = none) (h : EV X l ρ (.lst (as.map f))) (hg : Gl X "enumerate" := by rfl) (hs : starEach [l] X.env = [(false, eval l X.env)] := by rfl) :
    IU X (.Tuple elts kk tpos) (.Call (.Name "enumerate" pp) [l] [] pos) ρ (pr2 (fun i : Nat => PV.int (i : Int)) f) ((List.range as.length).zip as) := fun L σ H hL hl en => by
  refine ⟨_, pi_enum hg hm pa_W hs, fun H1 e1 Rr k => ?_⟩
  haveI m1 : Mono (fun v H' => (PV.lst (as.map f)).Is v (visL L H')) := ⟨fun e h => PV.Is.up (ex_visL e) h⟩
  refine (ag_cons (ev_lift h hL hl en) ag_nil (hs := hs)) H1 e1 _ fun vs H2 e2 ⟨v, r, hv, ⟨a, xs, h1, h2, h3⟩, hr⟩ => ⟨a, xs, by rw [hv, show r = [] from hr, h1], SqL.of (ex_vis _ _ h2), ?_⟩
  refine k _ H2 _ _ e2 (by rw [List.length_zip, List.length_range, Nat.min_self, ← iss_len' h3]; exact walk_enum) (wu_pair (fun H' e => SqL.of (e _ _ h2)) fun i x y hx hy => ?_)
  cases hx
  obtain ⟨c, hc, rc⟩ := (iss_map.mp h3).get hy
  have hi : i < as.length := (List.getElem?_eq_some_iff.mp hc).1
  exact ⟨(i, c), by rw [List.getElem?_zip_eq_some]; exact ⟨range_get hi, hc⟩, rfl, rc⟩
theorem IU.as_ {f' : α → PV} (h : IU X tg l ρ f as) (hf : ∀ a ∈ as, f a = f' a) : IU X tg l ρ f' as := fun L σ H hL hl en => by
  obtain ⟨wi, hp, hw⟩ := h L σ H hL hl en
  refine ⟨wi, hp, fun H1 e1 Rr k => hw H1 e1 Rr fun J H2 G Y e2 W WG => k J H2 G Y e2 W ⟨WG.g, fun M i Ha x Hb e hM y => ?_⟩⟩
  obtain ⟨e', a, q1, q2⟩ := WG.y M i Ha x Hb e hM y
  exact ⟨e', a, q1, by rw [← hf a (List.mem_of_getElem? q1)]; exact q2⟩
end
end E
set_option maxHeartbeats 4000000
/-! E6: comprehensions; expressions and blocks by the state of the def's names. -/
namespace E
open PySem PySem.Spec PyProof.Rows L2 Evl G
section
variable {X : Cx} {ρ : Rho} {α : Type} {f gg : α → PV} {q : α → Bool} {as : List α} {tg iter elt t : Expr} {pos : Pos} {scope : Scope} {own : List (Str × Nat)} {b : α → List (Nat × PV)} {ifs : List Expr} {σ : L2.St} {H : Hp}
theorem take_snoc {as : List α} {i : Nat} {a : α} (h : as[i]? = some a) : as.take (i + 1) = as.take i ++ [a] := by
  rw [List.take_succ, h]
  rfl
theorem lc_readU (pat : Pat) {tt : TT} (hi : IU X tg iter ρ f as) (hz : as.length ≤ 1000000) (hb : ∀ a ∈ as, pat.bind (f a) = some (b a)) (hl : ρ.length = σ.length) (en : Env ρ σ H)
    (ht : ∀ a ∈ as, ∀ σ2 h, (setR (forget ρ pat.vars) (b a)).length = σ2.length → Env (setR (forget ρ pat.vars) (b a)) σ2 h → ∀ D acc H2, H2 D = some (.lst acc) → hid H2 D = h → ∀ Q : Bool → Hp → Prop, (∀ H3, H3 D = some (.lst acc) → Ex h (hid H3 D) → Q (q a) H3) → tt σ2 H2 Q)
    (he : ∀ a ∈ as, q a = true → ∀ σ2 h, (setR (forget ρ pat.vars) (b a)).length = σ2.length → Env (setR (forget ρ pat.vars) (b a)) σ2 h → EvP (UE X scope elt) σ2 h (gg a).Is) :
    ∃ wi, PI X tg iter wi ∧ EvP (tLc wi (gPat X.K pat) tt (UE X scope elt) pat.vars) σ H (PV.lst ((as.filter q).map gg)).Is := by
  obtain ⟨wi, hpi, hw⟩ := hi [] σ H .nil hl (by rw [visL_nil]; exact en)
  refine ⟨wi, hpi, fun H1 e1 Q hQ => hw H1 e1 _ fun J H2 G Y e2 W WG D hD => ?_⟩
  rw [visL_nil] at WG
  have len2 : ∀ a ∈ as, ∀ σ2 h, Bound (b a) (wipe σ pat.vars) σ2 h → (setR (forget ρ pat.vars) (b a)).length = σ2.length := fun a _ σ2 h hB => by
    rw [setR_len, forget_len, bound_len hB, wipe_length]
    exact hl
  refine lc_it W (fun i H' => ∃ acc, H' D = some (.lst acc) ∧ Ex H2 (hid H' D) ∧ PV.Iss (((as.take i).filter q).map gg) acc (hid H' D)) ⟨[], upd_same, ex_hid_self hD (Ex.new hD), by rw [List.take_zero]; exact rfl⟩ (fun i H' _ ⟨acc, h1, h2, h3⟩ => WG.g H' (h2.trans ex_hid1))
    (fun i x Ha Hb hi ⟨acc, h1, h2, h3⟩ y => ?_) (fun H' ⟨acc, h1, h2, h3⟩ => ?_)
  · have ev : ∀ H, visL [D] H = hid H D := fun H => by rw [visL_cons, visL_nil]
    obtain ⟨eb, a, ha, ra⟩ := WG.y [D] i Ha x Hb (by rw [ev]; exact h2) (fun c hc => by rw [List.mem_singleton.mp hc]; exact ⟨_, h1⟩) y
    rw [ev] at ra
    have hbD : Hb D = some (.lst acc) := eb _ _ h1
    have ex1 : Ex H (hid Hb D) := (e1.trans e2).trans (h2.trans (ex_hid2 eb))
    have hmem : a ∈ as := List.mem_of_getElem? ha
    refine gPat_run (h := hid Hb D) (fun p o hp => ?_) (hb a hmem) ra fun σ2 hT => ⟨wipe_bound (bind_vars (hb a hmem)) hT |>.trans wipe_idem, ?_⟩
    · exact ex_hid1 _ _ hp
    have env2 : Env (setR (forget ρ pat.vars) (b a)) σ2 (hid Hb D) := bound_env (by rw [forget_len, wipe_length]; exact hl) ((env_forget en).up ex1) hT
    have l2 := len2 a hmem σ2 _ hT
    refine ht a hmem σ2 (hid Hb D) l2 env2 D acc Hb hbD rfl _ fun H3 h3D e3 => ?_
    cases hq : q a with
    | false =>
      rw [if_neg Bool.false_ne_true]
      refine ⟨acc, h3D, h2.trans ((ex_hid2 eb).trans e3), ?_⟩
      rw [take_snoc ha, List.filter_append, List.filter_cons, hq]
      simp only [Bool.false_eq_true, if_false, List.filter_nil, List.append_nil]
      exact h3.up ((ex_hid2 eb).trans e3)
    | true =>
      rw [if_pos rfl]
      have fin := he a hmem hq σ2 (hid H3 D) l2 (env2.up e3)
      intro s H0 C cl fp
      refine ew_hid h3D ?_
      refine fin (hid H3 D) (Ex.refl _) (fun v H4 => H4 D = none → _) (fun v H4 e4 pv n4 => ⟨acc, upd_same, ?_, acc ++ [v], upd_same, ?_, ?_⟩) s H0 C cl fp
      · have l1 := iss_len h3
        rw [List.length_map] at l1
        have l2 := List.length_filter_le q (as.take i)
        rw [List.length_take] at l2
        have : acc.length ≤ 1000000 := by omega
        exact Nat.lt_of_le_of_lt this (by decide)
      · rw [upd_upd, hid_upd n4]
        exact h2.trans ((ex_hid2 eb).trans (e3.trans e4))
      · rw [upd_upd, hid_upd n4, take_snoc ha, List.filter_append, List.filter_cons, hq]
        simp only [if_true, List.filter_nil, List.map_append, List.map_cons, List.map_nil]
        exact iss_app (h3.up ((ex_hid2 eb).trans (e3.trans e4))) ⟨v, [], rfl, pv, rfl⟩
  · rw [List.take_length] at h3
    exact hQ _ H' (e2.trans (h2.trans ex_hid1)) ⟨D, acc, rfl, h1, h3.up ex_hid1⟩
/-- [elt for tg in iter] -/
theorem ev_lc (pat : Pat) (hN : X.N.Nodup) (hi : IU X tg iter ρ f as) (hz : as.length ≤ 1000000)
    (he : ∀ a ∈ as, ∀ s H0 C cl fp, EV (X.blk s H0 scope (compEnvC scope cl C X.env) fp) elt (setR (forget ρ pat.vars) (b a)) (gg a))
    (hg : ∀ (s : Shared) (H : Hp) (C : Addr) (cl : List (Str × Addr)) (fp : List Addr), PG (X.blk s H scope (compEnvC scope cl C X.env) fp) tg (gPat X.K pat)) (hb : ∀ a ∈ as, pat.bind (f a) = some (b a) := by exact fun _ _ => rfl)
    (hv : own.map (·.2) = pat.vars := by rfl) (ok : BlkOk X.N X.env.scope scope own := by exact blkOk_by (by rfl)) (hc : X.calm = true := by rfl) (hs : ∀ x, foldedSetIterable iter X.env x = pure x := by intro _; rfl) :
    EV X (.ListComp elt [⟨tg, iter, [], 0⟩] scope pos) ρ (.lst (as.map gg)) := fun σ H hl en => by
  obtain ⟨wi, hpi, h⟩ := lc_readU (tt := tYes) (q := fun _ => true) (scope := scope) (elt := elt) (gg := gg) pat hi hz hb hl en (fun a _ σ2 h _ _ D acc H2 h1 h2 Q hQ => hQ H2 h1 (by rw [h2]; exact Ex.refl _)) fun a ha _ σ2 h l2 en2 H1 e1 Q hQ s H0 C cl fp => he a ha s H0 C cl fp σ2 h l2 en2 H1 e1 Q hQ
  rw [filter_true] at h
  exact eg_of (pe_lc (own := own) hc hN hpi ok hg (fun _ _ _ _ _ => pts_nil) ue_pe hs) (by rw [hv]; exact h)
/-- [elt for tg in iter if t] -/
theorem ev_lcT (pat : Pat) (hN : X.N.Nodup) (hi : IU X tg iter ρ f as) (hz : as.length ≤ 1000000)
    (ht : ∀ a ∈ as, ∀ s H0 C cl fp, TV (X.blk s H0 scope (compEnvC scope cl C X.env) fp) t (setR (forget ρ pat.vars) (b a)) (q a))
    (he : ∀ a ∈ as, q a = true → ∀ s H0 C cl fp, EV (X.blk s H0 scope (compEnvC scope cl C X.env) fp) elt (setR (forget ρ pat.vars) (b a)) (gg a))
    (hg : ∀ (s : Shared) (H : Hp) (C : Addr) (cl : List (Str × Addr)) (fp : List Addr), PG (X.blk s H scope (compEnvC scope cl C X.env) fp) tg (gPat X.K pat)) (hb : ∀ a ∈ as, pat.bind (f a) = some (b a) := by exact fun _ _ => rfl)
    (hv : own.map (·.2) = pat.vars := by rfl) (ok : BlkOk X.N X.env.scope scope own := by exact blkOk_by (by rfl)) (hc : X.calm = true := by rfl) (hs : ∀ x, foldedSetIterable iter X.env x = pure x := by intro _; rfl) :
    EV X (.ListComp elt [⟨tg, iter, [t], 0⟩] scope pos) ρ (.lst ((as.filter q).map gg)) := fun σ H hl en => by
  obtain ⟨wi, hpi, h⟩ := lc_readU (tt := UT X scope t) (q := q) (scope := scope) (elt := elt) (gg := gg) pat hi hz hb hl en (fun a ha σ2 h l2 en2 D acc H2 h1 h2 Q hQ s H0 C cl fp => by
    refine tw_hid h1 ?_
    subst h2
    exact ht a ha s H0 C cl fp σ2 _ l2 en2 (hid H2 D) (Ex.refl _) _ fun H3 e3 n3 => hQ _ upd_same (by rw [hid_upd n3]; exact e3)) fun a ha hq σ2 h l2 en2 H1 e1 Q hQ s H0 C cl fp => he a ha hq s H0 C cl fp σ2 h l2 en2 H1 e1 Q hQ
  exact eg_of (pe_lc (own := own) hc hN hpi ok hg (fun _ _ _ _ _ => pts_one (ut_pt _ _ _ _ _)) ue_pe hs) (by rw [hv]; exact h)
end
/-! ### expressions that may change own objects -/
abbrev Phi := PV → List Sl → Prop
def KQ (S : List Sl) (σ : L2.St) (H : Hp) (Φ : Phi) : VK := fun v H' => ∃ p S', Φ p S' ∧ Rep S' σ H' ∧ p.Is v (vis S' H') ∧ Ex (vis S H) (vis S' H')
def XW (X : Cx) (e : Expr) (S : List Sl) (Φ : Phi) : Prop := ∀ σ H, Rep S σ H → EW X e σ H (KQ S σ H Φ)
def XA (X : Cx) (es : List Expr) (S : List Sl) (Φ : List PV → List Sl → Prop) : Prop := ∀ σ H, Rep S σ H → AW X es σ H fun vs H' => ∃ ps S', Φ ps S' ∧ Rep S' σ H' ∧ PV.Iss ps vs (vis S' H') ∧ Ex (vis S H) (vis S' H')
def XT (X : Cx) (e : Expr) (S : List Sl) (Φ : Bool → List Sl → Prop) : Prop := ∀ σ H, Rep S σ H → TW X e σ H fun b H' => ∃ S', Φ b S' ∧ Rep S' σ H' ∧ Ex (vis S H) (vis S' H')
/-- what a block is to end in -/
structure VE where
  nx : List Sl → Prop
  rt : Phi
  bk : List Sl → Prop := fun _ => False
  ct : List Sl → Prop := fun _ => False
def low (S : List Sl) (H : Hp) (D : VE) : Ends where
  nx := fun σ' H' => ∃ S', D.nx S' ∧ Rep S' σ' H' ∧ Ex (vis S H) (vis S' H')
  rt := fun v H' => ∃ p S' σ', D.rt p S' ∧ Rep S' σ' H' ∧ p.Is v (vis S' H') ∧ Ex (vis S H) (vis S' H')
  bk := fun σ' H' => ∃ S', D.bk S' ∧ Rep S' σ' H' ∧ Ex (vis S H) (vis S' H')
  ct := fun σ' H' => ∃ S', D.ct S' ∧ Rep S' σ' H' ∧ Ex (vis S H) (vis S' H')
def BV (X : Cx) (ss : List Stmt) (S : List Sl) (D : VE) : Prop := ∀ σ H, Rep S σ H → BW X ss (low S H D) σ H
theorem BW.imp {X : Cx} {ss : List Stmt} {D D' : Ends} {σ : L2.St} {H : Hp} (h : BW X ss D σ H) (h1 : ∀ σ H, D.nx σ H → D'.nx σ H) (h2 : ∀ v H, D.rt v H → D'.rt v H) (h3 : ∀ σ H, D.bk σ H → D'.bk σ H) (h4 : ∀ σ H, D.ct σ H → D'.ct σ H) : BW X ss D' σ H := fun pins s I => by
  refine thn (h pins s I) fun f s1 q => ?_
  cases f with
  | next => obtain ⟨σ2, H3, I3, q1⟩ := q; exact ⟨σ2, H3, I3, h1 _ _ q1⟩
  | cont => obtain ⟨σ2, H3, I3, q1⟩ := q; exact ⟨σ2, H3, I3, h4 _ _ q1⟩
  | brk => obtain ⟨σ2, H3, I3, q1⟩ := q; exact ⟨σ2, H3, I3, h3 _ _ q1⟩
  | ret u => obtain ⟨v, σ2, H3, I3, r, q1⟩ := q; exact ⟨v, σ2, H3, I3, r, h2 _ _ q1⟩
/-- on from a later state -/
theorem BV.at {X : Cx} {ss : List Stmt} {S S1 : List Sl} {D : VE} {σ : L2.St} {H H1 : Hp} (h : BV X ss S1 D) (r : Rep S1 σ H1) (e : Ex (vis S H) (vis S1 H1)) : BW X ss (low S H D) σ H1 :=
  BW.imp (h σ H1 r) (fun _ _ ⟨S', a, b, c⟩ => ⟨S', a, b, e.trans c⟩) (fun _ _ ⟨p, S', σ', a, b, c, d⟩ => ⟨p, S', σ', a, b, c, e.trans d⟩) (fun _ _ ⟨S', a, b, c⟩ => ⟨S', a, b, e.trans c⟩) (fun _ _ ⟨S', a, b, c⟩ => ⟨S', a, b, e.trans c⟩)
theorem low_nx {S : List Sl} {H : Hp} {D : VE} {σ : L2.St} {H' : Hp} {X : Cx} {rest : List Stmt} (N : List Sl → Prop) : (low S H { D with nx := N }) = { low S H D with nx := (low S H { D with nx := N }).nx } := rfl
section
variable {X : Cx} {S : List Sl} {a b c e l : Expr} {es : List Expr} {pos pp p1 : Pos} {p q : PV} {ps : List PV} {Φ Ψ : Phi} {i j : Int} {bb : Bool} {x : Str}
theorem Rep.ev (h : EV X e (view S) p) {σ : L2.St} {H : Hp} (r : Rep S σ H) : EG X e σ H fun v H' => p.Is v (vis S H') := ev_lift h r.hd r.rl r.env
theorem Rep.tv (h : TV X e (view S) bb) {σ : L2.St} {H : Hp} (r : Rep S σ H) : TG X e σ H bb := tv_lift h r.hd r.rl r.env
theorem xw_ev (h : EV X e (view S) p) (k : Φ p S) : XW X e S Φ := fun σ H r => r.ev h H (Ex.refl H) _ fun v H2 e2 pv => ⟨p, S, k, r.up e2, pv, ex_visL e2⟩
theorem XW.imp (h : XW X e S Φ) (k : ∀ p S', Φ p S' → Ψ p S') : XW X e S Ψ := fun σ H r pins s I => thn (h σ H r pins s I) fun u s1 ⟨v, H1, J1, r1, p, S', a, b⟩ => ⟨v, H1, J1, r1, p, S', k p S' a, b⟩
theorem xt_tv {Φ : Bool → List Sl → Prop} (h : TV X e (view S) bb) (k : Φ bb S) : XT X e S Φ := fun σ H r => r.tv h H (Ex.refl H) _ fun H2 e2 => ⟨S, k, r.up e2, ex_visL e2⟩
theorem ew_mono {e : Expr} {σ : L2.St} {H : Hp} {Q Q' : VK} (h : EW X e σ H Q) (k : ∀ v H', Q v H' → Q' v H') : EW X e σ H Q' := fun pins s I => thn (h pins s I) fun u s1 ⟨v, H1, J1, r1, q1⟩ => ⟨v, H1, J1, r1, k v H1 q1⟩
theorem aw_mono {σ : L2.St} {H : Hp} {Q Q' : List V → Hp → Prop} (h : AW X es σ H Q) (k : ∀ v H', Q v H' → Q' v H') : AW X es σ H Q' := fun pos pins s I => thn (h pos pins s I) fun u s1 ⟨v, H1, J1, r1, q1⟩ => ⟨v, H1, J1, r1, k v H1 q1⟩
theorem tw_mono {e : Expr} {σ : L2.St} {H : Hp} {Q Q' : Bool → Hp → Prop} (h : TW X e σ H Q) (k : ∀ v H', Q v H' → Q' v H') : TW X e σ H Q' := fun pins s I => thn (h pins s I) fun u s1 ⟨H1, J1, q1⟩ => ⟨H1, J1, k u H1 q1⟩
/-- two ints -/
theorem xw_i2 {op : Operator} {C : Int → Int → Prop} {g : Int → Int → Int} (ho : OpR X (binaryOp op) (rI C fun i j => .int (g i j))) (ha : XW X a S fun p S1 => ∃ i, p = .int i ∧ XW X b S1 fun q S2 => ∃ j, q = .int j ∧ C i j ∧ Φ (.int (g i j)) S2) : XW X (.BinOp a op b pos) S Φ := fun σ H re pins s I =>
  (pe_op ho pe_W pe_W).run pins s σ H _ I (ew_mono (ha σ H re) fun v H1 ⟨p, S1, ⟨i, h1, h2⟩, r1, i1, e1⟩ => ew_mono (h2 σ H1 r1) fun w H2 ⟨q, S2, ⟨j, h3, h4, h5⟩, r2, i2, e2⟩ => by
    subst h1 h3
    exact ⟨i, j, i1, i2, h4, _, S2, h5, r2, rfl, e1.trans e2⟩)
theorem op_addC : OpR X (binaryOp .Add) (rI (fun _ _ => True) fun i j => .int (i + j)) := fun pins s σ H x y v u Q I rx ry ⟨i, j, h1, h2, _, h3⟩ => op_add pins s σ H x y v u Q I rx ry ⟨i, j, h1, h2, h3⟩
theorem op_subC : OpR X (binaryOp .Sub) (rI (fun _ _ => True) fun i j => .int (i - j)) := fun pins s σ H x y v u Q I rx ry ⟨i, j, h1, h2, _, h3⟩ => op_sub pins s σ H x y v u Q I rx ry ⟨i, j, h1, h2, h3⟩
theorem xw_add (ha : XW X a S fun p S1 => ∃ i, p = .int i ∧ XW X b S1 fun q S2 => ∃ j, q = .int j ∧ Φ (.int (i + j)) S2) : XW X (.BinOp a .Add b pos) S Φ :=
  xw_i2 op_addC (ha.imp fun p S1 ⟨i, h1, h2⟩ => ⟨i, h1, h2.imp fun q S2 ⟨j, h3, h4⟩ => ⟨j, h3, True.intro, h4⟩⟩)
theorem xw_sub (ha : XW X a S fun p S1 => ∃ i, p = .int i ∧ XW X b S1 fun q S2 => ∃ j, q = .int j ∧ Φ (.int (i - j)) S2) : XW X (.BinOp a .Sub b pos) S Φ :=
  xw_i2 op_subC (ha.imp fun p S1 ⟨i, h1, h2⟩ => ⟨i, h1, h2.imp fun q S2 ⟨j, h3, h4⟩ => ⟨j, h3, True.intro, h4⟩⟩)
theorem xw_mul (ha : XW X a S fun p S1 => ∃ i, p = .int i ∧ XW X b S1 fun q S2 => ∃ j, q = .int j ∧ CMulW i j ∧ Φ (.int (i * j)) S2) : XW X (.BinOp a .Mult b pos) S Φ := xw_i2 op_mulW ha
theorem xa_nil {Φ : List PV → List Sl → Prop} (h : Φ [] S) : XA X [] S Φ := fun σ H re => by
  intro pos pins s I
  exact pa_nil.run pos pins s σ H _ I ⟨[], S, h, re, rfl, Ex.refl _⟩
theorem xa_cons {Φ : List PV → List Sl → Prop} (h : XW X e S fun p S1 => XA X es S1 fun ps S2 => Φ (p :: ps) S2) (hs : starEach (e :: es) X.env = (false, eval e X.env) :: starEach es X.env := by rfl) : XA X (e :: es) S Φ := fun σ H re => by
  intro pos pins s I
  exact (pa_cons pe_W pa_W hs).run pos pins s σ H _ I (ew_mono (h σ H re) fun v H1 ⟨p, S1, h1, r1, i1, e1⟩ => aw_mono (h1 σ H1 r1) fun vs H2 ⟨ps, S2, h2, r2, i2, e2⟩ => ⟨p :: ps, S2, h2, r2, ⟨v, vs, rfl, i1.up e2, i2⟩, e1.trans e2⟩)
theorem xa_ev {Φ : List PV → List Sl → Prop} (h : EV X e (view S) p) (k : XA X es S fun ps S2 => Φ (p :: ps) S2) (hs : starEach (e :: es) X.env = (false, eval e X.env) :: starEach es X.env := by rfl) : XA X (e :: es) S Φ := xa_cons (xw_ev h k) hs
theorem XA.imp {Φ Ψ : List PV → List Sl → Prop} (h : XA X es S Φ) (k : ∀ p S', Φ p S' → Ψ p S') : XA X es S Ψ := fun σ H r pos pins s I => thn (h σ H r pos pins s I) fun u s1 ⟨v, H1, J1, r1, p, S', a, b⟩ => ⟨v, H1, J1, r1, p, S', k p S' a, b⟩
/-- a new object, beside what is hidden -/
theorem vis_add {S : List Sl} {H : Hp} {σ : L2.St} {d : Addr} {o : HO} (r : Rep S σ H) (hd : H d = none) : vis S (upd H d o) = upd (vis S H) d o ∧ vis S H d = none := vis_new hd fun b hb => let ⟨w, q, _⟩ := r.hd.some b hb; ⟨w, q⟩
theorem xw_tup {x1} (h : XA X es S fun ps S1 => ps.length ≤ 1000 ∧ Φ (.tup ps) S1) : XW X (.Tuple es x1 pos) S Φ := fun σ H re pins s I =>
  (pe_tup pa_W).run pins s σ H _ I (aw_mono (h σ H re) fun vs H1 ⟨ps, S1, ⟨hl, h1⟩, r1, i1, e1⟩ => ⟨sz_of (Nat.le_trans (Nat.le_of_eq (iss_len i1)) (Nat.le_trans hl (by decide))), fun d hd => by
    obtain ⟨z1, z2⟩ := vis_add (o := .tup vs) r1 hd
    refine ⟨_, S1, h1, r1.up (Ex.new hd), ?_, e1.trans ?_⟩
    · rw [z1]; exact tup_new z2 i1
    · rw [z1]; exact Ex.new z2⟩)
theorem xw_lst (h : XA X es S fun ps S1 => ps.length ≤ 1000 ∧ Φ (.lst ps) S1) : XW X (.List es pos) S Φ := fun σ H re pins s I =>
  (pe_lst pa_W).run pins s σ H _ I (aw_mono (h σ H re) fun vs H1 ⟨ps, S1, ⟨hl, h1⟩, r1, i1, e1⟩ => ⟨sz_of (Nat.le_trans (Nat.le_of_eq (iss_len i1)) (Nat.le_trans hl (by decide))), fun d hd => by
    obtain ⟨z1, z2⟩ := vis_add (o := .lst vs) r1 hd
    refine ⟨_, S1, h1, r1.up (Ex.new hd), ?_, e1.trans ?_⟩
    · rw [z1]; exact lst_new z2 i1
    · rw [z1]; exact Ex.new z2⟩)
theorem xw_if (hc : XT X c S fun b' S1 => if b' = true then XW X a S1 Φ else XW X b S1 Φ) : XW X (.IfExp c a b pos) S Φ := fun σ H re pins s I =>
  (pe_ifExp pt_W pe_W pe_W).run pins s σ H _ I (tw_mono (hc σ H re) fun b' H1 ⟨S1, h1, r1, e1⟩ => by
    cases b' with
    | true => rw [if_pos rfl] at *; exact ew_mono (h1 σ H1 r1) fun v H2 ⟨p, S2, h2, r2, i2, e2⟩ => ⟨p, S2, h2, r2, i2, e1.trans e2⟩
    | false => rw [if_neg Bool.false_ne_true] at *; exact ew_mono (h1 σ H1 r1) fun v H2 ⟨p, S2, h2, r2, i2, e2⟩ => ⟨p, S2, h2, r2, i2, e1.trans e2⟩)
theorem xw_ifE (hc : TV X c (view S) bb) (h1 : bb = true → XW X a S Φ) (h2 : bb = false → XW X b S Φ) : XW X (.IfExp c a b pos) S Φ := xw_if (xt_tv hc (by
  cases bb with
  | true => rw [if_pos rfl]; exact h1 rfl
  | false => rw [if_neg Bool.false_ne_true]; exact h2 rfl))
/-! ### tests -/
theorem XT.imp {Φ Ψ : Bool → List Sl → Prop} (h : XT X e S Φ) (k : ∀ p S', Φ p S' → Ψ p S') : XT X e S Ψ := fun σ H r => tw_mono (h σ H r) fun b H' ⟨S', x1, x2⟩ => ⟨S', k b S' x1, x2⟩
theorem xt_not {Φ : Bool → List Sl → Prop} (h : XT X a S fun b S1 => Φ (!b) S1) : XT X (.UnaryOp .Not a pos) S Φ := fun σ H r pins s I =>
  (pt_not pt_W).run pins s σ H _ I (h σ H r)
theorem xt_or {Φ : Bool → List Sl → Prop} (h : XT X a S fun x S1 => if x = true then Φ true S1 else XT X b S1 Φ) : XT X (.BoolOp .Or [a, b] pos) S Φ := fun σ H r pins s I =>
  (pw_or (pt_W (X := X)) (pw_or1 (pt_W (X := X)))).run _ pins s σ H _ I (tw_mono (h σ H r) fun x H1 ⟨S1, h1, r1, e1⟩ => by
    cases x with
    | true => rw [if_pos rfl] at *; exact ⟨S1, h1, r1, e1⟩
    | false => rw [if_neg Bool.false_ne_true] at *; exact tw_mono (h1 σ H1 r1) fun y H2 ⟨S2, h2, r2, e2⟩ => ⟨S2, h2, r2, e1.trans e2⟩)
theorem xt_and {Φ : Bool → List Sl → Prop} (h : XT X a S fun x S1 => if x = true then XT X b S1 Φ else Φ false S1) : XT X (.BoolOp .And [a, b] pos) S Φ := fun σ H r pins s I =>
  (pw_and (pt_W (X := X)) (pw_and1 (pt_W (X := X)))).run _ pins s σ H _ I (tw_mono (h σ H r) fun x H1 ⟨S1, h1, r1, e1⟩ => by
    cases x with
    | false => rw [if_neg Bool.false_ne_true] at *; exact ⟨S1, h1, r1, e1⟩
    | true => rw [if_pos rfl] at *; exact tw_mono (h1 σ H1 r1) fun y H2 ⟨S2, h2, r2, e2⟩ => ⟨S2, h2, r2, e1.trans e2⟩)
/-- a comparison of ints, as a test -/
theorem xt_ci {op : CmpOp} {g : Int → Int → Bool} {Φ : Bool → List Sl → Prop} (ho : OpR X (compareOp op) (rI0 fun i j => .bl (g i j))) (ha : XW X a S fun p S1 => ∃ i, p = .int i ∧ XW X b S1 fun q S2 => ∃ j, q = .int j ∧ Φ (g i j) S2) (hm : behindInMarks op b = false := by first | exact nomark _ | rfl) : XT X (.Compare a [op] [b] pos) S Φ := fun σ H re pins s I =>
  (pt_cmpR ho pe_W pe_W hm).run pins s σ H _ I (ew_mono (ha σ H re) fun v H1 ⟨p, S1, ⟨i, h1, h2⟩, r1, i1, e1⟩ => ew_mono (h2 σ H1 r1) fun w H2 ⟨q, S2, ⟨j, h3, h4⟩, r2, i2, e2⟩ => by
    subst h1 h3
    exact ⟨i, j, i1, i2, _, rfl, S2, h4, r2, e1.trans e2⟩)
theorem op_eqI : OpR X (compareOp .Eq) (rI0 fun i j => .bl (decide (i = j))) := fun pins s σ H x y v u Q I rx ry ⟨i, j, h1, h2, h3⟩ => op_eq pins s σ H x y v u Q I rx ry ⟨by rw [h1, h2]; rfl, by rw [h1, h2, dec_vint]; exact h3⟩
theorem op_neI : OpR X (compareOp .NotEq) (rI0 fun i j => .bl (!decide (i = j))) := fun pins s σ H x y v u Q I rx ry ⟨i, j, h1, h2, h3⟩ => op_ne pins s σ H x y v u Q I rx ry ⟨by rw [h1, h2]; rfl, by rw [h1, h2, dec_vint]; exact h3⟩
/-! ### blocks -/
variable {D : VE} {rest A B : List Stmt} {S' : List Sl} {y : Str} {st : Stmt}
theorem bv_nil (h : D.nx S) : BV X [] S D := fun σ H r => b_nil ⟨S, h, r, Ex.refl _⟩
theorem bv_drop (i : Nat) (k : BV X A (S.set i .no) D) : BV X A S D := fun σ H r => k.at r.drop (vis_mono (sub_drop rfl))
theorem bv_freeze (i : Nat) {a : Addr} {o : PO} (hi : S[i]? = some (.own a o)) (k : BV X A (S.set i (.pv o.pv)) D) (hs : o.still = true := by rfl) : BV X A S D := fun σ H r => k.at (r.freeze hi hs) (vis_mono (sub_drop rfl))
theorem bv_asg (i : Nat) (hN : X.N.Nodup) (he : XW X e S fun p S1 => NotOwn S1 i ∧ BV X rest (S1.set i (.pv p)) D) (hi : X.N[i]? = some y := by rfl) (hl : Loc X.env.scope y := by first | exact Or.inl rfl | exact Or.inr rfl)
    (hs : swapsWith e (some (.Name y pp)) pos.line X.env = pure false := by rfl) (hf : X.fn y = true ∨ X.env.scope.names.lookup y = some .local := by first | exact .inl rfl | exact .inr rfl) : BV X (.Assign [.Name y pp] e pos :: rest) S D := fun σ H r =>
  b_of (ps_set hN hi hl pe_W hs hf) (ew_mono (he σ H r) fun v H1 ⟨p, S1, ⟨h1, h2⟩, r1, i1, e1⟩ => by
    have ea : adrs (S1.set i (.pv p)) = adrs S1 := adrs_pure h1 rfl
    refine h2.at (r1.setP h1 i1) (e1.trans ?_)
    rw [show vis (S1.set i (.pv p)) H1 = vis S1 H1 from by show visL _ _ = visL _ _; rw [ea]]
    exact Ex.refl _)
theorem bv_asgE (i : Nat) (hN : X.N.Nodup) (he : EV X e (view S) p) (k : BV X rest S' D) (hS : S.set i (.pv p) = S' := by rfl) (hn : NotOwn S i := by rfl) (hi : X.N[i]? = some y := by rfl) (hl : Loc X.env.scope y := by first | exact Or.inl rfl | exact Or.inr rfl)
    (hs : swapsWith e (some (.Name y pp)) pos.line X.env = pure false := by rfl) (hf : X.fn y = true ∨ X.env.scope.names.lookup y = some .local := by first | exact .inl rfl | exact .inr rfl) : BV X (.Assign [.Name y pp] e pos :: rest) S D :=
  bv_asg i hN (xw_ev he ⟨hn, by rw [hS]; exact k⟩) hi hl hs hf
theorem bv_ret (he : XW X e S D.rt) : BV X (.Return (some e) pos :: rest) S D := fun σ H r => b_of (ps_ret pe_W) (ew_mono (he σ H r) fun v H1 ⟨p, S1, h1, r1, i1, e1⟩ => ⟨p, S1, σ, h1, r1, i1, e1⟩)
theorem bv_retE (he : EV X e (view S) p) (k : D.rt p S) : BV X (.Return (some e) pos :: rest) S D := bv_ret (xw_ev he k)
theorem bv_retN (k : D.rt .non S) : BV X (.Return none pos :: rest) S D := fun σ H r => b_of ps_retN ⟨.non, S, σ, k, r, rfl, Ex.refl _⟩
theorem bv_expr (he : XW X e S fun _ S1 => BV X rest S1 D) (hs : swapsWith e none pos.line X.env = pure false := by rfl) : BV X (.Expr e pos :: rest) S D := fun σ H r => b_of (ps_expr pe_W hs) (ew_mono (he σ H r) fun v H1 ⟨p, S1, h1, r1, i1, e1⟩ => h1.at r1 e1)
theorem bv_if (hc : XT X c S fun b S1 => if b = true then BV X A S1 { D with nx := fun S2 => BV X rest S2 D } else BV X B S1 { D with nx := fun S2 => BV X rest S2 D }) : BV X (.If c A B pos :: rest) S D := fun σ H r =>
  b_of (ps_if pt_W pss_W pss_W) (tw_mono (hc σ H r) fun b H1 ⟨S1, h1, r1, e1⟩ => by
    have go : ∀ {ss : List Stmt}, BV X ss S1 { D with nx := fun S2 => BV X rest S2 D } → BW X ss { low S H D with nx := BW X rest (low S H D) } σ H1 := fun h =>
      BW.imp (h.at r1 e1) (fun σ' H' ⟨S', a, b, c⟩ => a.at b c) (fun _ _ z => z) (fun _ _ z => z) (fun _ _ z => z)
    cases b with
    | true => rw [if_pos rfl] at *; exact go h1
    | false => rw [if_neg Bool.false_ne_true] at *; exact go h1)
theorem bv_ifE (hc : TV X c (view S) bb) (h1 : bb = true → BV X A S { D with nx := fun S2 => BV X rest S2 D }) (h2 : bb = false → BV X B S { D with nx := fun S2 => BV X rest S2 D }) : BV X (.If c A B pos :: rest) S D := bv_if (xt_tv hc (by
  cases bb with
  | true => rw [if_pos rfl]; exact h1 rfl
  | false => rw [if_neg Bool.false_ne_true]; exact h2 rfl))
/-- an if that is not taken -/
theorem bv_skip (hc : TV X c (view S) bb) (hb : bb = false) (k : BV X rest S D) : BV X (.If c A [] pos :: rest) S D := bv_ifE hc (fun z => by rw [hb] at z; cases z) fun _ => bv_nil k
/-- an if that is taken -/
theorem bv_take (hc : TV X c (view S) bb) (hb : bb = true) (k : BV X A S { D with nx := fun S2 => BV X rest S2 D }) : BV X (.If c A B pos :: rest) S D := bv_ifE hc (fun _ => k) fun z => by rw [hb] at z; cases z
theorem bv_pass (k : BV X rest S D) : BV X (.Pass pos :: rest) S D := fun σ H r => b_of ps_pass (k.at r (Ex.refl _))
theorem bv_cont (k : D.ct S) : BV X (.Continue pos :: rest) S D := fun σ H r => b_of ps_continue ⟨S, k, r, Ex.refl _⟩
theorem bv_break (k : D.bk S) : BV X (.Break pos :: rest) S D := fun σ H r => b_of ps_break ⟨S, k, r, Ex.refl _⟩
/-! ### assignments to several names -/
theorem setS_adr {bs : List (Nat × PV)} : ∀ {S : List Sl}, (∀ c ∈ bs, NotOwn S c.1) → adrs (setS S bs) = adrs S ∧ ∀ i, NotOwn S i → NotOwn (setS S bs) i := by
  induction bs with
  | nil => intro S _; exact ⟨rfl, fun _ h => h⟩
  | cons c bs ih =>
    intro S h
    have n1 : ∀ i, NotOwn S i → NotOwn (S.set c.1 (.pv c.2)) i := fun i hi => by
      unfold NotOwn at *
      by_cases e : c.1 = i
      · subst e
        by_cases l : c.1 < S.length
        · rw [List.getElem?_set_self l]; rfl
        · rw [List.set_eq_of_length_le (by omega)]; exact hi
      · rw [List.getElem?_set_ne e]; exact hi
    obtain ⟨z1, z2⟩ := ih (S := S.set c.1 (.pv c.2)) fun d hd => n1 _ (h d (List.mem_cons_of_mem _ hd))
    exact ⟨z1.trans (adrs_pure (h c (List.mem_cons_self ..)) rfl), fun i hi => z2 i (n1 i hi)⟩
theorem rep_bound {bs : List (Nat × PV)} : ∀ {S : List Sl} {σ σ2 : L2.St} {H : Hp}, Rep S σ H → (∀ c ∈ bs, NotOwn S c.1) → Bound bs σ σ2 (vis S H) → Rep (setS S bs) σ2 H := by
  induction bs with
  | nil => intro S σ σ2 H r _ h; rw [show σ2 = σ from h]; exact r
  | cons c bs ih =>
    intro S σ σ2 H r hn ⟨v, h1, h2⟩
    have hc := hn c (List.mem_cons_self ..)
    have r2 := r.setP (i := c.1) hc h1
    have ea : adrs (S.set c.1 (.pv c.2)) = adrs S := adrs_pure hc rfl
    refine ih r2 (fun d hd => ?_) (by show Bound bs _ σ2 (visL (adrs (S.set _ _)) H); rw [ea]; exact h2)
    exact (setS_adr (bs := [c]) (S := S) fun d hd => by rw [List.mem_singleton.mp hd]; exact hc).2 _ (hn d (List.mem_cons_of_mem _ hd))
/-- tg = e, tg a tuple of names -/
theorem bv_tgt (pat : Pat) {tg : Expr} (he : XW X e S fun p S1 => ∃ bs, pat.bind p = some bs ∧ (∀ c ∈ bs, NotOwn S1 c.1) ∧ BV X rest (setS S1 bs) D) (hg : PG X tg (gPat X.K pat)) (hs : swapsWithSole [tg] e pos.line X.env = pure false := by rfl) (hw : swappedStores [tg] e X.env = pure none := by rfl)
    (h1 : (assignEach [tg] X.env).map (·.2) = [assign tg X.env] := by rfl) : BV X (.Assign [tg] e pos :: rest) S D := fun σ H r =>
  b_of (ps_asg pe_W hg hs hw h1) (ew_mono (he σ H r) fun v H1 ⟨p, S1, ⟨bs, g1, g2, g3⟩, r1, i1, e1⟩ => gPat_run (h := vis S1 H1) (fun _ _ z => ex_vis _ _ z) g1 i1 fun σ2 hB => by
    refine g3.at (rep_bound r1 g2 hB) (e1.trans ?_)
    rw [show vis (setS S1 bs) H1 = vis S1 H1 from by show visL _ _ = visL _ _; rw [(setS_adr g2).1]]
    exact Ex.refl _)
theorem bv_tgtE (pat : Pat) {tg : Expr} {bs : List (Nat × PV)} (he : EV X e (view S) p) (hg : PG X tg (gPat X.K pat)) (k : BV X rest S' D) (hb : pat.bind p = some bs := by rfl) (hS : setS S bs = S' := by rfl) (hn : ∀ c ∈ bs, NotOwn S c.1 := by decide) (hs : swapsWithSole [tg] e pos.line X.env = pure false := by rfl) (hw : swappedStores [tg] e X.env = pure none := by rfl)
    (h1 : (assignEach [tg] X.env).map (·.2) = [assign tg X.env] := by rfl) : BV X (.Assign [tg] e pos :: rest) S D := bv_tgt pat (xw_ev he ⟨bs, hb, hn, by rw [hS]; exact k⟩) hg hs hw h1
end
end E
set_option maxHeartbeats 4000000
/-! E7: loops, own objects, calls, defs. -/
namespace E
open PySem PySem.Spec PyProof.Rows L2 Evl G
section
variable {X : Cx} {S : List Sl} {D : VE} {rest A B body : List Stmt} {S' : List Sl} {pos pp p1 p2 : Pos} {e tg iter c o : Expr} {es : List Expr} {p q : PV} {Φ : Phi} {x y m : Str}
/-! ### loops -/
theorem bv_for {α : Type} {f : α → PV} {as : List α} (pat : Pat) (b : α → List (Nat × PV)) (P : Nat → List Sl → Prop) (hi : IU X tg iter (view S) f as) (h0 : P 0 S) (hb : ∀ a ∈ as, pat.bind (f a) = some (b a))
    (hs : ∀ i a S1, as[i]? = some a → P i S1 → (∀ c ∈ b a, NotOwn S1 c.1) ∧ BV X body (setS S1 (b a)) { nx := P (i + 1), ct := P (i + 1), bk := fun S2 => BV X rest S2 D, rt := D.rt }) (hd : ∀ S1, P as.length S1 → BV X rest S1 D) (hg : PG X tg (gPat X.K pat))
    (hxe : PassesOwn (model X.prog X.w) X.A X.env X.xe := by exact PassesOwn.never) (hc : X.calm = true := by rfl) (hf : ∀ x, foldedSetIterable iter X.env x = pure x := by intro _; rfl) : BV X (.For tg iter body [] pos :: rest) S D := fun σ H r => by
  obtain ⟨wi, hpi, hw⟩ := hi (adrs S) σ H r.hd r.rl r.env
  refine b_of (ps_for hxe hc hpi hg pss_W hf) ?_
  refine hw H (Ex.refl H) _ fun J H2 G Y e2 W WG => ?_
  refine for_it W (fun i σ' H' => ∃ S1, P i S1 ∧ Rep S1 σ' H' ∧ Ex (vis S H2) (vis S1 H')) ⟨S, h0, r.up e2, Ex.refl _⟩ (fun i σ' H' _ ⟨S1, p1, r1, x1⟩ => WG.g H' (x1.trans ex_vis)) (fun i v σ' Ha Hb hi ⟨S1, p1, r1, x1⟩ yy => ?_) (fun σ' H' ⟨S1, p1, r1, x1⟩ => (hd S1 p1).at r1 ((ex_visL e2).trans x1))
  obtain ⟨eb, a, ha, ra⟩ := WG.y (adrs S1) i Ha v Hb x1 (fun b hb => let ⟨w, q, _⟩ := r1.hd.some b hb; ⟨w, q⟩) yy
  have r1b : Rep S1 σ' Hb := r1.up eb
  obtain ⟨hn, hB⟩ := hs i a S1 ha p1
  refine gPat_run (h := vis S1 Hb) (fun _ _ z => ex_vis _ _ z) (hb a (List.mem_of_getElem? ha)) ra fun σ2 hBd => ?_
  have r2 := rep_bound r1b hn hBd
  have ev : vis (setS S1 (b a)) Hb = vis S1 Hb := by show visL _ _ = visL _ _; rw [(setS_adr hn).1]
  have x2 : Ex (vis S H2) (vis (setS S1 (b a)) Hb) := by rw [ev]; exact x1.trans (ex_visL eb)
  refine BW.imp (hB σ2 Hb r2) ?_ ?_ ?_ ?_
  · exact fun _ _ ⟨S3, q1, q2, q3⟩ => ⟨S3, q1, q2, x2.trans q3⟩
  · exact fun _ _ ⟨w, S3, σ3, q1, q2, q3, q4⟩ => ⟨w, S3, σ3, q1, q2, q3, (ex_visL e2).trans (x2.trans q4)⟩
  · exact fun _ _ ⟨S3, q1, q2, q3⟩ => q1.at q2 ((ex_visL e2).trans (x2.trans q3))
  · exact fun _ _ ⟨S3, q1, q2, q3⟩ => ⟨S3, q1, q2, x2.trans q3⟩
theorem bv_while (P : Nat → List Sl → Prop) (n : Nat) (h0 : P n S) (hs : ∀ m S1, P m S1 → XT X c S1 fun b S2 => if b = true then BV X body S2 { nx := fun S3 => ∃ m', m' < m ∧ P m' S3, ct := fun S3 => ∃ m', m' < m ∧ P m' S3, bk := fun S3 => BV X rest S3 D, rt := D.rt } else BV X rest S2 D)
    (hxe : PassesOwn (model X.prog X.w) X.A X.env X.xe := by exact PassesOwn.never) : BV X (.While c body [] pos :: rest) S D := fun σ H r => by
  refine b_of (ps_while hxe pt_W pss_W) ⟨fun m σ' H' => ∃ S1, P m S1 ∧ Rep S1 σ' H' ∧ Ex (vis S H) (vis S1 H'), ⟨n, S, h0, r, Ex.refl _⟩, fun m σ' H' ⟨S1, p1, r1, x1⟩ => ?_⟩
  refine tw_mono (hs m S1 p1 σ' H' r1) fun b H1 ⟨S2, h2, r2, x2⟩ => ?_
  cases b with
  | true =>
    rw [if_pos rfl] at *
    refine ⟨_, fun σ3 H3 z => z, BW.imp (h2 σ' H1 r2) ?_ ?_ ?_ ?_⟩
    · exact fun _ _ ⟨S3, ⟨m', l, q1⟩, q2, q3⟩ => ⟨m', l, S3, q1, q2, x1.trans (x2.trans q3)⟩
    · exact fun _ _ ⟨w, S3, σ3, q1, q2, q3, q4⟩ => ⟨w, S3, σ3, q1, q2, q3, x1.trans (x2.trans q4)⟩
    · exact fun _ _ ⟨S3, q1, q2, q3⟩ => q1.at q2 (x1.trans (x2.trans q3))
    · exact fun _ _ ⟨S3, ⟨m', l, q1⟩, q2, q3⟩ => ⟨m', l, S3, q1, q2, x1.trans (x2.trans q3)⟩
  | false =>
    rw [if_neg Bool.false_ne_true] at *
    exact h2.at r2 (x1.trans x2)
/-! ### own objects -/
theorem Rep.own_ref {σ : L2.St} {H : Hp} {i : Nat} {a : Addr} {u : PO} (r : Rep S σ H) (h : S[i]? = some (.own a u)) : σ[i]? = some (some (.ref a)) := (r.own i a u h).1
/-- the name of an own object gives its address -/
theorem ew_own {σ : L2.St} {H : Hp} {i : Nat} {a : Addr} {u : PO} (r : Rep S σ H) (h : S[i]? = some (.own a u)) (hN : X.N[i]? = some x) (hs : Vis X.env.scope x) (hd : (x == ("__debug__" : Str)) = false) (hcd : (x == ("__classdict__" : Str)) = false) : EG X (.Name x pos) σ H (IsV (.ref a)) :=
  eg_var i (r.own_ref h) rfl hN hs hd hcd
/-- data that knows no heap -/
def Scal : PV → Bool
  | .non | .bl _ | .int _ | .str _ | .ty _ | .ref _ => true
  | _ => false
theorem scal_any {p : PV} {v : V} {H H' : Hp} (h : Scal p = true) (i : p.Is v H) : p.Is v H' := by
  cases p <;> first | exact i | cases h
/-- what is read of an own object, if no object comes of it -/
theorem xw_borrow (i : Nat) {a : Addr} {u : PO} (hS : S[i]? = some (.own a u)) (he : EV X e (view (S.set i (.pv u.pv))) p) (k : Φ p S) (hp : Scal p = true := by rfl) (hs : u.still = true := by rfl) : XW X e S Φ := fun σ H r =>
  (r.freeze hS hs).ev he H (Ex.refl H) _ fun v H2 e2 pv => ⟨p, S, k, r.up e2, scal_any hp pv, ex_visL e2⟩
theorem xt_borrow (i : Nat) {a : Addr} {u : PO} {bb : Bool} {Φ : Bool → List Sl → Prop} (hS : S[i]? = some (.own a u)) (he : TV X e (view (S.set i (.pv u.pv))) bb) (k : Φ bb S) (hs : u.still = true := by rfl) : XT X e S Φ := fun σ H r =>
  (r.freeze hS hs).tv he H (Ex.refl H) _ fun H2 e2 => ⟨S, k, r.up e2, ex_visL e2⟩
/-- x[k] of an own list -/
theorem xw_oix (i : Nat) {a : Addr} {xs : List PV} {n : Int} {b : Expr} (hS : S[i]? = some (.own a (.lst xs))) (hb : EV X b (view S) (.int n)) (hx : atI xs n = some p) (k : Φ p S) (hN : X.N[i]? = some x := by rfl) (hs : Vis X.env.scope x := by first | exact Or.inl rfl | exact Or.inr (Or.inl rfl) | exact Or.inr (Or.inr rfl))
    (hd : (x == ("__debug__" : Str)) = false := by decide) (hcd : (x == ("__classdict__" : Str)) = false := by decide) (hpl : PlainIx b := by exact fun _ _ => rfl) : XW X (.Subscript (.Name x pp) b pos) S Φ := fun σ H r pins s I => by
  refine (pe_ix ix_list pe_W pe_W hpl).run pins s σ H _ I (ew_own r hS hN hs hd hcd H (Ex.refl H) _ fun v H1 e1 hv => (r.up e1).ev hb H1 (Ex.refl _) _ fun w H2 e2 hw => ?_)
  have r2 := (r.up e1).up e2
  obtain ⟨_, vs, h1, h2⟩ := r2.own i a _ hS
  obtain ⟨z, hz, rz⟩ := iss_atI h2 hx
  exact ⟨a, vs, n, z, hv, hw, SqL.of h1, hz, p, S, k, r2, rz, ex_visL (e1.trans e2)⟩
/-- x = [..], an own list from now on -/
theorem bv_newL (i : Nat) {x1 : Pos} (hN : X.N.Nodup) (he : XA X es S fun ps S1 => ps.length ≤ 1000 ∧ NotOwn S1 i ∧ i < S1.length ∧ ∀ d, BV X rest (S1.set i (.own d (.lst ps))) D) (hi : X.N[i]? = some y := by rfl) (hl : Loc X.env.scope y := by first | exact Or.inl rfl | exact Or.inr rfl)
    (hs : swapsWith (.List es x1) (some (.Name y pp)) pos.line X.env = pure false := by rfl) (hf : X.fn y = true ∨ X.env.scope.names.lookup y = some .local := by first | exact .inl rfl | exact .inr rfl) : BV X (.Assign [.Name y pp] (.List es x1) pos :: rest) S D := fun σ H r =>
  b_of (ps_set hN hi hl (pe_lst pa_W) hs hf) (aw_mono (he σ H r) fun vs H1 ⟨ps, S1, ⟨h1, h2, h3, h4⟩, r1, i1, e1⟩ => ⟨sz_of (Nat.le_trans (Nat.le_of_eq (iss_len i1)) (Nat.le_trans h1 (by decide))), fun d hd => by
    obtain ⟨r2, ev⟩ := r1.new (o := .lst ps) (w := .lst vs) h2 h3 hd rfl ⟨vs, upd_same, i1⟩
    exact (h4 d).at r2 (by rw [ev]; exact e1)⟩)
/-- x = [a, b][..] and the like: an own list of what an expression gives anew is told by bv_newL alone -/
theorem bv_append (i : Nat) {a : Addr} {xs : List PV} {apos : Pos} (he : XW X e S fun p S1 => ∃ xs1, S1[i]? = some (.own a (.lst xs1)) ∧ xs1.length < 1000000 ∧ BV X rest (S1.set i (.own a (.lst (xs1 ++ [p])))) D) (hS : S[i]? = some (.own a (.lst xs))) (hN : X.N[i]? = some x := by rfl) (hv : Vis X.env.scope x := by first | exact Or.inl rfl | exact Or.inr (Or.inl rfl) | exact Or.inr (Or.inr rfl))
    (hd : (x == ("__debug__" : Str)) = false := by decide) (hcd : (x == ("__classdict__" : Str)) = false := by decide) (hbase : attributeBase (.Name x pp) "append" X.env (eval (.Name x pp) X.env) = eval (.Name x pp) X.env := by rfl)
    (hfew : ((backTo pos (starEach (e :: []) X.env)).all (fun x => !x.1) && (backToKw pos (keywordEach [] X.env)).all (fun x => x.1.isSome) && decide ((e :: []).length + ([] : List Keyword).length + (if ([] : List Keyword).isEmpty then 0 else 1) < 30)) = true := by rfl)
    (hline : (apos.endLine == pos.line) = true := by rfl) (hs : starEach (e :: []) X.env = (false, eval e X.env) :: starEach [] X.env := by rfl) (hplain : (backTo pos (starEach [] X.env)).any (·.1) = false := by rfl)
    (hsw : swapsWith (.Call (.Attribute (.Name x pp) "append" apos) [e] [] pos) none p2.line X.env = pure false := by rfl) : BV X (.Expr (.Call (.Attribute (.Name x pp) "append" apos) [e] [] pos) p2 :: rest) S D := fun σ H r => by
  refine b_of (ps_expr (pe_bm PySem.F.plainAttrs_list PySem.F.slot_list_append PySem.F.type_list_append mt_append pe_W (pa_cons pe_W pa_nil hs) hbase hfew hline hs hplain) hsw) ?_
  refine ew_own r hS hN hv hd hcd H (Ex.refl H) _ fun v H1 e1 hv' => ?_
  subst hv'
  have r1 := r.up e1
  obtain ⟨_, vs, h1, h2⟩ := r1.own i a _ hS
  refine ⟨.inl ⟨rfl, _, .inl (.inl h1)⟩, ew_mono (he σ H1 r1) fun w H2 ⟨p, S1, ⟨xs1, g1, g2, g3⟩, r2, i2, e2⟩ => ?_⟩
  obtain ⟨_, ws, k1, k2⟩ := r2.own i a _ g1
  refine ⟨a, ws, w, rfl, rfl, k1, ?_, ?_⟩
  · rw [iss_len k2]
    exact Nat.lt_trans g2 (by decide)
  · obtain ⟨r3, ev⟩ := r2.chg (u := .lst (xs1 ++ [p])) (H' := upd H2 a (.lst (ws ++ [w]))) g1 rfl (fun b hb => upd_ne fun z => hb (by simp [PO.adr, z])) ⟨_, upd_same, iss_app k2 ⟨w, [], rfl, i2, rfl⟩⟩
    exact g3.at r3 (by rw [ev]; exact (ex_visL e1).trans e2)
theorem iss_set {H : Hp} {p : PV} {v : V} (h : p.Is v H) : ∀ {xs : List PV} {vs : List V} {n : Nat}, PV.Iss xs vs H → PV.Iss (xs.set n p) (vs.set n v) H
  | [], vs, n, k => by rw [show vs = [] from k]; exact rfl
  | u :: us, vs, n, ⟨y, r, z1, z2, z3⟩ => by
    subst z1
    cases n with
    | zero => exact ⟨v, r, rfl, h, z3⟩
    | succ n => exact ⟨y, _, rfl, z2, iss_set h z3⟩
/-- x[k] = e of an own list -/
theorem bv_setix (i : Nat) {a : Addr} {n : Nat} {b : Expr} (he : XW X e S fun p S1 => ∃ xs1, S1[i]? = some (.own a (.lst xs1)) ∧ EV X b (view S1) (.int (n : Int)) ∧ n < xs1.length ∧ BV X rest (S1.set i (.own a (.lst (xs1.set n p)))) D) (hN : X.N[i]? = some x := by rfl) (hv : Vis X.env.scope x := by first | exact Or.inl rfl | exact Or.inr (Or.inl rfl) | exact Or.inr (Or.inr rfl))
    (hd : (x == ("__debug__" : Str)) = false := by decide) (hcd : (x == ("__classdict__" : Str)) = false := by decide) (hs : swapsWithSole [.Subscript (.Name x pp) b p1] e pos.line X.env = pure false := by rfl) (hw : swappedStores [.Subscript (.Name x pp) b p1] e X.env = pure none := by rfl)
    (h1 : (assignEach [.Subscript (.Name x pp) b p1] X.env).map (·.2) = [assign (.Subscript (.Name x pp) b p1) X.env] := by rfl)
    (hpa : ∀ v, assign (.Subscript (.Name x pp) b p1) X.env v = (do
      let ov ← holding [v] (eval (.Name x pp) X.env)
      let iv ← holding [v, ov] (eval b X.env)
      standAt p1
      holding [v, ov, iv] (setItem ov iv v)
      release [v, ov, iv] []) := by intro _; rfl) : BV X (.Assign [.Subscript (.Name x pp) b p1] e pos :: rest) S D := fun σ H r =>
  b_of (ps_asg pe_W (pg_sub pe_W pe_W set_list hpa) hs hw h1) (ew_mono (he σ H r) fun v H1 ⟨p, S1, ⟨xs1, g1, g2, g3, g4⟩, r1, i1, e1⟩ => ew_own r1 g1 hN hv hd hcd H1 (Ex.refl _) _ fun o H2 e2 ho => (r1.up e2).ev g2 H2 (Ex.refl _) _ fun w H3 e3 hi => by
    have r3 := (r1.up e2).up e3
    obtain ⟨_, ws, k1, k2⟩ := r3.own i a _ g1
    have hl := iss_len k2
    refine ⟨a, ws, n, n, ho, hi, k1, ?_, ?_⟩
    · unfold ixN
      rw [if_pos (by omega), if_pos (by omega), Int.toNat_natCast]
    · have i3 : PV.Iss (xs1.set n p) (ws.set n v) (vis S1 H3) := iss_set (PV.Is.up ((ex_visL e2).trans (ex_visL e3)) i1) k2
      obtain ⟨r4, ev⟩ := r3.chg (u := .lst (xs1.set n p)) (H' := upd H3 a (.lst (ws.set n v))) g1 rfl (fun b hb => upd_ne fun z => hb (by simp [PO.adr, z])) ⟨_, upd_same, i3⟩
      exact g4.at r4 (by rw [ev]; exact e1.trans ((ex_visL e2).trans (ex_visL e3))))
end
end E
set_option maxHeartbeats 4000000
/-! E8: fields, dicts; calls and defs. -/
namespace E
open PySem PySem.Spec PyProof.Rows L2 Evl G
/-! ### dicts -/
def setAt (k : Key) {α : Type} (p : α) : List Key → List α → List α
  | j :: ks, x :: xs => (if j = k then p else x) :: setAt k p ks xs
  | _, xs => xs
def hasK (ks : List Key) (k : Key) : Bool := ks.any fun j => decide (j = k)
def putKs (ks : List Key) (k : Key) : List Key := if hasK ks k = true then ks else ks ++ [k]
def putXs {α : Type} (ks : List Key) (xs : List α) (k : Key) (p : α) : List α := if hasK ks k = true then setAt k p ks xs else xs ++ [p]
theorem setAt_len {k : Key} {α : Type} {p : α} : ∀ {ks : List Key} {xs : List α}, (setAt k p ks xs).length = xs.length
  | [], xs => by unfold setAt; rfl
  | j :: ks, [] => rfl
  | j :: ks, x :: xs => by unfold setAt; rw [List.length_cons, setAt_len, List.length_cons]
theorem putK_zip {k : Key} {v : V} {ks : List Key} {vs : List V} (hl : ks.length = vs.length) : putK (ks.zip vs) k v = (putKs ks k).zip (putXs ks vs k v) := by
  unfold putK putKs putXs
  have e : ((ks.zip vs).any fun kv => decide (kv.1 = k)) = hasK ks k := by
    clear v
    unfold hasK
    induction ks generalizing vs with
    | nil => rfl
    | cons j ks ih =>
      cases vs with
      | nil => cases hl
      | cons w vs =>
        rw [List.zip_cons_cons, List.any_cons, List.any_cons, ih (by simpa using hl)]
  rw [e]
  by_cases m : hasK ks k = true
  · rw [if_pos m, if_pos m, if_pos m]
    clear e m
    induction ks generalizing vs with
    | nil => rfl
    | cons j ks ih =>
      cases vs with
      | nil => cases hl
      | cons w vs =>
        rw [List.zip_cons_cons, List.map_cons, ih (by simpa using hl)]
        show _ = (j, if j = k then v else w) :: _
        by_cases z : j = k
        · rw [if_pos z, if_pos z]
          rfl
        · rw [if_neg z, if_neg z]
          rfl
  · rw [if_neg m, if_neg m, if_neg m, List.zip_append hl]
    rfl
theorem iss_setAt {H : Hp} {k : Key} {p : PV} {v : V} (h : p.Is v H) : ∀ {ks : List Key} {xs : List PV} {vs : List V}, PV.Iss xs vs H → PV.Iss (setAt k p ks xs) (setAt k v ks vs) H
  | [], xs, vs, g => by unfold setAt; exact g
  | j :: ks, [], vs, g => by rw [show vs = [] from g]; exact rfl
  | j :: ks, x :: xs, vs, ⟨y, r, z1, z2, z3⟩ => by
    subst z1
    refine ⟨_, _, rfl, ?_, iss_setAt h z3⟩
    by_cases e : j = k
    · rw [if_pos e, if_pos e]; exact h
    · rw [if_neg e, if_neg e]; exact z2
theorem iss_putXs {H : Hp} {k : Key} {p : PV} {v : V} {ks : List Key} {xs : List PV} {vs : List V} (h : p.Is v H) (g : PV.Iss xs vs H) : PV.Iss (putXs ks xs k p) (putXs ks vs k v) H := by
  unfold putXs
  by_cases m : hasK ks k = true
  · rw [if_pos m, if_pos m]; exact iss_setAt h g
  · rw [if_neg m, if_neg m]; exact iss_app g ⟨v, [], rfl, h, rfl⟩
theorem putXs_len {α : Type} {ks : List Key} {xs : List α} {k : Key} {p : α} (hl : ks.length = xs.length) : (putKs ks k).length = (putXs ks xs k p).length := by
  unfold putKs putXs
  by_cases m : hasK ks k = true
  · rw [if_pos m, if_pos m, setAt_len]; exact hl
  · rw [if_neg m, if_neg m, List.length_append, List.length_append, hl]; rfl
theorem zip_len_le {ks : List Key} {vs : List V} : (ks.zip vs).length ≤ ks.length := by rw [List.length_zip]; omega
/-! ### fields -/
def putFs (ks : List Str) (f : Str) : List Str := if f ∈ ks then ks else ks ++ [f]
def setF {α : Type} (f : Str) (p : α) : List Str → List α → List α
  | g :: ks, x :: xs => if g = f then p :: xs else x :: setF f p ks xs
  | _, xs => xs
def putFx {α : Type} (ks : List Str) (xs : List α) (f : Str) (p : α) : List α := if f ∈ ks then setF f p ks xs else xs ++ [p]
theorem putF_zip {f : Str} {v : V} : ∀ {ks : List Str} {vs : List V}, ks.length = vs.length → putF f v (ks.zip vs) = (putFs ks f).zip (putFx ks vs f v)
  | [], [], _ => rfl
  | g :: ks, w :: vs, hl => by
    rw [List.zip_cons_cons]
    unfold putF
    have ih := putF_zip (f := f) (v := v) (ks := ks) (vs := vs) (by simpa using hl)
    by_cases e : g = f
    · subst e
      rw [if_pos rfl]
      unfold putFs putFx setF
      simp
    · rw [if_neg e, ih]
      unfold putFs putFx
      have e' : ¬ f = g := fun z => e z.symm
      by_cases m : f ∈ ks
      · rw [if_pos m, if_pos m, if_pos (List.mem_cons_of_mem _ m), if_pos (List.mem_cons_of_mem _ m)]
        rw [show setF f v (g :: ks) (w :: vs) = w :: setF f v ks vs from if_neg e]
        rfl
      · rw [if_neg m, if_neg m, if_neg (by simp [e', m]), if_neg (by simp [e', m])]
        rfl
theorem iss_setF {H : Hp} {f : Str} {p : PV} {v : V} (h : p.Is v H) : ∀ {ks : List Str} {xs : List PV} {vs : List V}, PV.Iss xs vs H → PV.Iss (setF f p ks xs) (setF f v ks vs) H
  | [], xs, vs, g => by unfold setF; exact g
  | j :: ks, [], vs, g => by rw [show vs = [] from g]; exact rfl
  | j :: ks, x :: xs, vs, ⟨y, r, z1, z2, z3⟩ => by
    subst z1
    unfold setF
    by_cases e : j = f
    · rw [if_pos e, if_pos e]; exact ⟨v, r, rfl, h, z3⟩
    · rw [if_neg e, if_neg e]; exact ⟨_, _, rfl, z2, iss_setF h z3⟩
theorem iss_putFx {H : Hp} {f : Str} {p : PV} {v : V} {ks : List Str} {xs : List PV} {vs : List V} (h : p.Is v H) (g : PV.Iss xs vs H) : PV.Iss (putFx ks xs f p) (putFx ks vs f v) H := by
  unfold putFx
  by_cases m : f ∈ ks
  · rw [if_pos m, if_pos m]; exact iss_setF h g
  · rw [if_neg m, if_neg m]; exact iss_app g ⟨v, [], rfl, h, rfl⟩
theorem setF_len {f : Str} {α : Type} {p : α} : ∀ {ks : List Str} {xs : List α}, (setF f p ks xs).length = xs.length
  | [], xs => by unfold setF; rfl
  | j :: ks, [] => rfl
  | j :: ks, x :: xs => by
    unfold setF
    split
    · rfl
    · rw [List.length_cons, setF_len, List.length_cons]
theorem putFx_len {α : Type} {ks : List Str} {xs : List α} {f : Str} {p : α} (hl : ks.length = xs.length) : (putFs ks f).length = (putFx ks xs f p).length := by
  unfold putFs putFx
  by_cases m : f ∈ ks
  · rw [if_pos m, if_pos m, setF_len]; exact hl
  · rw [if_neg m, if_neg m, List.length_append, List.length_append, hl]; rfl
section
variable {X : Cx} {S : List Sl} {D : VE} {rest A B body : List Stmt} {S' : List Sl} {pos pp p1 p2 : Pos} {e b tg iter c o : Expr} {es : List Expr} {p q : PV} {Φ : Phi} {x y m : Str}
/-- x = {} -/
theorem bv_newD (i : Nat) {x1 : Pos} (hN : X.N.Nodup) (hn : NotOwn S i) (hl : i < S.length) (k : ∀ d, BV X rest (S.set i (.own d (.dct [] []))) D) (hi : X.N[i]? = some y := by rfl) (hlc : Loc X.env.scope y := by first | exact Or.inl rfl | exact Or.inr rfl)
    (hs : swapsWith (.Dict [] [] x1) (some (.Name y pp)) pos.line X.env = pure false := by rfl) (hf : X.fn y = true ∨ X.env.scope.names.lookup y = some .local := by first | exact .inl rfl | exact .inr rfl) : BV X (.Assign [.Name y pp] (.Dict [] [] x1) pos :: rest) S D := fun σ H r =>
  b_of (ps_set hN hi hlc pe_dnewK hs hf) (fun d hd => by
    obtain ⟨r2, ev⟩ := r.new (o := .dct [] []) (w := .dK []) hn hl hd rfl ⟨[], upd_same, rfl, rfl⟩
    exact (k d).at r2 (by rw [ev]; exact Ex.refl _))
/-- x[k] = e of an own dict -/
theorem bv_dput (i : Nat) {a : Addr} {key : Key} {pk : PV} (hu : X.A.units + 1 < cLine) (hk : ∀ v H, pk.Is v H → v = kV key) (he : XW X e S fun p S1 => ∃ ks xs, S1[i]? = some (.own a (.dct ks xs)) ∧ EV X b (view S1) pk ∧ ks.length < 1000000 ∧ BV X rest (S1.set i (.own a (.dct (putKs ks key) (putXs ks xs key p)))) D) (hN : X.N[i]? = some x := by rfl) (hv : Vis X.env.scope x := by first | exact Or.inl rfl | exact Or.inr (Or.inl rfl) | exact Or.inr (Or.inr rfl))
    (hd : (x == ("__debug__" : Str)) = false := by decide) (hcd : (x == ("__classdict__" : Str)) = false := by decide) (hs : swapsWith e (some (.Subscript (.Name x pp) b p1)) pos.line X.env = pure false := by rfl) : BV X (.Assign [.Subscript (.Name x pp) b p1] e pos :: rest) S D := fun σ H r =>
  b_of (ps_dput hu pe_W pe_W pe_W hs) (ew_mono (he σ H r) fun v H1 ⟨p, S1, ⟨ks, xs, g1, g2, g3, g4⟩, r1, i1, e1⟩ => ew_own r1 g1 hN hv hd hcd H1 (Ex.refl _) _ fun o H2 e2 ho => (r1.up e2).ev g2 H2 (Ex.refl _) _ fun w H3 e3 hi => by
    have r3 := (r1.up e2).up e3
    obtain ⟨_, ws, k1, k2, k3⟩ := r3.own i a _ g1
    have hl : ks.length = ws.length := by rw [iss_len k3]; exact k2
    have hkw := hk _ _ hi
    subst hkw
    refine ⟨a, _, ho, DPut.k k1 (Nat.lt_of_le_of_lt zip_len_le (Nat.lt_trans g3 (by decide))), ?_⟩
    have i3 := iss_putXs (k := key) (ks := ks) (PV.Is.up ((ex_visL e2).trans (ex_visL e3)) i1) k3
    obtain ⟨r4, ev⟩ := r3.chg (u := .dct (putKs ks key) (putXs ks xs key p)) (H' := upd H3 a (.dK (putK (ks.zip ws) key v))) g1 rfl (fun b hb => upd_ne fun z => hb (by simp [PO.adr, z])) ⟨_, by rw [upd_same, putK_zip hl], putXs_len k2, i3⟩
    exact g4.at r4 (by rw [ev]; exact e1.trans ((ex_visL e2).trans (ex_visL e3))))
/-- x.f = e of an own instance -/
theorem bv_setf (i : Nat) {a C dx : Addr} {f : Str} (c : Cls X.K C) (hn : NoAttr X.K C f) (he : XW X e S fun p S1 => ∃ ks xs, S1[i]? = some (.own a (.obj C dx ks xs)) ∧ ks.length < 1000 ∧ BV X rest (S1.set i (.own a (.obj C dx (putFs ks f) (putFx ks xs f p)))) D) (hN : X.N[i]? = some x := by rfl) (hv : Vis X.env.scope x := by first | exact Or.inl rfl | exact Or.inr (Or.inl rfl) | exact Or.inr (Or.inr rfl))
    (hd : (x == ("__debug__" : Str)) = false := by decide) (hcd : (x == ("__classdict__" : Str)) = false := by decide) (hs : swapsWith e (some (.Attribute (.Name x pp) f p1)) pos.line X.env = pure false := by rfl) : BV X (.Assign [.Attribute (.Name x pp) f p1] e pos :: rest) S D := fun σ H r =>
  b_of (ps_fld pe_W pe_W hs) (ew_mono (he σ H r) fun v H1 ⟨p, S1, ⟨ks, xs, g1, g2, g3⟩, r1, i1, e1⟩ => ew_own r1 g1 hN hv hd hcd H1 (Ex.refl _) _ fun o H2 e2 ho => by
    have r2 := r1.up e2
    obtain ⟨_, ws, k1, k2, k3, k4⟩ := r2.own i a _ g1
    have hl : ks.length = ws.length := by rw [iss_len k4]; exact k3
    refine ⟨a, C, dx, _, ho, k1, c, hn, by rw [List.length_zip]; omega, ?_⟩
    have i3 := iss_putFx (f := f) (ks := ks) (PV.Is.up (ex_visL e2) i1) k4
    have ndx : dx ≠ a := ne_of k2 k1 (by intro z; cases z)
    obtain ⟨r4, ev⟩ := r2.chg (u := .obj C dx (putFs ks f) (putFx ks xs f p)) (H' := upd H2 a (.ins C dx (putF f v (ks.zip ws)))) g1 rfl (fun b hb => upd_ne fun z => hb (by simp [PO.adr, z])) ⟨_, by rw [upd_same, putF_zip hl], by rw [upd_ne ndx]; exact k2, putFx_len k3, i3⟩
    exact g3.at r4 (by rw [ev]; exact e1.trans (ex_visL e2)))
/-- x.f of an own instance -/
theorem xw_ofld (i : Nat) {a C dx : Addr} {f : Str} {ks : List Str} {xs : List PV} (c : Cls X.K C) (hn : NoAttr X.K C f) (hS : S[i]? = some (.own a (.obj C dx ks xs))) (hf : lookF f ks xs = some p) (k : Φ p S) (hN : X.N[i]? = some x := by rfl) (hv : Vis X.env.scope x := by first | exact Or.inl rfl | exact Or.inr (Or.inl rfl) | exact Or.inr (Or.inr rfl))
    (hd : (x == ("__debug__" : Str)) = false := by decide) (hcd : (x == ("__classdict__" : Str)) = false := by decide) (hb : attributeBase (.Name x pp) f X.env (eval (.Name x pp) X.env) = eval (.Name x pp) X.env := by rfl) : XW X (.Attribute (.Name x pp) f pos) S Φ := fun σ H r pins s I => by
  refine (pe_fld pe_W hb).run pins s σ H _ I (ew_own r hS hN hv hd hcd H (Ex.refl H) _ fun v H1 e1 hv' => ?_)
  have r1 := r.up e1
  obtain ⟨_, ws, k1, k2, k3, k4⟩ := r1.own i a _ hS
  obtain ⟨y, z1, z2⟩ := lookF_is k4 hf
  exact ⟨a, C, dx, _, y, hv', k1, c, hn, z1, p, S, k, r1, z2, ex_visL e1⟩
end
/-! ### hiding many -/
theorem inv_hideL {X : Cx} {L : List Addr} {H : Hp} (hL : Hideable L H) : ∀ {pins : List (Addr × Obj)} {σ : L2.St} {s : Shared}, Inv X pins σ H s → ∃ obs, Inv X (obs ++ pins) σ (visL L H) s ∧
    ∀ σ' H2 s2, Inv X (obs ++ pins) σ' H2 s2 → (∀ b ∈ L, H2 b = none) ∧ Inv X pins σ' (fillL L H H2) s2 := by
  induction hL with
  | nil => intro pins σ s I; exact ⟨[], by rw [visL_nil]; exact I, fun σ' H2 s2 J => ⟨(fun b hb => nomatch hb), (by rw [fillL_nil]; exact J)⟩⟩
  | @one H D o L hD hs r ih =>
    intro pins σ s I
    obtain ⟨ob, e1, nc, ok⟩ := smp_ob I hD hs
    have J := hide1 I hD (smp_hdb hs) e1 nc (fun b z => by rw [z] at hs; cases hs)
    obtain ⟨obs, J2, back⟩ := ih J
    refine ⟨obs ++ [(D, ob)], by rw [visL_cons, List.append_assoc]; exact J2, fun σ' H2 s2 K => ?_⟩
    rw [List.append_assoc] at K
    obtain ⟨n1, K1⟩ := back _ _ _ K
    obtain ⟨_, n2, K2⟩ := show1 I hD (smp_hdb hs) e1 nc K1 fun q _ => ok _ _ q
    refine ⟨fun b hb => ?_, by rw [fillL_cons hD]; exact K2⟩
    rcases List.mem_cons.mp hb with z | z
    · subst z
      unfold fillL at n2
      by_cases hl : b ∈ L
      · exact n1 b hl
      · rw [if_neg hl] at n2; exact n2
    · exact n1 b z
  | @obj H D dx C fs L hD hx r ih =>
    intro pins σ s I
    obtain ⟨o1, o2, J, bk⟩ := hide2 I hD hx
    obtain ⟨obs, J2, back⟩ := ih J
    refine ⟨obs ++ [(dx, o2), (D, o1)], by rw [visL_cons, visL_cons, List.append_assoc]; exact J2, fun σ' H2 s2 K => ?_⟩
    rw [List.append_assoc] at K
    obtain ⟨n1, K1⟩ := back _ _ _ K
    obtain ⟨n2, n3, K2⟩ := bk _ _ _ K1
    refine ⟨fun b hb => ?_, by rw [fill2 hD hx]; exact K2⟩
    unfold fillL at n2 n3
    rcases List.mem_cons.mp hb with z | z
    · subst z
      by_cases hl : b ∈ L
      · exact n1 b hl
      · rw [if_neg hl] at n2; exact n2
    · rcases List.mem_cons.mp z with z | z
      · subst z
        by_cases hl : b ∈ L
        · exact n1 b hl
        · rw [if_neg hl] at n3; exact n3
      · exact n1 b z
/-! ### promises -/
/-- of what changes nothing: called with ps it gives p -/
def VS (ps : List PV) (p : PV) : Sp := fun vs H Q _ => PV.Iss ps vs H ∧ ∀ v H', Ex H H' → p.Is v H' → Q v H'
/-- of what may change the object that it is handed first -/
def OS (o : PO) (ps : List PV) (post : PV → PO → Prop) : Sp := fun vs H Q _ => ∃ a vs', vs = .ref a :: vs' ∧ o.Is a H (visL (o.adr a) H) ∧ PV.Iss ps vs' (visL (o.adr a) H) ∧
  ∀ v H' p u, post p u → u.adr a = o.adr a → u.Is a H' (visL (o.adr a) H') → p.Is v (visL (o.adr a) H') → Ex (visL (o.adr a) H) (visL (o.adr a) H') → Q v H'
/-- of an __init__: ks, qs the fields -/
def NS (C : Addr) (ps : List PV) (ks : List Str) (qs : List PV) : Sp := fun vs H Q _ => ∃ a dx vs', vs = .ref a :: vs' ∧ H a = some (.ins C dx []) ∧ H dx = some (.own a) ∧ PV.Iss ps vs' (visL [a, dx] H) ∧
  ∀ H' ws, H' a = some (.ins C dx (ks.zip ws)) → ks.length = qs.length → PV.Iss qs ws (visL [a, dx] H') → Ex (visL [a, dx] H) (visL [a, dx] H') → Q .non H'
/-- defaults, as data -/
def DV (dps : List PV) (ds : List Value) : Prop := ∃ dvs, Vals dvs ds ∧ ∀ H, PV.Iss dps dvs H
theorem dv_nil : DV [] [] := ⟨[], .nil, fun _ => rfl⟩
section
variable (P : Program) (w : World) (K : PySem.W.Frag) (mg : Str → Option Value) (base : Heap)
structure Fn (x : Str) (k : Nat) (ps : List PV) (p : PV) : Prop where
  ex : ∃ f fd pn ds dps, FnOk P w K mg base CX0 k f fd pn (VS (ps ++ dps) p) ∧ mg x = some (.ref f) ∧ PySem.W.keepIn K (.ref f) = true ∧ Binds K fd pn ds ∧ DV dps ds
structure FnO (x : Str) (k : Nat) (o : PO) (ps : List PV) (post : PV → PO → Prop) : Prop where
  ex : ∃ f fd pn ds dps, FnOk P w K mg base CX0 k f fd pn (OS o (ps ++ dps) post) ∧ mg x = some (.ref f) ∧ PySem.W.keepIn K (.ref f) = true ∧ Binds K fd pn ds ∧ DV dps ds
/-- a method: ps behind self -/
structure Me (C : Addr) (m : Str) (k : Nat) (sv : PV) (ps : List PV) (p : PV) : Prop where
  ex : ∃ f fd pn ds dps, FnOk P w K mg base CX0 k f fd pn (VS (sv :: (ps ++ dps)) p) ∧ Meth K C m f ∧ Binds K fd pn ds ∧ DV dps ds
structure MeO (C : Addr) (m : Str) (k : Nat) (sv : PO) (ps : List PV) (post : PV → PO → Prop) : Prop where
  ex : ∃ f fd pn ds dps, FnOk P w K mg base CX0 k f fd pn (OS sv (ps ++ dps) post) ∧ Meth K C m f ∧ Binds K fd pn ds ∧ DV dps ds
/-- a static method -/
structure Sm (x m : Str) (k : Nat) (ps : List PV) (p : PV) : Prop where
  ex : ∃ C f fd pn ds dps, FnOk P w K mg base CX0 k f fd pn (VS (ps ++ dps) p) ∧ mg x = some (.ref C) ∧ SMeth K C m f ∧ Binds K fd pn ds ∧ DV dps ds
/-- a class that is called -/
structure Nw (x : Str) (C : Addr) (k : Nat) (ps : List PV) (ks : List Str) (qs : List PV) : Prop where
  ex : ∃ f fd pn ds dps, FnOk P w K mg base CX0 k f fd pn (NS C (ps ++ dps) ks qs) ∧ Mk K C f ∧ mg x = some (.ref C) ∧ Binds K fd pn ds ∧ DV dps ds
end
section
variable {X : Cx} {ρ : Rho} {S : List Sl} {a b c e o : Expr} {es : List Expr} {pos pp apos : Pos} {p q self : PV} {ps : List PV} {Φ : Phi} {x m : Str} {k : Nat} {C : Addr}
theorem iss_dv {H : Hp} {ps dps : List PV} {vs dvs : List V} (h : PV.Iss ps vs H) (g : PV.Iss dps dvs H) : PV.Iss (ps ++ dps) (vs ++ dvs) H := iss_app h g
theorem ev_call (D : Fn X.prog X.w X.K X.mg X.base x k ps p) (hr : Room k X.A) (ha : AV X (e :: es) ρ ps) (hg : Gl X x := by rfl) (hdb : (x == ("__debug__" : Str)) = false := by decide)
    (he : starEach (e :: es) X.env = (false, eval e X.env) :: starEach es X.env := by rfl) (hpl : (backTo pos (starEach es X.env)).any (·.1) = false := by rfl) : EV X (.Call (.Name x pp) (e :: es) [] pos) ρ p := fun σ H l h => by
  obtain ⟨f, fd, pn, ds, dps, F, hm, hk, hb, dvs, hd, hi⟩ := D.ex
  refine eg_of (pe_call (E := E0) F hr hg hm hk hb hd pass0 pa_W hdb he hpl) fun H1 e1 Q q => ha σ H l h H1 e1 _ fun vs H2 e2 pv => ?_
  exact ⟨iss_dv (iss_args.mpr pv) (hi H2), fun v H3 e3 z => q v H3 (e2.trans e3) z⟩
theorem ev_meth {pl : Sem Bool} {ks : List Str} {fs : List PV} (c : Cls X.K C) (D : Me X.prog X.w X.K X.mg X.base C m k (.ins C ks fs) ps p) (hr : Room k X.A) (ho : EV X o ρ (.ins C ks fs)) (ha : AV X (e :: es) ρ ps) (hn : m ∉ ks := by decide +kernel)
    (hst : starEach (e :: es) X.env = (false, eval e X.env) :: starEach es X.env := by rfl) (hpl : (backTo pos (starEach es X.env)).any (·.1) = false := by rfl)
    (ht : eval (.Call (.Attribute o m apos) (e :: es) [] pos) X.env = (do
      let ov ← eval o X.env
      standAt apos.atName
      let (f, first) ← holding [ov] (getMethod ov m pl)
      callWith pos f first (backTo pos (starEach (e :: es) X.env)) (backToKw pos (keywordEach [] X.env))) := by rfl) : EV X (.Call (.Attribute o m apos) (e :: es) [] pos) ρ p := fun σ H l h => by
  obtain ⟨f, fd, pn, ds, dps, F, hm, hb, dvs, hd, hi⟩ := D.ex
  refine eg_of (pe_meth (E := E0) pe_W c hm F hr hb hd pass0 pa_W hst hpl ht) fun H1 e1 Q q => ho σ H l h H1 e1 _ fun v H2 e2 hv => ?_
  obtain ⟨aa, dx, ws, e3, e4, e5, e6⟩ := id hv
  refine ⟨aa, dx, _, e3, e4, lookF_no hn, ha σ H l h H2 (e1.trans e2) _ fun vs H3 e7 pvs => ?_⟩
  exact ⟨⟨v, _, rfl, hv.up e7, iss_dv (iss_args.mpr pvs) (hi H3)⟩, fun u H4 e8 z => q u H4 ((e2.trans e7).trans e8) z⟩
theorem ev_meth0 {pl : Sem Bool} {ks : List Str} {fs : List PV} (c : Cls X.K C) (D : Me X.prog X.w X.K X.mg X.base C m k (.ins C ks fs) [] p) (hr : Room k X.A) (ho : EV X o ρ (.ins C ks fs)) (hn : m ∉ ks := by decide +kernel)
    (ht : eval (.Call (.Attribute o m apos) [] [] pos) X.env = (do
      let ov ← eval o X.env
      standAt apos.atName
      let (f, first) ← holding [ov] (getMethod ov m pl)
      callWith pos f first (backTo pos (starEach [] X.env)) (backToKw pos (keywordEach [] X.env))) := by rfl) : EV X (.Call (.Attribute o m apos) [] [] pos) ρ p := fun σ H l h => by
  obtain ⟨f, fd, pn, ds, dps, F, hm, hb, dvs, hd, hi⟩ := D.ex
  refine eg_of (pe_meth0 (E := E0) pe_W c hm F hr hb hd pass0 ht) fun H1 e1 Q q => ho σ H l h H1 e1 _ fun v H2 e2 hv => ?_
  obtain ⟨aa, dx, ws, e3, e4, e5, e6⟩ := id hv
  exact ⟨aa, dx, _, e3, e4, lookF_no hn, ⟨v, _, rfl, hv, by rw [List.nil_append]; exact hi H2⟩, fun u H4 e8 z => q u H4 (e2.trans e8) z⟩
theorem ev_smeth {pl : Sem Bool} (D : Sm X.prog X.w X.K X.mg X.base x m k ps p) (hr : Room k X.A) (ha : AV X (e :: es) ρ ps) (hg : Gl X x := by rfl) (hdb : (x == ("__debug__" : Str)) = false := by decide)
    (he : starEach (e :: es) X.env = (false, eval e X.env) :: starEach es X.env := by rfl) (hpl : (backTo pos (starEach es X.env)).any (·.1) = false := by rfl)
    (ht : eval (.Call (.Attribute (.Name x pp) m apos) (e :: es) [] pos) X.env = (do
      let ov ← eval (.Name x pp) X.env
      standAt apos.atName
      let (f, first) ← holding [ov] (getMethod ov m pl)
      callWith pos f first (backTo pos (starEach (e :: es) X.env)) (backToKw pos (keywordEach [] X.env))) := by rfl) : EV X (.Call (.Attribute (.Name x pp) m apos) (e :: es) [] pos) ρ p := fun σ H l h => by
  obtain ⟨C, f, fd, pn, ds, dps, F, hm, S, hb, dvs, hd, hi⟩ := D.ex
  refine eg_of (pe_smeth hm S F hr hb hd hg pa_W hdb he hpl ht) fun H1 e1 Q q => ha σ H l h H1 e1 _ fun vs H2 e2 pv => ?_
  exact ⟨iss_dv (iss_args.mpr pv) (hi H2), fun v H3 e3 z => q v H3 (e2.trans e3) z⟩
theorem ev_new {ks : List Str} {qs : List PV} (D : Nw X.prog X.w X.K X.mg X.base x C k ps ks qs) (hr : Room (k + 1) X.A) (ha : AV X (e :: es) ρ ps) (hg : Gl X x := by rfl) (hdb : (x == ("__debug__" : Str)) = false := by decide)
    (he : starEach (e :: es) X.env = (false, eval e X.env) :: starEach es X.env := by rfl) (hpl : (backTo pos (starEach es X.env)).any (·.1) = false := by rfl) : EV X (.Call (.Name x pp) (e :: es) [] pos) ρ (.ins C ks qs) := fun σ H l h => by
  obtain ⟨f, fd, pn, ds, dps, F, M, hmg, hb, dvs, hd, hi⟩ := D.ex
  refine eg_of (pe_make (E := E0) M F hr hg hmg hb hd pass0 pa_W hdb he hpl) fun H1 e1 Q q => ha σ H l h H1 e1 _ fun vs H2 e2 pv => fun y dx ny nd ne => ?_
  have vz : visL [y, dx] (upd (upd H2 dx (.own y)) y (.ins C dx [])) = H2 := by
    rw [visL_cons, visL_cons, visL_nil]
    funext t
    by_cases z1 : t = dx
    · rw [z1, hid_same]; exact nd.symm
    · rw [hid_ne z1]
      by_cases z2 : t = y
      · rw [z2, hid_same]; exact ny.symm
      · rw [hid_ne z2, upd_ne z2, upd_ne z1]
  refine ⟨y, dx, _, rfl, upd_same, by rw [upd_ne ne, upd_same], by rw [vz]; exact iss_dv (iss_args.mpr pv) (hi H2), fun H' ws h1 h2 h3 h4 => ⟨rfl, q _ H' (e2.trans ?_) ⟨y, dx, ws, rfl, h1, h2, h3.up ex_vis⟩⟩⟩
  rw [vz] at h4
  exact h4.trans ex_vis
end
end E
set_option maxHeartbeats 4000000
namespace PySem.W
open PySem PySem.Calls PyProof.Rows
section
variable {prog : Program} {w : World} {A : Around} {E : Value → Shared → Prop} {s : Shared} {K : Frag} {x y C B L f g : Addr} {h₀ : Heap} {m : Str → Option Value} {ox oy : Obj} {od odB : Option Obj}
theorem gsp_binD {op : Operator} {rc rb : Option Value} {Q : Value → Shared → Prop} (F : Fr h₀ L s.heap m) (X₀ : K.In h₀) (I : InstAt s.heap x ox C od) (J : InstAt s.heap y oy B odB) (hne : C ≠ B) (hc : selfFirst K C = true) (hcb : selfFirst K B = true)
    (hs : findIn K (.ref C) (PySem.dunder op.info.2) = some (some (.ref f))) (hf : isFn K (.ref f) = true) (hr : findIn K (.ref C) (dunderR op.info.2) = some rc) (hp : rc = none ∨ ∃ g : Addr, rc = some (.ref g))
    (hsb : findIn K (.ref B) (PySem.dunder op.info.2) = some (some (.ref g))) (hrb : findIn K (.ref B) (dunderR op.info.2) = some rb) (hpb : rb = none ∨ ∃ g : Addr, rb = some (.ref g)) (hsub : subIn K (.ref B) (.ref C) = some false)
    (h : wpAny (model prog w) A (call (.ref f) [.ref x, .ref y]) (CmpBack Q) E s) : wpAny (model prog w) A (binaryOp op (.ref x) (.ref y)) Q E s := by
  have X := X₀.keeps F.keep
  obtain ⟨cd, rest, hcd, hm⟩ := ksp_first hc
  obtain ⟨cb, restb, hcdb, hmb⟩ := ksp_first hcb
  rcases hi : op.info with ⟨sym, nm'⟩
  rw [hi] at hs hr hsb hrb
  dsimp only at hs hr hsb hrb
  have one := ksp_try X I hs hf h
  have L1 := I.type (M := model prog w)
  have L2 := J.type (M := model prog w)
  obtain ⟨hh, gg, d, tt, os⟩ := s
  have L1 : Looks (model prog w) hh (typeOf (.ref x)) (.ref C) := L1
  have L2 : Looks (model prog w) hh (typeOf (.ref y)) (.ref B) := L2
  have L3 : Looks (model prog w) hh (fillsNumberSlot (.ref C) nm') true := fills_K X hcd hm hs
  have L4 : Looks (model prog w) hh (fillsNumberSlot (.ref B) nm') true := fills_K X hcdb hmb hsb
  have L5 : Looks (model prog w) hh (isSubtype (.ref B) (.ref C)) false := looks_subIn X hsub
  have L6 : Looks (model prog w) hh (numberSlotInPython (.ref C) nm') true := ksp_inPy X hs hr hp
  have L7 : Looks (model prog w) hh (numberSlotInPython (.ref B) nm') true := ksp_inPy X hsb hrb hpb
  have hne' : (Value.ref C == Value.ref B) = false := Bool.eq_false_iff.mpr fun q => by cases beq_iff_eq.mp q; exact hne rfl
  simp only [binaryOp, hi]
  refine wpAny_holding (wpAny_bind ?_)
  unfold binaryOp1
  refine wpAny_bind (L1.at (wpAny_bind (L2.at (wpAny_bind (L3.at ?_)))))
  simp only [hne', Bool.false_eq_true, if_false]
  ksp_lk
  refine wpAny_mono one (fun r s' hr' => ?_) fun _ _ e => e
  obtain ⟨v, rfl, hq⟩ := hr'
  ksp_lk
  exact hq
end
end PySem.W
namespace G
open PySem PySem.Spec PyProof.Rows L2 Evl
section
variable {X : Cx} {σ : L2.St} {H : Hp} {a b : Expr} {pos : Pos} {P P1 P2 : Rep} {k : Nat} {sp : Sp} {C B : Addr}
/-- an own class at B as the right one -/
structure SlotD (K : PySem.W.Frag) (C B : Addr) (nm : String) : Prop where
  ne : C ≠ B
  r : ∃ rc, PySem.W.findIn K (.ref C) (dunderR nm) = some rc ∧ (rc = none ∨ ∃ g : Addr, rc = some (.ref g))
  a : ∃ g : Addr, PySem.W.findIn K (.ref B) (PySem.dunder nm) = some (some (.ref g))
  b : ∃ rb, PySem.W.findIn K (.ref B) (dunderR nm) = some rb ∧ (rb = none ∨ ∃ g : Addr, rb = some (.ref g))
  s : PySem.W.subIn K (.ref B) (.ref C) = some false
  sf : PySem.W.selfFirst K B = true
theorem op_ownD {op : Operator} (hc : PySem.W.selfFirst X.K C = true) (D : OCal X.prog X.w X.K X.mg X.base C (PySem.dunder op.info.2) k sp) (hr : Room k X.A) (S : SlotD X.K C B op.info.2) : OpR X (binaryOp op) (rOwnD C B sp) := by
  intro pins s σ H x y v u Q I rx ry ⟨a, b, dx, dy, fs, gs, h1, h2, h3, h4, h5⟩
  obtain ⟨f, fd, ps, F, hs, hf, hb⟩ := D.ex
  subst h1 h2
  cases rx
  cases ry
  obtain ⟨mA, J, _⟩ := ins_get I.hok h3
  obtain ⟨mB, J', _⟩ := ins_get I.hok h4
  obtain ⟨od, J, _⟩ := J.look
  obtain ⟨od', J', _⟩ := J'.look
  obtain ⟨m, hF⟩ := I.fr
  obtain ⟨rc, hr1, hr2⟩ := S.r
  obtain ⟨g, hg⟩ := S.a
  obtain ⟨rb, hb1, hb2⟩ := S.b
  refine PySem.W.gsp_binD hF I.ok.mod.kin J J' S.ne hc S.sf hs hf hr1 hr2 hg hb1 hb2 S.s ?_
  refine thn (call_own (vs := [.ref a, .ref b]) (us := [.ref a, .ref b]) F hb ⟨hr, rfl⟩ I (.cons rfl (.cons rfl .nil)) h5) fun w s1 ⟨v, H1, I1, r1, q1⟩ => relV_back r1 ⟨v, H1, I1, r1, q1⟩
theorem eg_opOD {α : Type} {Qs : α → List Rep} {Post : α → Rep} {op : Operator} (t : α) [h1 : Mono P1] (D : OCal X.prog X.w X.K X.mg X.base C (PySem.dunder op.info.2) k (PSp Qs Post)) (hr : Room k X.A) (hc : PySem.W.selfFirst X.K C = true) (S : SlotD X.K C B op.info.2) (ha : EG X a σ H P1) (hb : EG X b σ H P2)
    (i1 : ∀ v H, P1 v H → AtC C v H) (i2 : ∀ v H, P2 v H → AtC B v H) (hq : ∀ x y H, P1 x H → P2 y H → Args (Qs t) [x, y] H) (hp : ∀ v H, Post t v H → P v H := by exact fun _ _ h => h) : EG X (.BinOp a op b pos) σ H P :=
  eg_of (pe_op (op_ownD hc D hr S) pe_W pe_W) (ep_op ha hb fun x y H1 _ px py Q q => by
    obtain ⟨a, dx, fs, e1, e2⟩ := i1 x H1 px
    obtain ⟨b, dy, gs, e3, e4⟩ := i2 y H1 py
    exact ⟨a, b, dx, dy, fs, gs, e1, e3, e2, e4, t, hq x y H1 px py, fun v H2 e h => q v H2 e (hp v H2 h)⟩)
end
end G
set_option maxHeartbeats 4000000
/-! E9: calls in expressions that change own objects; operators of own classes; defs. -/
namespace E
open PySem PySem.Spec PyProof.Rows L2 Evl G
theorem mem_split {S : List Sl} {i : Nat} {a : Addr} {o : PO} (h : S[i]? = some (.own a o)) (b : Addr) : b ∈ adrs S ↔ b ∈ o.adr a ∨ b ∈ adrs (S.set i .no) := by
  have hl : i < S.length := (List.getElem?_eq_some_iff.mp h).1
  constructor
  · intro hb
    obtain ⟨j, t, q1, q2⟩ := adrs_mem hb
    by_cases e : j = i
    · subst e
      rw [h] at q1
      cases q1
      exact .inl q2
    · exact .inr (mem_adrs (i := j) (by rw [List.getElem?_set_ne (Ne.symm e)]; exact q1) q2)
  · rintro (hb | hb)
    · exact mem_adrs h hb
    · exact sub_drop rfl b hb
theorem not_both {S : List Sl} {i : Nat} {a : Addr} {o : PO} (hn : (adrs S).Nodup) (h : S[i]? = some (.own a o)) {b : Addr} (hb : b ∈ o.adr a) : b ∉ adrs (S.set i .no) := fun hc => by
  have hl : i < S.length := (List.getElem?_eq_some_iff.mp h).1
  obtain ⟨j, t, q1, q2⟩ := adrs_mem hc
  by_cases e : j = i
  · subst e
    rw [List.getElem?_set_self hl] at q1
    cases q1
    cases q2
  · rw [List.getElem?_set_ne (Ne.symm e)] at q1
    exact adr_ne hn h q1 (Ne.symm e) hb q2
section
variable {X : Cx} {S : List Sl} {pos pp p1 p2 apos : Pos} {e b o : Expr} {es : List Expr} {p q : PV} {ps : List PV} {Φ : Phi} {x y m : Str} {k : Nat} {C : Addr} {pins : List (Addr × Obj)} {σ : L2.St} {H : Hp} {s : Shared} {f : Addr} {fd : FuncData} {pn : List Str} {ds : List Value} {dvs : List V} {dps : List PV} {us : List Value} {vs : List V}
/-- the call itself, of what changes nothing -/
theorem run_vs (F : FnOk X.prog X.w X.K X.mg X.base CX0 k f fd pn (VS (ps ++ dps) p)) (hr : Room k X.A) (hb : Binds X.K fd pn ds) (hd : Vals dvs ds) (hi : ∀ H, PV.Iss dps dvs H) (I : Inv X pins σ H s) (r : Rep S σ H) (rv : Vals vs us) (iv : PV.Iss ps vs (vis S H)) (k : Φ p S) :
    wpAny (model X.prog X.w) X.A (call (.ref f) us) (EP X pins σ (KQ S σ H Φ)) X.xe s := by
  obtain ⟨obs, J, back⟩ := inv_hideL r.hd I
  refine thn (run_fn (E := E0) (Q := fun v H2 => Ex (vis S H) H2 ∧ p.Is v H2) F hr hb hd pass0 J rv ⟨iss_dv iv (hi _), fun v H2 e2 pv => ⟨e2, pv⟩⟩) fun u s2 ⟨v, H2, J2, r2, e2, pv⟩ => ?_
  obtain ⟨n2, I2⟩ := back _ _ _ J2
  have ev : vis S (fillL (adrs S) H H2) = H2 := vis_fill n2
  exact ⟨v, _, I2, r2, p, S, k, r.up (ex_fill e2), by rw [ev]; exact pv, by rw [ev]; exact e2⟩
/-- .. of what changes the object that it is handed first -/
theorem run_os {i : Nat} {a : Addr} {u0 : PO} {post : PV → PO → Prop} (F : FnOk X.prog X.w X.K X.mg X.base CX0 k f fd pn (OS u0 (ps ++ dps) post)) (hr : Room k X.A) (hb : Binds X.K fd pn ds) (hd : Vals dvs ds) (hi : ∀ H, PV.Iss dps dvs H) (I : Inv X pins σ H s) (r : Rep S σ H) (hS : S[i]? = some (.own a u0)) (rv : Vals vs us) (iv : PV.Iss ps vs (vis S H)) (kk : ∀ p u, post p u → Φ p (S.set i (.own a u))) :
    wpAny (model X.prog X.w) X.A (call (.ref f) (.ref a :: us)) (EP X pins σ (KQ S σ H Φ)) X.xe s := by
  have hL : Hideable (adrs (S.set i .no)) H := hide_drop (fun j a o q => ⟨_, (r.own j a o q).2⟩) rfl r.hd
  obtain ⟨obs, J, back⟩ := inv_hideL hL I
  have nb : ∀ c ∈ u0.adr a, c ∉ adrs (S.set i .no) := fun c hc => not_both r.hd.nodup hS hc
  have v0 : visL (u0.adr a) (visL (adrs (S.set i .no)) H) = vis S H := by
    funext c
    unfold vis visL
    by_cases e1 : c ∈ u0.adr a
    · rw [if_pos e1, if_pos ((mem_split hS c).mpr (.inl e1))]
    · rw [if_neg e1]
      by_cases e2 : c ∈ adrs (S.set i .no)
      · rw [if_pos e2, if_pos ((mem_split hS c).mpr (.inr e2))]
      · rw [if_neg e2, if_neg fun z => ((mem_split hS c).mp z).elim e1 e2]
  have o1 := (r.own i a u0 hS).2
  have o2 : u0.Is a (visL (adrs (S.set i .no)) H) (visL (u0.adr a) (visL (adrs (S.set i .no)) H)) := by
    rw [v0]
    refine o1.up (fun c hc t y => ?_) (Ex.refl _)
    unfold visL
    rw [if_neg (nb c hc)]
    exact y
  refine thn (run_fn (E := E0) (us := .ref a :: us) (vs := .ref a :: vs) (Q := fun v H2 => ∃ p u, post p u ∧ u.adr a = u0.adr a ∧ u.Is a H2 (visL (u0.adr a) H2) ∧ p.Is v (visL (u0.adr a) H2) ∧ Ex (vis S H) (visL (u0.adr a) H2)) F hr hb hd pass0 J (.cons rfl rv)
    ⟨a, _, rfl, o2, by rw [v0]; exact iss_dv iv (hi _), fun v H2 p u z1 z2 z3 z4 z5 => ⟨p, u, z1, z2, z3, z4, by rw [v0] at z5; exact z5⟩⟩) fun w s2 ⟨v, H2, J2, r2, p, u, z1, z2, z3, z4, z5⟩ => ?_
  obtain ⟨n2, I2⟩ := back _ _ _ J2
  -- the heap as it was, the new data beside it
  let Hm := fillL (adrs S) H (visL (u0.adr a) H2)
  have nm : ∀ c ∈ adrs S, visL (u0.adr a) H2 c = none := fun c hc => by
    unfold visL
    rcases (mem_split hS c).mp hc with z | z
    · rw [if_pos z]
    · rw [if_neg fun y => nb c y z]
      exact n2 c z
  have em : vis S Hm = visL (u0.adr a) H2 := vis_fill nm
  have rm : Rep S σ Hm := r.up (ex_fill z5)
  have hH : ∀ c, c ∉ u0.adr a → fillL (adrs (S.set i .no)) H H2 c = Hm c := fun c hc => by
    show (if _ then _ else _) = (if _ then _ else _)
    by_cases e : c ∈ adrs (S.set i .no)
    · rw [if_pos e, if_pos ((mem_split hS c).mpr (.inr e))]
    · rw [if_neg e, if_neg fun z => ((mem_split hS c).mp z).elim hc e]
      unfold visL
      rw [if_neg hc]
  have hu : u.Is a (fillL (adrs (S.set i .no)) H H2) (vis S Hm) := by
    rw [em]
    refine z3.up (fun c hc t y => ?_) (Ex.refl _)
    unfold fillL
    rw [if_neg (nb c (by rw [← z2]; exact hc))]
    exact y
  obtain ⟨r3, ev⟩ := rm.chg hS z2.symm hH hu
  exact ⟨v, _, I2, r2, p, _, kk p u z1, r3, by rw [ev, em]; exact z4, by rw [ev, em]; exact z5⟩
/-- where a module's def stands -/
def GlF (X : Cx) (x : Str) : Prop := ∃ f, X.mg x = some (.ref f) ∧ PySem.W.keepIn X.K (.ref f) = true
/-- a def that changes nothing, of arguments that may -/
theorem xw_call (gf : GlF X x) (hr : Room k X.A) (ha : XA X (e :: es) S fun ps S1 => ∃ p, Fn X.prog X.w X.K X.mg X.base x k ps p ∧ Φ p S1) (hg : Gl X x := by rfl) (hdb : (x == ("__debug__" : Str)) = false := by decide)
    (he : starEach (e :: es) X.env = (false, eval e X.env) :: starEach es X.env := by rfl) (hpl : (backTo pos (starEach es X.env)).any (·.1) = false := by rfl) : XW X (.Call (.Name x pp) (e :: es) [] pos) S Φ := fun σ H r pins s I => by
  obtain ⟨f, hm, hk⟩ := gf
  refine wpAny_Call_Name_kw (ld_glob I hg hm ?_ hdb)
  refine PySem.W.callWith_K (h₀ := X.base) I.ok.mod.kin hk (thn (ha σ H r pos pins _ (I.tok _)) fun us s1 ⟨vs, H1, I1, rv, ps, S1, ⟨p, D, k1⟩, r1, i1, e1⟩ => ⟨I1.kIn, ?_⟩) he hpl
  obtain ⟨f', fd, pn, ds, dps, F, hm', hk', hb, dvs, hd, hi⟩ := D.ex
  rw [hm] at hm'
  cases hm'
  refine thn (run_vs F hr hb hd hi I1 r1 rv i1 k1) fun u s2 ⟨v, H2, I2, r2, p', S2, q1, q2, q3, q4⟩ => ⟨v, H2, I2, r2, p', S2, q1, q2, q3, e1.trans q4⟩
/-- a def whose first argument is an own object, which it may change -/
theorem xw_callO (gf : GlF X x) (i : Nat) {a : Addr} {u0 : PO} (hS : S[i]? = some (.own a u0)) (hr : Room k X.A) (ha : XA X es S fun ps S1 => ∃ u post, S1[i]? = some (.own a u) ∧ FnO X.prog X.w X.K X.mg X.base x k u ps post ∧ ∀ p v, post p v → Φ p (S1.set i (.own a v))) (hN : X.N[i]? = some y := by rfl) (hv : Vis X.env.scope y := by first | exact Or.inl rfl | exact Or.inr (Or.inl rfl) | exact Or.inr (Or.inr rfl))
    (hd : (y == ("__debug__" : Str)) = false := by decide) (hcd : (y == ("__classdict__" : Str)) = false := by decide) (hg : Gl X x := by rfl) (hdb : (x == ("__debug__" : Str)) = false := by decide)
    (he : starEach (.Name y p1 :: es) X.env = (false, eval (.Name y p1) X.env) :: starEach es X.env := by rfl) (hpl : (backTo pos (starEach es X.env)).any (·.1) = false := by rfl) : XW X (.Call (.Name x pp) (.Name y p1 :: es) [] pos) S Φ := fun σ H r pins s I => by
  obtain ⟨f, hm, hk⟩ := gf
  refine wpAny_Call_Name_kw (ld_glob I hg hm ?_ hdb)
  have aw : AW X (.Name y p1 :: es) σ H fun vs H' => ∃ vs', vs = .ref a :: vs' ∧ ∃ ps S', (∃ u post, S'[i]? = some (.own a u) ∧ FnO X.prog X.w X.K X.mg X.base x k u ps post ∧ ∀ p v, post p v → Φ p (S'.set i (.own a v))) ∧ Rep S' σ H' ∧ PV.Iss ps vs' (vis S' H') ∧ Ex (vis S H) (vis S' H') := by
    intro pos pins s I
    refine (pa_cons pe_W pa_W he).run pos pins s σ H _ I (ew_own r hS hN hv hd hcd H (Ex.refl H) _ fun v H1 e1 hv' => ?_)
    cases hv'
    exact aw_mono (ha σ H1 (r.up e1)) fun vs H2 ⟨ps, S1, h1, r1, i1, x1⟩ => ⟨vs, rfl, ps, S1, h1, r1, i1, (ex_visL e1).trans x1⟩
  refine PySem.W.callWith_K (h₀ := X.base) I.ok.mod.kin hk (thn (aw pos pins _ (I.tok _)) fun us s1 ⟨vs, H1, I1, rv, vs', ev, ps, S1, ⟨u, post, g1, D, g3⟩, r1, i1, e1⟩ => ⟨I1.kIn, ?_⟩) he hpl
  subst ev
  cases rv with
  | cons ra rv' =>
    cases (show _ = Value.ref a from ra)
    obtain ⟨f', fd, pn, ds, dps, F, hm', hk', hb, dvs, hd, hi⟩ := D.ex
    rw [hm] at hm'
    cases hm'
    exact thn (run_os F hr hb hd hi I1 r1 g1 rv' i1 g3) fun u s2 ⟨v, H2, I2, r2, p', S2, q1, q2, q3, q4⟩ => ⟨v, H2, I2, r2, p', S2, q1, q2, q3, e1.trans q4⟩
end
/-! ### the pen -/
section
variable {X : Cx} {S : List Sl} {D : VE} {A : List Stmt} {e : Expr} {Φ : Phi} {n m : Nat} {a : Addr}
/-- the pen as a list -/
def penL (cs : List Int) (t r : Nat) : PO := .lst [.lst (pints cs), .int t, .int r]
theorem Rep.open_ {σ : L2.St} {H : Hp} {i : Nat} (r : Rep S σ H) (hS : S[i]? = some (.own a (.pen n))) : ∃ (cs : List Int) (t t' : Nat), cs.length ≤ 63 ∧ t ≤ n ∧ Rep (S.set i (.own a (penL cs t t'))) σ H ∧ vis (S.set i (.own a (penL cs t t'))) H = vis S H := by
  obtain ⟨_, vs, h1, cs, t, t', h2, h3, h4⟩ := r.own i a _ hS
  refine ⟨cs, t, t', h3, h4, r.chg hS rfl (fun _ _ => rfl) ⟨vs, h1, h2⟩⟩
theorem Rep.close_ {σ : L2.St} {H : Hp} {i : Nat} {cs : List Int} {t t' : Nat} (r : Rep S σ H) (hS : S[i]? = some (.own a (penL cs t t'))) (hc : cs.length ≤ 63) (ht : t ≤ n) : Rep (S.set i (.own a (.pen n))) σ H ∧ vis (S.set i (.own a (.pen n))) H = vis S H := by
  obtain ⟨_, vs, h1, h2⟩ := r.own i a _ hS
  exact r.chg hS rfl (fun _ _ => rfl) ⟨vs, h1, cs, t, t', h2, hc, ht⟩
theorem bv_open (i : Nat) (hS : S[i]? = some (.own a (.pen n))) (k : ∀ (cs : List Int) (t t' : Nat), cs.length ≤ 63 → t ≤ n → BV X A (S.set i (.own a (penL cs t t'))) D) : BV X A S D := fun σ H r => by
  obtain ⟨cs, t, t', h1, h2, h3, h4⟩ := r.open_ hS
  exact (k cs t t' h1 h2).at h3 (by rw [h4]; exact Ex.refl _)
theorem bv_more (i : Nat) (hS : S[i]? = some (.own a (.pen n))) (hm : n ≤ m) (k : BV X A (S.set i (.own a (.pen m))) D) : BV X A S D := fun σ H r => by
  obtain ⟨_, vs, h1, cs, t, t', h2, h3, h4⟩ := r.own i a _ hS
  obtain ⟨h3, h4⟩ := r.chg (u := .pen m) hS rfl (fun _ _ => rfl) ⟨vs, h1, cs, t, t', h2, h3, Nat.le_trans h4 hm⟩
  exact k.at h3 (by rw [h4]; exact Ex.refl _)
theorem xw_close (i : Nat) (h : XW X e S fun p S1 => ∃ cs t t' a n, S1[i]? = some (.own a (penL cs t t')) ∧ cs.length ≤ 63 ∧ t ≤ n ∧ Φ p (S1.set i (.own a (.pen n)))) : XW X e S Φ := fun σ H r =>
  ew_mono (h σ H r) fun v H1 ⟨p, S1, ⟨cs, t, t', a, n, h1, h2, h3, h4⟩, r1, i1, e1⟩ => by
    obtain ⟨r2, ev⟩ := r1.close_ h1 h2 h3
    exact ⟨p, _, h4, r2, by rw [ev]; exact i1, by rw [ev]; exact e1⟩
end
/-! ### defs -/
section
variable {P : Program} {w : World} {K : PySem.W.Frag} {mg : Str → Option Value} {base : Heap} {x qual : Str} {params : Arguments} {body : List Stmt} {scope : Scope} {dvs : List V} {kws : List (Str × V)} {f : Addr} {fd : FuncData} {N pn : List Str} {k : Nat}
/-- the slots at a def's entry -/
def ent (N : List Str) (S : List Sl) : List Sl := S ++ List.replicate (N.length - S.length) .no
theorem adrs_app {S T : List Sl} : adrs (S ++ T) = adrs S ++ adrs T := by
  induction S with
  | nil => rfl
  | cons s S ih => show s.adr ++ adrs (S ++ T) = (s.adr ++ adrs S) ++ adrs T; rw [ih, List.append_assoc]
theorem adrs_no {n : Nat} : adrs (List.replicate n Sl.no) = [] := by
  induction n with
  | zero => rfl
  | succ n ih => rw [List.replicate_succ]; exact ih
theorem adrs_pv {ps : List PV} : adrs (ps.map Sl.pv) = [] := by
  induction ps with
  | nil => rfl
  | cons p ps ih => exact ih
theorem ent_adrs {N : List Str} {S : List Sl} : adrs (ent N S) = adrs S := by unfold ent; rw [adrs_app, adrs_no, List.append_nil]
theorem env_pv {H : Hp} : ∀ {ps : List PV} {vs : List V} {more : List (Option V)} {n : Nat}, PV.Iss ps vs H → Env (view (ps.map Sl.pv ++ List.replicate n .no)) (vs.map some ++ more) H
  | [], vs, more, n, h => fun i p q => by
    exfalso
    unfold view at q
    rw [List.getElem?_map] at q
    have : ∀ {n i : Nat} {s : Sl}, (List.replicate n Sl.no)[i]? = some s → s = .no := fun {n i s} z => (List.mem_replicate.mp (List.mem_of_getElem? z)).2
    cases e : (List.map Sl.pv [] ++ List.replicate n Sl.no)[i]? with
    | none => rw [e] at q; cases q
    | some s =>
      rw [e] at q
      have z := this (n := n) (i := i) (s := s) (by simpa using e)
      subst z
      cases q
  | p :: ps, vs, more, n, ⟨y, r, h1, h2, h3⟩ => fun i q z => by
    subst h1
    cases i with
    | zero => cases z; exact ⟨y, rfl, h2⟩
    | succ i => exact env_pv h3 i q z
theorem rep_pv {H : Hp} {ps : List PV} {vs : List V} {N : List Str} (h : PV.Iss ps vs H) (hl : ps.length ≤ N.length) : Rep (ent N (ps.map .pv)) (L2.start N vs) H := by
  have ha : adrs (ent N (ps.map .pv)) = [] := by rw [ent_adrs, adrs_pv]
  refine ⟨?_, by rw [ha]; exact .nil, ?_, fun i a o q => ?_⟩
  · unfold ent L2.start
    simp [iss_len h]
  · show Env _ _ (visL (adrs _) H)
    rw [ha, visL_nil]
    exact env_pv h
  · have : a ∈ adrs (ent N (ps.map .pv)) := mem_adrs q (by cases o <;> simp [Sl.adr, PO.adr])
    rw [ha] at this
    cases this
theorem fn_vs {ps : List PV} {p : PV} {S0 : List Sl} (F : FunD K x qual params body scope dvs kws f fd) (Sc : FnScope N pn scope) (hl : ps.length = pn.length) (hS : ent N (ps.map .pv) = S0) (hN : ps.length ≤ N.length)
    (h : ∀ cdv A outer s H E, Room k (A.deeper (envOfC qual scope s.heap.objs.size f cdv)) → BV (ctx P w K mg base N qual scope f cdv A outer s H E) body S0 { nx := fun _ => p = .non, rt := fun q _ => q = p }) : FnOk P w K mg base CX0 (k + 1) f fd pn (VS ps p) :=
  fn_any F Sc (fun vs H Q E ⟨h, _⟩ => (iss_len h).trans hl) fun cdv A outer s H E vs Q hr ⟨hi, hq⟩ => by
    subst hS
    refine BW.imp (h cdv A outer s H E hr (L2.start N vs) H (rep_pv hi hN)) (fun σ' H' ⟨S', h1, r1, e1⟩ => ?_) (fun v H' ⟨p', S', σ', h1, r1, i1, e1⟩ => ?_) (fun _ _ ⟨_, z, _⟩ => z.elim) (fun _ _ ⟨_, z, _⟩ => z.elim)
    · rw [show vis (ent N (ps.map .pv)) H = H from by show visL (adrs _) H = H; rw [ent_adrs, adrs_pv, visL_nil]] at e1
      exact hq .non H' (e1.trans ex_vis) (by rw [show p = .non from h1]; exact rfl)
    · rw [show vis (ent N (ps.map .pv)) H = H from by show visL (adrs _) H = H; rw [ent_adrs, adrs_pv, visL_nil]] at e1
      rw [show p' = p from h1] at i1
      exact hq v H' (e1.trans ex_vis) (i1.up ex_vis)
theorem po_vis {a : Addr} {H : Hp} {u : PO} {S' : List Sl} (hS : S'[0]? = some (.own a u)) (h : u.Is a H (vis S' H)) : u.Is a H (visL (u.adr a) H) := h.up (fun _ _ _ y => y) fun b o q => by
  unfold vis visL at *
  by_cases e : b ∈ adrs S'
  · rw [if_pos e] at q; cases q
  · rw [if_neg e] at q
    rw [if_neg (show ¬ b ∈ PO.adr a u from fun z => e (mem_adrs hS z))]
    exact q
theorem rep_own {H : Hp} {a : Addr} {u : PO} {ps : List PV} {vs : List V} {N : List Str} (ho : u.Is a H (visL (u.adr a) H)) (h : PV.Iss ps vs (visL (u.adr a) H)) (hl : ps.length + 1 ≤ N.length) : Rep (ent N (.own a u :: ps.map .pv)) (L2.start N (.ref a :: vs)) H := by
  have ha : adrs (ent N (.own a u :: ps.map .pv)) = u.adr a := by rw [ent_adrs]; show u.adr a ++ adrs _ = _; rw [adrs_pv, List.append_nil]
  refine ⟨?_, ?_, ?_, fun i b o q => ?_⟩
  · unfold ent L2.start
    simp [iss_len h]
  · rw [ha, ← List.append_nil (u.adr a)]
    exact po_hide ho .nil fun b _ hb => nomatch hb
  · show Env _ _ (visL (adrs _) H)
    rw [ha]
    intro i p q
    cases i with
    | zero => cases q
    | succ i => exact env_pv h i p q
  · show _ ∧ o.Is b H (visL (adrs _) H)
    rw [ha]
    cases i with
    | zero => cases q; exact ⟨rfl, ho⟩
    | succ i =>
      exfalso
      have : b ∈ adrs (ps.map Sl.pv ++ List.replicate (N.length - (ps.map Sl.pv).length - 1) Sl.no) := mem_adrs (i := i) (s := .own b o) (by
        unfold ent at q
        rw [List.cons_append, List.getElem?_cons_succ, List.length_cons, Nat.add_comm, Nat.sub_add_eq, Nat.sub_right_comm] at q
        exact q) (by cases o <;> simp [Sl.adr, PO.adr])
      rw [adrs_app, adrs_pv, adrs_no] at this
      cases this
theorem fn_os {u : PO} {ps : List PV} {post : PV → PO → Prop} (F : FunD K x qual params body scope dvs kws f fd) (Sc : FnScope N pn scope) (hl : ps.length + 1 = pn.length) (hN : ps.length + 1 ≤ N.length)
    (h : ∀ a cdv A outer s H E, Room k (A.deeper (envOfC qual scope s.heap.objs.size f cdv)) → BV (ctx P w K mg base N qual scope f cdv A outer s H E) body (ent N (.own a u :: ps.map .pv)) { nx := fun S' => ∃ v, S'[0]? = some (.own a v) ∧ v.adr a = u.adr a ∧ post .non v, rt := fun q S' => ∃ v, S'[0]? = some (.own a v) ∧ v.adr a = u.adr a ∧ post q v }) : FnOk P w K mg base CX0 (k + 1) f fd pn (OS u ps post) :=
  fn_any F Sc (fun vs H Q E ⟨a, vs', h1, _, h2, _⟩ => by rw [h1, List.length_cons, iss_len h2]; exact hl) fun cdv A outer s H E vs Q hr ⟨a, vs', h1, ho, hi, hq⟩ => by
    subst h1
    have ha : adrs (ent N (.own a u :: ps.map .pv)) = u.adr a := by rw [ent_adrs]; show u.adr a ++ adrs _ = _; rw [adrs_pv, List.append_nil]
    have key : ∀ {p' : PV} {S' : List Sl} {σ' : L2.St} {v : V} {H' : Hp}, (∃ v, S'[0]? = some (.own a v) ∧ v.adr a = u.adr a ∧ post p' v) → Rep S' σ' H' → p'.Is v (vis S' H') → Ex (vis (ent N (.own a u :: ps.map .pv)) H) (vis S' H') → Q v H' := fun {p' S' σ' v H'} ⟨z, q1, q2, q3⟩ r1 i1 e1 => by
      have hx : Ex (vis S' H') (visL (u.adr a) H') := fun b o q => by
        unfold vis visL at *
        by_cases e : b ∈ adrs S'
        · rw [if_pos e] at q; cases q
        · rw [if_neg e] at q
          rw [if_neg fun y => e (mem_adrs q1 (by show b ∈ z.adr a; rw [q2]; exact y))]
          exact q
      refine hq v H' p' z q3 q2 ?_ (i1.up hx) ?_
      · have := po_vis q1 (r1.own 0 a z q1).2
        rw [q2] at this
        exact this
      · have : vis (ent N (.own a u :: ps.map .pv)) H = visL (u.adr a) H := by show visL (adrs _) H = _; rw [ha]
        rw [this] at e1
        exact e1.trans hx
    refine BW.imp (h a cdv A outer s H E hr (L2.start N (.ref a :: vs')) H (rep_own ho hi hN)) (fun σ' H' ⟨S', h1, r1, e1⟩ => key h1 r1 rfl e1) (fun v H' ⟨p', S', σ', h1, r1, i1, e1⟩ => key h1 r1 i1 e1) (fun _ _ ⟨_, z, _⟩ => z.elim) (fun _ _ ⟨_, z, _⟩ => z.elim)
theorem fn_ns {C : Addr} {ps : List PV} {ks : List Str} {qs : List PV} (F : FunD K x qual params body scope dvs kws f fd) (Sc : FnScope N pn scope) (hl : ps.length + 1 = pn.length) (hN : ps.length + 1 ≤ N.length) (hk : ks.length = qs.length)
    (h : ∀ a dx cdv A outer s H E, Room k (A.deeper (envOfC qual scope s.heap.objs.size f cdv)) → BV (ctx P w K mg base N qual scope f cdv A outer s H E) body (ent N (.own a (.obj C dx [] []) :: ps.map .pv)) { nx := fun S' => S'[0]? = some (.own a (.obj C dx ks qs)), rt := fun q S' => q = .non ∧ S'[0]? = some (.own a (.obj C dx ks qs)) }) : FnOk P w K mg base CX0 (k + 1) f fd pn (NS C ps ks qs) :=
  fn_any F Sc (fun vs H Q E ⟨a, dx, vs', h1, _, _, h2, _⟩ => by rw [h1, List.length_cons, iss_len h2]; exact hl) fun cdv A outer s H E vs Q hr ⟨a, dx, vs', h1, ho, hx, hi, hq⟩ => by
    subst h1
    have ha : adrs (ent N (.own a (.obj C dx [] []) :: ps.map .pv)) = [a, dx] := by rw [ent_adrs]; show [a, dx] ++ adrs _ = _; rw [adrs_pv]; rfl
    have key : ∀ {S' : List Sl} {σ' : L2.St} {H' : Hp}, S'[0]? = some (.own a (.obj C dx ks qs)) → Rep S' σ' H' → Ex (vis (ent N (.own a (.obj C dx [] []) :: ps.map .pv)) H) (vis S' H') → Q .non H' := fun {S' σ' H'} q1 r1 e1 => by
      have hx : Ex (vis S' H') (visL [a, dx] H') := fun b o q => by
        unfold vis visL at *
        by_cases e : b ∈ adrs S'
        · rw [if_pos e] at q; cases q
        · rw [if_neg e] at q
          rw [if_neg (show ¬ b ∈ [a, dx] from fun y => e (mem_adrs q1 y))]
          exact q
      obtain ⟨ws, k1, k2, k3, k4⟩ := (r1.own 0 a _ q1).2
      refine hq H' ws k1 hk (k4.up hx) ?_
      rw [show vis (ent N (.own a (.obj C dx [] []) :: ps.map .pv)) H = visL [a, dx] H from by show visL (adrs _) H = _; rw [ha]] at e1
      exact e1.trans hx
    have ho' : (PO.obj C dx [] []).Is a H (visL [a, dx] H) := ⟨[], ho, hx, rfl, rfl⟩
    refine BW.imp (h a dx cdv A outer s H E hr (L2.start N (.ref a :: vs')) H (rep_own ho' hi hN)) (fun σ' H' ⟨S', h1, r1, e1⟩ => key h1 r1 e1) (fun v H' ⟨p', S', σ', ⟨h0, h1⟩, r1, i1, e1⟩ => by rw [h0] at i1; rw [show v = .non from i1]; exact key h1 r1 e1) (fun _ _ ⟨_, z, _⟩ => z.elim) (fun _ _ ⟨_, z, _⟩ => z.elim)
end
end E
set_option maxHeartbeats 4000000
/-! E10: isinstance, type, operators of own classes, ==. -/
namespace E
open PySem PySem.Spec PyProof.Rows L2 Evl G
/-! ### isinstance -/
def TyP (K : PySem.W.Frag) (p : PV) (t : Value) : Prop := match p with
  | .non => t = .type "NoneType"
  | .bl _ => t = .type "bool"
  | .int _ => t = .type "int"
  | .str _ => t = .type "str"
  | .lst _ => t = .type "list"
  | .tup _ => t = .type "tuple"
  | .dct _ _ => t = .type "dict"
  | .ins C _ _ => IsiC K C ∧ t = .ref C
  | _ => False
theorem typ_x {K : PySem.W.Frag} {p : PV} {t : Value} {v : V} {H : Hp} (h : TyP K p t) (i : p.Is v H) : TyX K H v t := by
  cases p with
  | non => rw [show t = _ from h, show v = _ from i]; exact .base .non
  | bl b => rw [show t = _ from h, show v = _ from i]; exact .base (.bl b)
  | int b => rw [show t = _ from h, show v = _ from i]; exact .base (.int b)
  | str b => rw [show t = _ from h, show v = _ from i]; exact .base (.str b)
  | lst xs => obtain ⟨a, vs, h1, h2, _⟩ := i; rw [show t = _ from h, h1]; exact .base (.lst h2)
  | tup xs => obtain ⟨a, vs, h1, h2, _⟩ := i; rw [show t = _ from h, h1]; exact .base (.tup h2)
  | dct ks xs => obtain ⟨a, vs, h1, h2, _⟩ := i; rw [show t = _ from h, h1]; exact .base (.dK h2)
  | ins C ks xs => obtain ⟨a, dx, vs, h1, h2, _⟩ := i; rw [h.2]; exact h.1.ty ⟨a, dx, _, h1, h2⟩
  | ty n => cases h
  | ref a => cases h
/-- isinstance of p and the class u says b -/
structure Isi (K : PySem.W.Frag) (p : PV) (u : Value) (b : Bool) : Prop where
  ex : ∃ t, TyP K p t ∧ PySem.W.kitOne K t u = some b
theorem isi_self {K : PySem.W.Frag} {C : Addr} {ks : List Str} {xs : List PV} (h : IsiC K C) : Isi K (.ins C ks xs) (.ref C) true := ⟨_, ⟨h, rfl⟩, by unfold PySem.W.kitOne; rw [if_pos (by simp)]⟩
theorem isi_ins {K : PySem.W.Frag} {C : Addr} {ks : List Str} {xs : List PV} {u : Value} {b : Bool} (h : IsiC K C) (k : PySem.W.kitOne K (.ref C) u = some b) : Isi K (.ins C ks xs) u b := ⟨_, ⟨h, rfl⟩, k⟩
def ClsP : PV → Value → Prop
  | .ty n, u => u = .type n
  | .ref C, u => u = .ref C
  | _, _ => False
theorem clsP_V {q : PV} {u : Value} {v : V} {H : Hp} (h : ClsP q u) (i : q.Is v H) : ClsV v u := by
  cases q with
  | ty n => rw [show u = _ from h, show v = _ from i]; exact .ty n
  | ref C => rw [show u = _ from h, show v = _ from i]; exact .own C
  | _ => cases h
section
variable {X : Cx} {ρ : Rho} {a b c e l : Expr} {es : List Expr} {pos pp p1 p2 p3 : Pos} {p q r : PV} {ps qs : List PV} {x : Str} {i j : Int} {bb bc : Bool} {n m : Nat} {S : List Sl} {Φ : Phi}
theorem ev_isi {u : Value} (hm : X.mg "isinstance" = none) (ha : EV X a ρ p) (hb : EV X b ρ q) (hq : ClsP q u) (hi : Isi X.K p u bb) (hg : Gl X "isinstance" := by rfl)
    (he : starEach [a, b] X.env = (false, eval a X.env) :: starEach [b] X.env := by rfl) (he2 : starEach [b] X.env = (false, eval b X.env) :: starEach [] X.env := by rfl) (hpl : (backTo pos (starEach [b] X.env)).any (·.1) = false := by rfl) :
    EV X (.Call (.Name "isinstance" pp) [a, b] [] pos) ρ (.bl bb) := fun σ H l h =>
  eg_callB call_isi hm rfl (ag_cons (ha σ H l h) (ag_cons (hb σ H l h) ag_nil he2) he) (fun vs H1 _ ⟨v, r, q1, q2, x, r2, q3, q4, q5⟩ Q qq => by
    obtain ⟨t, h3, h4⟩ := hi.ex
    exact ⟨v, x, t, u, bb, by rw [q1, q3, show r2 = [] from q5], clsP_V hq q4, typ_x h3 q2, h4, qq _ H1 (Ex.refl H1) rfl⟩) hg (by decide) (by decide) he hpl
/-- .. of two classes -/
structure Isi2 (K : PySem.W.Frag) (p : PV) (u1 u2 : Value) (b : Bool) : Prop where
  ex : ∃ t, TyP K p t ∧ PySem.W.kitAny K t [u1, u2] = some b
theorem isi2_of {K : PySem.W.Frag} {p : PV} {u1 u2 t : Value} {b1 b2 : Bool} (h1 : TyP K p t) (h2 : PySem.W.kitOne K t u1 = some b1) (h3 : PySem.W.kitOne K t u2 = some b2) : Isi2 K p u1 u2 (b1 || b2) := ⟨t, h1, by
  cases b1 with
  | true => exact kitAny_cons h2 (fun z => nomatch z) fun _ => rfl
  | false => exact kitAny_cons h2 (fun _ => kitAny_cons h3 (fun z => by rw [z]; rfl) fun z => by rw [z]; rfl) fun z => nomatch z⟩
theorem ev_isi2 {u1 u2 : Value} {c1 c2 : PV} {k : Nat} (hm : X.mg "isinstance" = none) (ha : EV X a ρ p) (hb : EV X b ρ (.tup [c1, c2])) (h1 : ClsP c1 u1) (h2 : ClsP c2 u2) (hi : Isi2 X.K p u1 u2 bb) (hg : Gl X "isinstance" := by rfl)
    (he : starEach [a, b] X.env = (false, eval a X.env) :: starEach [b] X.env := by rfl) (he2 : starEach [b] X.env = (false, eval b X.env) :: starEach [] X.env := by rfl) (hpl : (backTo pos (starEach [b] X.env)).any (·.1) = false := by rfl) :
    EV X (.Call (.Name "isinstance" pp) [a, b] [] pos) ρ (.bl bb) := fun σ H l h =>
  eg_callB call_isiT hm rfl (ag_cons (ha σ H l h) (ag_cons (hb σ H l h) ag_nil he2) he) (fun vs H1 _ ⟨v, r, q1, q2, x, r2, q3, ⟨tp, ws, z1, z2, y1, s1, z3, z4, y2, s2, z5, z6, z7⟩, q5⟩ Q qq => by
    obtain ⟨t, h3, h4⟩ := hi.ex
    refine ⟨v, tp, [y1, y2], t, [u1, u2], bb, by rw [q1, q3, show r2 = [] from q5, z1], ?_, .cons (clsP_V h1 z4) (.cons (clsP_V h2 z6) .nil), typ_x h3 q2, h4, qq _ H1 (Ex.refl H1) rfl⟩
    rw [z2, z3, z5, show s2 = [] from z7]) hg (by decide) (by decide) he hpl
/-- type(x) is not T, x an int -/
theorem ev_typeI (hm : X.mg "type" = none) (ha : EV X e ρ (.int i)) (hg : Gl X "type" := by rfl) (he : starEach [e] X.env = (false, eval e X.env) :: starEach [] X.env := by rfl) : EV X (.Call (.Name "type" pp) [e] [] pos) ρ (.ty "int") := fun σ H l h =>
  eg_callTy call_type1 hm rfl (ag_cons (ha σ H l h) ag_nil he) (fun vs H1 _ ⟨v, r, h1, h2, h5⟩ Q q => ⟨v, "int", by rw [h1, show r = [] from h5], by rw [show v = _ from h2]; exact .int i, q _ H1 (Ex.refl H1) rfl⟩) hg (by decide) (by decide) he rfl
theorem cv_notTy {s t : String} (ha : EV X a ρ (.ty s)) (hb : EV X b ρ (.ty t)) : CV X .IsNot a b ρ (!decide (s = t)) := fun σ H l h =>
  cg_of (P1 := (PV.ty s).Is) (P2 := (PV.ty t).Is) op_notTyB (ha σ H l h) (hb σ H l h) fun x y H1 _ px py Q q => ⟨s, t, px, py, q H1 (Ex.refl H1)⟩
/-! ### operators of own classes -/
/-- the method that an operator asks for -/
structure Op (P : Program) (w : World) (K : PySem.W.Frag) (mg : Str → Option Value) (base : Heap) (C : Addr) (m : Str) (k : Nat) (ps : List PV) (p : PV) : Prop where
  ex : OCal P w K mg base C m k (VS ps p)
theorem ev_op {op : Operator} {C : Addr} {k : Nat} {ks kt : List Str} (D : Op X.prog X.w X.K X.mg X.base C (PySem.dunder op.info.2) k [.ins C ks ps, .ins C kt qs] p) (hr : Room k X.A) (hc : PySem.W.selfFirst X.K C = true) (ha : EV X a ρ (.ins C ks ps)) (hb : EV X b ρ (.ins C kt qs)) : EV X (.BinOp a op b pos) ρ p := fun σ H l h =>
  eg_of (pe_op (op_own hc D.ex hr) pe_W pe_W) (ep_op (ha σ H l h) (hb σ H l h) fun v w H1 _ hv hw Q q => by
    obtain ⟨a, dx, vs, h1, h2, _⟩ := id hv
    obtain ⟨b, dy, ws, h3, h4, _⟩ := id hw
    exact ⟨a, b, dx, dy, _, _, h1, h3, h2, h4, ⟨v, _, rfl, hv, w, _, rfl, hw, rfl⟩, q⟩)
theorem ev_opI {op : Operator} {C : Addr} {k : Nat} {ks : List Str} (D : Op X.prog X.w X.K X.mg X.base C (PySem.dunder op.info.2) k [.ins C ks ps, .int i] p) (hr : Room k X.A) (hc : PySem.W.selfFirst X.K C = true) (Sl : SlotT X.K C op.info.2 "int") (ha : EV X a ρ (.ins C ks ps)) (hb : EV X b ρ (.int i)) : EV X (.BinOp a op b pos) ρ p := fun σ H l h =>
  eg_of (pe_op (op_ownI hc D.ex hr Sl) pe_W pe_W) (ep_op (ha σ H l h) (hb σ H l h) fun v w H1 _ hv hw Q q => by
    obtain ⟨a, dx, vs, h1, h2, _⟩ := id hv
    exact ⟨a, dx, _, i, h1, hw, h2, ⟨v, _, rfl, hv, w, _, rfl, hw, rfl⟩, q⟩)
theorem ev_opD {op : Operator} {C B : Addr} {k : Nat} {ks kt : List Str} (D : Op X.prog X.w X.K X.mg X.base C (PySem.dunder op.info.2) k [.ins C ks ps, .ins B kt qs] p) (hr : Room k X.A) (hc : PySem.W.selfFirst X.K C = true) (Sl : SlotD X.K C B op.info.2) (ha : EV X a ρ (.ins C ks ps)) (hb : EV X b ρ (.ins B kt qs)) : EV X (.BinOp a op b pos) ρ p := fun σ H l h =>
  eg_of (pe_op (op_ownD hc D.ex hr Sl) pe_W pe_W) (ep_op (ha σ H l h) (hb σ H l h) fun v w H1 _ hv hw Q q => by
    obtain ⟨a, dx, vs, h1, h2, _⟩ := id hv
    obtain ⟨b, dy, ws, h3, h4, _⟩ := id hw
    exact ⟨a, b, dx, dy, _, _, h1, h3, h2, h4, ⟨v, _, rfl, hv, w, _, rfl, hw, rfl⟩, q⟩)
theorem ev_negO {C : Addr} {k : Nat} {ks : List Str} (D : Op X.prog X.w X.K X.mg X.base C "__neg__" k [.ins C ks ps] p) (hr : Room k X.A) (ha : EV X a ρ (.ins C ks ps)) : EV X (.UnaryOp .USub a pos) ρ p := fun σ H l h =>
  eg_of (pe_un (un_own D.ex hr) pe_W) (ep_un (ha σ H l h) fun v H1 _ hv Q q => by
    obtain ⟨a, dx, vs, h1, h2, _⟩ := id hv
    exact ⟨a, dx, _, h1, h2, ⟨v, _, rfl, hv, rfl⟩, q⟩)
theorem cv_eqO {C : Addr} {k : Nat} {ks kt : List Str} (D : Op X.prog X.w X.K X.mg X.base C "__eq__" k [.ins C ks ps, .ins C kt qs] (.bl bb)) (hr : Room k X.A) (ha : EV X a ρ (.ins C ks ps)) (hb : EV X b ρ (.ins C kt qs)) : CV X .Eq a b ρ bb := fun σ H l h =>
  cg_of (op_eqO D.ex hr) (ha σ H l h) (hb σ H l h) fun v w H1 _ hv hw Q q => by
    obtain ⟨a, dx, vs, h1, h2, _⟩ := id hv
    obtain ⟨b, dy, ws, h3, h4, _⟩ := id hw
    exact ⟨a, b, dx, dy, _, _, h1, h3, h2, h4, ⟨v, _, rfl, hv, w, _, rfl, hw, rfl⟩, fun z H' e hz => by rw [show z = _ from hz]; exact q H' e⟩
theorem cv_eqOI {C : Addr} {k : Nat} {ks : List Str} (D : Op X.prog X.w X.K X.mg X.base C "__eq__" k [.ins C ks ps, .int i] (.bl bb)) (hr : Room k X.A) (hn : PySem.W.notFirst X.K C (.type "int") = true) (ha : EV X a ρ (.ins C ks ps)) (hb : EV X b ρ (.int i)) : CV X .Eq a b ρ bb := fun σ H l h =>
  cg_of (op_eqOI D.ex hr hn) (ha σ H l h) (hb σ H l h) fun v w H1 _ hv hw Q q => by
    obtain ⟨a, dx, vs, h1, h2, _⟩ := id hv
    exact ⟨a, dx, _, i, h1, hw, h2, ⟨v, _, rfl, hv, w, _, rfl, hw, rfl⟩, fun z H' e hz => by rw [show z = _ from hz]; exact q H' e⟩
theorem cv_neO {C : Addr} {k : Nat} {ks kt : List Str} (N : NeO X.K C) (D : Op X.prog X.w X.K X.mg X.base C "__eq__" k [.ins C ks ps, .ins C kt qs] (.bl bb)) (hr : Room (k + 1) X.A) (ha : EV X a ρ (.ins C ks ps)) (hb : EV X b ρ (.ins C kt qs)) : CV X .NotEq a b ρ (!bb) := fun σ H l h =>
  cg_of (op_neO N D.ex hr) (ha σ H l h) (hb σ H l h) fun v w H1 _ hv hw Q q => by
    obtain ⟨a, dx, vs, h1, h2, _⟩ := id hv
    obtain ⟨b, dy, ws, h3, h4, _⟩ := id hw
    exact ⟨a, b, dx, dy, _, _, h1, h3, h2, h4, ⟨v, _, rfl, hv, w, _, rfl, hw, rfl⟩, fun z H' e hz => ⟨bb, hz, q H' e⟩⟩
/-! ### star -/
theorem ev_lstStar {ps : List PV} (he : EV X e ρ p) (hl : EV X l ρ (.tup ps)) (hz : ps.length ≤ 1000) (hs : starEach [e, .Starred l p1] X.env = (false, eval e X.env) :: starEach [.Starred l p1] X.env := by rfl)
    (hs2 : starEach [.Starred l p1] X.env = (true, eval l X.env) :: starEach [] X.env := by rfl) : EV X (.List [e, .Starred l p1] pos) ρ (.lst (p :: ps)) := fun σ H ll h =>
  eg_of (pe_lst (pa_cons pe_W (StX.pa_star pe_W pa_nil hs2) hs)) fun H1 e1 Q q => he σ H ll h H1 e1 _ fun v H2 e2 pv => hl σ H ll h H2 (e1.trans e2) _ fun w H3 e3 ⟨c, xs, h1, h2, h3⟩ => by
    have hx := iss_len h3
    refine ⟨c, xs, h1, .inl (SqT.of h2), ?_⟩
    refine ⟨sz_of ?_, fun d hd => q _ _ ((e2.trans e3).trans (Ex.new hd)) (by rw [List.append_nil]; exact lst_new hd ⟨v, xs, rfl, pv.up e3, h3⟩)⟩
    rw [List.append_nil, List.length_cons, hx]
    exact Nat.le_trans (Nat.succ_le_succ hz) (by decide)
end
end E
set_option maxHeartbeats 4000000
namespace G
open PySem PySem.Spec PyProof.Rows L2 Evl
abbrev FnP (K : PySem.W.Frag) (x q : Str) (st : Stmt) (dvs : List V) (f : Addr) (fd : FuncData) : Prop := FunD K x q (defArgs st) (defBody st) (defScope st) dvs [] f fd
end G
namespace GH
open PySem PySem.Spec PyProof.Rows L2 He
theorem DefE.funD {K : PySem.W.Frag} {d : DefE} (e : fnE K (d.adr K) = d.val) (c : d.ok K = true) : ∃ fd, G.FnP K d.name d.qual d.st d.dvs (d.adr K) fd := by
  obtain ⟨kp, c2⟩ := ba c
  unfold fnE at e
  cases q : K.lookup (d.adr K) with
  | none =>
    rw [q] at c2
    cases c2
  | some o =>
    obtain ⟨oc, od, dt, osl⟩ := o
    rw [q] at c2 e
    cases dt with
    | func fd =>
      obtain ⟨n1, n2, n3, n4, n5, n6, n7, n8, n9, n10, n11, n12, n13, n14, n15⟩ := fd
      have e2 : (some (n1, n2, n3, n4, n5, n6, n7, n15) : FnW) = some (d.name, d.qual, defArgs d.st, .stmts (defBody d.st), defScope d.st, mainGlobals, [], builtinsNs) := e
      simp only [Option.some.injEq, Prod.mk.injEq] at e2
      obtain ⟨h1, h2, h3, h4, h5, h6, h7, h8⟩ := e2
      subst h1 h2 h3 h4 h5 h6 h7 h8
      obtain ⟨k1, k3⟩ := ba (show (PySem.W.codeIn K n13 d.qual && dflB K n8 d.dvs) = true from c2)
      exact ⟨_, ⟨oc, od, n8, n9, n10, n11, n12, n13, n14, osl, rfl, q, k1, dflB_ok k3, .inl rfl⟩, kp⟩
    | _ => cases c2
section
variable {fa : List FaE} {fn : List DefE} {K : PySem.W.Frag}
theorem SaysE.fact (c : SaysE fa fn K) (i : Nat) {f : FaE} (h : fa[i]? = some f := by rfl) : f K = true := by
  have c1 := (ba (show ((fa.all fun f => f K) && fn.all fun d => d.ok K) = true from congrArg (fun z : AlD => z.1) c)).1
  exact List.all_eq_true.mp c1 f (List.mem_of_getElem? h)
theorem SaysE.def_ (c : SaysE fa fn K) (i : Nat) {d : DefE} (h : fn[i]? = some d := by rfl) : ∃ fd, G.FnP K d.name d.qual d.st d.dvs (d.adr K) fd := by
  have c2 := (ba (show ((fa.all fun f => f K) && fn.all fun d => d.ok K) = true from congrArg (fun z : AlD => z.1) c)).2
  have e : fn.map (fun d => fnE K (d.adr K)) = fn.map DefE.val := congrArg (fun z : AlD => z.2) c
  have e2 : (fn.map fun d => fnE K (d.adr K))[i]? = (fn.map DefE.val)[i]? := by rw [e]
  rw [List.getElem?_map, List.getElem?_map, h] at e2
  exact DefE.funD (Option.some.inj e2) (List.all_eq_true.mp c2 d (List.mem_of_getElem? h))
end
/-! ### facts about classes -/
theorem isi_ok {K : PySem.W.Frag} {C : Addr} (cl : Cls K C) (h : isiB K C = true) : G.IsiC K C := by
  obtain ⟨h1, h⟩ := ba h
  obtain ⟨h2, h⟩ := ba h
  obtain ⟨h3, h4⟩ := ba h
  exact ⟨cl, eqO_ok h1, eqO_ok h2, of_decide_eq_true h3, of_decide_eq_true h4⟩
theorem ne_ok {K : PySem.W.Frag} {C : Addr} (h : neB K C = true) : G.NeO K C := by
  obtain ⟨h1, h2⟩ := ba h
  exact ⟨eqO_ok h1, of_decide_eq_true h2⟩
theorem some_ok {α : Type} {o : Option α} (h : o.isSome = true) : ∃ a, o = some a := by
  cases o with
  | none => cases h
  | some a => exact ⟨a, rfl⟩
theorem slT_ok {K : PySem.W.Frag} {C : Addr} (h : slTB K C = true) : G.SlotT K C "mul" "int" := by
  obtain ⟨h1, h⟩ := ba h
  obtain ⟨h2, h⟩ := ba h
  obtain ⟨h3, h4⟩ := ba h
  exact ⟨⟨_, eqO_ok h1, .inl rfl⟩, some_ok h2, some_ok h3, of_decide_eq_true h4⟩
/-- a static method: the object, its function -/
theorem smB_ok {K : PySem.W.Frag} {C p : Addr} {m : Str} (h : smB K C m = some p) : PySem.W.findCls K (.ref C) (.type "type") m = some (.get (.builtin "staticmethod.__get__") (.ref p) .none (.ref C)) := by
  unfold smB at h
  split at h
  · rename_i b q c e
    split at h
    · rename_i z
      obtain ⟨z1, z2⟩ := z
      cases h
      rw [e, z1, z2]
    · cases h
  · cases h
theorem sm_ok {K : PySem.W.Frag} {C : Addr} {m : Str} (h : smOk K C m = true) : G.SMeth K C m (smF K C m) := by
  obtain ⟨h1, h⟩ := ba h
  obtain ⟨h2, h⟩ := ba h
  obtain ⟨h3, h⟩ := ba h
  obtain ⟨h4, h5⟩ := ba h
  refine ⟨eqO_ok h1, ?_, h5⟩
  cases q : smB K C m with
  | none =>
    rw [q] at h4
    cases h4
  | some p =>
    rw [q] at h4
    dsimp only at h4
    have eF : smF K C m = (match PySem.W.recIn K p "staticmethod" with
      | some (.ref f :: _) => f
      | _ => 0) := by
      unfold smF
      rw [q]
      try rfl
    rw [eF]
    cases r : PySem.W.recIn K p "staticmethod" with
    | none =>
      rw [r] at h4
      cases h4
    | some l =>
      rw [r] at h4
      cases l with
      | nil => cases h4
      | cons v vs =>
        cases v with
        | ref f => exact ⟨_, p, vs, of_decide_eq_true h2, h3, smB_ok q, r⟩
        | _ => cases h4
end GH
set_option maxHeartbeats 4000000
/-! E11: rules over mapped lists; fields by their places; making promises; ratios as data. -/
namespace E
open PySem PySem.Spec PyProof.Rows L2 Evl G He
def idxF (f : Str) : List Str → Option Nat
  | [] => none
  | k :: ks => if f = k then some 0 else (idxF f ks).map (· + 1)
theorem lookF_of {f : Str} {p : PV} : ∀ {ks : List Str} {xs : List PV} {i : Nat}, idxF f ks = some i → xs[i]? = some p → lookF f ks xs = some p
  | [], xs, i, h, _ => by cases h
  | k :: ks, xs, i, h, hp => by
    unfold idxF at h
    by_cases e : f = k
    · rw [if_pos e] at h
      cases h
      cases xs with
      | nil => cases hp
      | cons x xs => cases hp; unfold lookF; rw [if_pos e]
    · rw [if_neg e] at h
      cases q : idxF f ks with
      | none => rw [q] at h; cases h
      | some j =>
        rw [q] at h
        cases h
        cases xs with
        | nil => cases hp
        | cons x xs => unfold lookF; rw [if_neg e]; exact lookF_of q (by simpa using hp)
section
variable {X : Cx} {ρ : Rho} {α β : Type} {as : List α} {bs : List β} {f : α → PV} {a b c e l : Expr} {es : List Expr} {pos pp p1 p2 p3 : Pos} {p q r : PV} {ps qs : List PV} {x : Str} {i j : Int} {bb bc : Bool} {n m : Nat} {S : List Sl} {Φ : Phi} {D : VE} {rest : List Stmt} {S' : List Sl}
/-- e.f, the i-th field -/
theorem ev_at (i : Nat) {C : Addr} {f : Str} {ks : List Str} (c : Cls X.K C) (hn : NoAttr X.K C f) (he : EV X e ρ (.ins C ks ps)) (hk : idxF f ks = some i := by decide +kernel) (hp : ps[i]? = some p := by rfl) (hb : attributeBase e f X.env (eval e X.env) = eval e X.env := by rfl) : EV X (.Attribute e f pos) ρ p := ev_attr c hn he (lookF_of hk hp) hb
/-- self.f of an own instance -/
theorem xw_oat (i j : Nat) {a C dx : Addr} {f : Str} {ks : List Str} {xs : List PV} (c : Cls X.K C) (hn : NoAttr X.K C f) (k : Φ p S) (hS : S[i]? = some (.own a (.obj C dx ks xs)) := by rfl) (hk : idxF f ks = some j := by decide +kernel) (hp : xs[j]? = some p := by rfl) (hN : X.N[i]? = some x := by rfl) (hv : Vis X.env.scope x := by first | exact Or.inl rfl | exact Or.inr (Or.inl rfl) | exact Or.inr (Or.inr rfl))
    (hd : (x == ("__debug__" : Str)) = false := by decide) (hcd : (x == ("__classdict__" : Str)) = false := by decide) (hb : attributeBase (.Name x pp) f X.env (eval (.Name x pp) X.env) = eval (.Name x pp) X.env := by rfl) : XW X (.Attribute (.Name x pp) f pos) S Φ := xw_ofld i c hn hS (lookF_of hk hp) k hN hv hd hcd hb
/-- self.f = e, a new field, e data -/
theorem bv_newf (i : Nat) {a C dx : Addr} {f : Str} {ks : List Str} {xs : List PV} (c : Cls X.K C) (hn : NoAttr X.K C f) (he : EV X e (view S) p) (k : BV X rest S' D) (hS : S[i]? = some (.own a (.obj C dx ks xs)) := by rfl) (hS' : S.set i (.own a (.obj C dx (ks ++ [f]) (xs ++ [p]))) = S' := by rfl) (hf : f ∉ ks := by decide +kernel) (hl : ks.length < 1000 := by decide) (hN : X.N[i]? = some x := by rfl) (hv : Vis X.env.scope x := by first | exact Or.inl rfl | exact Or.inr (Or.inl rfl) | exact Or.inr (Or.inr rfl))
    (hd : (x == ("__debug__" : Str)) = false := by decide) (hcd : (x == ("__classdict__" : Str)) = false := by decide) (hs : swapsWith e (some (.Attribute (.Name x pp) f p1)) pos.line X.env = pure false := by rfl) : BV X (.Assign [.Attribute (.Name x pp) f p1] e pos :: rest) S D :=
  bv_setf i c hn (xw_ev he ⟨ks, xs, hS, hl, by unfold putFs putFx; rw [if_neg hf, if_neg hf, hS']; exact k⟩) hN hv hd hcd hs
theorem bv_newfX (i : Nat) {a C dx : Addr} {f : Str} {ks : List Str} {xs : List PV} (c : Cls X.K C) (hn : NoAttr X.K C f) (he : XW X e S fun p S1 => S1 = S ∧ BV X rest (S.set i (.own a (.obj C dx (ks ++ [f]) (xs ++ [p])))) D) (hS : S[i]? = some (.own a (.obj C dx ks xs)) := by rfl) (hf : f ∉ ks := by decide +kernel) (hl : ks.length < 1000 := by decide) (hN : X.N[i]? = some x := by rfl) (hv : Vis X.env.scope x := by first | exact Or.inl rfl | exact Or.inr (Or.inl rfl) | exact Or.inr (Or.inr rfl))
    (hd : (x == ("__debug__" : Str)) = false := by decide) (hcd : (x == ("__classdict__" : Str)) = false := by decide) (hs : swapsWith e (some (.Attribute (.Name x pp) f p1)) pos.line X.env = pure false := by rfl) : BV X (.Assign [.Attribute (.Name x pp) f p1] e pos :: rest) S D :=
  bv_setf i c hn (he.imp fun p S1 ⟨e1, k⟩ => ⟨ks, xs, by rw [e1]; exact hS, hl, by unfold putFs putFx; rw [if_neg hf, if_neg hf, e1]; exact k⟩) hN hv hd hcd hs
/-! ### mapped lists -/
theorem ev_fromM (ha : EV X a ρ (.lst (as.map f))) (hb : EV X b ρ (.int (n : Int))) : EV X (.Subscript a (.Slice (some b) none none p2) pos) ρ (.lst ((as.drop n).map f)) := (ev_from ha hb).as (by rw [List.map_drop])
theorem ev_uptoM (ha : EV X a ρ (.lst (as.map f))) (hb : EV X b ρ (.int (n : Int))) : EV X (.Subscript a (.Slice none (some b) none p2) pos) ρ (.lst ((as.take n).map f)) := (ev_upto ha hb).as (by rw [List.map_take])
theorem ev_sumM {g : α → Int} (hm : X.mg "sum" = none) (ha : EV X e ρ (.lst (as.map fun a => PV.int (g a)))) (hc : X.calm = true := by rfl) (hg : Gl X "sum" := by rfl) (he : starEach [e] X.env = (false, eval e X.env) :: starEach [] X.env := by rfl) : EV X (.Call (.Name "sum" pp) [e] [] pos) ρ (.int (as.map g).sum) :=
  ev_sum hm (ha.as (by rw [pints, List.map_map]; rfl)) hc hg he
theorem ev_allM {g : α → Bool} (hm : X.mg "all" = none) (ha : EV X e ρ (.lst (as.map fun a => PV.bl (g a)))) (hc : X.calm = true := by rfl) (hg : Gl X "all" := by rfl) (he : starEach [e] X.env = (false, eval e X.env) :: starEach [] X.env := by rfl) : EV X (.Call (.Name "all" pp) [e] [] pos) ρ (.bl (as.all g)) :=
  (ev_all (bs := as.map g) hm (ha.as (by rw [List.map_map]; rfl)) hc hg he).as (by rw [List.all_map]; rfl)
theorem ev_ixM (ha : EV X a ρ (.lst (as.map f))) (hb : EV X b ρ (.int i)) {y : α} (hx : atI as i = some y) (hs : PlainIx b := by exact fun _ _ => rfl) : EV X (.Subscript a b pos) ρ (f y) := ev_ixL ha hb (by
  unfold atI at *
  rw [List.length_map]
  cases e : ixN as.length i with
  | none => rw [e] at hx; cases hx
  | some k =>
    rw [e] at hx
    show (as.map f)[k]? = _
    rw [List.getElem?_map, show as[k]? = some y from hx]
    rfl) hs
theorem ev_ixTM (ha : EV X a ρ (.tup (as.map f))) (hb : EV X b ρ (.int i)) {y : α} (hx : atI as i = some y) (hs : PlainIx b := by exact fun _ _ => rfl) : EV X (.Subscript a b pos) ρ (f y) := ev_ixT ha hb (by
  unfold atI at *
  rw [List.length_map]
  cases e : ixN as.length i with
  | none => rw [e] at hx; cases hx
  | some k =>
    rw [e] at hx
    show (as.map f)[k]? = _
    rw [List.getElem?_map, show as[k]? = some y from hx]
    rfl) hs
theorem ev_lenM (hm : X.mg "len" = none) (ha : EV X e ρ (.lst (as.map f))) (hg : Gl X "len" := by rfl) (he : starEach [e] X.env = (false, eval e X.env) :: starEach [] X.env := by rfl) : EV X (.Call (.Name "len" pp) [e] [] pos) ρ (.int (as.length : Int)) := (ev_lenL hm ha hg he).as (by rw [List.length_map])
theorem ev_lenTM (hm : X.mg "len" = none) (ha : EV X e ρ (.tup (as.map f))) (hg : Gl X "len" := by rfl) (he : starEach [e] X.env = (false, eval e X.env) :: starEach [] X.env := by rfl) : EV X (.Call (.Name "len" pp) [e] [] pos) ρ (.int (as.length : Int)) := (ev_lenT hm ha hg he).as (by rw [List.length_map])
theorem ev_lstStarM (he : EV X e ρ p) {y : α} (hp : p = f y) (hl : EV X l ρ (.tup (as.map f))) (hz : as.length ≤ 1000) (hs : starEach [e, .Starred l p1] X.env = (false, eval e X.env) :: starEach [.Starred l p1] X.env := by rfl)
    (hs2 : starEach [.Starred l p1] X.env = (true, eval l X.env) :: starEach [] X.env := by rfl) : EV X (.List [e, .Starred l p1] pos) ρ (.lst ((y :: as).map f)) := (ev_lstStar he hl (by rw [List.length_map]; exact hz) hs hs2).as (by rw [hp]; rfl)
end
/-! ### promises, from bodies -/
section
variable {P : Program} {w : World} {K : PySem.W.Frag} {mg : Str → Option Value} {base : Heap} {x m q : Str} {st : Stmt} {f C : Addr} {fd : FuncData} {pn : List Str} {k : Nat} {ps qs dps : List PV} {p sv : PV} {ks : List Str} {ds : List Value} {o : PO} {post : PV → PO → Prop}
theorem mk_fn (ok : FnOk P w K mg base CX0 k f fd pn (VS ps p)) {dvs : List V} (F : G.FnP K q q st dvs f fd) (hm : mg x = some (.ref f)) (b : Binds K fd pn []) : Fn P w K mg base x k ps p := ⟨f, fd, pn, [], [], by rw [List.append_nil]; exact ok, hm, F.kp, b, dv_nil⟩
theorem mk_fno (ok : FnOk P w K mg base CX0 k f fd pn (OS o ps post)) {dvs : List V} (F : G.FnP K q q st dvs f fd) (hm : mg x = some (.ref f)) (b : Binds K fd pn []) : FnO P w K mg base x k o ps post := ⟨f, fd, pn, [], [], by rw [List.append_nil]; exact ok, hm, F.kp, b, dv_nil⟩
theorem mk_op (ok : FnOk P w K mg base CX0 k f fd pn (VS ps p)) (M : Meth K C m f) (b : Binds K fd pn []) : Op P w K mg base C m k ps p := ⟨⟨f, fd, pn, ok, M.at_, M.fn, b⟩⟩
theorem mk_me (ok : FnOk P w K mg base CX0 k f fd pn (VS (sv :: ps) p)) (M : Meth K C m f) (b : Binds K fd pn []) : Me P w K mg base C m k sv ps p := ⟨f, fd, pn, [], [], by rw [List.append_nil]; exact ok, M, b, dv_nil⟩
theorem mk_sm (ok : FnOk P w K mg base CX0 k f fd pn (VS ps p)) (hm : mg x = some (.ref C)) (M : SMeth K C m f) (b : Binds K fd pn []) : Sm P w K mg base x m k ps p := ⟨C, f, fd, pn, [], [], by rw [List.append_nil]; exact ok, hm, M, b, dv_nil⟩
theorem mk_nw (ok : FnOk P w K mg base CX0 k f fd pn (NS C (ps ++ dps) ks qs)) (M : Mk K C f) (hm : mg x = some (.ref C)) (b : Binds K fd pn ds) (d : DV dps ds) : Nw P w K mg base x C k ps ks qs := ⟨f, fd, pn, ds, dps, ok, M, hm, b, d⟩
end
/-! ### ratios -/
class SmC (n : outParam Nat) (q : Rat) : Prop where
  sm : G.Sm n q
instance smc_add {a b : Rat} {n m : Nat} [h : SmC n a] [g : SmC m b] : SmC (n + m + 1) (a + b) := ⟨sm_add h.sm g.sm⟩
instance smc_sub {a b : Rat} {n m : Nat} [h : SmC n a] [g : SmC m b] : SmC (n + m + 1) (a - b) := ⟨sm_sub h.sm g.sm⟩
instance smc_mul {a b : Rat} {n m : Nat} [h : SmC n a] [g : SmC m b] : SmC (n + m) (a * b) := ⟨sm_mul h.sm g.sm⟩
instance smc_neg {a : Rat} {n : Nat} [h : SmC n a] : SmC n (-a) := ⟨sm_neg h.sm⟩
instance bt_num {q : Rat} {n : Nat} [h : SmC n q] : Bt q.num n := ⟨h.sm.1⟩
instance bt_den {q : Rat} {n : Nat} [h : SmC n q] : Bt (q.den : Int) n := ⟨by rw [Int.natAbs_natCast]; exact h.sm.2⟩
theorem smc_div {a b : Int} {n : Nat} (h : 0 < b) (ha : a.natAbs < 2 ^ n) (hb : b.natAbs < 2 ^ n) : SmC n (Rat.divInt a b) := ⟨sm_div h ha hb⟩
def fR : List Str := ["top", "bottom", "sign"]
abbrev rK (K : PySem.W.Frag) : Addr := He.ga K "Ratio"
def ratV (K : PySem.W.Frag) (q : Rat) : PV := .ins (rK K) ["top", "bottom", "sign"] [.int q.num, .int (q.den : Int), .int q.num.sign]
end E
set_option maxHeartbeats 4000000
namespace G
open PySem PySem.Spec PyProof.Rows L2 Evl
theorem ints_can : ∀ cs : List Int, PyData.canLayAll0 (cs.map PyData.int) = true
  | [] => rfl
  | c :: cs => by
    show (true && PyData.canLayAll0 (cs.map PyData.int)) = true
    rw [ints_can cs]
    rfl
theorem ints_dep : ∀ cs : List Int, PyData.depthAll (cs.map PyData.int) = 0
  | [] => rfl
  | c :: cs => by
    show max 0 (PyData.depthAll (cs.map PyData.int)) = 0
    rw [ints_dep cs]
    rfl
theorem ints_sh (cs : List Int) : SeqAt.shaped (.list (cs.map PyData.int)) = true := by
  unfold SeqAt.shaped
  rw [show PyData.canLay0 (.list (cs.map PyData.int)) = true from ints_can cs, show PyData.depth (.list (cs.map PyData.int)) = 1 from by show PyData.depthAll (cs.map PyData.int) + 1 = 1; rw [ints_dep]]
  rfl
theorem ints_dp {K : PySem.W.Frag} {H : Hp} : ∀ cs : List Int, DpAll K H (cs.map V.int) (cs.map PyData.int)
  | [] => .nil
  | c :: cs => .cons (.int c) (ints_dp cs)
theorem ints_eqv (cs : List Int) : PyData.eqv (.list (cs.map PyData.int)) (.list []) = cs.isEmpty := by
  cases cs <;> rfl
theorem args_at {Ps : List Rep} {xs : List V} {H : Hp} : ∀ {n : Nat} {P : Rep}, Args Ps xs H → Ps[n]? = some P → ∃ v, xs[n]? = some v ∧ P v H := by
  intro n
  induction n generalizing Ps xs with
  | zero =>
    intro P h hp
    cases Ps with
    | nil => simp at hp
    | cons A As =>
      obtain ⟨x, r, h1, h2, _⟩ := h
      simp at hp
      subst hp h1
      exact ⟨x, rfl, h2⟩
  | succ n ih =>
    intro P h hp
    cases Ps with
    | nil => simp at hp
    | cons A As =>
      obtain ⟨x, r, h1, h2, h3⟩ := h
      obtain ⟨v, hv, hP⟩ := ih h3 (show As[n]? = some P by simpa using hp)
      subst h1
      exact ⟨v, by simpa using hv, hP⟩
section
variable {X : Cx} {σ : L2.St} {H : Hp} {a b e : Expr} {pos p : Pos} {P : Rep} {Ps : List Rep} {k : Nat}
theorem cg_neNil {cs : List Int} (hr : Room k X.A) (ha : EG X a σ H (IsL IsI cs)) (hb : EG X b σ H (LstOf [])) : CG X .NotEq a b σ H (!cs.isEmpty) :=
  cg_of (op_neD hr.units) ha hb fun x y H1 _ ⟨c, xs, q1, q2, q3⟩ ⟨d, ys, q4, q5, q6⟩ Q q => by
    have e1 := all2_ints q3
    have e2 : ys = [] := q6
    subst q1 q4 e1 e2
    refine ⟨.list (cs.map .int), .list [], .lst (SqL.of q2) (ints_dp cs), .lst (SqL.of q5) .nil, ints_sh cs, ints_sh [], ?_⟩
    rw [ints_eqv]
    exact q H1 (Ex.refl H1)
/-- a[n], a a list told one by one -/
theorem eg_ixA {n : Nat} (ha : EG X a σ H (LstOf Ps)) [hm : MonoA Ps] (hb : EG X b σ H (IsI (n : Int))) (hx : Ps[n]? = some P) (hs : PlainIx b := by exact fun _ _ => rfl) : EG X (.Subscript a b pos) σ H P :=
  eg_of (pe_ix ix_list pe_W pe_W hs) (ep_op ha hb fun v y H1 _ ⟨q, xs, h1, h2, h3⟩ py Q qq => by
    obtain ⟨w, hw, rw⟩ := args_at h3 hx
    exact ⟨q, xs, n, w, h1, py, SqL.of h2, atI_nat hw, qq w H1 (Ex.refl H1) rw⟩)
theorem eg_ixB {n : Nat} (ha : EG X a σ H (TupOf Ps)) [hm : MonoA Ps] (hb : EG X b σ H (IsI (n : Int))) (hx : Ps[n]? = some P) (hs : PlainIx b := by exact fun _ _ => rfl) : EG X (.Subscript a b pos) σ H P :=
  eg_of (pe_ix ix_tup pe_W pe_W hs) (ep_op ha hb fun v y H1 _ ⟨q, xs, h1, h2, h3⟩ py Q qq => by
    obtain ⟨w, hw, rw⟩ := args_at h3 hx
    exact ⟨q, xs, n, w, h1, py, SqT.of h2, atI_nat hw, qq w H1 (Ex.refl H1) rw⟩)
/-- a[n] = e of a tracked list -/
theorem b_setix {n : Nat} {c : Addr} {xs : List V} {rest : List Stmt} {D : Ends} {spos : Pos} (hm : Mono P) (he : EG X e σ H P) (ha : ∀ H1, Ex H H1 → EG X a σ H1 (IsV (.ref c))) (hb : ∀ H1, Ex H H1 → EG X b σ H1 (IsI (n : Int))) (hc : H c = some (.lst xs)) (hn : n < xs.length)
    (k : ∀ v H1, Ex H H1 → P v H1 → BW X rest D σ (upd H1 c (.lst (xs.set n v)))) (hs : swapsWithSole [.Subscript a b pos] e spos.line X.env = pure false := by rfl) (hw : swappedStores [.Subscript a b pos] e X.env = pure none := by rfl)
    (h1 : (assignEach [.Subscript a b pos] X.env).map (·.2) = [assign (.Subscript a b pos) X.env] := by rfl)
    (hpa : ∀ v, assign (.Subscript a b pos) X.env v = (do
      let ov ← holding [v] (eval a X.env)
      let iv ← holding [v, ov] (eval b X.env)
      standAt pos
      holding [v, ov, iv] (setItem ov iv v)
      release [v, ov, iv] []) := by intro _; rfl) : BW X (.Assign [.Subscript a b pos] e spos :: rest) D σ H :=
  b_of (ps_asg pe_W (pg_sub pe_W pe_W set_list hpa) hs hw h1) (he H (Ex.refl H) _ fun v H1 e1 pv => ha H1 e1 H1 (Ex.refl H1) _ fun o H2 e2 ho => hb H2 (e1.trans e2) H2 (Ex.refl H2) _ fun i H3 e3 hi => by
    have x3 := (e1.trans e2).trans e3
    refine ⟨c, xs, n, n, ho, hi, x3 _ _ hc, ?_, k v H3 x3 (hm.up (e2.trans e3) pv)⟩
    unfold ixN
    rw [if_pos (by omega), if_pos (by omega), Int.toNat_natCast])
end
end G
set_option maxHeartbeats 4000000
/-! E12: what the printed proofs use. -/
namespace E
open PySem PySem.Spec PyProof.Rows L2 Evl G He
section
variable {K : PySem.W.Frag} {x q : Str} {sc : Scope} {args : Arguments} {body : List Stmt} {f : Addr} {fd : FuncData}
theorem b1 {a : Str} (F : FunD K x q args body sc [] [] f fd) (h : ∀ (kV doc pm : Value) (an : Option Addr) (cdv ct u0 : Value), bindArgs (PySem.W.fnOf x q args body sc .none kV doc pm an cdv ct) ⟨[u0], []⟩ = pure [(a, u0)] := by intros; rfl) : Binds K fd [a] [] :=
  F.bindsN fun kV doc pm an cdv ct us hl => match us, hl with | [u0], _ => h kV doc pm an cdv ct u0
theorem b2 {a b : Str} (F : FunD K x q args body sc [] [] f fd) (h : ∀ (kV doc pm : Value) (an : Option Addr) (cdv ct u0 u1 : Value), bindArgs (PySem.W.fnOf x q args body sc .none kV doc pm an cdv ct) ⟨[u0, u1], []⟩ = pure [(a, u0), (b, u1)] := by intros; rfl) : Binds K fd [a, b] [] :=
  F.bindsN fun kV doc pm an cdv ct us hl => match us, hl with | [u0, u1], _ => h kV doc pm an cdv ct u0 u1
theorem b3 {a b c : Str} (F : FunD K x q args body sc [] [] f fd) (h : ∀ (kV doc pm : Value) (an : Option Addr) (cdv ct u0 u1 u2 : Value), bindArgs (PySem.W.fnOf x q args body sc .none kV doc pm an cdv ct) ⟨[u0, u1, u2], []⟩ = pure [(a, u0), (b, u1), (c, u2)] := by intros; rfl) : Binds K fd [a, b, c] [] :=
  F.bindsN fun kV doc pm an cdv ct us hl => match us, hl with | [u0, u1, u2], _ => h kV doc pm an cdv ct u0 u1 u2
theorem b4 {a b c d : Str} (F : FunD K x q args body sc [] [] f fd) (h : ∀ (kV doc pm : Value) (an : Option Addr) (cdv ct u0 u1 u2 u3 : Value), bindArgs (PySem.W.fnOf x q args body sc .none kV doc pm an cdv ct) ⟨[u0, u1, u2, u3], []⟩ = pure [(a, u0), (b, u1), (c, u2), (d, u3)] := by intros; rfl) : Binds K fd [a, b, c, d] [] :=
  F.bindsN fun kV doc pm an cdv ct us hl => match us, hl with | [u0, u1, u2, u3], _ => h kV doc pm an cdv ct u0 u1 u2 u3
theorem b5 {a b c d e : Str} (F : FunD K x q args body sc [] [] f fd) (h : ∀ (kV doc pm : Value) (an : Option Addr) (cdv ct u0 u1 u2 u3 u4 : Value), bindArgs (PySem.W.fnOf x q args body sc .none kV doc pm an cdv ct) ⟨[u0, u1, u2, u3, u4], []⟩ = pure [(a, u0), (b, u1), (c, u2), (d, u3), (e, u4)] := by intros; rfl) : Binds K fd [a, b, c, d, e] [] :=
  F.bindsN fun kV doc pm an cdv ct us hl => match us, hl with | [u0, u1, u2, u3, u4], _ => h kV doc pm an cdv ct u0 u1 u2 u3 u4
theorem b6 {a b c d e g : Str} (F : FunD K x q args body sc [] [] f fd) (h : ∀ (kV doc pm : Value) (an : Option Addr) (cdv ct u0 u1 u2 u3 u4 u5 : Value), bindArgs (PySem.W.fnOf x q args body sc .none kV doc pm an cdv ct) ⟨[u0, u1, u2, u3, u4, u5], []⟩ = pure [(a, u0), (b, u1), (c, u2), (d, u3), (e, u4), (g, u5)] := by intros; rfl) : Binds K fd [a, b, c, d, e, g] [] :=
  F.bindsN fun kV doc pm an cdv ct us hl => match us, hl with | [u0, u1, u2, u3, u4, u5], _ => h kV doc pm an cdv ct u0 u1 u2 u3 u4 u5
theorem b7 {a b c d e g i : Str} (F : FunD K x q args body sc [] [] f fd) (h : ∀ (kV doc pm : Value) (an : Option Addr) (cdv ct u0 u1 u2 u3 u4 u5 u6 : Value), bindArgs (PySem.W.fnOf x q args body sc .none kV doc pm an cdv ct) ⟨[u0, u1, u2, u3, u4, u5, u6], []⟩ = pure [(a, u0), (b, u1), (c, u2), (d, u3), (e, u4), (g, u5), (i, u6)] := by intros; rfl) : Binds K fd [a, b, c, d, e, g, i] [] :=
  F.bindsN fun kV doc pm an cdv ct us hl => match us, hl with | [u0, u1, u2, u3, u4, u5, u6], _ => h kV doc pm an cdv ct u0 u1 u2 u3 u4 u5 u6
theorem b8 {a b c d e g i j : Str} (F : FunD K x q args body sc [] [] f fd) (h : ∀ (kV doc pm : Value) (an : Option Addr) (cdv ct u0 u1 u2 u3 u4 u5 u6 u7 : Value), bindArgs (PySem.W.fnOf x q args body sc .none kV doc pm an cdv ct) ⟨[u0, u1, u2, u3, u4, u5, u6, u7], []⟩ = pure [(a, u0), (b, u1), (c, u2), (d, u3), (e, u4), (g, u5), (i, u6), (j, u7)] := by intros; rfl) : Binds K fd [a, b, c, d, e, g, i, j] [] :=
  F.bindsN fun kV doc pm an cdv ct us hl => match us, hl with | [u0, u1, u2, u3, u4, u5, u6, u7], _ => h kV doc pm an cdv ct u0 u1 u2 u3 u4 u5 u6 u7
end
abbrev lsV {α : Type} (f : α → PV) (xs : List α) : PV := .lst (xs.map f)
abbrev tpV {α : Type} (f : α → PV) (xs : List α) : PV := .tup (xs.map f)
section
variable {X : Cx} {ρ : Rho} {α β γ : Type} {as : List α} {bs : List β} {f : α → PV} {g : β → PV} {a b c d e l : Expr} {es : List Expr} {pos pp p1 p2 p3 : Pos} {p q r : PV} {ps qs : List PV} {x : Str} {i j : Int} {bb bc : Bool} {n m : Nat}
theorem ev_mapL {h : α → β} (he : EV X e ρ (.lst (as.map fun a => g (h a)))) : EV X e ρ (.lst ((as.map h).map g)) := he.as (by rw [List.map_map]; rfl)
theorem ev_andF {rest : List Expr} (h : EV X a ρ (.bl false)) : EV X (.BoolOp .And (a :: b :: rest) pos) ρ (.bl false) := fun σ H l g => (eg_and (bc := true) (h σ H l g) fun z => nomatch z)
theorem ev_orT {rest : List Expr} (h : EV X a ρ (.bl true)) : EV X (.BoolOp .Or (a :: b :: rest) pos) ρ (.bl true) := fun σ H l g => (eg_or (bc := true) (h σ H l g) fun z => nomatch z)
theorem wv_andF {rest : List Expr} (h : TV X a ρ false) : WV X (.BoolOp .And (a :: b :: rest) pos) ρ false := fun σ H l g => wg_and (bc := true) (h σ H l g) fun z => nomatch z
theorem wv_orT {rest : List Expr} (h : TV X a ρ true) : WV X (.BoolOp .Or (a :: b :: rest) pos) ρ true := fun σ H l g => wg_or (bc := true) (h σ H l g) fun z => nomatch z
theorem ev_ifM (f : α → PV) {y z : α} (hc : TV X c ρ bb) (h1 : bb = true → EV X a ρ (f y)) (h2 : bb = false → EV X b ρ (f z)) : EV X (.IfExp c a b pos) ρ (f (if bb = true then y else z)) := (ev_if hc h1 h2).as (by cases bb <;> rfl)
theorem ev_ifT (hc : TV X c ρ true) (h1 : EV X a ρ p) : EV X (.IfExp c a b pos) ρ p := fun σ H l g => eg_if (hc σ H l g) (fun _ => h1 σ H l g) fun z => nomatch z
theorem ev_ifF (hc : TV X c ρ false) (h1 : EV X b ρ p) : EV X (.IfExp c a b pos) ρ p := fun σ H l g => eg_if (hc σ H l g) (fun z => nomatch z) fun _ => h1 σ H l g
/-! ### displays of one kind -/
def AM (X : Cx) (es : List Expr) (ρ : Rho) (f : α → PV) (as : List α) : Prop := AV X es ρ (as.map f)
theorem am_nil : AM X [] ρ f [] := av_nil
theorem am_cons {y : α} (h : EV X e ρ (f y)) (hr : AM X es ρ f as) (hs : starEach (e :: es) X.env = (false, eval e X.env) :: starEach es X.env := by rfl) : AM X (e :: es) ρ f (y :: as) := av_cons h hr hs
theorem ev_lstM (f : α → PV) (h : AM X es ρ f as) (hl : as.length ≤ 1000 := by exact of_decide_eq_true rfl) : EV X (.List es pos) ρ (.lst (as.map f)) := ev_lst h (by rw [List.length_map]; exact hl)
theorem ev_tupM (f : α → PV) {x1} (h : AM X es ρ f as) (hl : as.length ≤ 1000 := by exact of_decide_eq_true rfl) : EV X (.Tuple es x1 pos) ρ (.tup (as.map f)) := ev_tup h (by rw [List.length_map]; exact hl)
theorem ev_tup2 (f : α → PV) (g : β → PV) {y : α} {z : β} {x1} (h1 : EV X a ρ (f y)) (h2 : EV X b ρ (g z)) (hs : starEach [a, b] X.env = (false, eval a X.env) :: starEach [b] X.env := by rfl) (hs2 : starEach [b] X.env = (false, eval b X.env) :: starEach [] X.env := by rfl) : EV X (.Tuple [a, b] x1 pos) ρ (pr2 f g (y, z)) := ev_tup (av_cons h1 (av_cons h2 av_nil hs2) hs)
def pr3 (f : α → PV) (g : β → PV) (h : γ → PV) (q : α × β × γ) : PV := .tup [f q.1, g q.2.1, h q.2.2]
theorem ev_tup3 (f : α → PV) (g : β → PV) (h : γ → PV) {y : α} {z : β} {w : γ} {x1} (h1 : EV X a ρ (f y)) (h2 : EV X b ρ (g z)) (h3 : EV X c ρ (h w)) (hs : starEach [a, b, c] X.env = (false, eval a X.env) :: starEach [b, c] X.env := by rfl) (hs2 : starEach [b, c] X.env = (false, eval b X.env) :: starEach [c] X.env := by rfl) (hs3 : starEach [c] X.env = (false, eval c X.env) :: starEach [] X.env := by rfl) : EV X (.Tuple [a, b, c] x1 pos) ρ (pr3 f g h (y, z, w)) := ev_tup (av_cons h1 (av_cons h2 (av_cons h3 av_nil hs3) hs2) hs)
/-! ### plain data -/
mutual
def PV.dat : PV → Option PyData
  | .non => some .none
  | .bl b => some (.bool b)
  | .int i => some (.int i)
  | .str z => some (.str z)
  | .lst xs => (PV.dats xs).map .list
  | .tup xs => (PV.dats xs).map .tuple
  | _ => none
def PV.dats : List PV → Option (List PyData)
  | [] => some []
  | p :: ps => (PV.dat p).bind fun d => (PV.dats ps).map fun ds => d :: ds
end
mutual
theorem dat_dp {K : PySem.W.Frag} {H : Hp} : ∀ {p : PV} {d : PyData} {v : V}, p.dat = some d → p.Is v H → Dp K H v d
  | .non, _, _, h, i => by cases h; rw [show _ = V.non from i]; exact .non
  | .bl b, _, _, h, i => by cases h; rw [show _ = V.bl b from i]; exact .bl b
  | .int b, _, _, h, i => by cases h; rw [show _ = V.int b from i]; exact .int b
  | .str b, _, _, h, i => by cases h; rw [show _ = V.str b from i]; exact .str b
  | .lst xs, d, v, h, i => by
    unfold PV.dat at h
    cases q : PV.dats xs with
    | none => rw [q] at h; cases h
    | some ds =>
      rw [q] at h
      cases h
      obtain ⟨a, vs, h1, h2, h3⟩ := i
      rw [h1]
      exact .lst (SqL.of h2) (dats_dp q h3)
  | .tup xs, d, v, h, i => by
    unfold PV.dat at h
    cases q : PV.dats xs with
    | none => rw [q] at h; cases h
    | some ds =>
      rw [q] at h
      cases h
      obtain ⟨a, vs, h1, h2, h3⟩ := i
      rw [h1]
      exact .tup (SqT.of h2) (dats_dp q h3)
  | .ty _, _, _, h, _ => nomatch h
  | .ref _, _, _, h, _ => nomatch h
  | .dct _ _, _, _, h, _ => nomatch h
  | .ins _ _ _, _, _, h, _ => nomatch h
theorem dats_dp {K : PySem.W.Frag} {H : Hp} : ∀ {ps : List PV} {ds : List PyData} {vs : List V}, PV.dats ps = some ds → PV.Iss ps vs H → DpAll K H vs ds
  | [], _, _, h, i => by cases h; rw [show _ = [] from i]; exact .nil
  | p :: ps, _, _, h, ⟨y, r, h1, h2, h3⟩ => by
    unfold PV.dats at h
    cases q : p.dat with
    | none => rw [q] at h; cases h
    | some d =>
      cases q2 : PV.dats ps with
      | none => rw [q, q2] at h; cases h
      | some ds =>
        rw [q, q2] at h
        cases h
        rw [h1]
        exact .cons (dat_dp q h2) (dats_dp q2 h3)
end
def rEqP (K : PySem.W.Frag) (neg : Bool) : R2 := fun x y H Q => ∃ d d2, Dp K H x d ∧ Dp K H y d2 ∧ d.plain = true ∧ d2.plain = true ∧ d.depth ≤ 60 ∧ Q (.bl (if neg then !PyData.eqv d d2 else PyData.eqv d d2)) H
theorem op_eqP (hu : X.A.units + 64 < cLine) : OpR X (compareOp .Eq) (rEqP X.K false) := by
  intro pins s σ H x y v u Q I rx ry ⟨d, d2, hd, he, p1, p2, p3, q⟩
  obtain ⟨as, r1⟩ := Dp.reads I d x v hd rx
  obtain ⟨bs, r2⟩ := Dp.reads I d2 y u he ry
  exact SeqAt.eq_plain r1 r2 p1 p2 (by omega) ⟨.bl _, H, I, rfl, q⟩
theorem op_neP (hu : X.A.units + 64 < cLine) : OpR X (compareOp .NotEq) (rEqP X.K true) := by
  intro pins s σ H x y v u Q I rx ry ⟨d, d2, hd, he, p1, p2, p3, q⟩
  obtain ⟨as, r1⟩ := Dp.reads I d x v hd rx
  obtain ⟨bs, r2⟩ := Dp.reads I d2 y u he ry
  exact SeqAt.ne_plain r1 r2 p1 p2 (by omega) ⟨.bl _, H, I, rfl, q⟩
theorem cv_eqP {d d2 : PyData} {k : Nat} (hr : Room k X.A) (ha : EV X a ρ p) (hb : EV X b ρ q) (h1 : p.dat = some d) (h2 : q.dat = some d2) (s1 : d.plain = true) (s2 : d2.plain = true) (s3 : d.depth ≤ 60) (hbb : PyData.eqv d d2 = bb) : CV X .Eq a b ρ bb := fun σ H l h =>
  cg_of (P1 := p.Is) (P2 := q.Is) (op_eqP hr.units) (ha σ H l h) (hb σ H l h) fun x y H1 _ px py Q q => ⟨d, d2, dat_dp h1 px, dat_dp h2 py, s1, s2, s3, by rw [if_neg Bool.false_ne_true, hbb]; exact q H1 (Ex.refl H1)⟩
theorem cv_neP {d d2 : PyData} {k : Nat} (hr : Room k X.A) (ha : EV X a ρ p) (hb : EV X b ρ q) (h1 : p.dat = some d) (h2 : q.dat = some d2) (s1 : d.plain = true) (s2 : d2.plain = true) (s3 : d.depth ≤ 60) (hbb : (!PyData.eqv d d2) = bb) : CV X .NotEq a b ρ bb := fun σ H l h =>
  cg_of (P1 := p.Is) (P2 := q.Is) (op_neP hr.units) (ha σ H l h) (hb σ H l h) fun x y H1 _ px py Q q => ⟨d, d2, dat_dp h1 px, dat_dp h2 py, s1, s2, s3, by rw [if_pos rfl, hbb]; exact q H1 (Ex.refl H1)⟩
end
end E
set_option maxHeartbeats 4000000
/-! E13: comprehensions that may change own objects; targets that are attributes; parallel assignment. -/
namespace E
open PySem PySem.Spec PyProof.Rows L2 Evl G He
theorem wipe_get {σ : L2.St} : ∀ {vs : List Nat} {j : Nat}, (wipe σ vs)[j]? = if j ∈ vs then (if j < σ.length then some none else none) else σ[j]?
  | [], j => rfl
  | u :: us, j => by
    show ((wipe σ us).set u none)[j]? = _
    by_cases e : u = j
    · subst e
      by_cases hl : u < σ.length
      · rw [List.getElem?_set_self (by rw [wipe_length]; exact hl), if_pos (by simp), if_pos hl]
      · rw [if_pos (by simp), if_neg hl, List.getElem?_eq_none_iff.mpr (by simp [wipe_length]; omega)]
    · rw [List.getElem?_set_ne e, wipe_get]
      by_cases m : j ∈ us
      · rw [if_pos m, if_pos (List.mem_cons_of_mem _ m)]
      · rw [if_neg m, if_neg fun z => (List.mem_cons.mp z).elim (fun y => e y.symm) m]
def forgetS (S : List Sl) (vs : List Nat) : List Sl := vs.foldr (fun v r => r.set v .no) S
theorem forgetS_len {S : List Sl} : ∀ {vs : List Nat}, (forgetS S vs).length = S.length
  | [] => rfl
  | u :: us => by show ((forgetS S us).set u .no).length = _; rw [List.length_set, forgetS_len]
theorem forgetS_get {S : List Sl} : ∀ {vs : List Nat} {j : Nat}, (forgetS S vs)[j]? = if j ∈ vs then (if j < S.length then some .no else none) else S[j]?
  | [], j => rfl
  | u :: us, j => by
    show ((forgetS S us).set u .no)[j]? = _
    by_cases e : u = j
    · subst e
      by_cases hl : u < S.length
      · rw [List.getElem?_set_self (by rw [forgetS_len]; exact hl), if_pos (by simp), if_pos hl]
      · rw [if_pos (by simp), if_neg hl, List.getElem?_eq_none_iff.mpr (by simp [forgetS_len]; omega)]
    · rw [List.getElem?_set_ne e, forgetS_get]
      by_cases m : j ∈ us
      · rw [if_pos m, if_pos (List.mem_cons_of_mem _ m)]
      · rw [if_neg m, if_neg fun z => (List.mem_cons.mp z).elim (fun y => e y.symm) m]
theorem forgetS_idem {S : List Sl} {vs : List Nat} : forgetS (forgetS S vs) vs = forgetS S vs := by
  apply List.ext_getElem?
  intro i
  rw [forgetS_get, forgetS_get]
  by_cases m : i ∈ vs
  · rw [if_pos m, if_pos m, forgetS_len]
  · rw [if_neg m, if_neg m]
theorem forgetS_notOwn {S : List Sl} : ∀ {vs : List Nat} {i : Nat}, NotOwn S i → NotOwn (forgetS S vs) i := fun {vs i} h => by
  unfold NotOwn at *
  rw [forgetS_get]
  by_cases m : i ∈ vs
  · rw [if_pos m]
    by_cases l : i < S.length
    · rw [if_pos l]; rfl
    · rw [if_neg l]; rfl
  · rw [if_neg m]; exact h
theorem forgetS_adr {S : List Sl} : ∀ {vs : List Nat}, (∀ v ∈ vs, NotOwn S v) → adrs (forgetS S vs) = adrs S
  | [], _ => rfl
  | u :: us, h => by
    show adrs ((forgetS S us).set u .no) = _
    rw [adrs_pure (forgetS_notOwn (h u (by simp))) rfl]
    exact forgetS_adr fun v hv => h v (by simp [hv])
theorem forgetS_view {S : List Sl} {vs : List Nat} {i : Nat} {p : PV} (h : (view (forgetS S vs))[i]? = some (some p)) : i ∉ vs ∧ (view S)[i]? = some (some p) := by
  have z := view_get h
  rw [forgetS_get] at z
  by_cases m : i ∈ vs
  · rw [if_pos m] at z
    by_cases l : i < S.length
    · rw [if_pos l] at z; cases z
    · rw [if_neg l] at z; cases z
  · rw [if_neg m] at z
    exact ⟨m, get_view z⟩
theorem forgetS_own {S : List Sl} {vs : List Nat} {i : Nat} {a : Addr} {o : PO} (h : (forgetS S vs)[i]? = some (.own a o)) : i ∉ vs ∧ S[i]? = some (.own a o) := by
  rw [forgetS_get] at h
  by_cases m : i ∈ vs
  · rw [if_pos m] at h
    by_cases l : i < S.length
    · rw [if_pos l] at h; cases h
    · rw [if_neg l] at h; cases h
  · rw [if_neg m] at h
    exact ⟨m, h⟩
section
variable {S : List Sl} {σ : L2.St} {H : Hp} {vs : List Nat}
theorem vis_forget (h : ∀ v ∈ vs, NotOwn S v) : vis (forgetS S vs) H = vis S H := by show visL _ _ = visL _ _; rw [forgetS_adr h]
theorem rep_forget (r : Rep S σ H) (h : ∀ v ∈ vs, NotOwn S v) : Rep (forgetS S vs) (wipe σ vs) H := by
  refine ⟨by rw [forgetS_len, wipe_length]; exact r.len, by rw [forgetS_adr h]; exact r.hd, fun i p q => ?_, fun i a o q => ?_⟩
  · obtain ⟨m, q⟩ := forgetS_view q
    rw [wipe_get, if_neg m, vis_forget h]
    exact r.env i p q
  · obtain ⟨m, q⟩ := forgetS_own q
    rw [wipe_get, if_neg m, vis_forget h]
    exact r.own i a o q
theorem rep_unwipe (r : Rep (forgetS S vs) (wipe σ vs) H) : Rep (forgetS S vs) σ H := by
  refine ⟨by rw [r.len, wipe_length], r.hd, fun i p q => ?_, fun i a o q => ?_⟩
  · obtain ⟨m, _⟩ := forgetS_view q
    have z := r.env i p q
    rwa [wipe_get, if_neg m] at z
  · obtain ⟨m, _⟩ := forgetS_own q
    have z := r.own i a o q
    rwa [wipe_get, if_neg m] at z
end
theorem visL_push {D : Addr} {L : List Addr} {H : Hp} : visL (D :: L) H = visL L (hid H D) := by
  funext b
  unfold visL hid
  by_cases e : b = D
  · subst e
    rw [if_pos (by simp)]
    by_cases m : b ∈ L
    · rw [if_pos m]
    · rw [if_neg m, if_pos rfl]
  · by_cases m : b ∈ L
    · rw [if_pos (by simp [m]), if_pos m]
    · rw [if_neg (by simp [e, m]), if_neg m, if_neg e]
section
variable {X : Cx} {S : List Sl} {α : Type} {tg iter elt : Expr} {f : α → PV} {as : List α} {b : α → List (Nat × PV)} {σ : L2.St} {H : Hp} {scope : Scope} {q : α → Bool}
theorem lc_readX (pat : Pat) {tt : TT} (P : Nat → List PV → List Sl → Prop) (hi : IU X tg iter (view S) f as) (hz : as.length ≤ 1000000) (hb : ∀ a ∈ as, pat.bind (f a) = some (b a)) (r : Rep S σ H) (hn : ∀ v ∈ pat.vars, NotOwn S v)
    (h0 : P 0 [] (forgetS S pat.vars))
    (ht : ∀ i a ps S1, as[i]? = some a → P i ps S1 → ∀ σ2 h, Rep (setS S1 (b a)) σ2 h → ∀ D acc H2, H2 D = some (.lst acc) → hid H2 D = h → ∀ Q : Bool → Hp → Prop, (∀ H3, H3 D = some (.lst acc) → Ex h (hid H3 D) → Q (q a) H3) → tt σ2 H2 Q)
    (hs : ∀ i a ps S1, as[i]? = some a → P i ps S1 → (∀ c ∈ b a, NotOwn S1 c.1) ∧ (q a = false → P (i + 1) ps S1) ∧ (q a = true → ∀ s H0 C cl fp, XW (X.blk s H0 scope (compEnvC scope cl C X.env) fp) elt (setS S1 (b a)) fun p S2 => (∀ v ∈ pat.vars, NotOwn S2 v) ∧ P (i + 1) (ps ++ [p]) (forgetS S2 pat.vars))) :
    ∃ wi, PI X tg iter wi ∧ ∀ Q : VK, (∀ ps S' v H', P as.length ps S' → Rep S' σ H' → (PV.lst ps).Is v (vis S' H') → Ex (vis S H) (vis S' H') → Q v H') → tLc wi (gPat X.K pat) tt (UE X scope elt) pat.vars σ H Q := by
  obtain ⟨wi, hpi, hw⟩ := hi (adrs S) σ H r.hd (by rw [view_len]; exact r.len) r.env
  refine ⟨wi, hpi, fun Q hQ => hw H (Ex.refl H) _ fun J H2 G Y e2 W WG D hD => ?_⟩
  have r2 := r.up e2
  have rf := rep_forget r2 hn
  refine lc_it W (fun i H' => ∃ acc ps S1, H' D = some (.lst acc) ∧ acc.length ≤ i ∧ P i ps S1 ∧ S1 = forgetS S1 pat.vars ∧ Rep S1 (wipe σ pat.vars) (hid H' D) ∧ Ex (vis S H2) (vis S1 (hid H' D)) ∧ PV.Iss ps acc (vis S1 (hid H' D))) ⟨[], [], forgetS S pat.vars, upd_same, Nat.le_refl _, h0, forgetS_idem.symm, ?_, ?_, rfl⟩
    (fun i H' _ ⟨acc, ps, S1, h1, _, _, _, h2, h3, _⟩ => WG.g H' (h3.trans (ex_vis.trans ex_hid1)))
    (fun i x Ha Hb hi ⟨acc, ps, S1, h1, hlen, hP, hf, h2, h3, h4⟩ y => ?_) (fun H' ⟨acc, ps, S1, h1, hlen, hP, hf, h2, h3, h4⟩ => ?_)
  · rw [hid_upd hD]; exact rf
  · rw [hid_upd hD, vis_forget hn]; exact Ex.refl _
  · obtain ⟨eb, a, ha, ra⟩ := WG.y (D :: adrs S1) i Ha x Hb (by rw [visL_push]; exact h3) (fun c hc => by
      rcases List.mem_cons.mp hc with z | z
      · subst z; exact ⟨_, h1⟩
      · obtain ⟨w, q, _⟩ := h2.hd.some c z
        exact ⟨w, ex_hid1 _ _ q⟩) y
    rw [visL_push] at ra
    have hbD : Hb D = some (.lst acc) := eb _ _ h1
    have r1b : Rep S1 (wipe σ pat.vars) (hid Hb D) := h2.up (ex_hid2 eb)
    have hmem : a ∈ as := List.mem_of_getElem? ha
    obtain ⟨hn1, hq0, hq1⟩ := hs i a ps S1 ha hP
    refine gPat_run (h := vis S1 (hid Hb D)) (fun p o hp => ex_hid1 _ _ (ex_vis _ _ hp)) (hb a hmem) ra fun σ2 hT => ⟨wipe_bound (bind_vars (hb a hmem)) hT |>.trans wipe_idem, ?_⟩
    have r3 := rep_bound r1b hn1 hT
    have ev3 : vis (setS S1 (b a)) (hid Hb D) = vis S1 (hid Hb D) := by show visL _ _ = visL _ _; rw [(setS_adr hn1).1]
    refine ht i a ps S1 ha hP σ2 (hid Hb D) r3 D acc Hb hbD rfl _ fun H3 h3D e3 => ?_
    cases hq : q a with
    | false =>
      rw [if_neg Bool.false_ne_true]
      have ex3 : Ex (vis S1 (hid Ha D)) (vis S1 (hid H3 D)) := ex_visL ((ex_hid2 eb).trans e3)
      exact ⟨acc, ps, S1, h3D, by omega, hq0 hq, hf, r1b.up e3, h3.trans ex3, h4.up ex3⟩
    | true =>
      rw [if_pos rfl]
      intro s H0 C cl fp
      refine ew_hid h3D ?_
      refine ew_mono (hq1 hq s H0 C cl fp σ2 (hid H3 D) (r3.up e3)) fun v H4 ⟨p, S2, ⟨hn2, hP2⟩, r4, i4, e4⟩ n4 => ?_
      have hE : Ex (vis S1 (hid Ha D)) (vis S2 H4) := by
        have : Ex (vis S1 (hid Ha D)) (vis (setS S1 (b a)) (hid H3 D)) := by
          have z := ex_visL (L := adrs S1) ((ex_hid2 (p := D) eb).trans e3)
          show Ex (visL _ _) (visL _ _)
          rw [(setS_adr hn1).1]
          exact z
        exact this.trans e4
      refine ⟨acc, upd_same, ?_, acc ++ [v], ps ++ [p], forgetS S2 pat.vars, upd_same, by rw [List.length_append]; show acc.length + 1 ≤ i + 1; omega, hP2, forgetS_idem.symm, ?_, ?_, ?_⟩
      · have : i < as.length := (List.getElem?_eq_some_iff.mp ha).1
        exact Nat.lt_of_le_of_lt (show acc.length ≤ 1000000 by omega) (by decide)
      · rw [upd_upd, hid_upd n4]
        have z := rep_forget r4 hn2
        rwa [show wipe σ2 pat.vars = wipe σ pat.vars from wipe_bound (bind_vars (hb a hmem)) hT |>.trans wipe_idem] at z
      · rw [upd_upd, hid_upd n4, vis_forget hn2]
        exact h3.trans hE
      · rw [upd_upd, hid_upd n4, vis_forget hn2]
        exact iss_app (h4.up hE) ⟨v, [], rfl, i4, rfl⟩
  · rw [hf] at h2
    have r5 := rep_unwipe h2
    rw [← hf] at r5
    refine hQ ps S1 _ H' hP (r5.up ex_hid1) ⟨D, acc, rfl, ?_, h4.up (ex_visL ex_hid1)⟩ ((ex_visL e2).trans (h3.trans (ex_visL ex_hid1)))
    have nD : D ∉ adrs S1 := fun z => by
      obtain ⟨w, q, _⟩ := r5.hd.some D z
      rw [hid_same] at q; cases q
    show visL _ _ D = _
    unfold visL
    rw [if_neg nD]
    exact h1
variable {Φ : Phi} {D : VE} {rest : List Stmt} {pos spos py : Pos} {y : Str} {own : List (Str × Nat)} {t : Expr} {S' : List Sl}
/-- [elt for tg in iter], elements that may change own objects -/
theorem xw_lc (pat : Pat) (P : Nat → List PV → List Sl → Prop) (hN : X.N.Nodup) (hi : IU X tg iter (view S) f as) (hz : as.length ≤ 1000000) (h0 : P 0 [] (forgetS S pat.vars))
    (hs : ∀ i a ps S1, as[i]? = some a → P i ps S1 → (∀ c ∈ b a, NotOwn S1 c.1) ∧ ∀ s H0 C cl fp, XW (X.blk s H0 scope (compEnvC scope cl C X.env) fp) elt (setS S1 (b a)) fun p S2 => (∀ v ∈ pat.vars, NotOwn S2 v) ∧ P (i + 1) (ps ++ [p]) (forgetS S2 pat.vars))
    (k : ∀ ps S', P as.length ps S' → Φ (.lst ps) S')
    (hg : ∀ (s : Shared) (H : Hp) (C : Addr) (cl : List (Str × Addr)) (fp : List Addr), PG (X.blk s H scope (compEnvC scope cl C X.env) fp) tg (gPat X.K pat)) (hb : ∀ a ∈ as, pat.bind (f a) = some (b a) := by exact fun _ _ => rfl) (hn : ∀ v ∈ pat.vars, NotOwn S v := by decide)
    (hv : own.map (·.2) = pat.vars := by rfl) (ok : BlkOk X.N X.env.scope scope own := by exact blkOk_by (by rfl)) (hc : X.calm = true := by rfl) (hf : ∀ x, foldedSetIterable iter X.env x = pure x := by intro _; rfl) :
    XW X (.ListComp elt [⟨tg, iter, [], 0⟩] scope pos) S Φ := fun σ H r => by
  obtain ⟨wi, hpi, h⟩ := lc_readX (tt := tYes) (q := fun _ => true) (scope := scope) (elt := elt) pat P hi hz hb r hn h0 (fun i a ps S1 _ _ σ2 h _ D acc H2 h1 h2 Q hQ => hQ H2 h1 (by rw [h2]; exact Ex.refl _))
    fun i a ps S1 ha hP => ⟨(hs i a ps S1 ha hP).1, (fun z => nomatch z), fun _ => (hs i a ps S1 ha hP).2⟩
  exact fun pins s I => (pe_lc (own := own) hc hN hpi ok hg (fun _ _ _ _ _ => pts_nil) ue_pe hf).run pins s σ H _ I (by rw [hv]; exact h _ fun ps S' v H' hP r' i' e' => ⟨_, S', k ps S' hP, r', i', e'⟩)
/-- y = [elt for tg in iter] -/
theorem bv_asgLcX (j : Nat) (pat : Pat) (P : Nat → List PV → List Sl → Prop) (hN : X.N.Nodup) (hi : IU X tg iter (view S) f as) (hz : as.length ≤ 1000000) (h0 : P 0 [] (forgetS S pat.vars))
    (hs : ∀ i a ps S1, as[i]? = some a → P i ps S1 → (∀ c ∈ b a, NotOwn S1 c.1) ∧ ∀ s H0 C cl fp, XW (X.blk s H0 scope (compEnvC scope cl C X.env) fp) elt (setS S1 (b a)) fun p S2 => (∀ v ∈ pat.vars, NotOwn S2 v) ∧ P (i + 1) (ps ++ [p]) (forgetS S2 pat.vars))
    (k : ∀ ps S', P as.length ps S' → NotOwn S' j ∧ BV X rest (S'.set j (.pv (.lst ps))) D)
    (hg : ∀ (s : Shared) (H : Hp) (C : Addr) (cl : List (Str × Addr)) (fp : List Addr), PG (X.blk s H scope (compEnvC scope cl C X.env) fp) tg (gPat X.K pat)) (hb : ∀ a ∈ as, pat.bind (f a) = some (b a) := by exact fun _ _ => rfl) (hn : ∀ v ∈ pat.vars, NotOwn S v := by decide)
    (hv : own.map (·.2) = pat.vars := by rfl) (ok : BlkOk X.N X.env.scope scope own := by exact blkOk_by (by rfl)) (hc : X.calm = true := by rfl) (hf : ∀ x, foldedSetIterable iter X.env x = pure x := by intro _; rfl)
    (hy : X.N[j]? = some y := by rfl) (hyl : X.env.scope.names.lookup y = some .local := by rfl) (hsw : swapsWith (.ListComp elt [⟨tg, iter, [], 0⟩] scope pos) (some (.Name y py)) spos.line X.env = pure true := by rfl) :
    BV X (.Assign [.Name y py] (.ListComp elt [⟨tg, iter, [], 0⟩] scope pos) spos :: rest) S D := fun σ H r => by
  obtain ⟨wi, hpi, h⟩ := lc_readX (tt := tYes) (q := fun _ => true) (scope := scope) (elt := elt) pat P hi hz hb r hn h0 (fun i a ps S1 _ _ σ2 h _ D acc H2 h1 h2 Q hQ => hQ H2 h1 (by rw [h2]; exact Ex.refl _))
    fun i a ps S1 ha hP => ⟨(hs i a ps S1 ha hP).1, (fun z => nomatch z), fun _ => (hs i a ps S1 ha hP).2⟩
  refine b_of (ps_setLc (own := own) hc hN hy hyl hsw hpi ok hg (fun _ _ _ _ _ => pts_nil) ue_pe hf) ?_
  show tLc wi _ _ _ _ σ H _
  rw [hv]
  refine h _ fun ps S' v H' hP r' i' e' => ?_
  obtain ⟨n1, k1⟩ := k ps S' hP
  refine k1.at (r'.setP n1 i') (e'.trans ?_)
  rw [show vis (S'.set j (.pv (.lst ps))) H' = vis S' H' from by show visL _ _ = visL _ _; rw [adrs_pure n1 rfl]]
  exact Ex.refl _
/-- .. with tests that are data -/
theorem bv_asgLcT (j : Nat) {gg : α → PV} (pat : Pat) (hN : X.N.Nodup) (hi : IU X tg iter (view S) f as) (hz : as.length ≤ 1000000)
    (ht : ∀ a ∈ as, ∀ s H0 C cl fp, TV (X.blk s H0 scope (compEnvC scope cl C X.env) fp) t (view (setS (forgetS S pat.vars) (b a))) (q a))
    (he : ∀ a ∈ as, q a = true → ∀ s H0 C cl fp, EV (X.blk s H0 scope (compEnvC scope cl C X.env) fp) elt (view (setS (forgetS S pat.vars) (b a))) (gg a))
    (hg : ∀ (s : Shared) (H : Hp) (C : Addr) (cl : List (Str × Addr)) (fp : List Addr), PG (X.blk s H scope (compEnvC scope cl C X.env) fp) tg (gPat X.K pat))
    (k : BV X rest S' D) (hS : (forgetS S pat.vars).set j (.pv (.lst ((as.filter q).map gg))) = S' := by rfl) (hj : NotOwn S j := by rfl) (hbv : ∀ a ∈ as, (b a).map (·.1) = pat.vars := by exact fun _ _ => rfl)
    (hb : ∀ a ∈ as, pat.bind (f a) = some (b a) := by exact fun _ _ => rfl) (hn : ∀ v ∈ pat.vars, NotOwn S v := by decide)
    (hv : own.map (·.2) = pat.vars := by rfl) (ok : BlkOk X.N X.env.scope scope own := by exact blkOk_by (by rfl)) (hc : X.calm = true := by rfl) (hf : ∀ x, foldedSetIterable iter X.env x = pure x := by intro _; rfl)
    (hy : X.N[j]? = some y := by rfl) (hyl : X.env.scope.names.lookup y = some .local := by rfl) (hsw : swapsWith (.ListComp elt [⟨tg, iter, [t], 0⟩] scope pos) (some (.Name y py)) spos.line X.env = pure true := by rfl) :
    BV X (.Assign [.Name y py] (.ListComp elt [⟨tg, iter, [t], 0⟩] scope pos) spos :: rest) S D := fun σ H r => by
  have nb : ∀ a ∈ as, ∀ c ∈ b a, NotOwn (forgetS S pat.vars) c.1 := fun a ha c hc => forgetS_notOwn (hn c.1 (by rw [← hbv a ha]; exact List.mem_map_of_mem hc))
  have fw : ∀ a ∈ as, forgetS (setS (forgetS S pat.vars) (b a)) pat.vars = forgetS S pat.vars := fun a ha => by
    have gen : ∀ (bs : List (Nat × PV)) (T : List Sl), (∀ c ∈ bs, c.1 ∈ pat.vars) → forgetS (setS T bs) pat.vars = forgetS T pat.vars := by
      intro bs
      induction bs with
      | nil => intro T _; rfl
      | cons c bs ih =>
        intro T hc
        show forgetS (setS (T.set c.1 (.pv c.2)) bs) pat.vars = _
        rw [ih _ fun d hd => hc d (by simp [hd])]
        apply List.ext_getElem?
        intro i
        rw [forgetS_get, forgetS_get]
        by_cases m : i ∈ pat.vars
        · rw [if_pos m, if_pos m, List.length_set]
        · rw [if_neg m, if_neg m, List.getElem?_set_ne fun z => m (by rw [← z]; exact hc c (by simp))]
    rw [gen _ _ fun c hc => by rw [← hbv a ha]; exact List.mem_map_of_mem hc, forgetS_idem]
  have mem : ∀ {i : Nat} {a : α}, as[i]? = some a → a ∈ as := fun h => List.mem_of_getElem? h
  obtain ⟨wi, hpi, h⟩ := lc_readX (tt := UT X scope t) (q := q) (scope := scope) (elt := elt) pat (fun i ps S1 => S1 = forgetS S pat.vars ∧ ps = ((as.take i).filter q).map gg) hi hz hb r hn ⟨rfl, by rw [List.take_zero]; rfl⟩
    (fun i a ps S1 ha ⟨e1, _⟩ σ2 h r2 D acc H2 h1 h2 Q hQ s H0 C cl fp => by
      subst e1
      refine tw_hid h1 ?_
      subst h2
      exact (r2.tv (ht a (mem ha) s H0 C cl fp)) (hid H2 D) (Ex.refl _) _ fun H3 e3 n3 => hQ _ upd_same (by rw [hid_upd n3]; exact e3))
    fun i a ps S1 ha ⟨e1, e2⟩ => by
      subst e1 e2
      refine ⟨nb a (mem ha), fun hq => ⟨rfl, ?_⟩, fun hq s H0 C cl fp => xw_ev (he a (mem ha) hq s H0 C cl fp) ⟨fun v hv => ?_, fw a (mem ha), ?_⟩⟩
      · rw [take_snoc ha, List.filter_append, List.filter_cons, hq]; simp
      · exact (setS_adr (nb a (mem ha))).2 v (forgetS_notOwn (hn v hv))
      · rw [take_snoc ha, List.filter_append, List.filter_cons, hq]; simp
  refine b_of (ps_setLc (own := own) hc hN hy hyl hsw hpi ok hg (fun _ _ _ _ _ => pts_one (ut_pt _ _ _ _ _)) ue_pe hf) ?_
  show tLc wi _ _ _ _ σ H _
  rw [hv]
  refine h _ fun ps S1 v H' ⟨e1, e2⟩ r' i' e' => ?_
  subst e1 hS
  rw [List.take_length] at e2
  subst e2
  refine k.at (r'.setP (forgetS_notOwn hj) i') (e'.trans ?_)
  rw [show vis ((forgetS S pat.vars).set j (.pv (.lst ((as.filter q).map gg)))) H' = vis (forgetS S pat.vars) H' from by show visL _ _ = visL _ _; rw [adrs_pure (forgetS_notOwn hj) rfl]]
  exact Ex.refl _
theorem bv_asgLc (j : Nat) {gg : α → PV} (pat : Pat) (hN : X.N.Nodup) (hi : IU X tg iter (view S) f as) (hz : as.length ≤ 1000000)
    (he : ∀ a ∈ as, ∀ s H0 C cl fp, EV (X.blk s H0 scope (compEnvC scope cl C X.env) fp) elt (view (setS (forgetS S pat.vars) (b a))) (gg a))
    (hg : ∀ (s : Shared) (H : Hp) (C : Addr) (cl : List (Str × Addr)) (fp : List Addr), PG (X.blk s H scope (compEnvC scope cl C X.env) fp) tg (gPat X.K pat))
    (k : BV X rest S' D) (hS : (forgetS S pat.vars).set j (.pv (.lst (as.map gg))) = S' := by rfl) (hj : NotOwn S j := by rfl) (hbv : ∀ a ∈ as, (b a).map (·.1) = pat.vars := by exact fun _ _ => rfl)
    (hb : ∀ a ∈ as, pat.bind (f a) = some (b a) := by exact fun _ _ => rfl) (hn : ∀ v ∈ pat.vars, NotOwn S v := by decide)
    (hv : own.map (·.2) = pat.vars := by rfl) (ok : BlkOk X.N X.env.scope scope own := by exact blkOk_by (by rfl)) (hc : X.calm = true := by rfl) (hf : ∀ x, foldedSetIterable iter X.env x = pure x := by intro _; rfl)
    (hy : X.N[j]? = some y := by rfl) (hyl : X.env.scope.names.lookup y = some .local := by rfl) (hsw : swapsWith (.ListComp elt [⟨tg, iter, [], 0⟩] scope pos) (some (.Name y py)) spos.line X.env = pure true := by rfl) :
    BV X (.Assign [.Name y py] (.ListComp elt [⟨tg, iter, [], 0⟩] scope pos) spos :: rest) S D := by
  have nb : ∀ a ∈ as, ∀ c ∈ b a, NotOwn (forgetS S pat.vars) c.1 := fun a ha c hc => forgetS_notOwn (hn c.1 (by rw [← hbv a ha]; exact List.mem_map_of_mem hc))
  have fw : ∀ a ∈ as, forgetS (setS (forgetS S pat.vars) (b a)) pat.vars = forgetS S pat.vars := fun a ha => by
    have gen : ∀ (bs : List (Nat × PV)) (T : List Sl), (∀ c ∈ bs, c.1 ∈ pat.vars) → forgetS (setS T bs) pat.vars = forgetS T pat.vars := by
      intro bs
      induction bs with
      | nil => intro T _; rfl
      | cons c bs ih =>
        intro T hc
        show forgetS (setS (T.set c.1 (.pv c.2)) bs) pat.vars = _
        rw [ih _ fun d hd => hc d (by simp [hd])]
        apply List.ext_getElem?
        intro i
        rw [forgetS_get, forgetS_get]
        by_cases m : i ∈ pat.vars
        · rw [if_pos m, if_pos m, List.length_set]
        · rw [if_neg m, if_neg m, List.getElem?_set_ne fun z => m (by rw [← z]; exact hc c (by simp))]
    rw [gen _ _ fun c hc => by rw [← hbv a ha]; exact List.mem_map_of_mem hc, forgetS_idem]
  have mem : ∀ {i : Nat} {a : α}, as[i]? = some a → a ∈ as := fun h => List.mem_of_getElem? h
  refine bv_asgLcX j pat (fun i ps S1 => S1 = forgetS S pat.vars ∧ ps = (as.take i).map gg) hN hi hz ⟨rfl, by rw [List.take_zero]; rfl⟩ (fun i a ps S1 ha ⟨e1, e2⟩ => ?_) (fun ps S1 ⟨e1, e2⟩ => ?_) hg hb hn hv ok hc hf hy hyl hsw
  · subst e1 e2
    refine ⟨nb a (mem ha), fun s H0 C cl fp => xw_ev (he a (mem ha) s H0 C cl fp) ⟨fun v hv => ?_, fw a (mem ha), ?_⟩⟩
    · exact (setS_adr (nb a (mem ha))).2 v (forgetS_notOwn (hn v hv))
    · rw [take_snoc ha, List.map_append]; rfl
  · subst e1 e2 hS
    rw [List.take_length]
    exact ⟨forgetS_notOwn hj, k⟩
end
/-! ### targets that are attributes -/
def gAttr (X : Cx) (ta : TE) (f : Str) : L2.TG := fun v σ H Q => ta σ H fun x H1 => ∃ a C dx fs, x = .ref a ∧ H1 a = some (.ins C dx fs) ∧ Cls X.K C ∧ NoAttr X.K C f ∧ fs.length < 1000 ∧ Q σ (upd H1 a (.ins C dx (putF f v fs)))
theorem pg_attr {X : Cx} {o : Expr} {f : Str} {pos : Pos} {ta : TE} (ha : PE X o ta) : PG X (.Attribute o f pos) (gAttr X ta f) := by
  refine ⟨fun pins s σ H v u Q I r h => ?_⟩
  rw [assign.eq_2]
  refine wpAny_bind (wpAny_holding (thn (ha.run pins s σ H _ I h) fun ov s1 ⟨x, H1, I1, r1, a, C, dx, fs, ex, ea, c, n, l, q⟩ => ?_))
  subst ex
  obtain rfl : ov = Value.ref a := r1
  refine wpAny_bind (wpAny_standAt (wpAny_bind (wpAny_holding (setattr_ok I1 ea c n l r fun s2 I2 => ?_))))
  exact wpAny_release ⟨σ, _, I2, q⟩
section
variable {X : Cx} {S : List Sl} {D : VE} {rest : List Stmt} {S' : List Sl} {pos pt pt2 px py pz : Pos} {e1 e2 e3 : Expr} {p q r : PV} {x y z : Str} {kt k2 : Nat}
/-- a, b = e1, e2, names that no comprehension takes up -/
theorem bv_par2 (i j : Nat) (hN : X.N.Nodup) (h1 : EV X e1 (view S) p) (h2 : EV X e2 (view S) q) (k : BV X rest S' D) (hS : (S.set i (.pv p)).set j (.pv q) = S' := by rfl) (hni : NotOwn S i := by rfl) (hnj : NotOwn S j := by rfl) (hi : X.N[i]? = some x := by rfl) (hj : X.N[j]? = some y := by rfl) (hij : i ≠ j := by decide)
    (hx : X.env.scope.names.lookup x = some .local := by rfl) (hy : X.env.scope.names.lookup y = some .local := by rfl) (hc : X.calm = true := by rfl) (he : starEach [e1, e2] X.env = (false, eval e1 X.env) :: starEach [e2] X.env := by rfl) (he2 : starEach [e2] X.env = (false, eval e2 X.env) :: starEach [] X.env := by rfl)
    (hw : swappedStores [.Tuple [.Name x px, .Name y py] kt pt] (.Tuple [e1, e2] k2 pt2) X.env = pure (some [x, y]) := by rfl) (hs : swapsWithSole [.Tuple [.Name x px, .Name y py] kt pt] (.Tuple [e1, e2] k2 pt2) pos.line X.env = pure false := by rfl) :
    BV X (.Assign [.Tuple [.Name x px, .Name y py] kt pt] (.Tuple [e1, e2] k2 pt2) pos :: rest) S D := fun σ H re => by
  refine b_of (ps_par hc hN hi hj hij hx hy (pa_cons pe_W (pa_cons pe_W pa_nil he2) he) hw hs) ?_
  refine re.ev h1 H (Ex.refl H) _ fun v H1 e1 pv => (re.up e1).ev h2 H1 (Ex.refl _) _ fun w H2 e2 pw => ⟨v, w, rfl, ?_⟩
  have r2 := (re.up e1).up e2
  have r3 := r2.setP hni (pv.up (ex_visL e2))
  have ea : adrs (S.set i (.pv p)) = adrs S := adrs_pure hni rfl
  have ev3 : vis (S.set i (.pv p)) H2 = vis S H2 := by show visL _ _ = visL _ _; rw [ea]
  have hnj2 : NotOwn (S.set i (.pv p)) j := by
    unfold NotOwn at *
    rw [List.getElem?_set_ne hij]
    exact hnj
  have r4 := r3.setP (p := q) (v := w) hnj2 (by rw [ev3]; exact pw)
  subst hS
  refine k.at r4 ?_
  rw [show vis ((S.set i (.pv p)).set j (.pv q)) H2 = vis S H2 from by show visL _ _ = visL _ _; rw [adrs_pure hnj2 rfl, ea]]
  exact ex_visL (e1.trans e2)
theorem bv_par3 (i j l : Nat) (hN : X.N.Nodup) (h1 : EV X e1 (view S) p) (h2 : EV X e2 (view S) q) (h3 : EV X e3 (view S) r) (k : BV X rest S' D) (hS : ((S.set i (.pv p)).set j (.pv q)).set l (.pv r) = S' := by rfl) (hni : NotOwn S i := by rfl) (hnj : NotOwn S j := by rfl) (hnl : NotOwn S l := by rfl) (hi : X.N[i]? = some x := by rfl) (hj : X.N[j]? = some y := by rfl) (hl : X.N[l]? = some z := by rfl) (hij : i ≠ j := by decide) (hil : i ≠ l := by decide) (hjl : j ≠ l := by decide)
    (hx : X.env.scope.names.lookup x = some .local := by rfl) (hy : X.env.scope.names.lookup y = some .local := by rfl) (hz : X.env.scope.names.lookup z = some .local := by rfl) (hc : X.calm = true := by rfl) (he : starEach [e1, e2, e3] X.env = (false, eval e1 X.env) :: starEach [e2, e3] X.env := by rfl) (he2 : starEach [e2, e3] X.env = (false, eval e2 X.env) :: starEach [e3] X.env := by rfl) (he3 : starEach [e3] X.env = (false, eval e3 X.env) :: starEach [] X.env := by rfl)
    (hw : swappedStores [.Tuple [.Name x px, .Name y py, .Name z pz] kt pt] (.Tuple [e1, e2, e3] k2 pt2) X.env = pure (some [x, y, z]) := by rfl) (hs : swapsWithSole [.Tuple [.Name x px, .Name y py, .Name z pz] kt pt] (.Tuple [e1, e2, e3] k2 pt2) pos.line X.env = pure false := by rfl) :
    BV X (.Assign [.Tuple [.Name x px, .Name y py, .Name z pz] kt pt] (.Tuple [e1, e2, e3] k2 pt2) pos :: rest) S D := fun σ H re => by
  refine b_of (ps_par3 hc hN hi hj hl hij hil hjl hx hy hz (pa_cons pe_W (pa_cons pe_W (pa_cons pe_W pa_nil he3) he2) he) hw hs) ?_
  refine re.ev h1 H (Ex.refl H) _ fun v H1 e1 pv => (re.up e1).ev h2 H1 (Ex.refl _) _ fun w H2 e2 pw => ((re.up e1).up e2).ev h3 H2 (Ex.refl _) _ fun u H3 e3 pu => ⟨v, w, u, rfl, ?_⟩
  have r2 := ((re.up e1).up e2).up e3
  have r3 := r2.setP hni (pv.up (ex_visL (e2.trans e3)))
  have ea : adrs (S.set i (.pv p)) = adrs S := adrs_pure hni rfl
  have hnj2 : NotOwn (S.set i (.pv p)) j := by
    unfold NotOwn at *
    rw [List.getElem?_set_ne hij]
    exact hnj
  have ea2 : adrs ((S.set i (.pv p)).set j (.pv q)) = adrs S := by rw [adrs_pure hnj2 rfl, ea]
  have hnl2 : NotOwn ((S.set i (.pv p)).set j (.pv q)) l := by
    unfold NotOwn at *
    rw [List.getElem?_set_ne hjl, List.getElem?_set_ne hil]
    exact hnl
  have r4 := r3.setP (p := q) (v := w) hnj2 (by rw [show vis (S.set i (.pv p)) H3 = vis S H3 from by show visL _ _ = visL _ _; rw [ea]]; exact pw.up (ex_visL e3))
  have r5 := r4.setP (p := r) (v := u) hnl2 (by rw [show vis ((S.set i (.pv p)).set j (.pv q)) H3 = vis S H3 from by show visL _ _ = visL _ _; rw [ea2]]; exact pu)
  subst hS
  refine k.at r5 ?_
  rw [show vis (((S.set i (.pv p)).set j (.pv q)).set l (.pv r)) H3 = vis S H3 from by show visL _ _ = visL _ _; rw [adrs_pure hnl2 rfl, ea2]]
  exact ex_visL ((e1.trans e2).trans e3)
end
end E
set_option maxHeartbeats 4000000
/-! E14: small tactics of the printed proofs; more rules. -/
namespace E
open PySem PySem.Spec PyProof.Rows L2 Evl G He
theorem bt_le {i : Int} {n m : Nat} [h : Bt i n] (k : n ≤ m) : i.natAbs < 2 ^ m := b_up h.lt k
theorem smc_le {q : Rat} {n m : Nat} [h : SmC n q] (k : n ≤ m) : G.Sm m q := h.sm.mono k
theorem isi_by {K : PySem.W.Frag} {p : PV} {u t : Value} {b : Bool} (h1 : TyP K p t) (h2 : PySem.W.kitOne K t u = some b) : Isi K p u b := ⟨t, h1, h2⟩
theorem ofF {p : Prop} [Decidable p] (h : decide p = false) : ¬ p := of_decide_eq_false h
theorem ofT {p : Prop} [Decidable p] (h : decide p = true) : p := of_decide_eq_true h
theorem mulw_of {i j : Int} {n m : Nat} [h1 : Bt i n] [h2 : Bt j m] (h : n + m ≤ 1000000) : CMulW i j := mul_w h1.lt h2.lt h
theorem divw_of {i j : Int} {m : Nat} (h0 : 0 < j) [h2 : Bt j m] (h : m ≤ 9000) : CDivW i j := div_w h0 h2.lt h
theorem mulw_64 {i j : Int} (h1 : i.natAbs < 2 ^ 64) (h2 : j.natAbs < 2 ^ 64) : CMulW i j := mul_w h1 h2 (by decide)
theorem int_bt {i : Int} {n : Nat} (h : i.natAbs < 2 ^ n) : Bt i n := ⟨h⟩
section
variable {X : Cx} {ρ : Rho} {a b c e l : Expr} {es : List Expr} {pos pp p2 : Pos} {p q r : PV} {ps qs : List PV} {x : Str} {i j : Int} {bb bc : Bool} {n m : Nat}
theorem ev_mulV (ha : EV X a ρ (.int i)) (hb : EV X b ρ (.int j)) (h : CMulW i j := by first | exact mulw_of (by decide) | exact mulw_64 (by omega) (by omega)) : EV X (.BinOp a .Mult b pos) ρ (.int (i * j)) := ev_mulW h ha hb
theorem ev_fdivV (ha : EV X a ρ (.int i)) (hb : EV X b ρ (.int j)) (h0 : 0 < j := by first | (simp <;> omega) | exact Int.mul_pos (q_dpos _) (q_dpos _) | exact q_dpos _ | with_reducible rfl | assumption | omega) (h : CDivW i j := by exact divw_of (by first | (simp <;> omega) | exact Int.mul_pos (q_dpos _) (q_dpos _) | exact q_dpos _ | with_reducible rfl | assumption | omega) (by decide)) : EV X (.BinOp a .FloorDiv b pos) ρ (.int (i / j)) := ev_fdivW h ha hb
theorem ev_modV (ha : EV X a ρ (.int i)) (hb : EV X b ρ (.int j)) (hc : 0 < j := by first | (simp <;> omega) | exact Int.mul_pos (q_dpos _) (q_dpos _) | exact q_dpos _ | with_reducible rfl | assumption | omega) : EV X (.BinOp a .Mod b pos) ρ (.int (i % j)) := ev_mod hc ha hb
theorem ev_powV (k : Nat) (ha : EV X a ρ (.int i)) (hb : EV X b ρ (.int (k : Int))) (hk : k ≤ 1000 := by decide) (hi : i.natAbs < 2 ^ 64 := by first | assumption | exact bt_le (by decide) | omega) : EV X (.BinOp a .Pow b pos) ρ (.int (i ^ k)) := ev_pow hk hi ha hb
theorem ev_lcmV (hm : X.mg x = some (.builtin "math.lcm")) (ha : EV X a ρ (.int i)) (hb : EV X b ρ (.int j)) (h1 : 0 < i := by first | (simp <;> omega) | exact Int.mul_pos (q_dpos _) (q_dpos _) | exact q_dpos _ | with_reducible rfl | assumption | omega) (h2 : 0 < j := by first | (simp <;> omega) | exact Int.mul_pos (q_dpos _) (q_dpos _) | exact q_dpos _ | with_reducible rfl | assumption | omega) (h3 : i.natAbs < 2 ^ 6000 := by first | assumption | exact bt_le (by decide) | omega) (h4 : j.natAbs < 2 ^ 6000 := by first | assumption | exact bt_le (by decide) | omega) (hg : Gl X x := by rfl) (hdb : (x == ("__debug__" : Str)) = false := by decide) (he : starEach [a, b] X.env = (false, eval a X.env) :: starEach [b] X.env := by rfl) (he2 : starEach [b] X.env = (false, eval b X.env) :: starEach [] X.env := by rfl)
    (hpl : (backTo pos (starEach [b] X.env)).any (·.1) = false := by rfl) : EV X (.Call (.Name x pp) [a, b] [] pos) ρ (.int ((Nat.lcm i.natAbs j.natAbs : Nat) : Int)) := ev_lcm hm h1 h2 h3 h4 ha hb hg hdb he he2 hpl
end
def notOwnB (S : List Sl) (i : Nat) : Bool := ((S[i]?).map Sl.pure).getD true
theorem nown {S : List Sl} {bs : List (Nat × PV)} (h : (bs.all fun c => notOwnB S c.1) = true) : ∀ c ∈ bs, NotOwn S c.1 := fun c hc => List.all_eq_true.mp h c hc
theorem nownV {S : List Sl} {vs : List Nat} (h : (vs.all fun v => notOwnB S v) = true) : ∀ v ∈ vs, NotOwn S v := fun v hv => List.all_eq_true.mp h v hv
theorem smc_of {q : Rat} {n : Nat} (h : G.Sm n q) : SmC n q := ⟨h⟩
end E
set_option maxHeartbeats 4000000
/-! E15: what is read of an own object and holds no object of its class; two fields at once. -/
namespace E
open PySem PySem.Spec PyProof.Rows L2 Evl G He
mutual
def PV.noIns (C : Addr) : PV → Prop
  | .lst xs => PV.noInss C xs
  | .tup xs => PV.noInss C xs
  | .dct _ xs => PV.noInss C xs
  | .ins D _ xs => D ≠ C ∧ PV.noInss C xs
  | _ => True
def PV.noInss (C : Addr) : List PV → Prop
  | [] => True
  | x :: xs => x.noIns C ∧ PV.noInss C xs
end
def okO (C : Addr) : HO → Prop
  | .ins D _ _ => D ≠ C
  | .own _ => False
  | _ => True
def ExN (C : Addr) (h1 h2 : Hp) : Prop := ∀ b o, h1 b = some o → okO C o → h2 b = some o
mutual
theorem PV.Is.exn {C : Addr} {H H' : Hp} (e : ExN C H H') : ∀ {p : PV} {v : V}, p.noIns C → p.Is v H → p.Is v H'
  | .non, _, _, h => h
  | .bl _, _, _, h => h
  | .int _, _, _, h => h
  | .str _, _, _, h => h
  | .ty _, _, _, h => h
  | .ref _, _, _, h => h
  | .lst _, _, n, ⟨a, vs, h1, h2, h3⟩ => ⟨a, vs, h1, e _ _ h2 trivial, PV.Iss.exn e n h3⟩
  | .tup _, _, n, ⟨a, vs, h1, h2, h3⟩ => ⟨a, vs, h1, e _ _ h2 trivial, PV.Iss.exn e n h3⟩
  | .dct _ _, _, n, ⟨a, vs, h1, h2, h3, h4⟩ => ⟨a, vs, h1, e _ _ h2 trivial, h3, PV.Iss.exn e n h4⟩
  | .ins _ _ _, _, n, ⟨a, dx, vs, h1, h2, h3, h4⟩ => ⟨a, dx, vs, h1, e _ _ h2 n.1, h3, PV.Iss.exn e n.2 h4⟩
theorem PV.Iss.exn {C : Addr} {H H' : Hp} (e : ExN C H H') : ∀ {ps : List PV} {vs : List V}, PV.noInss C ps → PV.Iss ps vs H → PV.Iss ps vs H'
  | [], _, _, h => h
  | _ :: _, _, n, ⟨y, r, h1, h2, h3⟩ => ⟨y, r, h1, PV.Is.exn e n.1 h2, PV.Iss.exn e n.2 h3⟩
end
theorem noInss_map {C : Addr} {α : Type} {f : α → PV} (h : ∀ a, (f a).noIns C) : ∀ {as : List α}, PV.noInss C (as.map f)
  | [] => trivial
  | a :: as => ⟨h a, noInss_map h⟩
class NeC (A B : Addr) : Prop where
  ne : A ≠ B
class NoI (C : Addr) {α : Type} (f : α → PV) : Prop where
  no : ∀ a, (f a).noIns C
instance {C : Addr} : NoI C PV.int := ⟨fun _ => trivial⟩
instance {C : Addr} : NoI C PV.bl := ⟨fun _ => trivial⟩
instance {C : Addr} : NoI C PV.str := ⟨fun _ => trivial⟩
instance {C : Addr} {α : Type} {f : α → PV} [h : NoI C f] : NoI C (lsV f) := ⟨fun _ => noInss_map h.no⟩
instance {C : Addr} {α : Type} {f : α → PV} [h : NoI C f] : NoI C (tpV f) := ⟨fun _ => noInss_map h.no⟩
instance {C : Addr} {α β : Type} {f : α → PV} {g : β → PV} [h : NoI C f] [h2 : NoI C g] : NoI C (pr2 f g) := ⟨fun _ => ⟨h.no _, h2.no _, trivial⟩⟩
instance {C : Addr} {α β γ : Type} {f : α → PV} {g : β → PV} {k : γ → PV} [h : NoI C f] [h2 : NoI C g] [h3 : NoI C k] : NoI C (pr3 f g k) := ⟨fun _ => ⟨h.no _, h2.no _, h3.no _, trivial⟩⟩
instance {C : Addr} {K : PySem.W.Frag} [h : NeC (rK K) C] : NoI C (ratV K) := ⟨fun _ => ⟨h.ne, trivial, trivial, trivial, trivial⟩⟩
theorem ne_of_kit {K : PySem.W.Frag} {A B : Addr} (k : PySem.W.kitOne K (.ref A) (.ref B) = some false) : NeC A B := ⟨fun e => by
  subst e
  unfold PySem.W.kitOne at k
  rw [if_pos (by simp)] at k
  cases k⟩
section
variable {X : Cx} {S : List Sl} {D : VE} {rest : List Stmt} {S' : List Sl} {pos pp pq p1 p2 pt : Pos} {e : Expr} {es : List Expr} {p q : PV} {Φ : Phi} {x y m : Str} {α : Type}
theorem xw_borrowM (f : α → PV) (i : Nat) {y : α} {a C dx : Addr} {ks : List Str} {xs : List PV} (hS : S[i]? = some (.own a (.obj C dx ks xs))) (he : EV X e (view (S.set i (.pv (.ins C ks xs)))) (f y)) (k : Φ (f y) S) [hn : NoI C f] : XW X e S Φ := fun σ H r =>
  (r.freeze hS rfl).ev he H (Ex.refl H) _ fun v H2 e2 pv => ⟨_, S, k, r.up e2, PV.Is.exn (fun b o q k => by
    obtain ⟨_, ws, k1, k2, _⟩ := (r.up e2).own i a _ hS
    unfold vis visL at *
    by_cases z : b ∈ adrs S
    · exfalso
      rcases (mem_split hS b).mp z with z1 | z1
      · rcases List.mem_cons.mp z1 with z2 | z2
        · subst z2
          by_cases z3 : b ∈ adrs (S.set i (.pv (PV.ins C ks xs)))
          · rw [if_pos z3] at q; cases q
          · rw [if_neg z3, k1] at q
            cases q
            exact k rfl
        · rw [List.mem_singleton.mp z2] at q
          by_cases z3 : dx ∈ adrs (S.set i (.pv (PV.ins C ks xs)))
          · rw [if_pos z3] at q; cases q
          · rw [if_neg z3, k2] at q
            cases q
            exact k
      · have : b ∈ adrs (S.set i (.pv (PV.ins C ks xs))) := by
          obtain ⟨j, t, q1, q2⟩ := adrs_mem z1
          by_cases e : j = i
          · subst e
            have hl : j < S.length := (List.getElem?_eq_some_iff.mp hS).1
            rw [List.getElem?_set_self hl] at q1
            cases q1
            cases q2
          · rw [List.getElem?_set_ne (Ne.symm e)] at q1
            exact mem_adrs (i := j) (s := t) (by rw [List.getElem?_set_ne (Ne.symm e)]; exact q1) q2
        rw [if_pos this] at q
        cases q
    · rw [if_neg z]
      have : b ∉ adrs (S.set i (.pv (PV.ins C ks xs))) := fun z2 => z (sub_drop rfl b z2)
      rw [if_neg this] at q
      exact q) (hn.no y) pv, ex_visL e2⟩
/-- x.f, x.g = e; two new fields of an own instance -/
theorem bv_newf2 (i : Nat) {a C dx : Addr} {f g : Str} {ks : List Str} {xs : List PV} {kt : Nat} (c : Cls X.K C) (hnf : NoAttr X.K C f) (hng : NoAttr X.K C g)
    (he : XW X e S fun p S1 => S1 = S ∧ ∃ p1 p2, p = .tup [p1, p2] ∧ BV X rest (S.set i (.own a (.obj C dx (ks ++ [f] ++ [g]) (xs ++ [p1] ++ [p2])))) D) (hS : S[i]? = some (.own a (.obj C dx ks xs)) := by rfl) (hf : f ∉ ks := by decide +kernel) (hg : g ∉ ks ++ [f] := by decide +kernel) (hl : ks.length < 998 := by decide) (hN : X.N[i]? = some x := by rfl)
    (hv : Vis X.env.scope x := by first | exact Or.inl rfl | exact Or.inr (Or.inl rfl) | exact Or.inr (Or.inr rfl)) (hd : (x == ("__debug__" : Str)) = false := by decide) (hcd : (x == ("__classdict__" : Str)) = false := by decide) (hc : X.calm = true := by rfl)
    (hs : swapsWithSole [.Tuple [.Attribute (.Name x pp) f p1, .Attribute (.Name x pq) g p2] kt pt] e pos.line X.env = pure false := by rfl) (hw : swappedStores [.Tuple [.Attribute (.Name x pp) f p1, .Attribute (.Name x pq) g p2] kt pt] e X.env = pure none := by rfl)
    (h1 : (assignEach [.Tuple [.Attribute (.Name x pp) f p1, .Attribute (.Name x pq) g p2] kt pt] X.env).map (·.2) = [assign (.Tuple [.Attribute (.Name x pp) f p1, .Attribute (.Name x pq) g p2] kt pt) X.env] := by rfl) :
    BV X (.Assign [.Tuple [.Attribute (.Name x pp) f p1, .Attribute (.Name x pq) g p2] kt pt] e pos :: rest) S D := fun σ H r =>
  b_of (ps_asg pe_W (pg_tup hc (pgs_cons (pg_attr pe_W) (pgs_cons (pg_attr pe_W) pgs_nil))) hs hw h1) (ew_mono (he σ H r) fun v H1 ⟨p, S1, ⟨e0, p1, p2, ep, k⟩, r1, i1, e1⟩ => by
    subst e0 ep
    obtain ⟨t, vs, h1, h2, y1, s1, z1, i2, y2, s2, z2, i3, z3⟩ := i1
    subst z1 z2
    cases (show s2 = [] from z3)
    refine ⟨t, _, h1, SqT.of (ex_vis _ _ h2), rfl, y1, _, rfl, ?_⟩
    refine ew_own r1 hS hN hv hd hcd H1 (Ex.refl _) _ fun o H2 e2 ho => ?_
    have r2 := r1.up e2
    obtain ⟨_, ws, k1, k2, k3, k4⟩ := r2.own i a _ hS
    have hl1 : ks.length = ws.length := by rw [iss_len k4]; exact k3
    refine ⟨a, C, dx, _, ho, k1, c, hnf, by rw [List.length_zip]; omega, ?_⟩
    have i4 := iss_putFx (f := f) (ks := ks) (PV.Is.up (ex_visL e2) i2) k4
    have ndx : dx ≠ a := ne_of k2 k1 (by intro z; cases z)
    obtain ⟨r4, ev⟩ := r2.chg (u := .obj C dx (putFs ks f) (putFx ks xs f p1)) (H' := upd H2 a (.ins C dx (putF f y1 (ks.zip ws)))) hS rfl (fun b hb => upd_ne fun z => hb (by simp [PO.adr, z])) ⟨_, by rw [upd_same, putF_zip hl1], by rw [upd_ne ndx]; exact k2, putFx_len k3, i4⟩
    have eF : putFs ks f = ks ++ [f] := by unfold putFs; rw [if_neg hf]
    have eX : putFx ks xs f p1 = xs ++ [p1] := by unfold putFx; rw [if_neg hf]
    rw [eF, eX] at r4 ev
    have hSl : i < S1.length := (List.getElem?_eq_some_iff.mp hS).1
    have hS2 : (S1.set i (.own a (.obj C dx (ks ++ [f]) (xs ++ [p1]))))[i]? = some (.own a (.obj C dx (ks ++ [f]) (xs ++ [p1]))) := by rw [List.getElem?_set_self hSl]
    refine ⟨y2, [], rfl, ew_own r4 hS2 hN hv hd hcd _ (Ex.refl _) _ fun o2 H3 e3 ho2 => ?_⟩
    have r5 := r4.up e3
    obtain ⟨_, us, l1, l2, l3, l4⟩ := r5.own i a _ hS2
    have hl2 : (ks ++ [f]).length = us.length := by rw [iss_len l4]; exact l3
    refine ⟨a, C, dx, _, ho2, l1, c, hng, by rw [List.length_zip, List.length_append]; simp; omega, rfl, ?_⟩
    have ev2 := ev
    have i5 : p2.Is y2 (vis (S1.set i (.own a (.obj C dx (ks ++ [f]) (xs ++ [p1])))) H3) := by
      refine PV.Is.up (ex_visL e3) ?_
      rw [show visL (adrs (S1.set i (.own a (.obj C dx (ks ++ [f]) (xs ++ [p1]))))) (upd H2 a (.ins C dx (putF f y1 (ks.zip ws)))) = _ from ev]
      exact PV.Is.up (ex_visL e2) i3
    have i6 := iss_putFx (f := g) (ks := ks ++ [f]) i5 l4
    obtain ⟨r6, ev3⟩ := r5.chg (u := .obj C dx (putFs (ks ++ [f]) g) (putFx (ks ++ [f]) (xs ++ [p1]) g p2)) (H' := upd H3 a (.ins C dx (putF g y2 ((ks ++ [f]).zip us)))) hS2 rfl (fun b hb => upd_ne fun z => hb (by simp [PO.adr, z])) ⟨_, by rw [upd_same, putF_zip hl2], by rw [upd_ne (ne_of l2 l1 (by intro z; cases z))]; exact l2, putFx_len l3, i6⟩
    have eF2 : putFs (ks ++ [f]) g = ks ++ [f] ++ [g] := by unfold putFs; rw [if_neg hg]
    have eX2 : putFx (ks ++ [f]) (xs ++ [p1]) g p2 = xs ++ [p1] ++ [p2] := by unfold putFx; rw [if_neg hg]
    rw [eF2, eX2, List.set_set] at r6 ev3
    refine k.at r6 ?_
    rw [ev3]
    refine e1.trans ?_
    have x1 := ex_visL (L := adrs S1) e2
    refine x1.trans ?_
    have x2 := ex_visL (L := adrs (S1.set i (.own a (.obj C dx (ks ++ [f]) (xs ++ [p1]))))) e3
    rw [show visL (adrs (S1.set i (.own a (.obj C dx (ks ++ [f]) (xs ++ [p1]))))) (upd H2 a (.ins C dx (putF f y1 (ks.zip ws)))) = visL (adrs S1) H2 from ev] at x2
    exact x2)
end
end E
set_option maxHeartbeats 4000000
/-! E16: == and != of lists and tuples whose items answer == themselves. -/
namespace E16
open PySem PySem.SeqAt
open AutoSeq1 (wpAny_loadPart')
open MeetsSeq MeetsSeq2 MeetsSeq3 SeqRoads2
def allB (N : Nat) (c : Nat → Bool) : Bool := (List.range N).all c
theorem allB_true {N : Nat} {c : Nat → Bool} (h : ∀ j, j < N → c j = true) : allB N c = true := List.all_eq_true.mpr fun j hj => h j (List.mem_range.mp hj)
theorem allB_false {N i : Nat} {c : Nat → Bool} (h : i < N) (hc : c i = false) : allB N c = false := List.all_eq_false.mpr ⟨i, List.mem_range.mpr h, by simp [hc]⟩
section
variable {prog : Program} {w : World} {A : Around} {R : Result → Shared → Prop}
def Turns (prog : Program) (w : World) (A : Around) (E : Value → Shared → Prop) (p q : Addr) (N : Nat) (c : Nat → Bool) (J : Nat → Shared → Prop) : Prop := ∀ i s, J i s → ∃ (us vs : Array Value) (a1 a2 : Nat),
  s.heap.get? p = some { cls := .type "list", data := .seq us a1 } ∧ s.heap.get? q = some { cls := .type "list", data := .seq vs a2 } ∧ us.size = N ∧ vs.size = N ∧
    ∀ (l1 : i < us.size) (l2 : i < vs.size), wpAny (model prog w) A.in1 (eqBool us[i] vs[i]) (fun r s' => r = c i ∧ J (i + 1) s') E s

theorem loop_eq (p q : Addr) (N : Nat) (c : Nat → Bool) (J : Nat → Shared → Prop) (hT : Turns prog w A (fun e s' => R (.error e) s') p q N c J)
    (out : ∀ i s, J i s → R (.ok (.ret (.bool (allB N c)))) s) (m : Nat) : ∀ i : Nat, N - i = m → i ≤ N → (∀ j, j < i → c j = true) → ∀ s, J i s →
      wpAny (model prog w) A.in1 (Builtin.«list.__eq__.loop» ⟨[.ref p, .ref q, rawInt i, rawInt 2], []⟩) (GQ.FinOf prog w A R) (fun e s' => R (.error e) s') s := by
  induction m with
  | zero =>
    intro i hm hle hpre s hJ
    obtain ⟨us, vs, a1, a2, g1, g2, z1, z2, _⟩ := hT i s hJ
    have ei : i = N := by omega
    have hall : allB N c = true := allB_true fun j hj => hpre j (by omega)
    have fin := out i s hJ
    rw [hall] at fin
    obtain ⟨h0, h1, h2, h3, h4⟩ := s
    wp_walk using wpAny_loadPart' g1, wpAny_loadPart' g2
    rw [show us[((i : Nat) : Int).toNat]? = none from by simp; omega, show vs[((i : Nat) : Int).toNat]? = none from by simp; omega]
    wp_walk using wpAny_loadPart' g1, wpAny_loadPart' g2
    show R (.ok (.ret (.bool (us.size == vs.size)))) _
    rw [z1, z2]
    simpa using fin
  | succ m ih =>
    intro i hm hle hpre s hJ
    obtain ⟨us, vs, a1, a2, g1, g2, z1, z2, tn⟩ := hT i s hJ
    have l1 : i < us.size := by omega
    have l2 : i < vs.size := by omega
    have now := tn l1 l2
    obtain ⟨h0, h1, h2, h3, h4⟩ := s
    wp_walk using wpAny_loadPart' g1, wpAny_loadPart' g2
    rw [show us[((i : Nat) : Int).toNat]? = some us[i] from by simp [l1], show vs[((i : Nat) : Int).toNat]? = some vs[i] from by simp [l2]]
    refine wpAny_bind (wpAny_mono now (fun r t ⟨er, ht⟩ => ?_) fun _ _ x => x)
    subst er
    cases hc : c i with
    | true =>
      have again := ih (i + 1) (by omega) (by omega) (fun j hj => by
        rcases Nat.lt_or_ge j i with y | y
        · exact hpre j y
        · rw [show j = i from by omega]; exact hc) t ht
      obtain ⟨k0, k1, k2, k3, k4⟩ := t
      wp_walk
      rw [show ((i : Int) + 1) = ((i + 1 : Nat) : Int) from by omega]
      exact ⟨plainId_quiet plain_eq_loop _, codeAny_builtin entry_eq_loop (by rw [Around.under_plainId plain_eq_loop _]; exact again)⟩
    | false =>
      have hall : allB N c = false := allB_false (by omega : i < N) hc
      have fin := out _ t ht
      rw [hall] at fin
      obtain ⟨us', vs', b1, b2, g3, g4, z3, z4, _⟩ := hT _ t ht
      obtain ⟨k0, k1, k2, k3, k4⟩ := t
      wp_walk using wpAny_loadPart' g3, wpAny_loadPart' g4
      rw [show us'[((i : Nat) : Int).toNat]? = some us'[i] from by first | (simp; done) | (simp; omega), show vs'[((i : Nat) : Int).toNat]? = some vs'[i] from by first | (simp; done) | (simp; omega)]
      wp_walk
      simpa using fin
theorem list_eq (p q : Addr) (N : Nat) (c : Nat → Bool) (J : Nat → Shared → Prop) (hT : Turns prog w A (fun e s' => R (.error e) s') p q N c J)
    (out : ∀ i s, J i s → R (.ok (.ret (.bool (allB N c)))) s) {s : Shared} (hJ : J 0 s) : wpAny (model prog w) A.in1 (Builtin.«list.__eq__» ⟨[.ref p, .ref q], []⟩) (GQ.FinOf prog w A R) (fun e s' => R (.error e) s') s := by
  obtain ⟨us, vs, a1, a2, g1, g2, z1, z2, _⟩ := hT 0 s hJ
  have all := loop_eq (A := A) (R := R) p q N c J hT out _ 0 rfl (Nat.zero_le _) (fun j hj => absurd hj (by omega)) s hJ
  obtain ⟨h0, h1, h2, h3, h4⟩ := s
  have sb := AutoSeq1.sub_list_list
  have sz : ¬ (us.size != vs.size) = true := by simp [z1, z2]
  wp_walk using wpAny_loadPart' g1, wpAny_loadPart' g2
  exact ⟨plainId_quiet plain_eq_loop _, codeAny_builtin entry_eq_loop (by rw [Around.under_plainId plain_eq_loop _]; exact all)⟩
theorem tuple_eq (p q : Addr) (us vs : Array Value) (a1 a2 : Nat) (d1 d2 : Option Addr) (x1 x2 : Array (Option Value)) (c : Nat → Bool) (J : Nat → Shared → Prop)
    (tn : ∀ i (l1 : i < us.size) (l2 : i < vs.size) s, J i s → wpAny (model prog w) A.in1 (eqBool us[i] vs[i]) (fun r s' => r = c i ∧ J (i + 1) s') (fun e s' => R (.error e) s') s)
    (out : ∀ i s, J i s → R (.ok (.ret (.bool ((allB (min us.size vs.size) c && us.size == vs.size))))) s) {s : Shared} (g1 : s.heap.get? p = some { cls := .type "tuple", dict := d1, data := .seq us a1, slots := x1 }) (g2 : s.heap.get? q = some { cls := .type "tuple", dict := d2, data := .seq vs a2, slots := x2 }) (hJ : J 0 s) :
    wpAny (model prog w) A.in1 (Builtin.«tuple.__eq__» ⟨[.ref p, .ref q], []⟩) (GQ.FinOf prog w A R) (fun e s' => R (.error e) s') s := by
  have sb := AutoSeq1.sub_tuple_tuple
  have zl : (us.toList.zip vs.toList).length = min us.size vs.size := by simp
  have first := hJ
  obtain ⟨h0, h1, h2, h3, h4⟩ := s
  wp_walk using wpAny_loadPart' g1, wpAny_loadPart' g2, wpAny_forIn_list _ (fun left b t => b.1 = none ∧ ∃ i, left = (us.toList.zip vs.toList).drop i ∧ i ≤ min us.size vs.size ∧ (∀ j, j < i → c j = true) ∧ J i t) _
  case turn =>
    rintro ⟨y, x⟩ left b t ⟨eb, i, ez, hi, hpre, ht⟩
    have li : i < (us.toList.zip vs.toList).length := by
      rcases Nat.lt_or_ge i (us.toList.zip vs.toList).length with z | z
      · exact z
      · rw [List.drop_of_length_le z] at ez; cases ez
    have lm : i < min us.size vs.size := zl ▸ li
    have l1 : i < us.size := by omega
    have l2 : i < vs.size := by omega
    rw [List.drop_eq_getElem_cons li] at ez
    injection ez with e1 e2
    have ey : y = us[i] := by simpa using congrArg Prod.fst e1
    have ex : x = vs[i] := by simpa using congrArg Prod.snd e1
    subst ey ex
    refine wpAny_bind (wpAny_mono (tn i l1 l2 t ht) (fun r t2 ⟨er, h2'⟩ => ?_) fun _ _ x => x)
    subst er
    cases hc : c i with
    | true =>
      wp_walk
      exact ⟨rfl, i + 1, e2, lm, fun j hj => by
        rcases Nat.lt_or_ge j i with y | y
        · exact hpre j y
        · rw [show j = i from by omega]; exact hc, h2'⟩
    | false =>
      have fin := out _ t2 h2'
      rw [allB_false lm hc] at fin
      wp_walk
      simpa using fin
  case fin =>
    rintro ⟨b1, b2⟩ t ⟨eb, i, ez, hi, hpre, ht⟩
    simp only at eb
    subst eb
    have ge : min us.size vs.size ≤ i := by
      rcases Nat.lt_or_ge i (us.toList.zip vs.toList).length with z | z
      · rw [List.drop_eq_getElem_cons z] at ez; cases ez
      · exact zl ▸ z
    have fin := out _ t ht
    rw [allB_true fun j hj => hpre j (by omega)] at fin
    wp_walk
    first | exact ⟨_, rfl, by simpa [Builtin.Tuple.tupleCompareSizes, bne] using fin⟩ | simpa [Builtin.Tuple.tupleCompareSizes, bne] using fin
  case h => exact ⟨rfl, 0, rfl, Nat.zero_le _, (fun j hj => absurd hj (by omega)), first⟩
theorem rc_list_eq {A : Around} {E : Value → Shared → Prop} {s : Shared} {p q : Addr} {N : Nat} {c : Nat → Bool} {Q : Value → Shared → Prop} (hu : A.units < cLine) (J : Nat → Shared → Prop) (hT : Turns prog w A E p q N c J)
    (out : ∀ i s, J i s → Q (.bool (allB N c)) s) (hJ : J 0 s) : wpAny (model prog w) A (richCompare .Eq (.ref p) (.ref q)) Q E s := by
  obtain ⟨us, vs, a1, a2, g1, g2, _, _, _⟩ := hT 0 s hJ
  refine wpAny_richCompare_same_room (op := .Eq) ⟨_, g1, rfl⟩ ⟨_, g2, rfl⟩ F.slot_list_eq (GQ.call_here F.slot_list_eq ⟨_, g1, rfl⟩ F.entry_list_eq (F.args_list_eq_2 _ _) ?_) hu
  exact list_eq (R := wants (fun v s' => v ≠ .notImplemented ∧ Q v s') E) p q N c J hT (fun i t h => ⟨(fun x => nomatch x), out i t h⟩) hJ
theorem rc_tup_eq {A : Around} {E : Value → Shared → Prop} {s : Shared} {p q : Addr} {us vs : Array Value} {c : Nat → Bool} {Q : Value → Shared → Prop} (hu : A.units < cLine) (J : Nat → Shared → Prop) (t1 : s.heap.IsTuple p us) (t2 : s.heap.IsTuple q vs)
    (tn : ∀ i (l1 : i < us.size) (l2 : i < vs.size) s, J i s → wpAny (model prog w) A.in1 (eqBool us[i] vs[i]) (fun r s' => r = c i ∧ J (i + 1) s') E s)
    (out : ∀ i s, J i s → Q (.bool ((allB (min us.size vs.size) c && us.size == vs.size))) s) (hJ : J 0 s) : wpAny (model prog w) A (richCompare .Eq (.ref p) (.ref q)) Q E s := by
  obtain ⟨⟨k1, d1, o1, x1⟩, g1, c1, a1, e1⟩ := id t1
  obtain ⟨⟨k2, d2, o2, x2⟩, g2, c2, a2, e2⟩ := id t2
  simp only at c1 e1 c2 e2
  subst c1 e1 c2 e2
  refine wpAny_richCompare_same_room (op := .Eq) ⟨_, g1, rfl⟩ ⟨_, g2, rfl⟩ F.slot_tuple_eq (GQ.call_here F.slot_tuple_eq ⟨_, g1, rfl⟩ F.entry_tuple_eq (F.args_tuple_eq_2 _ _) ?_) hu
  exact tuple_eq (R := wants (fun v s' => v ≠ .notImplemented ∧ Q v s') E) p q us vs a1 a2 d1 d2 x1 x2 c J tn (fun i t h => ⟨(fun x => nomatch x), out i t h⟩) g1 g2 hJ

theorem loop_ne (p q : Addr) (N : Nat) (c : Nat → Bool) (J : Nat → Shared → Prop) (hT : Turns prog w A (fun e s' => R (.error e) s') p q N c J)
    (out : ∀ i s, J i s → R (.ok (.ret (.bool (!allB N c)))) s) (m : Nat) : ∀ i : Nat, N - i = m → i ≤ N → (∀ j, j < i → c j = true) → ∀ s, J i s →
      wpAny (model prog w) A.in1 (Builtin.«list.__eq__.loop» ⟨[.ref p, .ref q, rawInt i, rawInt 3], []⟩) (GQ.FinOf prog w A R) (fun e s' => R (.error e) s') s := by
  induction m with
  | zero =>
    intro i hm hle hpre s hJ
    obtain ⟨us, vs, a1, a2, g1, g2, z1, z2, _⟩ := hT i s hJ
    have ei : i = N := by omega
    have hall : allB N c = true := allB_true fun j hj => hpre j (by omega)
    have fin := out i s hJ
    rw [hall] at fin
    obtain ⟨h0, h1, h2, h3, h4⟩ := s
    wp_walk using wpAny_loadPart' g1, wpAny_loadPart' g2
    rw [show us[((i : Nat) : Int).toNat]? = none from by simp; omega, show vs[((i : Nat) : Int).toNat]? = none from by simp; omega]
    wp_walk using wpAny_loadPart' g1, wpAny_loadPart' g2
    show R (.ok (.ret (.bool (us.size != vs.size)))) _
    rw [z1, z2]
    simpa using fin
  | succ m ih =>
    intro i hm hle hpre s hJ
    obtain ⟨us, vs, a1, a2, g1, g2, z1, z2, tn⟩ := hT i s hJ
    have l1 : i < us.size := by omega
    have l2 : i < vs.size := by omega
    have now := tn l1 l2
    obtain ⟨h0, h1, h2, h3, h4⟩ := s
    wp_walk using wpAny_loadPart' g1, wpAny_loadPart' g2
    rw [show us[((i : Nat) : Int).toNat]? = some us[i] from by simp [l1], show vs[((i : Nat) : Int).toNat]? = some vs[i] from by simp [l2]]
    refine wpAny_bind (wpAny_mono now (fun r t ⟨er, ht⟩ => ?_) fun _ _ x => x)
    subst er
    cases hc : c i with
    | true =>
      have again := ih (i + 1) (by omega) (by omega) (fun j hj => by
        rcases Nat.lt_or_ge j i with y | y
        · exact hpre j y
        · rw [show j = i from by omega]; exact hc) t ht
      obtain ⟨k0, k1, k2, k3, k4⟩ := t
      wp_walk
      rw [show ((i : Int) + 1) = ((i + 1 : Nat) : Int) from by omega]
      exact ⟨plainId_quiet plain_eq_loop _, codeAny_builtin entry_eq_loop (by rw [Around.under_plainId plain_eq_loop _]; exact again)⟩
    | false =>
      have hall : allB N c = false := allB_false (by omega : i < N) hc
      have fin := out _ t ht
      rw [hall] at fin
      obtain ⟨us', vs', b1, b2, g3, g4, z3, z4, _⟩ := hT _ t ht
      obtain ⟨k0, k1, k2, k3, k4⟩ := t
      wp_walk using wpAny_loadPart' g3, wpAny_loadPart' g4
      rw [show us'[((i : Nat) : Int).toNat]? = some us'[i] from by first | (simp; done) | (simp; omega), show vs'[((i : Nat) : Int).toNat]? = some vs'[i] from by first | (simp; done) | (simp; omega)]
      wp_walk
      simpa using fin
theorem list_ne (p q : Addr) (N : Nat) (c : Nat → Bool) (J : Nat → Shared → Prop) (hT : Turns prog w A (fun e s' => R (.error e) s') p q N c J)
    (out : ∀ i s, J i s → R (.ok (.ret (.bool (!allB N c)))) s) {s : Shared} (hJ : J 0 s) : wpAny (model prog w) A.in1 (Builtin.«list.__ne__» ⟨[.ref p, .ref q], []⟩) (GQ.FinOf prog w A R) (fun e s' => R (.error e) s') s := by
  obtain ⟨us, vs, a1, a2, g1, g2, z1, z2, _⟩ := hT 0 s hJ
  have all := loop_ne (A := A) (R := R) p q N c J hT out _ 0 rfl (Nat.zero_le _) (fun j hj => absurd hj (by omega)) s hJ
  obtain ⟨h0, h1, h2, h3, h4⟩ := s
  have sb := AutoSeq1.sub_list_list
  have sz : ¬ (us.size != vs.size) = true := by simp [z1, z2]
  wp_walk using wpAny_loadPart' g1, wpAny_loadPart' g2
  exact ⟨plainId_quiet plain_eq_loop _, codeAny_builtin entry_eq_loop (by rw [Around.under_plainId plain_eq_loop _]; exact all)⟩
theorem tuple_ne (p q : Addr) (us vs : Array Value) (a1 a2 : Nat) (d1 d2 : Option Addr) (x1 x2 : Array (Option Value)) (c : Nat → Bool) (J : Nat → Shared → Prop)
    (tn : ∀ i (l1 : i < us.size) (l2 : i < vs.size) s, J i s → wpAny (model prog w) A.in1 (eqBool us[i] vs[i]) (fun r s' => r = c i ∧ J (i + 1) s') (fun e s' => R (.error e) s') s)
    (out : ∀ i s, J i s → R (.ok (.ret (.bool (!(allB (min us.size vs.size) c && us.size == vs.size))))) s) {s : Shared} (g1 : s.heap.get? p = some { cls := .type "tuple", dict := d1, data := .seq us a1, slots := x1 }) (g2 : s.heap.get? q = some { cls := .type "tuple", dict := d2, data := .seq vs a2, slots := x2 }) (hJ : J 0 s) :
    wpAny (model prog w) A.in1 (Builtin.«tuple.__ne__» ⟨[.ref p, .ref q], []⟩) (GQ.FinOf prog w A R) (fun e s' => R (.error e) s') s := by
  have sb := AutoSeq1.sub_tuple_tuple
  have zl : (us.toList.zip vs.toList).length = min us.size vs.size := by simp
  have first := hJ
  obtain ⟨h0, h1, h2, h3, h4⟩ := s
  wp_walk using wpAny_loadPart' g1, wpAny_loadPart' g2, wpAny_forIn_list _ (fun left b t => b.1 = none ∧ ∃ i, left = (us.toList.zip vs.toList).drop i ∧ i ≤ min us.size vs.size ∧ (∀ j, j < i → c j = true) ∧ J i t) _
  case turn =>
    rintro ⟨y, x⟩ left b t ⟨eb, i, ez, hi, hpre, ht⟩
    have li : i < (us.toList.zip vs.toList).length := by
      rcases Nat.lt_or_ge i (us.toList.zip vs.toList).length with z | z
      · exact z
      · rw [List.drop_of_length_le z] at ez; cases ez
    have lm : i < min us.size vs.size := zl ▸ li
    have l1 : i < us.size := by omega
    have l2 : i < vs.size := by omega
    rw [List.drop_eq_getElem_cons li] at ez
    injection ez with e1 e2
    have ey : y = us[i] := by simpa using congrArg Prod.fst e1
    have ex : x = vs[i] := by simpa using congrArg Prod.snd e1
    subst ey ex
    refine wpAny_bind (wpAny_mono (tn i l1 l2 t ht) (fun r t2 ⟨er, h2'⟩ => ?_) fun _ _ x => x)
    subst er
    cases hc : c i with
    | true =>
      wp_walk
      exact ⟨rfl, i + 1, e2, lm, fun j hj => by
        rcases Nat.lt_or_ge j i with y | y
        · exact hpre j y
        · rw [show j = i from by omega]; exact hc, h2'⟩
    | false =>
      have fin := out _ t2 h2'
      rw [allB_false lm hc] at fin
      wp_walk
      simpa using fin
  case fin =>
    rintro ⟨b1, b2⟩ t ⟨eb, i, ez, hi, hpre, ht⟩
    simp only at eb
    subst eb
    have ge : min us.size vs.size ≤ i := by
      rcases Nat.lt_or_ge i (us.toList.zip vs.toList).length with z | z
      · rw [List.drop_eq_getElem_cons z] at ez; cases ez
      · exact zl ▸ z
    have fin := out _ t ht
    rw [allB_true fun j hj => hpre j (by omega)] at fin
    wp_walk
    first | exact ⟨_, rfl, by simpa [Builtin.Tuple.tupleCompareSizes, bne] using fin⟩ | simpa [Builtin.Tuple.tupleCompareSizes, bne] using fin
  case h => exact ⟨rfl, 0, rfl, Nat.zero_le _, (fun j hj => absurd hj (by omega)), first⟩
theorem rc_list_ne {A : Around} {E : Value → Shared → Prop} {s : Shared} {p q : Addr} {N : Nat} {c : Nat → Bool} {Q : Value → Shared → Prop} (hu : A.units < cLine) (J : Nat → Shared → Prop) (hT : Turns prog w A E p q N c J)
    (out : ∀ i s, J i s → Q (.bool (!allB N c)) s) (hJ : J 0 s) : wpAny (model prog w) A (richCompare .NotEq (.ref p) (.ref q)) Q E s := by
  obtain ⟨us, vs, a1, a2, g1, g2, _, _, _⟩ := hT 0 s hJ
  refine wpAny_richCompare_same_room (op := .NotEq) ⟨_, g1, rfl⟩ ⟨_, g2, rfl⟩ F.slot_list_ne (GQ.call_here F.slot_list_ne ⟨_, g1, rfl⟩ F.entry_list_ne (F.args_list_ne_2 _ _) ?_) hu
  exact list_ne (R := wants (fun v s' => v ≠ .notImplemented ∧ Q v s') E) p q N c J hT (fun i t h => ⟨(fun x => nomatch x), out i t h⟩) hJ
theorem rc_tup_ne {A : Around} {E : Value → Shared → Prop} {s : Shared} {p q : Addr} {us vs : Array Value} {c : Nat → Bool} {Q : Value → Shared → Prop} (hu : A.units < cLine) (J : Nat → Shared → Prop) (t1 : s.heap.IsTuple p us) (t2 : s.heap.IsTuple q vs)
    (tn : ∀ i (l1 : i < us.size) (l2 : i < vs.size) s, J i s → wpAny (model prog w) A.in1 (eqBool us[i] vs[i]) (fun r s' => r = c i ∧ J (i + 1) s') E s)
    (out : ∀ i s, J i s → Q (.bool (!(allB (min us.size vs.size) c && us.size == vs.size))) s) (hJ : J 0 s) : wpAny (model prog w) A (richCompare .NotEq (.ref p) (.ref q)) Q E s := by
  obtain ⟨⟨k1, d1, o1, x1⟩, g1, c1, a1, e1⟩ := id t1
  obtain ⟨⟨k2, d2, o2, x2⟩, g2, c2, a2, e2⟩ := id t2
  simp only at c1 e1 c2 e2
  subst c1 e1 c2 e2
  refine wpAny_richCompare_same_room (op := .NotEq) ⟨_, g1, rfl⟩ ⟨_, g2, rfl⟩ F.slot_tuple_ne (GQ.call_here F.slot_tuple_ne ⟨_, g1, rfl⟩ F.entry_tuple_ne (F.args_tuple_ne_2 _ _) ?_) hu
  exact tuple_ne (R := wants (fun v s' => v ≠ .notImplemented ∧ Q v s') E) p q us vs a1 a2 d1 d2 x1 x2 c J tn (fun i t h => ⟨(fun x => nomatch x), out i t h⟩) g1 g2 hJ
end
end E16
set_option maxHeartbeats 4000000
/-! E17: == and != of data with own classes in it. -/
namespace E
open PySem PySem.Spec PyProof.Rows L2 Evl G He
/-- == inside a list, of what p and q tell, says b -/
def EqP (X : Cx) (n : Nat) (p q : PV) (b : Bool) : Prop :=
  ∀ (A : Around) (pins : List (Addr × Obj)) (s : Shared) (σ : L2.St) (H : Hp) (x y : V) (u v : Value), Sub X n A → Inv X pins σ H s → RelV x u → RelV y v → p.Is x H → q.Is y H →
    wpAny (model X.prog X.w) A (eqBool u v) (fun r s' => r = b ∧ ∃ H', Inv X pins σ H' s' ∧ Ex H H') X.xe s
def RcP (X : Cx) (n : Nat) (op : CmpOp) (p q : PV) (b : Bool) : Prop :=
  ∀ (A : Around) (pins : List (Addr × Obj)) (s : Shared) (σ : L2.St) (H : Hp) (x y : V) (u v : Value), Sub X n A → Inv X pins σ H s → RelV x u → RelV y v → p.Is x H → q.Is y H →
    wpAny (model X.prog X.w) A (richCompare op u v) (fun r s' => r = .bool b ∧ ∃ H', Inv X pins σ H' s' ∧ Ex H H') X.xe s
section
variable {X : Cx} {n m : Nat} {p q : PV} {b : Bool} {α β : Type}
theorem EqP.mono (h : EqP X n p q b) (k : n ≤ m) : EqP X m p q b := fun A pins s σ H x y u v sb => h A pins s σ H x y u v (sb.mono k)
/-- the flat ones -/
def PV.flat : PV → Option V
  | .non => some .non
  | .bl b => some (.bl b)
  | .int i => some (.int i)
  | .str z => some (.str z)
  | _ => none
theorem flat_is {v w : V} {H : Hp} (h : p.flat = some w) (i : p.Is v H) : v = w ∧ flatV w = true := by
  cases p <;> first | (cases h; exact ⟨i, rfl⟩) | cases h
theorem eqP_flat {x y : V} (h1 : p.flat = some x) (h2 : q.flat = some y) (hb : eqV x y = b) : EqP X 0 p q b := by
  intro A pins s σ H x' y' u v sb I rx ry px py
  obtain ⟨e1, f1⟩ := flat_is h1 px
  obtain ⟨e2, f2⟩ := flat_is h2 py
  subst e1 e2
  have z := eqAt_V (A := A) (s := s) rx ry f1 f2
  rw [hb] at z
  exact z X.prog X.w X.xe _ ⟨rfl, H, I, Ex.refl H⟩
mutual
def PV.tells : PV → Prop
  | .lst xs => PV.tellss xs
  | .tup xs => PV.tellss xs
  | .dct ks xs => ks.length = xs.length ∧ PV.tellss xs
  | .ins _ ks xs => ks.length = xs.length ∧ PV.tellss xs
  | .ref _ => False
  | .ty _ => False
  | _ => True
def PV.tellss : List PV → Prop
  | [] => True
  | x :: xs => x.tells ∧ PV.tellss xs
end
theorem zip_inj {α : Type} : ∀ {ks ls : List α} {vs ws : List V}, ks.length = vs.length → ls.length = ws.length → ks.zip vs = ls.zip ws → ks = ls ∧ vs = ws
  | [], [], [], [], _, _, _ => ⟨rfl, rfl⟩
  | [], l :: ls, [], w :: ws, _, _, h => nomatch h
  | k :: ks, [], v :: vs, [], _, _, h => nomatch h
  | k :: ks, l :: ls, v :: vs, w :: ws, h1, h2, h => by
    rw [List.zip_cons_cons, List.zip_cons_cons] at h
    injection h with a c
    injection a with a1 a2
    obtain ⟨e1, e2⟩ := zip_inj (by simpa using h1) (by simpa using h2) c
    exact ⟨by rw [a1, e1], by rw [a2, e2]⟩
  | [], _, _ :: _, _, h, _, _ => nomatch h
  | _ :: _, _, [], _, h, _, _ => nomatch h
  | _, [], _, _ :: _, _, h, _ => nomatch h
  | _, _ :: _, _, [], _, h, _ => nomatch h
theorem flat_of {p : PV} {v : V} {H : Hp} (t : p.tells) (h : p.Is v H) (hv : ∀ a, v ≠ .ref a) : p.flat = some v := by
  cases p with
  | non => rw [show v = _ from h]; rfl
  | bl b => rw [show v = _ from h]; rfl
  | int b => rw [show v = _ from h]; rfl
  | str b => rw [show v = _ from h]; rfl
  | ty n => exact t.elim
  | ref a => exact t.elim
  | lst xs => obtain ⟨a, vs, e, _⟩ := h; exact absurd e (hv a)
  | tup xs => obtain ⟨a, vs, e, _⟩ := h; exact absurd e (hv a)
  | dct ks xs => obtain ⟨a, vs, e, _⟩ := h; exact absurd e (hv a)
  | ins C ks xs => obtain ⟨a, dx, vs, e, _⟩ := h; exact absurd e (hv a)
theorem flat_inj {p q : PV} {v : V} (h : p.flat = some v) (g : q.flat = some v) : p = q := by
  cases p <;> cases q <;> first | rfl | (cases h; done) | (cases g; done) | (cases h; cases g; rfl) | (cases h; cases g; done)
mutual
theorem is_one {H : Hp} : ∀ {p q : PV} {v : V}, p.tells → q.tells → p.Is v H → q.Is v H → p = q
  | .non, q, v, t1, t, h, g => flat_inj (v := v) (flat_of t1 h fun a e => by rw [e] at h; cases (show V.ref a = V.non from h)) (flat_of t g fun a e => by rw [e] at h; cases (show V.ref a = V.non from h))
  | .bl b, q, v, t1, t, h, g => flat_inj (v := v) (flat_of t1 h fun a e => by rw [e] at h; cases (show V.ref a = V.bl b from h)) (flat_of t g fun a e => by rw [e] at h; cases (show V.ref a = V.bl b from h))
  | .int b, q, v, t1, t, h, g => flat_inj (v := v) (flat_of t1 h fun a e => by rw [e] at h; cases (show V.ref a = V.int b from h)) (flat_of t g fun a e => by rw [e] at h; cases (show V.ref a = V.int b from h))
  | .str b, q, v, t1, t, h, g => flat_inj (v := v) (flat_of t1 h fun a e => by rw [e] at h; cases (show V.ref a = V.str b from h)) (flat_of t g fun a e => by rw [e] at h; cases (show V.ref a = V.str b from h))
  | .ty _, _, _, t, _, _, _ => t.elim
  | .ref _, _, _, t, _, _, _ => t.elim
  | .lst xs, q, v, t1, t2, ⟨a, vs, h1, h2, h3⟩, g => by
    subst h1
    cases q with
    | lst ys =>
      obtain ⟨a', ws, g1, g2, g3⟩ := g
      cases g1
      rw [h2] at g2
      cases g2
      rw [iss_one t1 t2 h3 g3]
    | tup ys => obtain ⟨a', ws, g1, g2, _⟩ := g; cases g1; rw [h2] at g2; cases g2
    | dct ks ys => obtain ⟨a', ws, g1, g2, _⟩ := g; cases g1; rw [h2] at g2; cases g2
    | ins C ks ys => obtain ⟨a', dx, ws, g1, g2, _⟩ := g; cases g1; rw [h2] at g2; cases g2
    | ref _ => exact t2.elim
    | ty _ => exact t2.elim
    | _ => cases g
  | .tup xs, q, v, t1, t2, ⟨a, vs, h1, h2, h3⟩, g => by
    subst h1
    cases q with
    | tup ys =>
      obtain ⟨a', ws, g1, g2, g3⟩ := g
      cases g1
      rw [h2] at g2
      cases g2
      rw [iss_one t1 t2 h3 g3]
    | lst ys => obtain ⟨a', ws, g1, g2, _⟩ := g; cases g1; rw [h2] at g2; cases g2
    | dct ks ys => obtain ⟨a', ws, g1, g2, _⟩ := g; cases g1; rw [h2] at g2; cases g2
    | ins C ks ys => obtain ⟨a', dx, ws, g1, g2, _⟩ := g; cases g1; rw [h2] at g2; cases g2
    | ref _ => exact t2.elim
    | ty _ => exact t2.elim
    | _ => cases g
  | .dct ks xs, q, v, t1, t2, ⟨a, vs, h1, h2, l1, h3⟩, g => by
    subst h1
    cases q with
    | dct ls ys =>
      obtain ⟨a', ws, g1, g2, l2, g3⟩ := g
      cases g1
      rw [h2] at g2
      injection g2 with g2
      injection g2 with g2
      obtain ⟨e1, e2⟩ := zip_inj (by rw [iss_len h3]; exact l1) (by rw [iss_len g3]; exact l2) g2
      subst e1 e2
      rw [iss_one t1.2 t2.2 h3 g3]
    | lst ys => obtain ⟨a', ws, g1, g2, _⟩ := g; cases g1; rw [h2] at g2; cases g2
    | tup ys => obtain ⟨a', ws, g1, g2, _⟩ := g; cases g1; rw [h2] at g2; cases g2
    | ins C ks ys => obtain ⟨a', dx, ws, g1, g2, _⟩ := g; cases g1; rw [h2] at g2; cases g2
    | ref _ => exact t2.elim
    | ty _ => exact t2.elim
    | _ => cases g
  | .ins C ks xs, q, v, t1, t2, ⟨a, dx, vs, h1, h2, l1, h3⟩, g => by
    subst h1
    cases q with
    | ins C' ls ys =>
      obtain ⟨a', dx', ws, g1, g2, l2, g3⟩ := g
      cases g1
      rw [h2] at g2
      injection g2 with g2
      injection g2 with g4 g5 g6
      obtain ⟨e1, e2⟩ := zip_inj (by rw [iss_len h3]; exact l1) (by rw [iss_len g3]; exact l2) g6
      subst g4 e1 e2
      rw [iss_one t1.2 t2.2 h3 g3]
    | lst ys => obtain ⟨a', ws, g1, g2, _⟩ := g; cases g1; rw [h2] at g2; cases g2
    | tup ys => obtain ⟨a', ws, g1, g2, _⟩ := g; cases g1; rw [h2] at g2; cases g2
    | dct ks ys => obtain ⟨a', ws, g1, g2, _⟩ := g; cases g1; rw [h2] at g2; cases g2
    | ref _ => exact t2.elim
    | ty _ => exact t2.elim
    | _ => cases g
theorem iss_one {H : Hp} : ∀ {ps qs : List PV} {vs : List V}, PV.tellss ps → PV.tellss qs → PV.Iss ps vs H → PV.Iss qs vs H → ps = qs
  | [], [], _, _, _, _, _ => rfl
  | [], q :: qs, _, _, _, h, ⟨y, r, g1, _⟩ => by rw [show _ = [] from h] at g1; cases g1
  | p :: ps, [], _, _, _, ⟨y, r, h1, _⟩, g => by rw [show _ = [] from g] at h1; cases h1
  | p :: ps, q :: qs, _, t1, t2, ⟨y, r, h1, h2, h3⟩, ⟨y', r', g1, g2, g3⟩ => by
    subst h1
    injection g1 with e1 e2
    subst e1 e2
    rw [is_one t1.1 t2.1 h2 g2, iss_one t1.2 t2.2 h3 g3]
end
/-- from a rich comparison of references -/
theorem RcP.eqP (h : RcP X n .Eq p q b) (hr : ∀ v H, p.Is v H → ∃ a, v = .ref a) (hr2 : ∀ v H, q.Is v H → ∃ a, v = .ref a) (t1 : p.tells) (t2 : q.tells) (hs : p = q → b = true) : EqP X n p q b := by
  intro A pins s σ H x y u v sb I rx ry px py
  obtain ⟨a1, e1⟩ := hr _ _ px
  obtain ⟨a2, e2⟩ := hr2 _ _ py
  subst e1 e2
  cases rx
  cases ry
  by_cases e : a1 = a2
  · subst e
    rw [hs (is_one t1 t2 px py)]
    exact SeqAt.EqAt.same (A := A) (s := s) (.ref a1) X.prog X.w X.xe _ ⟨rfl, H, I, Ex.refl H⟩
  · exact GQ.eqBool_refG e (wpAny_mono (h A pins s σ H (.ref a1) (.ref a2) _ _ sb I rfl rfl px py) (fun r s' ⟨er, z⟩ => ⟨b, er, rfl, z⟩) fun _ _ x => x)
/-- of items, one by one -/
def EqL (X : Cx) (n : Nat) (ps qs : List PV) (c : Nat → Bool) : Prop := ∀ i p q, ps[i]? = some p → qs[i]? = some q → EqP X n p q (c i)
def KeepI (X : Cx) (pins : List (Addr × Obj)) (σ : L2.St) (H : Hp) (s' : Shared) : Prop := ∃ H', Inv X pins σ H' s' ∧ Ex H H'
theorem turnB {ps qs : List PV} {c : Nat → Bool} (h : EqL X n ps qs c) {A : Around} (sb : Sub X (n + 1) A) {pins : List (Addr × Obj)} {σ : L2.St} {H : Hp} {xs ys : List V} {its its2 : List Value} (h1 : PV.Iss ps xs H) (h2 : PV.Iss qs ys H) (r1 : Vals xs its) (r2 : Vals ys its2)
    (i : Nat) (l1 : i < its.toArray.size) (l2 : i < its2.toArray.size) (s' : Shared) (l : KeepI X pins σ H s') : wpAny (model X.prog X.w) A.in1 (eqBool its.toArray[i] its2.toArray[i]) (fun r s2 => r = c i ∧ KeepI X pins σ H s2) X.xe s' := by
  obtain ⟨H1, I1, e1⟩ := l
  have k1 : i < xs.length := by rw [r1.length]; simpa using l1
  have k2 : i < ys.length := by rw [r2.length]; simpa using l2
  have k3 : i < ps.length := by rw [← iss_len h1]; exact k1
  have k4 : i < qs.length := by rw [← iss_len h2]; exact k2
  obtain ⟨x, hx, ix⟩ := iss_get h1 (List.getElem?_eq_getElem k3)
  obtain ⟨y, hy, iy⟩ := iss_get h2 (List.getElem?_eq_getElem k4)
  obtain ⟨u, hu, ru⟩ := r1.get hx
  obtain ⟨v, hv, rv⟩ := r2.get hy
  have z1 : its.toArray[i] = u := by
    have : its[i]? = some its.toArray[i] := by rw [List.getElem?_eq_getElem (by simpa using l1)]; simp
    rw [hu] at this
    exact (Option.some.inj this).symm
  have z2 : its2.toArray[i] = v := by
    have : its2[i]? = some its2.toArray[i] := by rw [List.getElem?_eq_getElem (by simpa using l2)]; simp
    rw [hv] at this
    exact (Option.some.inj this).symm
  rw [z1, z2]
  refine wpAny_mono (h i _ _ (List.getElem?_eq_getElem k3) (List.getElem?_eq_getElem k4) A.in1 pins s' σ H1 x y u v sb.in1 I1 ru rv (ix.up e1) (iy.up e1)) (fun r s2 ⟨er, H2, I2, e2⟩ => ⟨er, H2, I2, e1.trans e2⟩) fun _ _ x => x
theorem rcP_lst {ps qs : List PV} {c : Nat → Bool} (h : EqL X n ps qs c) (hl : ps.length = qs.length) : RcP X (n + 1) .Eq (.lst ps) (.lst qs) (E16.allB ps.length c) := by
  intro A pins s σ H x y u v sb I rx ry ⟨a1, xs, e1, h1, i1⟩ ⟨a2, ys, e2, h2, i2⟩
  subst e1 e2
  cases rx
  cases ry
  refine E16.rc_list_eq (N := ps.length) (c := c) sb.room.units0 (fun _ s' => KeepI X pins σ H s') (fun i s' q => ?_) (fun _ s' q => ⟨rfl, q⟩) ⟨H, I, Ex.refl H⟩
  obtain ⟨H1, I1, e1⟩ := id q
  obtain ⟨z, its, k, r, e⟩ := I1.hok a1 _ (e1 _ _ h1)
  obtain ⟨z2, its2, k2, r2, e2⟩ := I1.hok a2 _ (e1 _ _ h2)
  exact ⟨its.toArray, its2.toArray, k, k2, e, e2, by rw [List.size_toArray, ← r.length, iss_len i1], by rw [List.size_toArray, ← r2.length, iss_len i2, hl], fun l1 l2 => turnB h sb i1 i2 r r2 i l1 l2 s' q⟩
theorem rcP_lstN {ps qs : List PV} {c : Nat → Bool} (h : EqL X n ps qs c) (hl : ps.length = qs.length) : RcP X (n + 1) .NotEq (.lst ps) (.lst qs) (!E16.allB ps.length c) := by
  intro A pins s σ H x y u v sb I rx ry ⟨a1, xs, e1, h1, i1⟩ ⟨a2, ys, e2, h2, i2⟩
  subst e1 e2
  cases rx
  cases ry
  refine E16.rc_list_ne (N := ps.length) (c := c) sb.room.units0 (fun _ s' => KeepI X pins σ H s') (fun i s' q => ?_) (fun _ s' q => ⟨rfl, q⟩) ⟨H, I, Ex.refl H⟩
  obtain ⟨H1, I1, e1⟩ := id q
  obtain ⟨z, its, k, r, e⟩ := I1.hok a1 _ (e1 _ _ h1)
  obtain ⟨z2, its2, k2, r2, e2⟩ := I1.hok a2 _ (e1 _ _ h2)
  exact ⟨its.toArray, its2.toArray, k, k2, e, e2, by rw [List.size_toArray, ← r.length, iss_len i1], by rw [List.size_toArray, ← r2.length, iss_len i2, hl], fun l1 l2 => turnB h sb i1 i2 r r2 i l1 l2 s' q⟩
theorem rcP_tup {ps qs : List PV} {c : Nat → Bool} (h : EqL X n ps qs c) : RcP X (n + 1) .Eq (.tup ps) (.tup qs) (E16.allB (min ps.length qs.length) c && ps.length == qs.length) := by
  intro A pins s σ H x y u v sb I rx ry ⟨a1, xs, e1, h1, i1⟩ ⟨a2, ys, e2, h2, i2⟩
  subst e1 e2
  cases rx
  cases ry
  obtain ⟨its, r, e, z⟩ := I.tuple (SqT.of h1)
  obtain ⟨its2, r2, e2, z2⟩ := I.tuple (SqT.of h2)
  have s1 : its.toArray.size = ps.length := by rw [List.size_toArray, ← r.length, iss_len i1]
  have s2 : its2.toArray.size = qs.length := by rw [List.size_toArray, ← r2.length, iss_len i2]
  exact E16.rc_tup_eq (c := c) sb.room.units0 (fun _ s' => KeepI X pins σ H s') e e2 (fun i l1 l2 s' q => turnB h sb i1 i2 r r2 i l1 l2 s' q) (fun _ s' q => ⟨by rw [s1, s2], q⟩) ⟨H, I, Ex.refl H⟩
theorem rcP_tupN {ps qs : List PV} {c : Nat → Bool} (h : EqL X n ps qs c) : RcP X (n + 1) .NotEq (.tup ps) (.tup qs) (!(E16.allB (min ps.length qs.length) c && ps.length == qs.length)) := by
  intro A pins s σ H x y u v sb I rx ry ⟨a1, xs, e1, h1, i1⟩ ⟨a2, ys, e2, h2, i2⟩
  subst e1 e2
  cases rx
  cases ry
  obtain ⟨its, r, e, z⟩ := I.tuple (SqT.of h1)
  obtain ⟨its2, r2, e2, z2⟩ := I.tuple (SqT.of h2)
  have s1 : its.toArray.size = ps.length := by rw [List.size_toArray, ← r.length, iss_len i1]
  have s2 : its2.toArray.size = qs.length := by rw [List.size_toArray, ← r2.length, iss_len i2]
  exact E16.rc_tup_ne (c := c) sb.room.units0 (fun _ s' => KeepI X pins σ H s') e e2 (fun i l1 l2 s' q => turnB h sb i1 i2 r r2 i l1 l2 s' q) (fun _ s' q => ⟨by rw [s1, s2], q⟩) ⟨H, I, Ex.refl H⟩
theorem plain_is {h : Heap} {a : Addr} {us : Array Value} (p : PlainL h a us) : h.IsList a us := by
  obtain ⟨o, n, h1, h2, _, h4⟩ := p
  exact ⟨o, h1, h2, n, h4⟩
theorem rcP_lstX {ps qs : List PV} (hl : ps.length ≠ qs.length) : RcP X 0 .Eq (.lst ps) (.lst qs) false := by
  intro A pins s σ H x y u v sb I rx ry ⟨a1, xs, e1, h1, i1⟩ ⟨a2, ys, e2, h2, i2⟩
  subst e1 e2
  cases rx
  cases ry
  obtain ⟨us, r1, p1, _⟩ := I.list (SqL.of h1)
  obtain ⟨ws, r2, p2, _⟩ := I.list (SqL.of h2)
  exact SeqAt.RcAt.lists_lengths (plain_is p1) (plain_is p2) (by
    have z1 := iss_len i1
    have z2 := iss_len i2
    rw [List.size_toArray, List.size_toArray, ← r1.length, ← r2.length, z1, z2]
    simpa using hl) sb.room.units0 X.prog X.w X.xe _ ⟨rfl, H, I, Ex.refl H⟩
theorem rcP_lstNX {ps qs : List PV} (hl : ps.length ≠ qs.length) : RcP X 0 .NotEq (.lst ps) (.lst qs) true := by
  intro A pins s σ H x y u v sb I rx ry ⟨a1, xs, e1, h1, i1⟩ ⟨a2, ys, e2, h2, i2⟩
  subst e1 e2
  cases rx
  cases ry
  obtain ⟨us, r1, p1, _⟩ := I.list (SqL.of h1)
  obtain ⟨ws, r2, p2, _⟩ := I.list (SqL.of h2)
  exact SeqAt.RcNeAt.lists_lengths (plain_is p1) (plain_is p2) (by
    have z1 := iss_len i1
    have z2 := iss_len i2
    rw [List.size_toArray, List.size_toArray, ← r1.length, ← r2.length, z1, z2]
    simpa using hl) sb.room.units0 X.prog X.w X.xe _ ⟨rfl, H, I, Ex.refl H⟩
/-- instances, by their own == -/
theorem rcP_ins {C : Addr} {ks kt : List Str} {ps qs : List PV} (D : Op X.prog X.w X.K X.mg X.base C "__eq__" n [.ins C ks ps, .ins C kt qs] (.bl b)) : RcP X n .Eq (.ins C ks ps) (.ins C kt qs) b := by
  intro A pins s σ H x y u v sb I rx ry px py
  obtain ⟨a1, dx, vs, e1, h1, _⟩ := id px
  obtain ⟨a2, dy, ws, e2, h2, _⟩ := id py
  subst e1 e2
  cases rx
  cases ry
  obtain ⟨f, fd, pn, F, hs, hf, hb⟩ := D.ex.ex
  obtain ⟨mA, J, _⟩ := ins_get I.hok h1
  obtain ⟨mB, J', _⟩ := ins_get I.hok h2
  obtain ⟨od, J, _⟩ := J.look
  obtain ⟨od', J', _⟩ := J'.look
  obtain ⟨m, hF⟩ := I.fr
  refine PySem.W.cmp_K (op := .Eq) (tb := .ref C) sb.room.units0 hF I.ok.mod.kin J J'.type (by simp [PySem.W.notFirst]) hs hf ?_
  refine thn (call_own (vs := [.ref a1, .ref a2]) (us := [.ref a1, .ref a2]) (Q := fun v H' => v = .bl b ∧ Ex H H') F hb sb I (.cons rfl (.cons rfl .nil)) ⟨⟨_, _, rfl, px, _, _, rfl, py, rfl⟩, fun v H' e hv => ⟨hv, e⟩⟩) fun w s1 ⟨z, H1, I1, r1, ez, ex⟩ => ?_
  subst ez
  cases (show w = _ from r1)
  exact ⟨rfl, H1, I1, ex⟩
end
section
variable {X : Cx} {n m : Nat} {α β γ : Type} [DecidableEq α] [DecidableEq β] [DecidableEq γ] {f : α → PV} {g : β → PV} {k : γ → PV}
structure EqF (X : Cx) (n : Nat) {α : Type} [DecidableEq α] (f : α → PV) : Prop where
  eq : ∀ a b, EqP X n (f a) (f b) (decide (a = b))
  tells : ∀ a, (f a).tells
  inj : ∀ a b, f a = f b → a = b
structure RcF (X : Cx) (n : Nat) {α : Type} [DecidableEq α] (f : α → PV) : Prop where
  rc : ∀ a b, RcP X n .Eq (f a) (f b) (decide (a = b))
  rcN : ∀ a b, RcP X n .NotEq (f a) (f b) (!decide (a = b))
  tells : ∀ a, (f a).tells
  inj : ∀ a b, f a = f b → a = b
  ref : ∀ a v H, (f a).Is v H → ∃ c, v = .ref c
theorem EqF.mono (h : EqF X n f) (l : n ≤ m) : EqF X m f := ⟨fun a b => (h.eq a b).mono l, h.tells, h.inj⟩
theorem RcF.eqF (h : RcF X n f) : EqF X n f := ⟨fun a b => (h.rc a b).eqP (h.ref a) (h.ref b) (h.tells a) (h.tells b) fun e => decide_eq_true (h.inj a b e), h.tells, h.inj⟩
theorem eqF_int : EqF X 0 PV.int := ⟨fun a b => eqP_flat (x := .int a) (y := .int b) rfl rfl (by unfold eqV; exact Bool.eq_iff_iff.mpr (by simp)), fun _ => trivial, fun a b e => by cases e; rfl⟩
theorem eqF_bl : EqF X 0 PV.bl := ⟨fun a b => eqP_flat (x := .bl a) (y := .bl b) rfl rfl (by cases a <;> cases b <;> rfl), fun _ => trivial, fun a b e => by cases e; rfl⟩
theorem eqF_str : EqF X 0 PV.str := ⟨fun a b => eqP_flat (x := .str a) (y := .str b) rfl rfl (by unfold eqV; exact Bool.eq_iff_iff.mpr (by simp)), fun _ => trivial, fun a b e => by cases e; rfl⟩
theorem tellss_map (h : ∀ a, (f a).tells) : ∀ {as : List α}, PV.tellss (as.map f)
  | [] => trivial
  | a :: as => ⟨h a, tellss_map h⟩
theorem map_inj (h : ∀ a b, f a = f b → a = b) : ∀ {as bs : List α}, as.map f = bs.map f → as = bs
  | [], [], _ => rfl
  | [], _ :: _, e => nomatch e
  | _ :: _, [], e => nomatch e
  | a :: as, b :: bs, e => by
    rw [List.map_cons, List.map_cons] at e
    injection e with e1 e2
    rw [h _ _ e1, map_inj h e2]
def dAt (as bs : List α) (i : Nat) : Bool := match as[i]?, bs[i]? with
  | some a, some b => decide (a = b)
  | _, _ => true
theorem eqL_map (h : EqF X n f) {as bs : List α} : EqL X n (as.map f) (bs.map f) (dAt as bs) := fun i p q hp hq => by
  rw [List.getElem?_map] at hp hq
  unfold dAt
  cases ea : as[i]? with
  | none => rw [ea] at hp; cases hp
  | some a =>
    cases eb : bs[i]? with
    | none => rw [eb] at hq; cases hq
    | some b =>
      rw [ea] at hp
      rw [eb] at hq
      cases hp
      cases hq
      exact h.eq a b
theorem all_dAt {as bs : List α} (hl : as.length = bs.length) : E16.allB as.length (dAt as bs) = decide (as = bs) := by
  by_cases e : as = bs
  · subst e
    rw [decide_eq_true rfl]
    exact E16.allB_true fun j hj => by unfold dAt; rw [List.getElem?_eq_getElem hj]; simp
  · rw [decide_eq_false e]
    have : ∃ i, i < as.length ∧ as[i]? ≠ bs[i]? := Classical.byContradiction fun z => e (List.ext_getElem? fun i => by
      by_cases hi : i < as.length
      · exact Classical.byContradiction fun y => z ⟨i, hi, y⟩
      · rw [List.getElem?_eq_none_iff.mpr (by omega), List.getElem?_eq_none_iff.mpr (by omega)])
    obtain ⟨i, hi, hne⟩ := this
    refine E16.allB_false hi ?_
    unfold dAt
    rw [List.getElem?_eq_getElem hi, List.getElem?_eq_getElem (show i < bs.length by omega)] at hne ⊢
    exact decide_eq_false fun z => hne (by rw [z])
theorem all_dAtT {as bs : List α} : (E16.allB (min as.length bs.length) (dAt as bs) && as.length == bs.length) = decide (as = bs) := by
  by_cases hl : as.length = bs.length
  · rw [← hl, Nat.min_self, all_dAt hl]
    simp
  · rw [decide_eq_false (fun e => hl (by rw [e])), show (as.length == bs.length) = false from by simpa using hl, Bool.and_false]
theorem rcF_lst (h : EqF X n f) : RcF X (n + 1) (lsV f) where
  rc := fun as bs => by
    by_cases hl : as.length = bs.length
    · have z := rcP_lst (eqL_map h (as := as) (bs := bs)) (by rw [List.length_map, List.length_map]; exact hl)
      rwa [List.length_map, all_dAt hl] at z
    · rw [decide_eq_false fun e => hl (by rw [e])]
      exact fun A pins s σ H x y u v sb => rcP_lstX (by rw [List.length_map, List.length_map]; exact hl) A pins s σ H x y u v (sb.mono (Nat.zero_le _))
  rcN := fun as bs => by
    by_cases hl : as.length = bs.length
    · have z := rcP_lstN (eqL_map h (as := as) (bs := bs)) (by rw [List.length_map, List.length_map]; exact hl)
      rwa [List.length_map, all_dAt hl] at z
    · rw [decide_eq_false fun e => hl (by rw [e])]
      exact fun A pins s σ H x y u v sb => rcP_lstNX (by rw [List.length_map, List.length_map]; exact hl) A pins s σ H x y u v (sb.mono (Nat.zero_le _))
  tells := fun a => tellss_map h.tells
  inj := fun a b e => map_inj h.inj (by injection e)
  ref := fun a v H ⟨c, _, e, _⟩ => ⟨c, e⟩
theorem rcF_tup (h : EqF X n f) : RcF X (n + 1) (tpV f) where
  rc := fun as bs => by
    have z := rcP_tup (eqL_map h (as := as) (bs := bs))
    rwa [List.length_map, List.length_map, all_dAtT] at z
  rcN := fun as bs => by
    have z := rcP_tupN (eqL_map h (as := as) (bs := bs))
    rwa [List.length_map, List.length_map, all_dAtT] at z
  tells := fun a => tellss_map h.tells
  inj := fun a b e => map_inj h.inj (by injection e)
  ref := fun a v H ⟨c, _, e, _⟩ => ⟨c, e⟩
theorem eqL_2 {c : Nat → Bool} {p1 p2 q1 q2 : PV} (h1 : EqP X n p1 q1 (c 0)) (h2 : EqP X n p2 q2 (c 1)) : EqL X n [p1, p2] [q1, q2] c := fun i p q hp hq => by
  match i with
  | 0 => cases hp; cases hq; exact h1
  | 1 => cases hp; cases hq; exact h2
  | i + 2 => cases hp
theorem eqL_3 {c : Nat → Bool} {p1 p2 p3 q1 q2 q3 : PV} (h1 : EqP X n p1 q1 (c 0)) (h2 : EqP X n p2 q2 (c 1)) (h3 : EqP X n p3 q3 (c 2)) : EqL X n [p1, p2, p3] [q1, q2, q3] c := fun i p q hp hq => by
  match i with
  | 0 => cases hp; cases hq; exact h1
  | 1 => cases hp; cases hq; exact h2
  | 2 => cases hp; cases hq; exact h3
  | i + 3 => cases hp
def c2 (a b : Bool) : Nat → Bool
  | 0 => a
  | 1 => b
  | _ => true
def c3 (a b c : Bool) : Nat → Bool
  | 0 => a
  | 1 => b
  | 2 => c
  | _ => true
theorem dec_pair {a a' : α} {b b' : β} : (E16.allB 2 (c2 (decide (a = a')) (decide (b = b'))) && true) = decide ((a, b) = (a', b')) := by
  show (decide (a = a') && (decide (b = b') && true) && true) = _
  by_cases h1 : a = a' <;> by_cases h2 : b = b' <;> simp [h1, h2]
theorem dec_trip {a a' : α} {b b' : β} {c c' : γ} : (E16.allB 3 (c3 (decide (a = a')) (decide (b = b')) (decide (c = c'))) && true) = decide ((a, b, c) = (a', b', c')) := by
  show (decide (a = a') && (decide (b = b') && (decide (c = c') && true)) && true) = _
  by_cases h1 : a = a' <;> by_cases h2 : b = b' <;> by_cases h3 : c = c' <;> simp [h1, h2, h3]
theorem rcF_pr2 (h1 : EqF X n f) (h2 : EqF X n g) : RcF X (n + 1) (pr2 f g) where
  rc := fun ⟨a, b⟩ ⟨a', b'⟩ => by
    rw [← dec_pair]
    exact rcP_tup (eqL_2 (c := c2 (decide (a = a')) (decide (b = b'))) (h1.eq a a') (h2.eq b b'))
  rcN := fun ⟨a, b⟩ ⟨a', b'⟩ => by
    rw [← dec_pair]
    exact rcP_tupN (eqL_2 (c := c2 (decide (a = a')) (decide (b = b'))) (h1.eq a a') (h2.eq b b'))
  tells := fun a => ⟨h1.tells _, h2.tells _, trivial⟩
  inj := fun ⟨a, b⟩ ⟨a', b'⟩ e => by
    injection e with e
    injection e with e1 e2
    injection e2 with e2 _
    rw [show a = a' from h1.inj _ _ e1, show b = b' from h2.inj _ _ e2]
  ref := fun a v H ⟨c, _, e, _⟩ => ⟨c, e⟩
theorem rcF_pr3 (h1 : EqF X n f) (h2 : EqF X n g) (h3 : EqF X n k) : RcF X (n + 1) (pr3 f g k) where
  rc := fun ⟨a, b, c⟩ ⟨a', b', c'⟩ => by
    rw [← dec_trip]
    exact rcP_tup (eqL_3 (c := c3 (decide (a = a')) (decide (b = b')) (decide (c = c'))) (h1.eq a a') (h2.eq b b') (h3.eq c c'))
  rcN := fun ⟨a, b, c⟩ ⟨a', b', c'⟩ => by
    rw [← dec_trip]
    exact rcP_tupN (eqL_3 (c := c3 (decide (a = a')) (decide (b = b')) (decide (c = c'))) (h1.eq a a') (h2.eq b b') (h3.eq c c'))
  tells := fun a => ⟨h1.tells _, h2.tells _, h3.tells _, trivial⟩
  inj := fun ⟨a, b, c⟩ ⟨a', b', c'⟩ e => by
    injection e with e
    injection e with e1 e2
    injection e2 with e2 e3
    injection e3 with e3 _
    rw [show a = a' from h1.inj _ _ e1, show b = b' from h2.inj _ _ e2, show c = c' from h3.inj _ _ e3]
  ref := fun a v H ⟨c, _, e, _⟩ => ⟨c, e⟩
/-- own instances: what their == promises -/
theorem eqF_ins {C : Addr} {ks : List Str} {xs : α → List PV} (hf : ∀ a, f a = .ins C ks (xs a)) (D : ∀ a b, Op X.prog X.w X.K X.mg X.base C "__eq__" n [f a, f b] (.bl (decide (a = b)))) (t : ∀ a, (f a).tells) (i : ∀ a b, f a = f b → a = b) : EqF X n f := ⟨fun a b => by
  have d := D a b
  have ta := t a
  have tb := t b
  have e := i a b
  rw [hf a, hf b] at *
  exact (rcP_ins d).eqP (fun v H ⟨c, _, _, z, _⟩ => ⟨c, z⟩) (fun v H ⟨c, _, _, z, _⟩ => ⟨c, z⟩) ta tb fun z => decide_eq_true (e z), t, i⟩
variable {ρ : Rho} {a b : Expr} {y z : α}
theorem cv_rc {op : CmpOp} {p q : PV} {bb : Bool} (h : RcP X n op p q bb) (hr : Room n X.A) (ho : compareOp op = richCompare op) (ha : EV X a ρ p) (hb : EV X b ρ q) : CV X op a b ρ bb := fun σ H l g =>
  cg_of (P1 := p.Is) (P2 := q.Is) (r := fun x y H Q => p.Is x H ∧ q.Is y H ∧ ∀ H', Ex H H' → Q (.bl bb) H') (fun pins s σ H x y v u Q I rx ry ⟨px, py, k⟩ => by
    show wpAny (model X.prog X.w) X.A (compareOp op v u) (EP X pins σ Q) X.xe s
    rw [ho]
    exact wpAny_mono (h X.A pins s σ H x y v u ⟨hr, rfl⟩ I rx ry px py) (fun r s' ⟨er, H', I', e⟩ => ⟨.bl bb, H', I', by rw [er]; exact rfl, k H' e⟩) fun _ _ x => x) (ha σ H l g) (hb σ H l g) fun x y H1 _ px py Q q => ⟨px, py, fun H' e => q H' e⟩
theorem cv_eqF (h : RcF X n f) (hr : Room n X.A) (ha : EV X a ρ (f y)) (hb : EV X b ρ (f z)) : CV X .Eq a b ρ (decide (y = z)) := cv_rc (h.rc y z) hr rfl ha hb
theorem cv_neF (h : RcF X n f) (hr : Room n X.A) (ha : EV X a ρ (f y)) (hb : EV X b ρ (f z)) : CV X .NotEq a b ρ (!decide (y = z)) := cv_rc (h.rcN y z) hr rfl ha hb
end
end E
set_option maxHeartbeats 4000000
/-! E18: the same rules, what is promised last; subscripts. -/
namespace E
open PySem PySem.Spec PyProof.Rows L2 Evl G He
theorem atI_0 {α : Type} {a : α} {as : List α} : atI (a :: as) 0 = some a := atI_nat (j := 0) rfl
theorem atI_1 {α : Type} {a b : α} {as : List α} : atI (a :: b :: as) 1 = some b := atI_nat (j := 1) rfl
theorem atI_2 {α : Type} {a b c : α} {as : List α} : atI (a :: b :: c :: as) 2 = some c := atI_nat (j := 2) rfl
section
variable {X : Cx} {ρ : Rho} {S : List Sl} {a b c e o : Expr} {es : List Expr} {pos pp apos p2 : Pos} {p q self : PV} {ps qs : List PV} {Φ : Phi} {x m : Str} {k : Nat} {C : Addr} {i : Int} {bb : Bool} {α : Type} {as : List α} {f : α → PV}
theorem ev_callA (hr : Room k X.A) (ha : AV X (e :: es) ρ ps) (D : Fn X.prog X.w X.K X.mg X.base x k ps p) (hg : Gl X x := by rfl) (hdb : (x == ("__debug__" : Str)) = false := by decide)
    (he : starEach (e :: es) X.env = (false, eval e X.env) :: starEach es X.env := by rfl) (hpl : (backTo pos (starEach es X.env)).any (·.1) = false := by rfl) : EV X (.Call (.Name x pp) (e :: es) [] pos) ρ p := ev_call D hr ha hg hdb he hpl
theorem ev_methA {pl : Sem Bool} {ks : List Str} {fs : List PV} (c : Cls X.K C) (hr : Room k X.A) (ho : EV X o ρ (.ins C ks fs)) (ha : AV X (e :: es) ρ ps) (D : Me X.prog X.w X.K X.mg X.base C m k (.ins C ks fs) ps p) (hn : m ∉ ks := by decide +kernel)
    (hst : starEach (e :: es) X.env = (false, eval e X.env) :: starEach es X.env := by rfl) (hpl : (backTo pos (starEach es X.env)).any (·.1) = false := by rfl)
    (ht : eval (.Call (.Attribute o m apos) (e :: es) [] pos) X.env = (do
      let ov ← eval o X.env
      standAt apos.atName
      let (f, first) ← holding [ov] (getMethod ov m pl)
      callWith pos f first (backTo pos (starEach (e :: es) X.env)) (backToKw pos (keywordEach [] X.env))) := by rfl) : EV X (.Call (.Attribute o m apos) (e :: es) [] pos) ρ p := ev_meth c D hr ho ha hn hst hpl ht
theorem ev_meth0A {pl : Sem Bool} {ks : List Str} {fs : List PV} (c : Cls X.K C) (hr : Room k X.A) (ho : EV X o ρ (.ins C ks fs)) (D : Me X.prog X.w X.K X.mg X.base C m k (.ins C ks fs) [] p) (hn : m ∉ ks := by decide +kernel)
    (ht : eval (.Call (.Attribute o m apos) [] [] pos) X.env = (do
      let ov ← eval o X.env
      standAt apos.atName
      let (f, first) ← holding [ov] (getMethod ov m pl)
      callWith pos f first (backTo pos (starEach [] X.env)) (backToKw pos (keywordEach [] X.env))) := by rfl) : EV X (.Call (.Attribute o m apos) [] [] pos) ρ p := ev_meth0 c D hr ho hn ht
theorem ev_smethA {pl : Sem Bool} (hr : Room k X.A) (ha : AV X (e :: es) ρ ps) (D : Sm X.prog X.w X.K X.mg X.base x m k ps p) (hg : Gl X x := by rfl) (hdb : (x == ("__debug__" : Str)) = false := by decide)
    (he : starEach (e :: es) X.env = (false, eval e X.env) :: starEach es X.env := by rfl) (hpl : (backTo pos (starEach es X.env)).any (·.1) = false := by rfl)
    (ht : eval (.Call (.Attribute (.Name x pp) m apos) (e :: es) [] pos) X.env = (do
      let ov ← eval (.Name x pp) X.env
      standAt apos.atName
      let (f, first) ← holding [ov] (getMethod ov m pl)
      callWith pos f first (backTo pos (starEach (e :: es) X.env)) (backToKw pos (keywordEach [] X.env))) := by rfl) : EV X (.Call (.Attribute (.Name x pp) m apos) (e :: es) [] pos) ρ p := ev_smeth D hr ha hg hdb he hpl ht
theorem ev_newA {ks : List Str} (hr : Room (k + 1) X.A) (ha : AV X (e :: es) ρ ps) (D : Nw X.prog X.w X.K X.mg X.base x C k ps ks qs) (hg : Gl X x := by rfl) (hdb : (x == ("__debug__" : Str)) = false := by decide)
    (he : starEach (e :: es) X.env = (false, eval e X.env) :: starEach es X.env := by rfl) (hpl : (backTo pos (starEach es X.env)).any (·.1) = false := by rfl) : EV X (.Call (.Name x pp) (e :: es) [] pos) ρ (.ins C ks qs) := ev_new D hr ha hg hdb he hpl
theorem ev_opA {op : Operator} {ks kt : List Str} (hr : Room k X.A) (hc : PySem.W.selfFirst X.K C = true) (ha : EV X a ρ (.ins C ks ps)) (hb : EV X b ρ (.ins C kt qs)) (D : Op X.prog X.w X.K X.mg X.base C (PySem.dunder op.info.2) k [.ins C ks ps, .ins C kt qs] p) : EV X (.BinOp a op b pos) ρ p := ev_op D hr hc ha hb
theorem ev_opIA {op : Operator} {ks : List Str} (hr : Room k X.A) (hc : PySem.W.selfFirst X.K C = true) (Sl : SlotT X.K C op.info.2 "int") (ha : EV X a ρ (.ins C ks ps)) (hb : EV X b ρ (.int i)) (D : Op X.prog X.w X.K X.mg X.base C (PySem.dunder op.info.2) k [.ins C ks ps, .int i] p) : EV X (.BinOp a op b pos) ρ p := ev_opI D hr hc Sl ha hb
theorem ev_opDA {op : Operator} {B : Addr} {ks kt : List Str} (hr : Room k X.A) (hc : PySem.W.selfFirst X.K C = true) (Sl : SlotD X.K C B op.info.2) (ha : EV X a ρ (.ins C ks ps)) (hb : EV X b ρ (.ins B kt qs)) (D : Op X.prog X.w X.K X.mg X.base C (PySem.dunder op.info.2) k [.ins C ks ps, .ins B kt qs] p) : EV X (.BinOp a op b pos) ρ p := ev_opD D hr hc Sl ha hb
theorem ev_negOA {ks : List Str} (hr : Room k X.A) (ha : EV X a ρ (.ins C ks ps)) (D : Op X.prog X.w X.K X.mg X.base C "__neg__" k [.ins C ks ps] p) : EV X (.UnaryOp .USub a pos) ρ p := ev_negO D hr ha
theorem cv_eqOA {ks kt : List Str} (hr : Room k X.A) (ha : EV X a ρ (.ins C ks ps)) (hb : EV X b ρ (.ins C kt qs)) (D : Op X.prog X.w X.K X.mg X.base C "__eq__" k [.ins C ks ps, .ins C kt qs] (.bl bb)) : CV X .Eq a b ρ bb := cv_eqO D hr ha hb
theorem cv_neOA {ks kt : List Str} (N : NeO X.K C) (hr : Room (k + 1) X.A) (ha : EV X a ρ (.ins C ks ps)) (hb : EV X b ρ (.ins C kt qs)) (D : Op X.prog X.w X.K X.mg X.base C "__eq__" k [.ins C ks ps, .ins C kt qs] (.bl bb)) : CV X .NotEq a b ρ (!bb) := cv_neO N D hr ha hb
theorem cv_eqOIA {ks : List Str} (hr : Room k X.A) (hn : PySem.W.notFirst X.K C (.type "int") = true) (ha : EV X a ρ (.ins C ks ps)) (hb : EV X b ρ (.int i)) (D : Op X.prog X.w X.K X.mg X.base C "__eq__" k [.ins C ks ps, .int i] (.bl bb)) : CV X .Eq a b ρ bb := cv_eqOI D hr hn ha hb
/-- l[1:] of a list that begins with y -/
theorem ev_tailM {y : α} (ha : EV X a ρ (.lst ((y :: as).map f))) (hb : EV X b ρ (.int 1)) : EV X (.Subscript a (.Slice (some b) none none p2) pos) ρ (.lst (as.map f)) := ev_fromM (n := 1) ha hb
end
end E
set_option maxHeartbeats 4000000
namespace GH
open PySem PySem.Spec PyProof.Rows L2 He
structure Txt (K : PySem.W.Frag) (mg : Str → Option Value) : Prop where
  c : SaysE fa fn K
  h : ∃ h : Heap, K.In h ∧ h.Ns mainGlobals mg
theorem slTo_ok {K : PySem.W.Frag} {C : Addr} {nm : String} (h : slTBo K C nm = true) : G.SlotT K C nm "int" := by
  obtain ⟨h1, h⟩ := ba h
  obtain ⟨h2, h⟩ := ba h
  obtain ⟨h3, h4⟩ := ba h
  exact ⟨⟨_, eqO_ok h1, .inl rfl⟩, some_ok h2, some_ok h3, of_decide_eq_true h4⟩
theorem slX_ok {K : PySem.W.Frag} {C B : Addr} (t : G.SlotT K C "mul" "int") (sf : PySem.W.selfFirst K B = true) (me : Meth K B "__mul__" (ma K B "__mul__")) (h : (!(C == B) && (eqO (PySem.W.findIn K (.ref B) (dunderR "mul")) (some none) && decide (PySem.W.subIn K (.ref B) (.ref C) = some false))) = true) : G.SlotD K C B "mul" := by
  obtain ⟨h1, h⟩ := ba h
  obtain ⟨h2, h3⟩ := ba h
  refine ⟨fun z => ?_, t.r, ⟨_, me.at_⟩, ⟨_, eqO_ok h2, .inl rfl⟩, of_decide_eq_true h3, sf⟩
  rw [z] at h1
  simp at h1
section
variable {K : PySem.W.Frag} {mg : Str → Option Value}
theorem fr_len (T : Txt K mg) : mg "len" = none := by
  obtain ⟨h, X, Gn⟩ := T.h
  exact free_ok X Gn (show (Fa.free "len").ok K = true from T.c.fact 0 rfl)
theorem fr_int (T : Txt K mg) : mg "int" = none := by
  obtain ⟨h, X, Gn⟩ := T.h
  exact free_ok X Gn (show (Fa.free "int").ok K = true from T.c.fact 1 rfl)
theorem fr_bool (T : Txt K mg) : mg "bool" = none := by
  obtain ⟨h, X, Gn⟩ := T.h
  exact free_ok X Gn (show (Fa.free "bool").ok K = true from T.c.fact 2 rfl)
theorem fr_isinstance (T : Txt K mg) : mg "isinstance" = none := by
  obtain ⟨h, X, Gn⟩ := T.h
  exact free_ok X Gn (show (Fa.free "isinstance").ok K = true from T.c.fact 3 rfl)
theorem fr_list (T : Txt K mg) : mg "list" = none := by
  obtain ⟨h, X, Gn⟩ := T.h
  exact free_ok X Gn (show (Fa.free "list").ok K = true from T.c.fact 4 rfl)
theorem fr_tuple (T : Txt K mg) : mg "tuple" = none := by
  obtain ⟨h, X, Gn⟩ := T.h
  exact free_ok X Gn (show (Fa.free "tuple").ok K = true from T.c.fact 5 rfl)
theorem fr_abs (T : Txt K mg) : mg "abs" = none := by
  obtain ⟨h, X, Gn⟩ := T.h
  exact free_ok X Gn (show (Fa.free "abs").ok K = true from T.c.fact 6 rfl)
theorem fr_sum (T : Txt K mg) : mg "sum" = none := by
  obtain ⟨h, X, Gn⟩ := T.h
  exact free_ok X Gn (show (Fa.free "sum").ok K = true from T.c.fact 7 rfl)
theorem fr_all (T : Txt K mg) : mg "all" = none := by
  obtain ⟨h, X, Gn⟩ := T.h
  exact free_ok X Gn (show (Fa.free "all").ok K = true from T.c.fact 8 rfl)
theorem fr_zip (T : Txt K mg) : mg "zip" = none := by
  obtain ⟨h, X, Gn⟩ := T.h
  exact free_ok X Gn (show (Fa.free "zip").ok K = true from T.c.fact 9 rfl)
theorem fr_range (T : Txt K mg) : mg "range" = none := by
  obtain ⟨h, X, Gn⟩ := T.h
  exact free_ok X Gn (show (Fa.free "range").ok K = true from T.c.fact 10 rfl)
theorem fr_max (T : Txt K mg) : mg "max" = none := by
  obtain ⟨h, X, Gn⟩ := T.h
  exact free_ok X Gn (show (Fa.free "max").ok K = true from T.c.fact 11 rfl)
theorem fr_type (T : Txt K mg) : mg "type" = none := by
  obtain ⟨h, X, Gn⟩ := T.h
  exact free_ok X Gn (show (Fa.free "type").ok K = true from T.c.fact 12 rfl)
theorem im_gcd (T : Txt K mg) : mg "gcd" = some (.builtin "math.gcd") := by
  obtain ⟨h, X, Gn⟩ := T.h
  exact PySem.W.mg_of X Gn (eqO_ok (show eqO (PySem.W.nsIn K mainGlobals "gcd") (some (some (.builtin "math.gcd"))) = true from T.c.fact 13 rfl))
theorem im_lcm (T : Txt K mg) : mg "lcm" = some (.builtin "math.lcm") := by
  obtain ⟨h, X, Gn⟩ := T.h
  exact PySem.W.mg_of X Gn (eqO_ok (show eqO (PySem.W.nsIn K mainGlobals "lcm") (some (some (.builtin "math.lcm"))) = true from T.c.fact 14 rfl))
theorem co_MOST_AXES (T : Txt K mg) : ∃ t, mg "MOST_AXES" = some (.int 3 t) := by
  obtain ⟨h, X, Gn⟩ := T.h
  exact int_ok X Gn (show (Fa.int "MOST_AXES" 3).ok K = true from T.c.fact 15 rfl)
theorem co_MOST_PARTS (T : Txt K mg) : ∃ t, mg "MOST_PARTS" = some (.int 12 t) := by
  obtain ⟨h, X, Gn⟩ := T.h
  exact int_ok X Gn (show (Fa.int "MOST_PARTS" 12).ok K = true from T.c.fact 16 rfl)
theorem g_is_integer (T : Txt K mg) : mg "is_integer" = some (.ref (ga K "is_integer")) := by
  obtain ⟨h, X, Gn⟩ := T.h
  exact glo_ok X Gn (show (Fa.glo "is_integer").ok K = true from T.c.fact 17 rfl)
theorem d_is_integer (T : Txt K mg) : ∃ fd, G.FnP K "is_integer" "is_integer" (G.top 4) [] (ga K "is_integer") fd := T.c.def_ 0 rfl
theorem g_is_within (T : Txt K mg) : mg "is_within" = some (.ref (ga K "is_within")) := by
  obtain ⟨h, X, Gn⟩ := T.h
  exact glo_ok X Gn (show (Fa.glo "is_within").ok K = true from T.c.fact 18 rfl)
theorem d_is_within (T : Txt K mg) : ∃ fd, G.FnP K "is_within" "is_within" (G.top 5) [] (ga K "is_within") fd := T.c.def_ 1 rfl
theorem g_is_listed (T : Txt K mg) : mg "is_listed" = some (.ref (ga K "is_listed")) := by
  obtain ⟨h, X, Gn⟩ := T.h
  exact glo_ok X Gn (show (Fa.glo "is_listed").ok K = true from T.c.fact 19 rfl)
theorem d_is_listed (T : Txt K mg) : ∃ fd, G.FnP K "is_listed" "is_listed" (G.top 6) [] (ga K "is_listed") fd := T.c.def_ 2 rfl
theorem d_Ratio_init (T : Txt K mg) : ∃ fd, G.FnP K "__init__" "Ratio.__init__" (inClass (G.top 23) 0) [.int 1] (ma K (ga K "Ratio") "__init__") fd := T.c.def_ 3 rfl
theorem d_Ratio_of (T : Txt K mg) : ∃ fd, G.FnP K "of" "Ratio.of" (inClass (G.top 23) 1) [] (smF K (ga K "Ratio") "of") fd := T.c.def_ 4 rfl
theorem d_Ratio_over (T : Txt K mg) : ∃ fd, G.FnP K "over" "Ratio.over" (inClass (G.top 23) 3) [] (ma K (ga K "Ratio") "over") fd := T.c.def_ 5 rfl
theorem d_Ratio_is_below (T : Txt K mg) : ∃ fd, G.FnP K "is_below" "Ratio.is_below" (inClass (G.top 23) 4) [] (ma K (ga K "Ratio") "is_below") fd := T.c.def_ 6 rfl
theorem d_Ratio_add (T : Txt K mg) : ∃ fd, G.FnP K "__add__" "Ratio.__add__" (inClass (G.top 23) 5) [] (ma K (ga K "Ratio") "__add__") fd := T.c.def_ 7 rfl
theorem d_Ratio_sub (T : Txt K mg) : ∃ fd, G.FnP K "__sub__" "Ratio.__sub__" (inClass (G.top 23) 6) [] (ma K (ga K "Ratio") "__sub__") fd := T.c.def_ 8 rfl
theorem d_Ratio_mul (T : Txt K mg) : ∃ fd, G.FnP K "__mul__" "Ratio.__mul__" (inClass (G.top 23) 7) [] (ma K (ga K "Ratio") "__mul__") fd := T.c.def_ 9 rfl
theorem d_Ratio_neg (T : Txt K mg) : ∃ fd, G.FnP K "__neg__" "Ratio.__neg__" (inClass (G.top 23) 8) [] (ma K (ga K "Ratio") "__neg__") fd := T.c.def_ 10 rfl
theorem d_Ratio_eq (T : Txt K mg) : ∃ fd, G.FnP K "__eq__" "Ratio.__eq__" (inClass (G.top 23) 11) [] (ma K (ga K "Ratio") "__eq__") fd := T.c.def_ 11 rfl
theorem g_is_ratio (T : Txt K mg) : mg "is_ratio" = some (.ref (ga K "is_ratio")) := by
  obtain ⟨h, X, Gn⟩ := T.h
  exact glo_ok X Gn (show (Fa.glo "is_ratio").ok K = true from T.c.fact 20 rfl)
theorem d_is_ratio (T : Txt K mg) : ∃ fd, G.FnP K "is_ratio" "is_ratio" (G.top 24) [] (ga K "is_ratio") fd := T.c.def_ 12 rfl
theorem g_are_ratios (T : Txt K mg) : mg "are_ratios" = some (.ref (ga K "are_ratios")) := by
  obtain ⟨h, X, Gn⟩ := T.h
  exact glo_ok X Gn (show (Fa.glo "are_ratios").ok K = true from T.c.fact 21 rfl)
theorem d_are_ratios (T : Txt K mg) : ∃ fd, G.FnP K "are_ratios" "are_ratios" (G.top 25) [] (ga K "are_ratios") fd := T.c.def_ 13 rfl
theorem g_as_ratio (T : Txt K mg) : mg "as_ratio" = some (.ref (ga K "as_ratio")) := by
  obtain ⟨h, X, Gn⟩ := T.h
  exact glo_ok X Gn (show (Fa.glo "as_ratio").ok K = true from T.c.fact 22 rfl)
theorem d_as_ratio (T : Txt K mg) : ∃ fd, G.FnP K "as_ratio" "as_ratio" (G.top 26) [] (ga K "as_ratio") fd := T.c.def_ 14 rfl
theorem g_summed (T : Txt K mg) : mg "summed" = some (.ref (ga K "summed")) := by
  obtain ⟨h, X, Gn⟩ := T.h
  exact glo_ok X Gn (show (Fa.glo "summed").ok K = true from T.c.fact 23 rfl)
theorem d_summed (T : Txt K mg) : ∃ fd, G.FnP K "summed" "summed" (G.top 27) [] (ga K "summed") fd := T.c.def_ 15 rfl
theorem g_greatest_of (T : Txt K mg) : mg "greatest_of" = some (.ref (ga K "greatest_of")) := by
  obtain ⟨h, X, Gn⟩ := T.h
  exact glo_ok X Gn (show (Fa.glo "greatest_of").ok K = true from T.c.fact 24 rfl)
theorem d_greatest_of (T : Txt K mg) : ∃ fd, G.FnP K "greatest_of" "greatest_of" (G.top 28) [] (ga K "greatest_of") fd := T.c.def_ 16 rfl
theorem g_least_of (T : Txt K mg) : mg "least_of" = some (.ref (ga K "least_of")) := by
  obtain ⟨h, X, Gn⟩ := T.h
  exact glo_ok X Gn (show (Fa.glo "least_of").ok K = true from T.c.fact 25 rfl)
theorem d_least_of (T : Txt K mg) : ∃ fd, G.FnP K "least_of" "least_of" (G.top 29) [] (ga K "least_of") fd := T.c.def_ 17 rfl
theorem g_over_one_bottom (T : Txt K mg) : mg "over_one_bottom" = some (.ref (ga K "over_one_bottom")) := by
  obtain ⟨h, X, Gn⟩ := T.h
  exact glo_ok X Gn (show (Fa.glo "over_one_bottom").ok K = true from T.c.fact 26 rfl)
theorem d_over_one_bottom (T : Txt K mg) : ∃ fd, G.FnP K "over_one_bottom" "over_one_bottom" (G.top 30) [] (ga K "over_one_bottom") fd := T.c.def_ 18 rfl
theorem g_asked_ratio (T : Txt K mg) : mg "asked_ratio" = some (.ref (ga K "asked_ratio")) := by
  obtain ⟨h, X, Gn⟩ := T.h
  exact glo_ok X Gn (show (Fa.glo "asked_ratio").ok K = true from T.c.fact 27 rfl)
theorem d_asked_ratio (T : Txt K mg) : ∃ fd, G.FnP K "asked_ratio" "asked_ratio" (G.top 35) [] (ga K "asked_ratio") fd := T.c.def_ 19 rfl
theorem g_is_axes (T : Txt K mg) : mg "is_axes" = some (.ref (ga K "is_axes")) := by
  obtain ⟨h, X, Gn⟩ := T.h
  exact glo_ok X Gn (show (Fa.glo "is_axes").ok K = true from T.c.fact 28 rfl)
theorem d_is_axes (T : Txt K mg) : ∃ fd, G.FnP K "is_axes" "is_axes" (G.top 36) [] (ga K "is_axes") fd := T.c.def_ 20 rfl
theorem g_ask_axes (T : Txt K mg) : mg "ask_axes" = some (.ref (ga K "ask_axes")) := by
  obtain ⟨h, X, Gn⟩ := T.h
  exact glo_ok X Gn (show (Fa.glo "ask_axes").ok K = true from T.c.fact 29 rfl)
theorem d_ask_axes (T : Txt K mg) : ∃ fd, G.FnP K "ask_axes" "ask_axes" (G.top 37) [] (ga K "ask_axes") fd := T.c.def_ 21 rfl
theorem g_ask_equal_axes (T : Txt K mg) : mg "ask_equal_axes" = some (.ref (ga K "ask_equal_axes")) := by
  obtain ⟨h, X, Gn⟩ := T.h
  exact glo_ok X Gn (show (Fa.glo "ask_equal_axes").ok K = true from T.c.fact 30 rfl)
theorem d_ask_equal_axes (T : Txt K mg) : ∃ fd, G.FnP K "ask_equal_axes" "ask_equal_axes" (G.top 38) [] (ga K "ask_equal_axes") fd := T.c.def_ 22 rfl
theorem d_Step_init (T : Txt K mg) : ∃ fd, G.FnP K "__init__" "Step.__init__" (inClass (G.top 40) 0) [] (ma K (ga K "Step") "__init__") fd := T.c.def_ 23 rfl
theorem d_Step_nothing (T : Txt K mg) : ∃ fd, G.FnP K "nothing" "Step.nothing" (inClass (G.top 40) 1) [] (smF K (ga K "Step") "nothing") fd := T.c.def_ 24 rfl
theorem d_Step_add (T : Txt K mg) : ∃ fd, G.FnP K "__add__" "Step.__add__" (inClass (G.top 40) 3) [] (ma K (ga K "Step") "__add__") fd := T.c.def_ 25 rfl
theorem d_Step_sub (T : Txt K mg) : ∃ fd, G.FnP K "__sub__" "Step.__sub__" (inClass (G.top 40) 4) [] (ma K (ga K "Step") "__sub__") fd := T.c.def_ 26 rfl
theorem d_Step_eq (T : Txt K mg) : ∃ fd, G.FnP K "__eq__" "Step.__eq__" (inClass (G.top 40) 7) [] (ma K (ga K "Step") "__eq__") fd := T.c.def_ 27 rfl
theorem g_ask_other (T : Txt K mg) : mg "ask_other" = some (.ref (ga K "ask_other")) := by
  obtain ⟨h, X, Gn⟩ := T.h
  exact glo_ok X Gn (show (Fa.glo "ask_other").ok K = true from T.c.fact 31 rfl)
theorem d_ask_other (T : Txt K mg) : ∃ fd, G.FnP K "ask_other" "ask_other" (G.top 41) [] (ga K "ask_other") fd := T.c.def_ 28 rfl
theorem g_square_of (T : Txt K mg) : mg "square_of" = some (.ref (ga K "square_of")) := by
  obtain ⟨h, X, Gn⟩ := T.h
  exact glo_ok X Gn (show (Fa.glo "square_of").ok K = true from T.c.fact 32 rfl)
theorem d_square_of (T : Txt K mg) : ∃ fd, G.FnP K "square_of" "square_of" (G.top 42) [] (ga K "square_of") fd := T.c.def_ 29 rfl
theorem g_kind_of (T : Txt K mg) : mg "kind_of" = some (.ref (ga K "kind_of")) := by
  obtain ⟨h, X, Gn⟩ := T.h
  exact glo_ok X Gn (show (Fa.glo "kind_of").ok K = true from T.c.fact 33 rfl)
theorem d_kind_of (T : Txt K mg) : ∃ fd, G.FnP K "kind_of" "kind_of" (G.top 43) [] (ga K "kind_of") fd := T.c.def_ 30 rfl
theorem g_spot_of_lights (T : Txt K mg) : mg "spot_of_lights" = some (.ref (ga K "spot_of_lights")) := by
  obtain ⟨h, X, Gn⟩ := T.h
  exact glo_ok X Gn (show (Fa.glo "spot_of_lights").ok K = true from T.c.fact 34 rfl)
theorem d_spot_of_lights (T : Txt K mg) : ∃ fd, G.FnP K "spot_of_lights" "spot_of_lights" (G.top 45) [] (ga K "spot_of_lights") fd := T.c.def_ 31 rfl
theorem d_Tour_init (T : Txt K mg) : ∃ fd, G.FnP K "__init__" "Tour.__init__" (inClass (G.top 48) 0) [] (ma K (ga K "Tour") "__init__") fd := T.c.def_ 32 rfl
theorem d_Tour_joined (T : Txt K mg) : ∃ fd, G.FnP K "joined" "Tour.joined" (inClass (G.top 48) 2) [] (ma K (ga K "Tour") "joined") fd := T.c.def_ 33 rfl
theorem d_Tour_eq (T : Txt K mg) : ∃ fd, G.FnP K "__eq__" "Tour.__eq__" (inClass (G.top 48) 3) [] (ma K (ga K "Tour") "__eq__") fd := T.c.def_ 34 rfl
theorem g_straight_square (T : Txt K mg) : mg "straight_square" = some (.ref (ga K "straight_square")) := by
  obtain ⟨h, X, Gn⟩ := T.h
  exact glo_ok X Gn (show (Fa.glo "straight_square").ok K = true from T.c.fact 35 rfl)
theorem d_straight_square (T : Txt K mg) : ∃ fd, G.FnP K "straight_square" "straight_square" (G.top 49) [] (ga K "straight_square") fd := T.c.def_ 35 rfl
theorem g_spot_at (T : Txt K mg) : mg "spot_at" = some (.ref (ga K "spot_at")) := by
  obtain ⟨h, X, Gn⟩ := T.h
  exact glo_ok X Gn (show (Fa.glo "spot_at").ok K = true from T.c.fact 36 rfl)
theorem d_spot_at (T : Txt K mg) : ∃ fd, G.FnP K "spot_at" "spot_at" (G.top 50) [] (ga K "spot_at") fd := T.c.def_ 36 rfl
theorem g_age_of_news (T : Txt K mg) : mg "age_of_news" = some (.ref (ga K "age_of_news")) := by
  obtain ⟨h, X, Gn⟩ := T.h
  exact glo_ok X Gn (show (Fa.glo "age_of_news").ok K = true from T.c.fact 37 rfl)
theorem d_age_of_news (T : Txt K mg) : ∃ fd, G.FnP K "age_of_news" "age_of_news" (G.top 51) [] (ga K "age_of_news") fd := T.c.def_ 37 rfl
theorem g_age_past (T : Txt K mg) : mg "age_past" = some (.ref (ga K "age_past")) := by
  obtain ⟨h, X, Gn⟩ := T.h
  exact glo_ok X Gn (show (Fa.glo "age_past").ok K = true from T.c.fact 38 rfl)
theorem d_age_past (T : Txt K mg) : ∃ fd, G.FnP K "age_past" "age_past" (G.top 52) [] (ga K "age_past") fd := T.c.def_ 38 rfl
theorem g_light_of (T : Txt K mg) : mg "light_of" = some (.ref (ga K "light_of")) := by
  obtain ⟨h, X, Gn⟩ := T.h
  exact glo_ok X Gn (show (Fa.glo "light_of").ok K = true from T.c.fact 39 rfl)
theorem d_light_of (T : Txt K mg) : ∃ fd, G.FnP K "light_of" "light_of" (G.top 53) [] (ga K "light_of") fd := T.c.def_ 39 rfl
theorem g_step_of_beats (T : Txt K mg) : mg "step_of_beats" = some (.ref (ga K "step_of_beats")) := by
  obtain ⟨h, X, Gn⟩ := T.h
  exact glo_ok X Gn (show (Fa.glo "step_of_beats").ok K = true from T.c.fact 40 rfl)
theorem d_step_of_beats (T : Txt K mg) : ∃ fd, G.FnP K "step_of_beats" "step_of_beats" (G.top 54) [] (ga K "step_of_beats") fd := T.c.def_ 40 rfl
theorem g_spots_along (T : Txt K mg) : mg "spots_along" = some (.ref (ga K "spots_along")) := by
  obtain ⟨h, X, Gn⟩ := T.h
  exact glo_ok X Gn (show (Fa.glo "spots_along").ok K = true from T.c.fact 41 rfl)
theorem d_spots_along (T : Txt K mg) : ∃ fd, G.FnP K "spots_along" "spots_along" (G.top 55) [] (ga K "spots_along") fd := T.c.def_ 41 rfl
theorem g_are_parts (T : Txt K mg) : mg "are_parts" = some (.ref (ga K "are_parts")) := by
  obtain ⟨h, X, Gn⟩ := T.h
  exact glo_ok X Gn (show (Fa.glo "are_parts").ok K = true from T.c.fact 42 rfl)
theorem d_are_parts (T : Txt K mg) : ∃ fd, G.FnP K "are_parts" "are_parts" (G.top 56) [] (ga K "are_parts") fd := T.c.def_ 42 rfl
theorem g_ask_tour (T : Txt K mg) : mg "ask_tour" = some (.ref (ga K "ask_tour")) := by
  obtain ⟨h, X, Gn⟩ := T.h
  exact glo_ok X Gn (show (Fa.glo "ask_tour").ok K = true from T.c.fact 43 rfl)
theorem d_ask_tour (T : Txt K mg) : ∃ fd, G.FnP K "ask_tour" "ask_tour" (G.top 58) [] (ga K "ask_tour") fd := T.c.def_ 43 rfl
theorem g__law_pen (T : Txt K mg) : mg "_law_pen" = some (.ref (ga K "_law_pen")) := by
  obtain ⟨h, X, Gn⟩ := T.h
  exact glo_ok X Gn (show (Fa.glo "_law_pen").ok K = true from T.c.fact 44 rfl)
theorem d__law_pen (T : Txt K mg) : ∃ fd, G.FnP K "_law_pen" "_law_pen" (G.top 60) [] (ga K "_law_pen") fd := T.c.def_ 44 rfl
theorem g__law_draw (T : Txt K mg) : mg "_law_draw" = some (.ref (ga K "_law_draw")) := by
  obtain ⟨h, X, Gn⟩ := T.h
  exact glo_ok X Gn (show (Fa.glo "_law_draw").ok K = true from T.c.fact 45 rfl)
theorem d__law_draw (T : Txt K mg) : ∃ fd, G.FnP K "_law_draw" "_law_draw" (G.top 61) [] (ga K "_law_draw") fd := T.c.def_ 45 rfl
theorem g__law_pick (T : Txt K mg) : mg "_law_pick" = some (.ref (ga K "_law_pick")) := by
  obtain ⟨h, X, Gn⟩ := T.h
  exact glo_ok X Gn (show (Fa.glo "_law_pick").ok K = true from T.c.fact 46 rfl)
theorem d__law_pick (T : Txt K mg) : ∃ fd, G.FnP K "_law_pick" "_law_pick" (G.top 62) [] (ga K "_law_pick") fd := T.c.def_ 46 rfl
theorem g__law_parts (T : Txt K mg) : mg "_law_parts" = some (.ref (ga K "_law_parts")) := by
  obtain ⟨h, X, Gn⟩ := T.h
  exact glo_ok X Gn (show (Fa.glo "_law_parts").ok K = true from T.c.fact 47 rfl)
theorem d__law_parts (T : Txt K mg) : ∃ fd, G.FnP K "_law_parts" "_law_parts" (G.top 63) [] (ga K "_law_parts") fd := T.c.def_ 47 rfl
theorem g__law_tour (T : Txt K mg) : mg "_law_tour" = some (.ref (ga K "_law_tour")) := by
  obtain ⟨h, X, Gn⟩ := T.h
  exact glo_ok X Gn (show (Fa.glo "_law_tour").ok K = true from T.c.fact 48 rfl)
theorem d__law_tour (T : Txt K mg) : ∃ fd, G.FnP K "_law_tour" "_law_tour" (G.top 64) [] (ga K "_law_tour") fd := T.c.def_ 48 rfl
theorem g__law_plus (T : Txt K mg) : mg "_law_plus" = some (.ref (ga K "_law_plus")) := by
  obtain ⟨h, X, Gn⟩ := T.h
  exact glo_ok X Gn (show (Fa.glo "_law_plus").ok K = true from T.c.fact 49 rfl)
theorem d__law_plus (T : Txt K mg) : ∃ fd, G.FnP K "_law_plus" "_law_plus" (G.top 65) [] (ga K "_law_plus") fd := T.c.def_ 49 rfl
theorem g__law_lights (T : Txt K mg) : mg "_law_lights" = some (.ref (ga K "_law_lights")) := by
  obtain ⟨h, X, Gn⟩ := T.h
  exact glo_ok X Gn (show (Fa.glo "_law_lights").ok K = true from T.c.fact 50 rfl)
theorem d__law_lights (T : Txt K mg) : ∃ fd, G.FnP K "_law_lights" "_law_lights" (G.top 66) [] (ga K "_law_lights") fd := T.c.def_ 50 rfl
theorem g__law_lit (T : Txt K mg) : mg "_law_lit" = some (.ref (ga K "_law_lit")) := by
  obtain ⟨h, X, Gn⟩ := T.h
  exact glo_ok X Gn (show (Fa.glo "_law_lit").ok K = true from T.c.fact 51 rfl)
theorem d__law_lit (T : Txt K mg) : ∃ fd, G.FnP K "_law_lit" "_law_lit" (G.top 67) [] (ga K "_law_lit") fd := T.c.def_ 51 rfl
theorem g__law_is_less (T : Txt K mg) : mg "_law_is_less" = some (.ref (ga K "_law_is_less")) := by
  obtain ⟨h, X, Gn⟩ := T.h
  exact glo_ok X Gn (show (Fa.glo "_law_is_less").ok K = true from T.c.fact 52 rfl)
theorem d__law_is_less (T : Txt K mg) : ∃ fd, G.FnP K "_law_is_less" "_law_is_less" (G.top 68) [] (ga K "_law_is_less") fd := T.c.def_ 52 rfl
theorem g__law_sums_right (T : Txt K mg) : mg "_law_sums_right" = some (.ref (ga K "_law_sums_right")) := by
  obtain ⟨h, X, Gn⟩ := T.h
  exact glo_ok X Gn (show (Fa.glo "_law_sums_right").ok K = true from T.c.fact 53 rfl)
theorem d__law_sums_right (T : Txt K mg) : ∃ fd, G.FnP K "_law_sums_right" "_law_sums_right" (G.top 69) [] (ga K "_law_sums_right") fd := T.c.def_ 53 rfl
theorem g__law_kin_right (T : Txt K mg) : mg "_law_kin_right" = some (.ref (ga K "_law_kin_right")) := by
  obtain ⟨h, X, Gn⟩ := T.h
  exact glo_ok X Gn (show (Fa.glo "_law_kin_right").ok K = true from T.c.fact 54 rfl)
theorem d__law_kin_right (T : Txt K mg) : ∃ fd, G.FnP K "_law_kin_right" "_law_kin_right" (G.top 70) [] (ga K "_law_kin_right") fd := T.c.def_ 54 rfl
theorem g__law_ages_right (T : Txt K mg) : mg "_law_ages_right" = some (.ref (ga K "_law_ages_right")) := by
  obtain ⟨h, X, Gn⟩ := T.h
  exact glo_ok X Gn (show (Fa.glo "_law_ages_right").ok K = true from T.c.fact 55 rfl)
theorem d__law_ages_right (T : Txt K mg) : ∃ fd, G.FnP K "_law_ages_right" "_law_ages_right" (G.top 71) [] (ga K "_law_ages_right") fd := T.c.def_ 55 rfl
theorem g__law_news_right (T : Txt K mg) : mg "_law_news_right" = some (.ref (ga K "_law_news_right")) := by
  obtain ⟨h, X, Gn⟩ := T.h
  exact glo_ok X Gn (show (Fa.glo "_law_news_right").ok K = true from T.c.fact 56 rfl)
theorem d__law_news_right (T : Txt K mg) : ∃ fd, G.FnP K "_law_news_right" "_law_news_right" (G.top 72) [] (ga K "_law_news_right") fd := T.c.def_ 56 rfl
theorem g_law (T : Txt K mg) : mg "law" = some (.ref (ga K "law")) := by
  obtain ⟨h, X, Gn⟩ := T.h
  exact glo_ok X Gn (show (Fa.glo "law").ok K = true from T.c.fact 57 rfl)
theorem d_law (T : Txt K mg) : ∃ fd, G.FnP K "law" "law" (G.top 73) [] (ga K "law") fd := T.c.def_ 57 rfl
theorem g_Ratio (T : Txt K mg) : mg "Ratio" = some (.ref (ga K "Ratio")) := by
  obtain ⟨h, X, Gn⟩ := T.h
  exact glo_ok X Gn (show (Fa.glo "Ratio").ok K = true from T.c.fact 58 rfl)
theorem cl_Ratio (T : Txt K mg) : Cls K (ga K "Ratio") := cls_ok (show (Fa.cls "Ratio").ok K = true from T.c.fact 59 rfl)
theorem mk_Ratio (T : Txt K mg) : Mk K (ga K "Ratio") (ma K (ga K "Ratio") "__init__") := mkr_ok (show (Fa.mkr "Ratio").ok K = true from T.c.fact 60 rfl)
theorem isi_Ratio (T : Txt K mg) : G.IsiC K (ga K "Ratio") := isi_ok (cl_Ratio T) (show isiB K (ga K "Ratio") = true from T.c.fact 61 rfl)
theorem sf_Ratio (T : Txt K mg) : PySem.W.selfFirst K (ga K "Ratio") = true := T.c.fact 62 rfl
theorem ne_Ratio (T : Txt K mg) : G.NeO K (ga K "Ratio") := ne_ok (show neB K (ga K "Ratio") = true from T.c.fact 63 rfl)
theorem nf_Ratio (T : Txt K mg) : PySem.W.notFirst K (ga K "Ratio") (.type "int") = true := T.c.fact 64 rfl
theorem nn_Ratio (T : Txt K mg) : PySem.W.notFirst K (ga K "Ratio") (.type "NoneType") = true := T.c.fact 65 rfl
theorem na_Ratio_top (T : Txt K mg) : NoAttr K (ga K "Ratio") "top" := noat_ok (show (Fa.noat "Ratio" "top").ok K = true from T.c.fact 66 rfl)
theorem na_Ratio_bottom (T : Txt K mg) : NoAttr K (ga K "Ratio") "bottom" := noat_ok (show (Fa.noat "Ratio" "bottom").ok K = true from T.c.fact 67 rfl)
theorem na_Ratio_sign (T : Txt K mg) : NoAttr K (ga K "Ratio") "sign" := noat_ok (show (Fa.noat "Ratio" "sign").ok K = true from T.c.fact 68 rfl)
theorem sm_Ratio_of (T : Txt K mg) : G.SMeth K (ga K "Ratio") "of" (smF K (ga K "Ratio") "of") := sm_ok (show smOk K (ga K "Ratio") "of" = true from T.c.fact 69 rfl)
theorem me_Ratio_over (T : Txt K mg) : Meth K (ga K "Ratio") "over" (ma K (ga K "Ratio") "over") := meth_ok (show (Fa.meth "Ratio" "over").ok K = true from T.c.fact 70 rfl)
theorem me_Ratio_is_below (T : Txt K mg) : Meth K (ga K "Ratio") "is_below" (ma K (ga K "Ratio") "is_below") := meth_ok (show (Fa.meth "Ratio" "is_below").ok K = true from T.c.fact 71 rfl)
theorem me_Ratio_add (T : Txt K mg) : Meth K (ga K "Ratio") "__add__" (ma K (ga K "Ratio") "__add__") := meth_ok (show (Fa.meth "Ratio" "__add__").ok K = true from T.c.fact 72 rfl)
theorem me_Ratio_sub (T : Txt K mg) : Meth K (ga K "Ratio") "__sub__" (ma K (ga K "Ratio") "__sub__") := meth_ok (show (Fa.meth "Ratio" "__sub__").ok K = true from T.c.fact 73 rfl)
theorem me_Ratio_mul (T : Txt K mg) : Meth K (ga K "Ratio") "__mul__" (ma K (ga K "Ratio") "__mul__") := meth_ok (show (Fa.meth "Ratio" "__mul__").ok K = true from T.c.fact 74 rfl)
theorem me_Ratio_neg (T : Txt K mg) : Meth K (ga K "Ratio") "__neg__" (ma K (ga K "Ratio") "__neg__") := meth_ok (show (Fa.meth "Ratio" "__neg__").ok K = true from T.c.fact 75 rfl)
theorem me_Ratio_eq (T : Txt K mg) : Meth K (ga K "Ratio") "__eq__" (ma K (ga K "Ratio") "__eq__") := meth_ok (show (Fa.meth "Ratio" "__eq__").ok K = true from T.c.fact 76 rfl)
theorem kt_int_Ratio (T : Txt K mg) : PySem.W.kitOne K (.type "int") (.ref (ga K "Ratio")) = some false := of_decide_eq_true (T.c.fact 77 rfl)
theorem kt_Ratio_int (T : Txt K mg) : PySem.W.kitOne K (.ref (ga K "Ratio")) (.type "int") = some false := of_decide_eq_true (T.c.fact 78 rfl)
theorem kt_NoneType_Ratio (T : Txt K mg) : PySem.W.kitOne K (.type "NoneType") (.ref (ga K "Ratio")) = some false := of_decide_eq_true (T.c.fact 79 rfl)
theorem kt_Ratio_Step (T : Txt K mg) : PySem.W.kitOne K (.ref (ga K "Ratio")) (.ref (ga K "Step")) = some false := of_decide_eq_true (T.c.fact 80 rfl)
theorem kt_Ratio_Tour (T : Txt K mg) : PySem.W.kitOne K (.ref (ga K "Ratio")) (.ref (ga K "Tour")) = some false := of_decide_eq_true (T.c.fact 81 rfl)
theorem g_Step (T : Txt K mg) : mg "Step" = some (.ref (ga K "Step")) := by
  obtain ⟨h, X, Gn⟩ := T.h
  exact glo_ok X Gn (show (Fa.glo "Step").ok K = true from T.c.fact 82 rfl)
theorem cl_Step (T : Txt K mg) : Cls K (ga K "Step") := cls_ok (show (Fa.cls "Step").ok K = true from T.c.fact 83 rfl)
theorem mk_Step (T : Txt K mg) : Mk K (ga K "Step") (ma K (ga K "Step") "__init__") := mkr_ok (show (Fa.mkr "Step").ok K = true from T.c.fact 84 rfl)
theorem isi_Step (T : Txt K mg) : G.IsiC K (ga K "Step") := isi_ok (cl_Step T) (show isiB K (ga K "Step") = true from T.c.fact 85 rfl)
theorem sf_Step (T : Txt K mg) : PySem.W.selfFirst K (ga K "Step") = true := T.c.fact 86 rfl
theorem ne_Step (T : Txt K mg) : G.NeO K (ga K "Step") := ne_ok (show neB K (ga K "Step") = true from T.c.fact 87 rfl)
theorem na_Step_time (T : Txt K mg) : NoAttr K (ga K "Step") "time" := noat_ok (show (Fa.noat "Step" "time").ok K = true from T.c.fact 88 rfl)
theorem na_Step_place (T : Txt K mg) : NoAttr K (ga K "Step") "place" := noat_ok (show (Fa.noat "Step" "place").ok K = true from T.c.fact 89 rfl)
theorem na_Step_axes (T : Txt K mg) : NoAttr K (ga K "Step") "axes" := noat_ok (show (Fa.noat "Step" "axes").ok K = true from T.c.fact 90 rfl)
theorem na_Step_numbers (T : Txt K mg) : NoAttr K (ga K "Step") "numbers" := noat_ok (show (Fa.noat "Step" "numbers").ok K = true from T.c.fact 91 rfl)
theorem na_Step_bottom (T : Txt K mg) : NoAttr K (ga K "Step") "bottom" := noat_ok (show (Fa.noat "Step" "bottom").ok K = true from T.c.fact 92 rfl)
theorem na_Step_square (T : Txt K mg) : NoAttr K (ga K "Step") "square" := noat_ok (show (Fa.noat "Step" "square").ok K = true from T.c.fact 93 rfl)
theorem na_Step_kind (T : Txt K mg) : NoAttr K (ga K "Step") "kind" := noat_ok (show (Fa.noat "Step" "kind").ok K = true from T.c.fact 94 rfl)
theorem sm_Step_nothing (T : Txt K mg) : G.SMeth K (ga K "Step") "nothing" (smF K (ga K "Step") "nothing") := sm_ok (show smOk K (ga K "Step") "nothing" = true from T.c.fact 95 rfl)
theorem me_Step_add (T : Txt K mg) : Meth K (ga K "Step") "__add__" (ma K (ga K "Step") "__add__") := meth_ok (show (Fa.meth "Step" "__add__").ok K = true from T.c.fact 96 rfl)
theorem me_Step_sub (T : Txt K mg) : Meth K (ga K "Step") "__sub__" (ma K (ga K "Step") "__sub__") := meth_ok (show (Fa.meth "Step" "__sub__").ok K = true from T.c.fact 97 rfl)
theorem me_Step_eq (T : Txt K mg) : Meth K (ga K "Step") "__eq__" (ma K (ga K "Step") "__eq__") := meth_ok (show (Fa.meth "Step" "__eq__").ok K = true from T.c.fact 98 rfl)
theorem kt_Step_Tour (T : Txt K mg) : PySem.W.kitOne K (.ref (ga K "Step")) (.ref (ga K "Tour")) = some false := of_decide_eq_true (T.c.fact 99 rfl)
theorem g_Tour (T : Txt K mg) : mg "Tour" = some (.ref (ga K "Tour")) := by
  obtain ⟨h, X, Gn⟩ := T.h
  exact glo_ok X Gn (show (Fa.glo "Tour").ok K = true from T.c.fact 100 rfl)
theorem cl_Tour (T : Txt K mg) : Cls K (ga K "Tour") := cls_ok (show (Fa.cls "Tour").ok K = true from T.c.fact 101 rfl)
theorem mk_Tour (T : Txt K mg) : Mk K (ga K "Tour") (ma K (ga K "Tour") "__init__") := mkr_ok (show (Fa.mkr "Tour").ok K = true from T.c.fact 102 rfl)
theorem isi_Tour (T : Txt K mg) : G.IsiC K (ga K "Tour") := isi_ok (cl_Tour T) (show isiB K (ga K "Tour") = true from T.c.fact 103 rfl)
theorem ne_Tour (T : Txt K mg) : G.NeO K (ga K "Tour") := ne_ok (show neB K (ga K "Tour") = true from T.c.fact 104 rfl)
theorem na_Tour_parts (T : Txt K mg) : NoAttr K (ga K "Tour") "parts" := noat_ok (show (Fa.noat "Tour" "parts").ok K = true from T.c.fact 105 rfl)
theorem na_Tour_age (T : Txt K mg) : NoAttr K (ga K "Tour") "age" := noat_ok (show (Fa.noat "Tour" "age").ok K = true from T.c.fact 106 rfl)
theorem na_Tour_spots (T : Txt K mg) : NoAttr K (ga K "Tour") "spots" := noat_ok (show (Fa.noat "Tour" "spots").ok K = true from T.c.fact 107 rfl)
theorem na_Tour_step (T : Txt K mg) : NoAttr K (ga K "Tour") "step" := noat_ok (show (Fa.noat "Tour" "step").ok K = true from T.c.fact 108 rfl)
theorem me_Tour_joined (T : Txt K mg) : Meth K (ga K "Tour") "joined" (ma K (ga K "Tour") "joined") := meth_ok (show (Fa.meth "Tour" "joined").ok K = true from T.c.fact 109 rfl)
theorem me_Tour_eq (T : Txt K mg) : Meth K (ga K "Tour") "__eq__" (ma K (ga K "Tour") "__eq__") := meth_ok (show (Fa.meth "Tour" "__eq__").ok K = true from T.c.fact 110 rfl)
theorem slTR_mul (T : Txt K mg) : G.SlotT K (ga K "Ratio") "mul" "int" := slTo_ok (show slTBo K (ga K "Ratio") "mul" = true from T.c.fact 111 rfl)
end
end GH
set_option maxHeartbeats 4000000
namespace E
open PySem PySem.Spec PyProof.Rows L2 Evl G He
section
variable {P : Program} {w : World} {K : PySem.W.Frag} {mg : Str → Option Value} {base : Heap}
theorem is_integer_i (T : GH.Txt K mg) {i : Int} : Fn P w K mg base "is_integer" 1 [.int i] (.bl true) := by
  obtain ⟨fd, F⟩ := GH.d_is_integer T
  have hnd : (["value"] : List Str).Nodup := by decide +kernel
  refine mk_fn (fn_vs (k := 0) (N := ["value"]) (pn := ["value"]) (S0 := [.pv (.int i)]) F ⟨rfl, rfl, rfl, by decide +kernel, rfl, by decide +kernel, by decide +kernel⟩ rfl rfl (of_decide_eq_true rfl) ?_) F (GH.g_is_integer (K := K) T) (b1 F)
  intro cdv A outer s H E hr
  refine bv_retE (ev_and (ev_isi (bb := true) (GH.fr_isinstance (K := K) T) (ev_var 0) (ev_ty (GH.fr_int (K := K) T) rfl) (by exact rfl) (isi_by (by exact rfl) (by exact rfl))) fun h1 => (ev_one (ev_not (ev_isi (bb := false) (GH.fr_isinstance (K := K) T) (ev_var 0) (ev_ty (GH.fr_bool (K := K) T) rfl) (by exact rfl) (isi_by (by exact rfl) (by exact rfl)))))) ?_
  first | rfl | (simp_all; done)

theorem is_integer_r (T : GH.Txt K mg) {q : Rat} : Fn P w K mg base "is_integer" 1 [ratV K q] (.bl false) := by
  obtain ⟨fd, F⟩ := GH.d_is_integer T
  have hnd : (["value"] : List Str).Nodup := by decide +kernel
  refine mk_fn (fn_vs (k := 0) (N := ["value"]) (pn := ["value"]) (S0 := [.pv (ratV K q)]) F ⟨rfl, rfl, rfl, by decide +kernel, rfl, by decide +kernel, by decide +kernel⟩ rfl rfl (of_decide_eq_true rfl) ?_) F (GH.g_is_integer (K := K) T) (b1 F)
  intro cdv A outer s H E hr
  refine bv_retE (ev_andF (ev_isi (bb := false) (GH.fr_isinstance (K := K) T) (ev_var 0) (ev_ty (GH.fr_int (K := K) T) rfl) (by exact rfl) (isi_ins (GH.isi_Ratio (K := K) T) (GH.kt_Ratio_int (K := K) T)))) ?_
  first | rfl | (simp_all; done)

theorem is_within_i (T : GH.Txt K mg) {i a b : Int} : Fn P w K mg base "is_within" 2 [.int i, .int a, .int b] (.bl (decide (a ≤ i) && decide (i ≤ b))) := by
  obtain ⟨fd, F⟩ := GH.d_is_within T
  have hnd : (["value", "least", "most"] : List Str).Nodup := by decide +kernel
  refine mk_fn (fn_vs (k := 1) (N := ["value", "least", "most"]) (pn := ["value", "least", "most"]) (S0 := [.pv (.int i), .pv (.int a), .pv (.int b)]) F ⟨rfl, rfl, rfl, by decide +kernel, rfl, by decide +kernel, by decide +kernel⟩ rfl rfl (of_decide_eq_true rfl) ?_) F (GH.g_is_within (K := K) T) (b3 F)
  intro cdv A outer s H E hr
  refine bv_skip (tv_not (tv_val (ev_callA (hr.mono (show 1 ≤ _ by decide)) (av_cons (ev_var 0) av_nil) (is_integer_i (K := K) T)))) (by first | rfl | (exact by first | (apply decide_eq_false; omega) | with_reducible rfl | (simp <;> omega) | (simp_all; done))) ?_
  refine bv_retE (ev_and (ev_or (ev_cm (cv_isN (ev_var 1))) fun h1 => (ev_one (ev_cm (cv_ge (ev_var 0) (ev_var 1))))) fun h3 => (ev_one (ev_or (ev_cm (cv_isN (ev_var 2))) fun h2 => (ev_one (ev_cm (cv_le (ev_var 0) (ev_var 2))))))) ?_
  first | rfl | (simp_all; done)

theorem is_listed_l (T : GH.Txt K mg) {α : Type} {f : α → PV} {as : List α} : Fn P w K mg base "is_listed" 1 [.lst (as.map f)] (.bl true) := by
  obtain ⟨fd, F⟩ := GH.d_is_listed T
  have hnd : (["value"] : List Str).Nodup := by decide +kernel
  refine mk_fn (fn_vs (k := 0) (N := ["value"]) (pn := ["value"]) (S0 := [.pv (.lst (as.map f))]) F ⟨rfl, rfl, rfl, by decide +kernel, rfl, by decide +kernel, by decide +kernel⟩ rfl rfl (of_decide_eq_true rfl) ?_) F (GH.g_is_listed (K := K) T) (b1 F)
  intro cdv A outer s H E hr
  refine bv_retE (ev_isi2 (k := 0) (GH.fr_isinstance (K := K) T) (ev_var 0) (ev_tup (av_cons (ev_ty (GH.fr_list (K := K) T) rfl) (av_cons (ev_ty (GH.fr_tuple (K := K) T) rfl) av_nil))) (by exact rfl) (by exact rfl) (isi2_of (b1 := true) (b2 := false) (by exact rfl) (by exact rfl) (by exact rfl))) ?_
  first | rfl | (simp_all; done)

theorem is_listed_t (T : GH.Txt K mg) {α : Type} {f : α → PV} {as : List α} : Fn P w K mg base "is_listed" 1 [.tup (as.map f)] (.bl true) := by
  obtain ⟨fd, F⟩ := GH.d_is_listed T
  have hnd : (["value"] : List Str).Nodup := by decide +kernel
  refine mk_fn (fn_vs (k := 0) (N := ["value"]) (pn := ["value"]) (S0 := [.pv (.tup (as.map f))]) F ⟨rfl, rfl, rfl, by decide +kernel, rfl, by decide +kernel, by decide +kernel⟩ rfl rfl (of_decide_eq_true rfl) ?_) F (GH.g_is_listed (K := K) T) (b1 F)
  intro cdv A outer s H E hr
  refine bv_retE (ev_isi2 (k := 0) (GH.fr_isinstance (K := K) T) (ev_var 0) (ev_tup (av_cons (ev_ty (GH.fr_list (K := K) T) rfl) (av_cons (ev_ty (GH.fr_tuple (K := K) T) rfl) av_nil))) (by exact rfl) (by exact rfl) (isi2_of (b1 := false) (b2 := true) (by exact rfl) (by exact rfl) (by exact rfl))) ?_
  first | rfl | (simp_all; done)

def fRat (q : Rat) : List PV := [.int q.num, .int (q.den : Int), .int q.num.sign]
theorem gcd_bt {a b : Int} (h0 : 0 < b) (hb : b.natAbs < 2 ^ 9000) : Bt ((Nat.gcd a.natAbs b.natAbs : Nat) : Int) 9000 := ⟨by
  have h1 : Nat.gcd a.natAbs b.natAbs ≤ b.natAbs := Nat.gcd_le_right _ (by omega)
  rw [Int.natAbs_natCast]; omega⟩
theorem gcd_ps {a b : Int} (h0 : 0 < b) : (0 : Int) < ((Nat.gcd a.natAbs b.natAbs : Nat) : Int) := by
  have h : 0 < Nat.gcd a.natAbs b.natAbs := Nat.gcd_pos_of_pos_right _ (by omega)
  omega
theorem sign_if (n : Int) : (if decide (n = 0) = true then (0 : Int) else if decide (0 < n) = true then 1 else -1) = n.sign := by
  rcases Int.lt_trichotomy n 0 with h | h | h
  · rw [if_neg (by simp; omega), if_neg (by simp; omega), Int.sign_eq_neg_one_of_neg h]
  · subst h; rfl
  · rw [if_neg (by simp; omega), if_pos (by simp; omega), Int.sign_eq_one_of_pos h]

theorem nw_Ratio (T : GH.Txt K mg) {t b : Int} (h0 : 0 < b := by first | (simp <;> omega) | exact Int.mul_pos (q_dpos _) (q_dpos _) | exact q_dpos _ | with_reducible rfl | assumption | omega) (hb : b.natAbs < 2 ^ 9000 := by first | assumption | exact bt_le (by decide) | omega) : Nw P w K mg base "Ratio" (He.ga K "Ratio") 1 [.int t, .int b] ["top", "bottom", "sign"] [.int (Rat.divInt t b).num, .int ((Rat.divInt t b).den : Int), .int (Rat.divInt t b).num.sign] := by
  obtain ⟨fd, F⟩ := GH.d_Ratio_init T
  have hnd : (["self", "top", "bottom", "common"] : List Str).Nodup := by decide +kernel
  haveI : Bt b 9000 := ⟨hb⟩
  haveI := gcd_bt (a := t) h0 hb
  have hg := gcd_ps (a := t) h0
  have e1 := q_num (a := t) h0
  have e2 := q_den (a := t) h0
  obtain ⟨ds, hv, hbn⟩ := FunD.binds1 (ps := ["self", "top", "bottom"]) F 3 1 (by simp) rfl fun T kV doc pm an cdv ct us its hl hi => match us, its, hl, hi with | [_, _, _], [_], _, _ => ⟨_, rfl, rfl⟩
  cases hv
  refine mk_nw (ps := [.int t, .int b]) (dps := []) (fn_ns (k := 0) (N := ["self", "top", "bottom", "common"]) (pn := ["self", "top", "bottom"]) F ⟨rfl, rfl, rfl, by decide +kernel, rfl, by decide +kernel, by decide +kernel⟩ rfl (of_decide_eq_true rfl) rfl ?_) (GH.mk_Ratio (K := K) T) (GH.g_Ratio (K := K) T) hbn dv_nil
  intro a dx cdv A outer s H E hr
  show BV _ _ [.own a (.obj _ dx [] []), .pv (.int t), .pv (.int b), .no] _
  refine bv_skip (tv_w (wv_andF (tv_cm (cv_notTy (ev_typeI (GH.fr_type (K := K) T) (ev_var 1)) (ev_ty (GH.fr_int (K := K) T) rfl))))) (by first | rfl | (exact by first | (apply decide_eq_false; omega) | with_reducible rfl | (simp <;> omega) | (simp_all; done))) ?_
  refine bv_skip (tv_w (wv_or (tv_w (wv_andF (tv_cm (cv_notTy (ev_typeI (GH.fr_type (K := K) T) (ev_var 2)) (ev_ty (GH.fr_int (K := K) T) rfl))))) fun h1 => (wv_or1 (tv_cm (cv_eqI (ev_var 2) ev_int))))) (by first | (apply decide_eq_false; omega) | with_reducible rfl | (simp <;> omega) | (simp_all; done)) ?_
  refine bv_asgE (S' := [_, _, _, _]) 3 hnd (ev_ifT (TV.as (tv_cm (cv_gt (ev_var 2) ev_int)) (by first | (apply decide_eq_true; omega) | with_reducible rfl | (simp <;> omega) | (simp_all; done))) (ev_gcd (GH.im_gcd (K := K) T) (ev_var 1) (ev_var 2))) ?_
  refine bv_newf (S' := [_, _, _, _]) 0 (GH.cl_Ratio (K := K) T) (GH.na_Ratio_top (K := K) T) (ev_fdivV (ev_var 1) (ev_var 3)) ?_
  refine bv_newf (S' := [_, _, _, _]) 0 (GH.cl_Ratio (K := K) T) (GH.na_Ratio_bottom (K := K) T) (ev_fdivV (ev_var 2) (ev_var 3)) ?_
  refine bv_newfX 0 (GH.cl_Ratio (K := K) T) (GH.na_Ratio_sign (K := K) T) (xw_borrow 0 rfl (ev_ifM PV.int (tv_cm (cv_eqI (ev_at 0 (GH.cl_Ratio (K := K) T) (GH.na_Ratio_top (K := K) T) (ev_var 0)) ev_int)) (fun h2 => ev_int) (fun h2 => (ev_ifM PV.int (tv_cm (cv_gt (ev_at 0 (GH.cl_Ratio (K := K) T) (GH.na_Ratio_top (K := K) T) (ev_var 0)) ev_int)) (fun h3 => ev_int) (fun h3 => (ev_neg ev_int))))) ⟨rfl, ?_⟩)
  show BV _ _ [_, _, _, _] _
  refine bv_nil ?_
  show some _ = some _
  rw [sign_if, e1, e2]
  rfl

theorem nw_Ratio1 (T : GH.Txt K mg) {t : Int} : Nw P w K mg base "Ratio" (He.ga K "Ratio") 1 [.int t] ["top", "bottom", "sign"] [.int (t : Rat).num, .int ((t : Rat).den : Int), .int (t : Rat).num.sign] := by
  obtain ⟨fd, F⟩ := GH.d_Ratio_init T
  have hnd : (["self", "top", "bottom", "common"] : List Str).Nodup := by decide +kernel
  haveI := gcd_bt (a := t) (b := 1) (by decide) (by decide)
  have hg := gcd_ps (a := t) (b := 1) (by decide)
  have e1 := q_num (a := t) (b := 1) (by decide)
  have e2 := q_den (a := t) (b := 1) (by decide)
  rw [q_int] at e1 e2
  obtain ⟨ds, hv, hbn⟩ := FunD.binds1 (ps := ["self", "top", "bottom"]) F 2 0 (by simp) rfl fun T kV doc pm an cdv ct us its hl hi => match us, its, hl, hi with | [_, _], [_], _, _ => ⟨_, rfl, rfl⟩
  refine mk_nw (ps := [.int t]) (dps := [.int 1]) (fn_ns (k := 0) (N := ["self", "top", "bottom", "common"]) (pn := ["self", "top", "bottom"]) F ⟨rfl, rfl, rfl, by decide +kernel, rfl, by decide +kernel, by decide +kernel⟩ rfl (of_decide_eq_true rfl) rfl ?_) (GH.mk_Ratio (K := K) T) (GH.g_Ratio (K := K) T) hbn ⟨_, hv, fun _ => ⟨_, _, rfl, rfl, rfl⟩⟩
  intro a dx cdv A outer s H E hr
  show BV _ _ [.own a (.obj _ dx [] []), .pv (.int t), .pv (.int 1), .no] _
  refine bv_skip (tv_w (wv_andF (tv_cm (cv_notTy (ev_typeI (GH.fr_type (K := K) T) (ev_var 1)) (ev_ty (GH.fr_int (K := K) T) rfl))))) (by first | rfl | (exact by first | (apply decide_eq_false; omega) | with_reducible rfl | (simp <;> omega) | (simp_all; done))) ?_
  refine bv_skip (tv_w (wv_or (tv_w (wv_andF (tv_cm (cv_notTy (ev_typeI (GH.fr_type (K := K) T) (ev_var 2)) (ev_ty (GH.fr_int (K := K) T) rfl))))) fun h1 => (wv_or1 (tv_cm (cv_eqI (ev_var 2) ev_int))))) (by first | (apply decide_eq_false; omega) | with_reducible rfl | (simp <;> omega) | (simp_all; done)) ?_
  refine bv_asgE (S' := [_, _, _, _]) 3 hnd (ev_ifT (TV.as (tv_cm (cv_gt (ev_var 2) ev_int)) (by first | (apply decide_eq_true; omega) | with_reducible rfl | (simp <;> omega) | (simp_all; done))) (ev_gcd (GH.im_gcd (K := K) T) (ev_var 1) (ev_var 2))) ?_
  refine bv_newf (S' := [_, _, _, _]) 0 (GH.cl_Ratio (K := K) T) (GH.na_Ratio_top (K := K) T) (ev_fdivV (ev_var 1) (ev_var 3)) ?_
  refine bv_newf (S' := [_, _, _, _]) 0 (GH.cl_Ratio (K := K) T) (GH.na_Ratio_bottom (K := K) T) (ev_fdivV (ev_var 2) (ev_var 3)) ?_
  refine bv_newfX 0 (GH.cl_Ratio (K := K) T) (GH.na_Ratio_sign (K := K) T) (xw_borrow 0 rfl (ev_ifM PV.int (tv_cm (cv_eqI (ev_at 0 (GH.cl_Ratio (K := K) T) (GH.na_Ratio_top (K := K) T) (ev_var 0)) ev_int)) (fun h2 => ev_int) (fun h2 => (ev_ifM PV.int (tv_cm (cv_gt (ev_at 0 (GH.cl_Ratio (K := K) T) (GH.na_Ratio_top (K := K) T) (ev_var 0)) ev_int)) (fun h3 => ev_int) (fun h3 => (ev_neg ev_int))))) ⟨rfl, ?_⟩)
  show BV _ _ [_, _, _, _] _
  refine bv_nil ?_
  show some _ = some _
  rw [sign_if, e1, e2]
  rfl

theorem as_ratio_r (T : GH.Txt K mg) {q : Rat} {z : Str} : Fn P w K mg base "as_ratio" 1 [ratV K q, .str z] (ratV K q) := by
  obtain ⟨fd, F⟩ := GH.d_as_ratio T
  have hnd : (["value", "part"] : List Str).Nodup := by decide +kernel
  refine mk_fn (fn_vs (k := 0) (N := ["value", "part"]) (pn := ["value", "part"]) (S0 := [.pv (ratV K q), .pv (.str z)]) F ⟨rfl, rfl, rfl, by decide +kernel, rfl, by decide +kernel, by decide +kernel⟩ rfl rfl (of_decide_eq_true rfl) ?_) F (GH.g_as_ratio (K := K) T) (b2 F)
  intro cdv A outer s H E hr
  refine bv_take (tv_val (ev_isi (bb := true) (GH.fr_isinstance (K := K) T) (ev_var 0) (ev_cls (GH.g_Ratio (K := K) T)) (by exact rfl) (isi_self (GH.isi_Ratio (K := K) T)))) (by first | rfl | (exact by first | (apply decide_eq_true; omega) | with_reducible rfl | (simp <;> omega) | (simp_all; done))) ?_
  refine bv_retE (ev_var 0) ?_
  first | rfl | (simp_all; done)

theorem as_ratio_i (T : GH.Txt K mg) {i : Int} {z : Str} : Fn P w K mg base "as_ratio" 3 [.int i, .str z] (ratV K (i : Rat)) := by
  obtain ⟨fd, F⟩ := GH.d_as_ratio T
  have hnd : (["value", "part"] : List Str).Nodup := by decide +kernel
  refine mk_fn (fn_vs (k := 2) (N := ["value", "part"]) (pn := ["value", "part"]) (S0 := [.pv (.int i), .pv (.str z)]) F ⟨rfl, rfl, rfl, by decide +kernel, rfl, by decide +kernel, by decide +kernel⟩ rfl rfl (of_decide_eq_true rfl) ?_) F (GH.g_as_ratio (K := K) T) (b2 F)
  intro cdv A outer s H E hr
  refine bv_skip (tv_val (ev_isi (bb := false) (GH.fr_isinstance (K := K) T) (ev_var 0) (ev_cls (GH.g_Ratio (K := K) T)) (by exact rfl) (isi_by (by exact rfl) (GH.kt_int_Ratio (K := K) T)))) (by first | rfl | (exact by first | (apply decide_eq_false; omega) | with_reducible rfl | (simp <;> omega) | (simp_all; done))) ?_
  refine bv_skip (tv_not (tv_val (ev_callA (hr.mono (show 1 ≤ _ by decide)) (av_cons (ev_var 0) av_nil) (is_integer_i (K := K) T)))) (by first | rfl | (exact by first | (apply decide_eq_false; omega) | with_reducible rfl | (simp <;> omega) | (simp_all; done))) ?_
  refine bv_retE (ev_newA (hr.mono (show 2 ≤ _ by decide)) (av_cons (ev_var 0) av_nil) (nw_Ratio1 (K := K) T)) ?_
  first | rfl | (simp_all; done)

theorem rat_add (T : GH.Txt K mg) {a b : Rat} (ha : G.Sm 4500 a := by first | assumption | exact smc_le (by decide)) (hb : G.Sm 4500 b := by first | assumption | exact smc_le (by decide)) : Op P w K mg base (He.ga K "Ratio") "__add__" 3 [ratV K a, ratV K b] (ratV K (a + b)) := by
  obtain ⟨fd, F⟩ := GH.d_Ratio_add T
  have hnd : (["self", "other", "more"] : List Str).Nodup := by decide +kernel
  haveI : SmC 4500 a := ⟨ha⟩
  haveI : SmC 4500 b := ⟨hb⟩
  have p := den_pos2 a b
  refine mk_op (fn_vs (k := 2) (N := ["self", "other", "more"]) (pn := ["self", "other"]) (S0 := [.pv (ratV K a), .pv (ratV K b), .no]) F ⟨rfl, rfl, rfl, by decide +kernel, rfl, by decide +kernel, by decide +kernel⟩ rfl rfl (of_decide_eq_true rfl) ?_) (GH.me_Ratio_add (K := K) T) (b2 F)
  intro cdv A outer s H E hr
  refine bv_asgE (S' := [_, _, _]) 2 hnd (ev_callA (hr.mono (show 1 ≤ _ by decide)) (av_cons (ev_var 1) (av_cons ev_str av_nil)) (as_ratio_r (K := K) T)) ?_
  refine bv_retE (ev_newA (hr.mono (show 2 ≤ _ by decide)) (av_cons (ev_add (ev_mulV (ev_at 0 (GH.cl_Ratio (K := K) T) (GH.na_Ratio_top (K := K) T) (ev_var 0)) (ev_at 1 (GH.cl_Ratio (K := K) T) (GH.na_Ratio_bottom (K := K) T) (ev_var 2))) (ev_mulV (ev_at 0 (GH.cl_Ratio (K := K) T) (GH.na_Ratio_top (K := K) T) (ev_var 2)) (ev_at 1 (GH.cl_Ratio (K := K) T) (GH.na_Ratio_bottom (K := K) T) (ev_var 0)))) (av_cons (ev_mulV (ev_at 1 (GH.cl_Ratio (K := K) T) (GH.na_Ratio_bottom (K := K) T) (ev_var 0)) (ev_at 1 (GH.cl_Ratio (K := K) T) (GH.na_Ratio_bottom (K := K) T) (ev_var 2))) av_nil)) (nw_Ratio (K := K) T)) ?_
  rw [q_add]; rfl

theorem rat_addi (T : GH.Txt K mg) {a : Rat} {i : Int} (ha : G.Sm 4500 a := by first | assumption | exact smc_le (by decide)) (hi : i.natAbs < 2 ^ 4500 := by first | assumption | exact bt_le (by decide) | omega) : Op P w K mg base (He.ga K "Ratio") "__add__" 4 [ratV K a, .int i] (ratV K (a + (i : Rat))) := by
  obtain ⟨fd, F⟩ := GH.d_Ratio_add T
  have hnd : (["self", "other", "more"] : List Str).Nodup := by decide +kernel
  have hb := sm_int hi (by decide)
  haveI : SmC 4500 a := ⟨ha⟩
  haveI : SmC 4500 (i : Rat) := ⟨hb⟩
  have p := den_pos2 a (i : Rat)
  refine mk_op (fn_vs (k := 3) (N := ["self", "other", "more"]) (pn := ["self", "other"]) (S0 := [.pv (ratV K a), .pv (.int i), .no]) F ⟨rfl, rfl, rfl, by decide +kernel, rfl, by decide +kernel, by decide +kernel⟩ rfl rfl (of_decide_eq_true rfl) ?_) (GH.me_Ratio_add (K := K) T) (b2 F)
  intro cdv A outer s H E hr
  refine bv_asgE (S' := [_, _, _]) 2 hnd (ev_callA (hr.mono (show 3 ≤ _ by decide)) (av_cons (ev_var 1) (av_cons ev_str av_nil)) (as_ratio_i (K := K) T)) ?_
  refine bv_retE (ev_newA (hr.mono (show 2 ≤ _ by decide)) (av_cons (ev_add (ev_mulV (ev_at 0 (GH.cl_Ratio (K := K) T) (GH.na_Ratio_top (K := K) T) (ev_var 0)) (ev_at 1 (GH.cl_Ratio (K := K) T) (GH.na_Ratio_bottom (K := K) T) (ev_var 2))) (ev_mulV (ev_at 0 (GH.cl_Ratio (K := K) T) (GH.na_Ratio_top (K := K) T) (ev_var 2)) (ev_at 1 (GH.cl_Ratio (K := K) T) (GH.na_Ratio_bottom (K := K) T) (ev_var 0)))) (av_cons (ev_mulV (ev_at 1 (GH.cl_Ratio (K := K) T) (GH.na_Ratio_bottom (K := K) T) (ev_var 0)) (ev_at 1 (GH.cl_Ratio (K := K) T) (GH.na_Ratio_bottom (K := K) T) (ev_var 2))) av_nil)) (nw_Ratio (K := K) T)) ?_
  rw [q_add]; rfl

theorem rat_sub (T : GH.Txt K mg) {a b : Rat} (ha : G.Sm 4500 a := by first | assumption | exact smc_le (by decide)) (hb : G.Sm 4500 b := by first | assumption | exact smc_le (by decide)) : Op P w K mg base (He.ga K "Ratio") "__sub__" 3 [ratV K a, ratV K b] (ratV K (a - b)) := by
  obtain ⟨fd, F⟩ := GH.d_Ratio_sub T
  have hnd : (["self", "other", "less"] : List Str).Nodup := by decide +kernel
  haveI : SmC 4500 a := ⟨ha⟩
  haveI : SmC 4500 b := ⟨hb⟩
  have p := den_pos2 a b
  refine mk_op (fn_vs (k := 2) (N := ["self", "other", "less"]) (pn := ["self", "other"]) (S0 := [.pv (ratV K a), .pv (ratV K b), .no]) F ⟨rfl, rfl, rfl, by decide +kernel, rfl, by decide +kernel, by decide +kernel⟩ rfl rfl (of_decide_eq_true rfl) ?_) (GH.me_Ratio_sub (K := K) T) (b2 F)
  intro cdv A outer s H E hr
  refine bv_asgE (S' := [_, _, _]) 2 hnd (ev_callA (hr.mono (show 1 ≤ _ by decide)) (av_cons (ev_var 1) (av_cons ev_str av_nil)) (as_ratio_r (K := K) T)) ?_
  refine bv_retE (ev_newA (hr.mono (show 2 ≤ _ by decide)) (av_cons (ev_sub (ev_mulV (ev_at 0 (GH.cl_Ratio (K := K) T) (GH.na_Ratio_top (K := K) T) (ev_var 0)) (ev_at 1 (GH.cl_Ratio (K := K) T) (GH.na_Ratio_bottom (K := K) T) (ev_var 2))) (ev_mulV (ev_at 0 (GH.cl_Ratio (K := K) T) (GH.na_Ratio_top (K := K) T) (ev_var 2)) (ev_at 1 (GH.cl_Ratio (K := K) T) (GH.na_Ratio_bottom (K := K) T) (ev_var 0)))) (av_cons (ev_mulV (ev_at 1 (GH.cl_Ratio (K := K) T) (GH.na_Ratio_bottom (K := K) T) (ev_var 0)) (ev_at 1 (GH.cl_Ratio (K := K) T) (GH.na_Ratio_bottom (K := K) T) (ev_var 2))) av_nil)) (nw_Ratio (K := K) T)) ?_
  rw [q_sub]; rfl

theorem rat_subi (T : GH.Txt K mg) {a : Rat} {i : Int} (ha : G.Sm 4500 a := by first | assumption | exact smc_le (by decide)) (hi : i.natAbs < 2 ^ 4500 := by first | assumption | exact bt_le (by decide) | omega) : Op P w K mg base (He.ga K "Ratio") "__sub__" 4 [ratV K a, .int i] (ratV K (a - (i : Rat))) := by
  obtain ⟨fd, F⟩ := GH.d_Ratio_sub T
  have hnd : (["self", "other", "less"] : List Str).Nodup := by decide +kernel
  have hb := sm_int hi (by decide)
  haveI : SmC 4500 a := ⟨ha⟩
  haveI : SmC 4500 (i : Rat) := ⟨hb⟩
  have p := den_pos2 a (i : Rat)
  refine mk_op (fn_vs (k := 3) (N := ["self", "other", "less"]) (pn := ["self", "other"]) (S0 := [.pv (ratV K a), .pv (.int i), .no]) F ⟨rfl, rfl, rfl, by decide +kernel, rfl, by decide +kernel, by decide +kernel⟩ rfl rfl (of_decide_eq_true rfl) ?_) (GH.me_Ratio_sub (K := K) T) (b2 F)
  intro cdv A outer s H E hr
  refine bv_asgE (S' := [_, _, _]) 2 hnd (ev_callA (hr.mono (show 3 ≤ _ by decide)) (av_cons (ev_var 1) (av_cons ev_str av_nil)) (as_ratio_i (K := K) T)) ?_
  refine bv_retE (ev_newA (hr.mono (show 2 ≤ _ by decide)) (av_cons (ev_sub (ev_mulV (ev_at 0 (GH.cl_Ratio (K := K) T) (GH.na_Ratio_top (K := K) T) (ev_var 0)) (ev_at 1 (GH.cl_Ratio (K := K) T) (GH.na_Ratio_bottom (K := K) T) (ev_var 2))) (ev_mulV (ev_at 0 (GH.cl_Ratio (K := K) T) (GH.na_Ratio_top (K := K) T) (ev_var 2)) (ev_at 1 (GH.cl_Ratio (K := K) T) (GH.na_Ratio_bottom (K := K) T) (ev_var 0)))) (av_cons (ev_mulV (ev_at 1 (GH.cl_Ratio (K := K) T) (GH.na_Ratio_bottom (K := K) T) (ev_var 0)) (ev_at 1 (GH.cl_Ratio (K := K) T) (GH.na_Ratio_bottom (K := K) T) (ev_var 2))) av_nil)) (nw_Ratio (K := K) T)) ?_
  rw [q_sub]; rfl

theorem rat_mul (T : GH.Txt K mg) {a b : Rat} (ha : G.Sm 4500 a := by first | assumption | exact smc_le (by decide)) (hb : G.Sm 4500 b := by first | assumption | exact smc_le (by decide)) : Op P w K mg base (He.ga K "Ratio") "__mul__" 3 [ratV K a, ratV K b] (ratV K (a * b)) := by
  obtain ⟨fd, F⟩ := GH.d_Ratio_mul T
  have hnd : (["self", "other", "times"] : List Str).Nodup := by decide +kernel
  haveI : SmC 4500 a := ⟨ha⟩
  haveI : SmC 4500 b := ⟨hb⟩
  have p := den_pos2 a b
  refine mk_op (fn_vs (k := 2) (N := ["self", "other", "times"]) (pn := ["self", "other"]) (S0 := [.pv (ratV K a), .pv (ratV K b), .no]) F ⟨rfl, rfl, rfl, by decide +kernel, rfl, by decide +kernel, by decide +kernel⟩ rfl rfl (of_decide_eq_true rfl) ?_) (GH.me_Ratio_mul (K := K) T) (b2 F)
  intro cdv A outer s H E hr
  refine bv_asgE (S' := [_, _, _]) 2 hnd (ev_callA (hr.mono (show 1 ≤ _ by decide)) (av_cons (ev_var 1) (av_cons ev_str av_nil)) (as_ratio_r (K := K) T)) ?_
  refine bv_retE (ev_newA (hr.mono (show 2 ≤ _ by decide)) (av_cons (ev_mulV (ev_at 0 (GH.cl_Ratio (K := K) T) (GH.na_Ratio_top (K := K) T) (ev_var 0)) (ev_at 0 (GH.cl_Ratio (K := K) T) (GH.na_Ratio_top (K := K) T) (ev_var 2))) (av_cons (ev_mulV (ev_at 1 (GH.cl_Ratio (K := K) T) (GH.na_Ratio_bottom (K := K) T) (ev_var 0)) (ev_at 1 (GH.cl_Ratio (K := K) T) (GH.na_Ratio_bottom (K := K) T) (ev_var 2))) av_nil)) (nw_Ratio (K := K) T)) ?_
  rw [q_mul]; rfl

theorem rat_muli (T : GH.Txt K mg) {a : Rat} {i : Int} (ha : G.Sm 4500 a := by first | assumption | exact smc_le (by decide)) (hi : i.natAbs < 2 ^ 4500 := by first | assumption | exact bt_le (by decide) | omega) : Op P w K mg base (He.ga K "Ratio") "__mul__" 4 [ratV K a, .int i] (ratV K (a * (i : Rat))) := by
  obtain ⟨fd, F⟩ := GH.d_Ratio_mul T
  have hnd : (["self", "other", "times"] : List Str).Nodup := by decide +kernel
  have hb := sm_int hi (by decide)
  haveI : SmC 4500 a := ⟨ha⟩
  haveI : SmC 4500 (i : Rat) := ⟨hb⟩
  have p := den_pos2 a (i : Rat)
  refine mk_op (fn_vs (k := 3) (N := ["self", "other", "times"]) (pn := ["self", "other"]) (S0 := [.pv (ratV K a), .pv (.int i), .no]) F ⟨rfl, rfl, rfl, by decide +kernel, rfl, by decide +kernel, by decide +kernel⟩ rfl rfl (of_decide_eq_true rfl) ?_) (GH.me_Ratio_mul (K := K) T) (b2 F)
  intro cdv A outer s H E hr
  refine bv_asgE (S' := [_, _, _]) 2 hnd (ev_callA (hr.mono (show 3 ≤ _ by decide)) (av_cons (ev_var 1) (av_cons ev_str av_nil)) (as_ratio_i (K := K) T)) ?_
  refine bv_retE (ev_newA (hr.mono (show 2 ≤ _ by decide)) (av_cons (ev_mulV (ev_at 0 (GH.cl_Ratio (K := K) T) (GH.na_Ratio_top (K := K) T) (ev_var 0)) (ev_at 0 (GH.cl_Ratio (K := K) T) (GH.na_Ratio_top (K := K) T) (ev_var 2))) (av_cons (ev_mulV (ev_at 1 (GH.cl_Ratio (K := K) T) (GH.na_Ratio_bottom (K := K) T) (ev_var 0)) (ev_at 1 (GH.cl_Ratio (K := K) T) (GH.na_Ratio_bottom (K := K) T) (ev_var 2))) av_nil)) (nw_Ratio (K := K) T)) ?_
  rw [q_mul]; rfl

theorem rat_neg (T : GH.Txt K mg) {a : Rat} (ha : G.Sm 4500 a := by first | assumption | exact smc_le (by decide)) : Op P w K mg base (He.ga K "Ratio") "__neg__" 3 [ratV K a] (ratV K (-a)) := by
  obtain ⟨fd, F⟩ := GH.d_Ratio_neg T
  have hnd : (["self"] : List Str).Nodup := by decide +kernel
  haveI : SmC 4500 a := ⟨ha⟩
  have p := q_dpos a
  refine mk_op (fn_vs (k := 2) (N := ["self"]) (pn := ["self"]) (S0 := [.pv (ratV K a)]) F ⟨rfl, rfl, rfl, by decide +kernel, rfl, by decide +kernel, by decide +kernel⟩ rfl rfl (of_decide_eq_true rfl) ?_) (GH.me_Ratio_neg (K := K) T) (b1 F)
  intro cdv A outer s H E hr
  refine bv_retE (ev_newA (hr.mono (show 2 ≤ _ by decide)) (av_cons (ev_neg (ev_at 0 (GH.cl_Ratio (K := K) T) (GH.na_Ratio_top (K := K) T) (ev_var 0))) (av_cons (ev_at 1 (GH.cl_Ratio (K := K) T) (GH.na_Ratio_bottom (K := K) T) (ev_var 0)) av_nil)) (nw_Ratio (K := K) T)) ?_
  rw [q_neg]; rfl

theorem rat_eqB (a b : Rat) : (decide (a.num = b.num) && decide ((a.den : Int) = (b.den : Int))) = decide (a = b) := by
  by_cases e : a = b
  · subst e; simp
  · rw [decide_eq_false e]
    by_cases h1 : a.num = b.num
    · have h2 : ¬ (a.den : Int) = b.den := fun h2 => e (Rat.ext h1 (by omega))
      simp [h1, h2]
    · simp [h1]
theorem rat_eqI (a : Rat) (i : Int) : (true && (decide ((a.den : Int) = 1) && decide (a.num = i))) = decide (a = (i : Rat)) := by
  have := rat_eqB a (i : Rat)
  rw [Rat.num_intCast, Rat.den_intCast] at this
  rw [← this, Bool.true_and, Bool.and_comm]
  rfl
theorem rat_ltB (a b : Rat) : decide (a.num * (b.den : Int) < b.num * (a.den : Int)) = decide (a < b) := by
  rw [decide_eq_decide]
  rw [Rat.lt_iff]

theorem rat_eq (T : GH.Txt K mg) {a b : Rat} : Op P w K mg base (He.ga K "Ratio") "__eq__" 1 [ratV K a, ratV K b] (.bl (decide (a = b))) := by
  obtain ⟨fd, F⟩ := GH.d_Ratio_eq T
  have hnd : (["self", "other"] : List Str).Nodup := by decide +kernel
  refine mk_op (fn_vs (k := 0) (N := ["self", "other"]) (pn := ["self", "other"]) (S0 := [.pv (ratV K a), .pv (ratV K b)]) F ⟨rfl, rfl, rfl, by decide +kernel, rfl, by decide +kernel, by decide +kernel⟩ rfl rfl (of_decide_eq_true rfl) ?_) (GH.me_Ratio_eq (K := K) T) (b2 F)
  intro cdv A outer s H E hr
  refine bv_take (tv_val (ev_isi (bb := true) (GH.fr_isinstance (K := K) T) (ev_var 1) (ev_cls (GH.g_Ratio (K := K) T)) (by exact rfl) (isi_self (GH.isi_Ratio (K := K) T)))) (by first | rfl | (exact by first | (apply decide_eq_true; omega) | with_reducible rfl | (simp <;> omega) | (simp_all; done))) ?_
  refine bv_retE (ev_and (ev_cm (cv_eqI (ev_at 0 (GH.cl_Ratio (K := K) T) (GH.na_Ratio_top (K := K) T) (ev_var 0)) (ev_at 0 (GH.cl_Ratio (K := K) T) (GH.na_Ratio_top (K := K) T) (ev_var 1)))) fun h1 => (ev_one (ev_cm (cv_eqI (ev_at 1 (GH.cl_Ratio (K := K) T) (GH.na_Ratio_bottom (K := K) T) (ev_var 0)) (ev_at 1 (GH.cl_Ratio (K := K) T) (GH.na_Ratio_bottom (K := K) T) (ev_var 1)))))) ?_
  rw [← rat_eqB]

theorem rat_eqi (T : GH.Txt K mg) {a : Rat} {i : Int} : Op P w K mg base (He.ga K "Ratio") "__eq__" 2 [ratV K a, .int i] (.bl (decide (a = (i : Rat)))) := by
  obtain ⟨fd, F⟩ := GH.d_Ratio_eq T
  have hnd : (["self", "other"] : List Str).Nodup := by decide +kernel
  refine mk_op (fn_vs (k := 1) (N := ["self", "other"]) (pn := ["self", "other"]) (S0 := [.pv (ratV K a), .pv (.int i)]) F ⟨rfl, rfl, rfl, by decide +kernel, rfl, by decide +kernel, by decide +kernel⟩ rfl rfl (of_decide_eq_true rfl) ?_) (GH.me_Ratio_eq (K := K) T) (b2 F)
  intro cdv A outer s H E hr
  refine bv_skip (tv_val (ev_isi (bb := false) (GH.fr_isinstance (K := K) T) (ev_var 1) (ev_cls (GH.g_Ratio (K := K) T)) (by exact rfl) (isi_by (by exact rfl) (GH.kt_int_Ratio (K := K) T)))) (by first | rfl | (exact by first | (apply decide_eq_false; omega) | with_reducible rfl | (simp <;> omega) | (simp_all; done))) ?_
  refine bv_retE (ev_and (ev_callA (hr.mono (show 1 ≤ _ by decide)) (av_cons (ev_var 1) av_nil) (is_integer_i (K := K) T)) fun h2 => (ev_and (ev_cm (cv_eqI (ev_at 1 (GH.cl_Ratio (K := K) T) (GH.na_Ratio_bottom (K := K) T) (ev_var 0)) ev_int)) fun h1 => (ev_one (ev_cm (cv_eqI (ev_at 0 (GH.cl_Ratio (K := K) T) (GH.na_Ratio_top (K := K) T) (ev_var 0)) (ev_var 1)))))) ?_
  rw [← rat_eqI]

theorem ratV_inj {K : PySem.W.Frag} (a b : Rat) (e : ratV K a = ratV K b) : a = b := by
  unfold ratV at e
  injection e with _ _ e
  injection e with e1 e
  injection e with e2 e
  injection e1 with e1
  injection e2 with e2
  exact Rat.ext e1 (by omega)
theorem eqF_rat {X : Cx} (T : GH.Txt X.K X.mg) : EqF X 1 (ratV X.K) := eqF_ins (fun _ => rfl) (fun a b => rat_eq T) (fun _ => ⟨rfl, trivial, trivial, trivial, trivial⟩) ratV_inj

theorem rat_below (T : GH.Txt K mg) {a b : Rat} (ha : G.Sm 4500 a := by first | assumption | exact smc_le (by decide)) (hb : G.Sm 4500 b := by first | assumption | exact smc_le (by decide)) : Me P w K mg base (He.ga K "Ratio") "is_below" 2 (ratV K a) [ratV K b] (.bl (decide (a < b))) := by
  obtain ⟨fd, F⟩ := GH.d_Ratio_is_below T
  have hnd : (["self", "other", "above"] : List Str).Nodup := by decide +kernel
  haveI : SmC 4500 a := ⟨ha⟩
  haveI : SmC 4500 b := ⟨hb⟩
  refine mk_me (fn_vs (k := 1) (N := ["self", "other", "above"]) (pn := ["self", "other"]) (S0 := [.pv (ratV K a), .pv (ratV K b), .no]) F ⟨rfl, rfl, rfl, by decide +kernel, rfl, by decide +kernel, by decide +kernel⟩ rfl rfl (of_decide_eq_true rfl) ?_) (GH.me_Ratio_is_below (K := K) T) (b2 F)
  intro cdv A outer s H E hr
  refine bv_asgE (S' := [_, _, _]) 2 hnd (ev_callA (hr.mono (show 1 ≤ _ by decide)) (av_cons (ev_var 1) (av_cons ev_str av_nil)) (as_ratio_r (K := K) T)) ?_
  refine bv_retE (ev_cm (cv_lt (ev_mulV (ev_at 0 (GH.cl_Ratio (K := K) T) (GH.na_Ratio_top (K := K) T) (ev_var 0)) (ev_at 1 (GH.cl_Ratio (K := K) T) (GH.na_Ratio_bottom (K := K) T) (ev_var 2))) (ev_mulV (ev_at 0 (GH.cl_Ratio (K := K) T) (GH.na_Ratio_top (K := K) T) (ev_var 2)) (ev_at 1 (GH.cl_Ratio (K := K) T) (GH.na_Ratio_bottom (K := K) T) (ev_var 0))))) ?_
  rw [← rat_ltB]

theorem is_ratio_r (T : GH.Txt K mg) {q : Rat} : Fn P w K mg base "is_ratio" 1 [ratV K q] (.bl true) := by
  obtain ⟨fd, F⟩ := GH.d_is_ratio T
  have hnd : (["value"] : List Str).Nodup := by decide +kernel
  refine mk_fn (fn_vs (k := 0) (N := ["value"]) (pn := ["value"]) (S0 := [.pv (ratV K q)]) F ⟨rfl, rfl, rfl, by decide +kernel, rfl, by decide +kernel, by decide +kernel⟩ rfl rfl (of_decide_eq_true rfl) ?_) F (GH.g_is_ratio (K := K) T) (b1 F)
  intro cdv A outer s H E hr
  refine bv_retE (ev_orT (ev_isi (bb := true) (GH.fr_isinstance (K := K) T) (ev_var 0) (ev_cls (GH.g_Ratio (K := K) T)) (by exact rfl) (isi_self (GH.isi_Ratio (K := K) T)))) ?_
  first | rfl | (simp_all; done)

theorem is_ratio_i (T : GH.Txt K mg) {i : Int} : Fn P w K mg base "is_ratio" 2 [.int i] (.bl true) := by
  obtain ⟨fd, F⟩ := GH.d_is_ratio T
  have hnd : (["value"] : List Str).Nodup := by decide +kernel
  refine mk_fn (fn_vs (k := 1) (N := ["value"]) (pn := ["value"]) (S0 := [.pv (.int i)]) F ⟨rfl, rfl, rfl, by decide +kernel, rfl, by decide +kernel, by decide +kernel⟩ rfl rfl (of_decide_eq_true rfl) ?_) F (GH.g_is_ratio (K := K) T) (b1 F)
  intro cdv A outer s H E hr
  refine bv_retE (ev_or (ev_isi (bb := false) (GH.fr_isinstance (K := K) T) (ev_var 0) (ev_cls (GH.g_Ratio (K := K) T)) (by exact rfl) (isi_by (by exact rfl) (GH.kt_int_Ratio (K := K) T))) fun h1 => (ev_one (ev_callA (hr.mono (show 1 ≤ _ by decide)) (av_cons (ev_var 0) av_nil) (is_integer_i (K := K) T)))) ?_
  first | rfl | (simp_all; done)

theorem rat_of (T : GH.Txt K mg) {q : Rat} : Sm P w K mg base "Ratio" "of" 2 [ratV K q] (ratV K q) := by
  obtain ⟨fd, F⟩ := GH.d_Ratio_of T
  have hnd : (["value"] : List Str).Nodup := by decide +kernel
  refine mk_sm (fn_vs (k := 1) (N := ["value"]) (pn := ["value"]) (S0 := [.pv (ratV K q)]) F ⟨rfl, rfl, rfl, by decide +kernel, rfl, by decide +kernel, by decide +kernel⟩ rfl rfl (of_decide_eq_true rfl) ?_) (GH.g_Ratio (K := K) T) (GH.sm_Ratio_of (K := K) T) (b1 F)
  intro cdv A outer s H E hr
  refine bv_retE (ev_callA (hr.mono (show 1 ≤ _ by decide)) (av_cons (ev_var 0) (av_cons ev_str av_nil)) (as_ratio_r (K := K) T)) ?_
  first | rfl | (simp_all; done)

theorem rat_ofi (T : GH.Txt K mg) {i : Int} : Sm P w K mg base "Ratio" "of" 4 [.int i] (ratV K (i : Rat)) := by
  obtain ⟨fd, F⟩ := GH.d_Ratio_of T
  have hnd : (["value"] : List Str).Nodup := by decide +kernel
  refine mk_sm (fn_vs (k := 3) (N := ["value"]) (pn := ["value"]) (S0 := [.pv (.int i)]) F ⟨rfl, rfl, rfl, by decide +kernel, rfl, by decide +kernel, by decide +kernel⟩ rfl rfl (of_decide_eq_true rfl) ?_) (GH.g_Ratio (K := K) T) (GH.sm_Ratio_of (K := K) T) (b1 F)
  intro cdv A outer s H E hr
  refine bv_retE (ev_callA (hr.mono (show 3 ≤ _ by decide)) (av_cons (ev_var 0) (av_cons ev_str av_nil)) (as_ratio_i (K := K) T)) ?_
  first | rfl | (simp_all; done)

theorem all_true {α : Type} {as : List α} : (as.map fun _ => true).all id = true := by induction as <;> simp_all

theorem are_ratios_r (T : GH.Txt K mg) {qs : List Rat} (hl : qs.length ≤ 1000 := by first | (simp <;> omega) | exact Int.mul_pos (q_dpos _) (q_dpos _) | exact q_dpos _ | with_reducible rfl | assumption | omega) : Fn P w K mg base "are_ratios" 2 [.lst (qs.map (ratV K))] (.bl true) := by
  obtain ⟨fd, F⟩ := GH.d_are_ratios T
  have hnd : (["value", "number"] : List Str).Nodup := by decide +kernel
  refine mk_fn (fn_vs (k := 1) (N := ["value", "number"]) (pn := ["value"]) (S0 := [.pv (.lst (qs.map (ratV K))), .no]) F ⟨rfl, rfl, rfl, by decide +kernel, rfl, by decide +kernel, by decide +kernel⟩ rfl rfl (of_decide_eq_true rfl) ?_) F (GH.g_are_ratios (K := K) T) (b1 F)
  intro cdv A outer s H E hr
  refine bv_retE (ev_and (ev_callA (hr.mono (show 1 ≤ _ by decide)) (av_cons (ev_var 0) av_nil) (is_listed_l (K := K) T)) fun h2 => (ev_one (ev_all (GH.fr_all (K := K) T) (ev_mapL (g := PV.bl) (ev_lc (b := (fun it : Rat => [(1, (ratV K) it)])) (own := [("number", 1)]) (.nm 1) hnd (iu_list (ev_var 0)) (by first | (simp <;> omega) | exact Int.mul_pos (q_dpos _) (q_dpos _) | exact q_dpos _ | with_reducible rfl | assumption | omega) (fun it h1 _ _ _ _ _ => (ev_callA (hr.mono (show 1 ≤ _ by decide)) (av_cons (ev_var 1) av_nil) (is_ratio_r (K := K) T))) (fun _ _ _ _ _ => (pg_name hnd rfl (by first | exact Or.inl rfl | exact Or.inr rfl)))))))) ?_
  simp

theorem asked_ratio_r (T : GH.Txt K mg) {q : Rat} {z : Str} : Fn P w K mg base "asked_ratio" 3 [ratV K q, .str z] (ratV K q) := by
  obtain ⟨fd, F⟩ := GH.d_asked_ratio T
  have hnd : (["value", "part"] : List Str).Nodup := by decide +kernel
  refine mk_fn (fn_vs (k := 2) (N := ["value", "part"]) (pn := ["value", "part"]) (S0 := [.pv (ratV K q), .pv (.str z)]) F ⟨rfl, rfl, rfl, by decide +kernel, rfl, by decide +kernel, by decide +kernel⟩ rfl rfl (of_decide_eq_true rfl) ?_) F (GH.g_asked_ratio (K := K) T) (b2 F)
  intro cdv A outer s H E hr
  refine bv_skip (tv_not (tv_val (ev_callA (hr.mono (show 1 ≤ _ by decide)) (av_cons (ev_var 0) av_nil) (is_ratio_r (K := K) T)))) (by first | rfl | (exact by first | (apply decide_eq_false; omega) | with_reducible rfl | (simp <;> omega) | (simp_all; done))) ?_
  refine bv_retE (ev_smethA (hr.mono (show 2 ≤ _ by decide)) (av_cons (ev_var 0) av_nil) (rat_of (K := K) T)) ?_
  first | rfl | (simp_all; done)

theorem asked_ratio_i (T : GH.Txt K mg) {i : Int} {z : Str} : Fn P w K mg base "asked_ratio" 5 [.int i, .str z] (ratV K (i : Rat)) := by
  obtain ⟨fd, F⟩ := GH.d_asked_ratio T
  have hnd : (["value", "part"] : List Str).Nodup := by decide +kernel
  refine mk_fn (fn_vs (k := 4) (N := ["value", "part"]) (pn := ["value", "part"]) (S0 := [.pv (.int i), .pv (.str z)]) F ⟨rfl, rfl, rfl, by decide +kernel, rfl, by decide +kernel, by decide +kernel⟩ rfl rfl (of_decide_eq_true rfl) ?_) F (GH.g_asked_ratio (K := K) T) (b2 F)
  intro cdv A outer s H E hr
  refine bv_skip (tv_not (tv_val (ev_callA (hr.mono (show 2 ≤ _ by decide)) (av_cons (ev_var 0) av_nil) (is_ratio_i (K := K) T)))) (by first | rfl | (exact by first | (apply decide_eq_false; omega) | with_reducible rfl | (simp <;> omega) | (simp_all; done))) ?_
  refine bv_retE (ev_smethA (hr.mono (show 4 ≤ _ by decide)) (av_cons (ev_var 0) av_nil) (rat_ofi (K := K) T)) ?_
  first | rfl | (simp_all; done)

theorem is_axes_i (T : GH.Txt K mg) {i : Int} : Fn P w K mg base "is_axes" 3 [.int i] (.bl (decide (1 ≤ i) && decide (i ≤ 3))) := by
  obtain ⟨fd, F⟩ := GH.d_is_axes T
  have hnd : (["value"] : List Str).Nodup := by decide +kernel
  obtain ⟨_, co_MOST_AXES⟩ := GH.co_MOST_AXES T
  refine mk_fn (fn_vs (k := 2) (N := ["value"]) (pn := ["value"]) (S0 := [.pv (.int i)]) F ⟨rfl, rfl, rfl, by decide +kernel, rfl, by decide +kernel, by decide +kernel⟩ rfl rfl (of_decide_eq_true rfl) ?_) F (GH.g_is_axes (K := K) T) (b1 F)
  intro cdv A outer s H E hr
  refine bv_retE (ev_callA (hr.mono (show 2 ≤ _ by decide)) (av_cons (ev_var 0) (av_cons ev_int (av_cons (ev_gint co_MOST_AXES) av_nil))) (is_within_i (K := K) T)) ?_
  first | rfl | (simp_all; done)

theorem are_ratios_i (T : GH.Txt K mg) {ns : List Int} (hl : ns.length ≤ 1000 := by first | (simp <;> omega) | exact Int.mul_pos (q_dpos _) (q_dpos _) | exact q_dpos _ | with_reducible rfl | assumption | omega) : Fn P w K mg base "are_ratios" 3 [.lst (ns.map PV.int)] (.bl true) := by
  obtain ⟨fd, F⟩ := GH.d_are_ratios T
  have hnd : (["value", "number"] : List Str).Nodup := by decide +kernel
  refine mk_fn (fn_vs (k := 2) (N := ["value", "number"]) (pn := ["value"]) (S0 := [.pv (.lst (ns.map PV.int)), .no]) F ⟨rfl, rfl, rfl, by decide +kernel, rfl, by decide +kernel, by decide +kernel⟩ rfl rfl (of_decide_eq_true rfl) ?_) F (GH.g_are_ratios (K := K) T) (b1 F)
  intro cdv A outer s H E hr
  refine bv_retE (ev_and (ev_callA (hr.mono (show 1 ≤ _ by decide)) (av_cons (ev_var 0) av_nil) (is_listed_l (K := K) T)) fun h2 => (ev_one (ev_all (GH.fr_all (K := K) T) (ev_mapL (g := PV.bl) (ev_lc (b := (fun it : Int => [(1, PV.int it)])) (own := [("number", 1)]) (.nm 1) hnd (iu_list (ev_var 0)) (by first | (simp <;> omega) | exact Int.mul_pos (q_dpos _) (q_dpos _) | exact q_dpos _ | with_reducible rfl | assumption | omega) (fun it h1 _ _ _ _ _ => (ev_callA (hr.mono (show 2 ≤ _ by decide)) (av_cons (ev_var 1) av_nil) (is_ratio_i (K := K) T))) (fun _ _ _ _ _ => (pg_name hnd rfl (by first | exact Or.inl rfl | exact Or.inr rfl)))))))) ?_
  simp

theorem is_integer_n (T : GH.Txt K mg)  : Fn P w K mg base "is_integer" 1 [.non] (.bl false) := by
  obtain ⟨fd, F⟩ := GH.d_is_integer T
  have hnd : (["value"] : List Str).Nodup := by decide +kernel
  refine mk_fn (fn_vs (k := 0) (N := ["value"]) (pn := ["value"]) (S0 := [.pv (.non)]) F ⟨rfl, rfl, rfl, by decide +kernel, rfl, by decide +kernel, by decide +kernel⟩ rfl rfl (of_decide_eq_true rfl) ?_) F (GH.g_is_integer (K := K) T) (b1 F)
  intro cdv A outer s H E hr
  refine bv_retE (ev_andF (ev_isi (bb := false) (GH.fr_isinstance (K := K) T) (ev_var 0) (ev_ty (GH.fr_int (K := K) T) rfl) (by exact rfl) (isi_by (by exact rfl) (by exact rfl)))) ?_
  first | rfl | (simp_all; done)

theorem rat_eqN (T : GH.Txt K mg) {a : Rat} : Op P w K mg base (He.ga K "Ratio") "__eq__" 2 [ratV K a, .non] (.bl false) := by
  obtain ⟨fd, F⟩ := GH.d_Ratio_eq T
  have hnd : (["self", "other"] : List Str).Nodup := by decide +kernel
  refine mk_op (fn_vs (k := 1) (N := ["self", "other"]) (pn := ["self", "other"]) (S0 := [.pv (ratV K a), .pv (.non)]) F ⟨rfl, rfl, rfl, by decide +kernel, rfl, by decide +kernel, by decide +kernel⟩ rfl rfl (of_decide_eq_true rfl) ?_) (GH.me_Ratio_eq (K := K) T) (b2 F)
  intro cdv A outer s H E hr
  refine bv_skip (tv_val (ev_isi (bb := false) (GH.fr_isinstance (K := K) T) (ev_var 1) (ev_cls (GH.g_Ratio (K := K) T)) (by exact rfl) (isi_by (by exact rfl) (GH.kt_NoneType_Ratio (K := K) T)))) (by first | rfl | (exact by first | (apply decide_eq_false; omega) | with_reducible rfl | (simp <;> omega) | (simp_all; done))) ?_
  refine bv_retE (ev_andF (ev_callA (hr.mono (show 1 ≤ _ by decide)) (av_cons (ev_var 1) av_nil) (is_integer_n (K := K) T))) ?_
  first | rfl | (simp_all; done)

theorem rat_belowi (T : GH.Txt K mg) {a : Rat} {i : Int} (ha : G.Sm 4500 a := by first | assumption | exact smc_le (by decide)) (hi : i.natAbs < 2 ^ 4500 := by first | assumption | exact bt_le (by decide) | omega) : Me P w K mg base (He.ga K "Ratio") "is_below" 4 (ratV K a) [.int i] (.bl (decide (a < (i : Rat)))) := by
  obtain ⟨fd, F⟩ := GH.d_Ratio_is_below T
  have hnd : (["self", "other", "above"] : List Str).Nodup := by decide +kernel
  have hb := sm_int hi (by decide)
  haveI : SmC 4500 a := ⟨ha⟩
  haveI : SmC 4500 (i : Rat) := ⟨hb⟩
  refine mk_me (fn_vs (k := 3) (N := ["self", "other", "above"]) (pn := ["self", "other"]) (S0 := [.pv (ratV K a), .pv (.int i), .no]) F ⟨rfl, rfl, rfl, by decide +kernel, rfl, by decide +kernel, by decide +kernel⟩ rfl rfl (of_decide_eq_true rfl) ?_) (GH.me_Ratio_is_below (K := K) T) (b2 F)
  intro cdv A outer s H E hr
  refine bv_asgE (S' := [_, _, _]) 2 hnd (ev_callA (hr.mono (show 3 ≤ _ by decide)) (av_cons (ev_var 1) (av_cons ev_str av_nil)) (as_ratio_i (K := K) T)) ?_
  refine bv_retE (ev_cm (cv_lt (ev_mulV (ev_at 0 (GH.cl_Ratio (K := K) T) (GH.na_Ratio_top (K := K) T) (ev_var 0)) (ev_at 1 (GH.cl_Ratio (K := K) T) (GH.na_Ratio_bottom (K := K) T) (ev_var 2))) (ev_mulV (ev_at 0 (GH.cl_Ratio (K := K) T) (GH.na_Ratio_top (K := K) T) (ev_var 2)) (ev_at 1 (GH.cl_Ratio (K := K) T) (GH.na_Ratio_bottom (K := K) T) (ev_var 0))))) ?_
  rw [← rat_ltB]

theorem q_quot {a b : Rat} (h : 0 < b) : Rat.divInt (a.num * (b.den : Int)) ((a.den : Int) * b.num) = a / b := by
  have hn : 0 < b.num := by
    have := (Rat.lt_iff 0 b).mp h
    simpa using this
  have e : b⁻¹ = Rat.divInt b.den b.num := by
    conv => lhs; rw [← Rat.num_divInt_den b]
    rw [Rat.inv_divInt]
  rw [Rat.div_def, e]
  conv => rhs; lhs; rw [← Rat.num_divInt_den a]
  rw [Rat.divInt_mul_divInt]
theorem num_pos2 {b : Rat} (h : 0 < b) : 0 < b.num := by
  have := (Rat.lt_iff 0 b).mp h
  simpa using this

theorem rat_over (T : GH.Txt K mg) {a b : Rat} (ha : G.Sm 4500 a := by first | assumption | exact smc_le (by decide)) (hb : G.Sm 4500 b := by first | assumption | exact smc_le (by decide)) (h0 : 0 < b := by assumption) : Me P w K mg base (He.ga K "Ratio") "over" 3 (ratV K a) [ratV K b] (ratV K (a / b)) := by
  obtain ⟨fd, F⟩ := GH.d_Ratio_over T
  have hnd : (["self", "other", "below"] : List Str).Nodup := by decide +kernel
  haveI : SmC 4500 a := ⟨ha⟩
  haveI : SmC 4500 b := ⟨hb⟩
  have n0 := num_pos2 h0
  have p := Int.mul_pos (q_dpos a) n0
  have sg := Int.sign_eq_one_of_pos n0
  refine mk_me (fn_vs (k := 2) (N := ["self", "other", "below"]) (pn := ["self", "other"]) (S0 := [.pv (ratV K a), .pv (ratV K b), .no]) F ⟨rfl, rfl, rfl, by decide +kernel, rfl, by decide +kernel, by decide +kernel⟩ rfl rfl (of_decide_eq_true rfl) ?_) (GH.me_Ratio_over (K := K) T) (b2 F)
  intro cdv A outer s H E hr
  refine bv_asgE (S' := [_, _, _]) 2 hnd (ev_callA (hr.mono (show 1 ≤ _ by decide)) (av_cons (ev_var 1) (av_cons ev_str av_nil)) (as_ratio_r (K := K) T)) ?_
  refine bv_skip (tv_cm (cv_eqI (ev_at 2 (GH.cl_Ratio (K := K) T) (GH.na_Ratio_sign (K := K) T) (ev_var 2)) ev_int)) (by first | (apply decide_eq_false; omega) | with_reducible rfl | (simp <;> omega) | (simp_all; done)) ?_
  refine bv_retE (ev_newA (hr.mono (show 2 ≤ _ by decide)) (av_cons (ev_mulV (ev_at 0 (GH.cl_Ratio (K := K) T) (GH.na_Ratio_top (K := K) T) (ev_var 0)) (ev_at 1 (GH.cl_Ratio (K := K) T) (GH.na_Ratio_bottom (K := K) T) (ev_var 2))) (av_cons (ev_mulV (ev_at 1 (GH.cl_Ratio (K := K) T) (GH.na_Ratio_bottom (K := K) T) (ev_var 0)) (ev_at 0 (GH.cl_Ratio (K := K) T) (GH.na_Ratio_top (K := K) T) (ev_var 2))) av_nil)) (nw_Ratio (K := K) T)) ?_
  rw [q_quot h0]; rfl
end
end E
set_option maxHeartbeats 4000000
namespace G
structure StepV where
  t : Rat
  ps : List Rat
def SmS (n : Nat) (s : StepV) : Prop := Sm n s.t ∧ ∀ q ∈ s.ps, Sm n q
def AxS (s : StepV) : Prop := 1 ≤ s.ps.length ∧ s.ps.length ≤ 3
theorem sgn_lt (q : Rat) : decide (q.num.sign < 0) = decide (q < 0) := by
  refine decide_eq_decide.mpr ?_
  rw [← q_sign_neg]
  have := Int.sign_trichotomy q.num
  omega
theorem sgn_zero (q : Rat) : decide (q.num.sign = 0) = decide (q = 0) := decide_eq_decide.mpr q_sign_zero
theorem sgn_gt (q : Rat) : decide (0 < q.num.sign) = decide (0 < q) := by
  refine decide_eq_decide.mpr ?_
  rw [← q_sign_pos]
  have := Int.sign_trichotomy q.num
  omega
theorem take_next {α : Type} {as : List α} {i : Nat} {a : α} (h : as[i]? = some a) : as.take (i + 1) = as.take i ++ [a] := by
  rw [List.take_succ, h]
  rfl
def prodQ (s r : StepV) : Rat := prodF (s.ps.zip r.ps) (s.t * r.t)
def addS (s r : StepV) : StepV := ⟨s.t + r.t, (s.ps.zip r.ps).map fun q => q.1 + q.2⟩
def subS (s r : StepV) : StepV := ⟨s.t - r.t, (s.ps.zip r.ps).map fun q => q.1 - q.2⟩
def mulS (s : StepV) (m : Rat) : StepV := ⟨s.t * m, s.ps.map fun q => q * m⟩
def negS (s : StepV) : StepV := ⟨-s.t, s.ps.map fun q => -q⟩
theorem zip_mem {α β : Type} {as : List α} {bs : List β} {i : Nat} {q : α × β} (h : (as.zip bs)[i]? = some q) : q.1 ∈ as ∧ q.2 ∈ bs := by
  rw [List.getElem?_zip_eq_some] at h
  exact ⟨List.mem_of_getElem? h.1, List.mem_of_getElem? h.2⟩
theorem zip_map_mem {f : Rat × Rat → Rat} {as bs : List Rat} {x : Rat} (h : x ∈ (as.zip bs).map f) : ∃ a b, a ∈ as ∧ b ∈ bs ∧ x = f (a, b) := by
  obtain ⟨q, hq, rfl⟩ := List.mem_map.mp h
  have := List.of_mem_zip hq
  exact ⟨q.1, q.2, this.1, this.2, rfl⟩
theorem smS_add {n : Nat} {s r : StepV} (h1 : SmS n s) (h2 : SmS n r) : SmS (2 * n + 1) (addS s r) := ⟨(sm_add h1.1 h2.1).mono (by omega), fun q hq => by
  obtain ⟨a, b, ha, hb, rfl⟩ := zip_map_mem hq
  exact (sm_add (h1.2 _ ha) (h2.2 _ hb)).mono (by omega)⟩
theorem smS_sub {n : Nat} {s r : StepV} (h1 : SmS n s) (h2 : SmS n r) : SmS (2 * n + 1) (subS s r) := ⟨(sm_sub h1.1 h2.1).mono (by omega), fun q hq => by
  obtain ⟨a, b, ha, hb, rfl⟩ := zip_map_mem hq
  exact (sm_sub (h1.2 _ ha) (h2.2 _ hb)).mono (by omega)⟩
theorem smS_mul {n m : Nat} {s : StepV} {r : Rat} (h1 : SmS n s) (h2 : Sm m r) : SmS (n + m) (mulS s r) := ⟨sm_mul h1.1 h2, fun q hq => by
  obtain ⟨a, ha, rfl⟩ := List.mem_map.mp hq
  exact sm_mul (h1.2 _ ha) h2⟩
theorem smS_neg {n : Nat} {s : StepV} (h1 : SmS n s) : SmS n (negS s) := ⟨sm_neg h1.1, fun q hq => by
  obtain ⟨a, ha, rfl⟩ := List.mem_map.mp hq
  exact sm_neg (h1.2 _ ha)⟩
theorem SmS.mono {n m : Nat} {s : StepV} (h : SmS n s) (k : n ≤ m) : SmS m s := ⟨h.1.mono k, fun q hq => (h.2 q hq).mono k⟩
theorem ax_zip {f : Rat × Rat → Rat} {t : Rat} {s r : StepV} (h : AxS s) (hl : s.ps.length = r.ps.length) : AxS ⟨t, (s.ps.zip r.ps).map f⟩ := by
  unfold AxS at *
  rw [List.length_map, List.length_zip, ← hl, Nat.min_self]
  exact h
theorem ax_map {f : Rat → Rat} {t : Rat} {s : StepV} (h : AxS s) : AxS ⟨t, s.ps.map f⟩ := by
  unfold AxS at *
  rw [List.length_map]
  exact h
def dotQ (ps qs : List Rat) : Rat := ((ps.zip qs).map fun q => q.1 * q.2).sum
theorem prodF_eq : ∀ (qs : List (Rat × Rat)) (a : Rat), prodF qs a = a - (qs.map fun q => q.1 * q.2).sum
  | [], a => by
    show a = a - 0
    grind
  | q :: qs, a => by
    show prodF qs (a - q.1 * q.2) = a - (q.1 * q.2 + (qs.map fun q => q.1 * q.2).sum)
    rw [prodF_eq qs]
    grind
theorem prodQ_eq (s r : StepV) : prodQ s r = s.t * r.t - dotQ s.ps r.ps := prodF_eq _ _
theorem sq_nn (a : Rat) : 0 ≤ a * a := by
  rcases Rat.le_total (a := 0) (b := a) with h | h
  · exact Rat.mul_nonneg h h
  · have : 0 ≤ -a := by grind
    have := Rat.mul_nonneg this this
    grind
theorem cauchy : ∀ (ps qs : List Rat), ps.length = qs.length → ps.length ≤ 3 → dotQ ps qs * dotQ ps qs ≤ sumQ ps * sumQ qs
  | [], [], _, _ => by
    show (0 : Rat) * 0 ≤ 0 * 0
    exact Rat.le_refl
  | [a], [x], _, _ => by
    show (a * x + 0) * (a * x + 0) ≤ (a * a + 0) * (x * x + 0)
    grind
  | [a, b], [x, y], _, _ => by
    show (a * x + (b * y + 0)) * (a * x + (b * y + 0)) ≤ (a * a + (b * b + 0)) * (x * x + (y * y + 0))
    have := sq_nn (a * y - b * x)
    grind
  | [a, b, c], [x, y, z], _, _ => by
    show (a * x + (b * y + (c * z + 0))) * (a * x + (b * y + (c * z + 0))) ≤ (a * a + (b * b + (c * c + 0))) * (x * x + (y * y + (z * z + 0)))
    have h1 := sq_nn (a * y - b * x)
    have h2 := sq_nn (a * z - c * x)
    have h3 := sq_nn (b * z - c * y)
    grind
theorem sumQ_nn : ∀ ps : List Rat, 0 ≤ sumQ ps
  | [] => Rat.le_refl
  | p :: ps => Rat.add_nonneg (sq_nn p) (sumQ_nn ps)
structure Fwd (s : StepV) : Prop where
  t : 0 < s.t
  q : 0 ≤ sqQ s.t s.ps
  l : s.ps.length ≤ 3
theorem abs_le {a b : Rat} (hb : 0 ≤ b) (h : a * a ≤ b * b) : a ≤ b := by
  by_cases hab : a ≤ b
  · exact hab
  · have h1 : b < a := Rat.not_le.mp hab
    have h2 : 0 < a := by grind
    have h3 : b * a < a * a := Rat.mul_lt_mul_of_pos_right h1 h2
    have h4 : b * b ≤ b * a := Rat.mul_le_mul_of_nonneg_left (by grind) hb
    grind
theorem dot_le {s r : StepV} (h1 : Fwd s) (h2 : Fwd r) (hl : s.ps.length = r.ps.length) : dotQ s.ps r.ps * dotQ s.ps r.ps ≤ (s.t * r.t) * (s.t * r.t) := by
  have c := cauchy s.ps r.ps hl h1.l
  have a1 : sumQ s.ps ≤ s.t * s.t := by have := h1.q; unfold sqQ at this; grind
  have a2 : sumQ r.ps ≤ r.t * r.t := by have := h2.q; unfold sqQ at this; grind
  have b1 : sumQ s.ps * sumQ r.ps ≤ (s.t * s.t) * sumQ r.ps := Rat.mul_le_mul_of_nonneg_right a1 (sumQ_nn _)
  have b2 : (s.t * s.t) * sumQ r.ps ≤ (s.t * s.t) * (r.t * r.t) := Rat.mul_le_mul_of_nonneg_left a2 (sq_nn _)
  grind
theorem neg_dot : ∀ (ps qs : List Rat), dotQ ps (qs.map fun q => -q) = -dotQ ps qs
  | [], _ => by
    show (0 : Rat) = -0
    grind
  | _ :: _, [] => by
    show (0 : Rat) = -0
    grind
  | p :: ps, q :: qs => by
    show p * -q + dotQ ps (qs.map fun q => -q) = -(p * q + dotQ ps qs)
    rw [neg_dot ps qs]
    grind
theorem prod_nn {s r : StepV} (h1 : Fwd s) (h2 : Fwd r) (hl : s.ps.length = r.ps.length) : 0 ≤ prodQ s r := by
  have d := dot_le h1 h2 hl
  have := abs_le (Rat.mul_nonneg (Rat.le_of_lt h1.t) (Rat.le_of_lt h2.t)) d
  rw [prodQ_eq]
  grind
theorem prod_neg (s r : StepV) : prodQ s (negS r) = -prodQ s r := by
  rw [prodQ_eq, prodQ_eq]
  show s.t * -r.t - dotQ s.ps (r.ps.map fun q => -q) = _
  rw [neg_dot]
  grind
theorem sumQ_add : ∀ (ps qs : List Rat), ps.length = qs.length → sumQ ((ps.zip qs).map fun q => q.1 + q.2) = sumQ ps + sumQ qs + 2 * dotQ ps qs
  | [], [], _ => by
    show (0 : Rat) = 0 + 0 + 2 * 0
    grind
  | p :: ps, q :: qs, h => by
    have ih := sumQ_add ps qs (by simpa using h)
    show (p + q) * (p + q) + sumQ ((ps.zip qs).map fun q => q.1 + q.2) = (p * p + sumQ ps) + (q * q + sumQ qs) + 2 * (p * q + dotQ ps qs)
    rw [ih]
    grind
theorem sq_add (s r : StepV) (hl : s.ps.length = r.ps.length) : sqQ (addS s r).t (addS s r).ps = sqQ s.t s.ps + sqQ r.t r.ps + 2 * prodQ s r := by
  rw [prodQ_eq]
  unfold sqQ addS
  dsimp only
  rw [sumQ_add _ _ hl]
  grind
theorem fwd_add {s r : StepV} (h1 : Fwd s) (h2 : Fwd r) (hl : s.ps.length = r.ps.length) : Fwd (addS s r) where
  t := by
    have a := h1.t
    have b := h2.t
    show 0 < s.t + r.t
    grind
  q := by
    have a := h1.q
    have b := h2.q
    have c := prod_nn h1 h2 hl
    rw [sq_add s r hl]
    grind
  l := by
    have := h1.l
    show ((s.ps.zip r.ps).map _).length ≤ 3
    rw [List.length_map, List.length_zip]
    omega
theorem sumQ_neg : ∀ ps : List Rat, sumQ (ps.map fun q => -q) = sumQ ps
  | [] => rfl
  | p :: ps => by
    show -p * -p + sumQ (ps.map fun q => -q) = p * p + sumQ ps
    rw [sumQ_neg ps]
    grind
theorem sq_neg (s : StepV) : sqQ (negS s).t (negS s).ps = sqQ s.t s.ps := by
  unfold sqQ negS
  dsimp only
  rw [sumQ_neg]
  grind
theorem kind_fwd {s : StepV} (h : Fwd s) : kindQ s.t (sqQ s.t s.ps) = "forward" := by
  have a := h.t
  have b := h.q
  unfold kindQ
  rw [if_neg (by grind), if_neg (by grind), if_pos a]
theorem kind_back {t q : Rat} (h : t < 0) (hq : 0 ≤ q) : kindQ t q = "backward" := by
  unfold kindQ
  rw [if_neg (by grind), if_neg (by grind), if_neg (by grind)]
theorem neg_sub (s r : StepV) : (subS (negS s) r).t = -(addS s r).t ∧ sqQ (subS (negS s) r).t (subS (negS s) r).ps = sqQ (addS s r).t (addS s r).ps := by
  have e : ∀ (ps qs : List Rat), sumQ (((ps.map fun q => -q).zip qs).map fun q => q.1 - q.2) = sumQ ((ps.zip qs).map fun q => q.1 + q.2) := by
    intro ps
    induction ps with
    | nil => intro qs; rfl
    | cons p ps ih =>
      intro qs
      cases qs with
      | nil => rfl
      | cons q qs =>
        show (-p - q) * (-p - q) + sumQ (((ps.map fun q => -q).zip qs).map fun q => q.1 - q.2) = (p + q) * (p + q) + sumQ ((ps.zip qs).map fun q => q.1 + q.2)
        rw [ih qs]
        grind
  constructor
  · show -s.t - r.t = -(s.t + r.t)
    grind
  · unfold sqQ subS negS addS
    dsimp only
    rw [e]
    grind
theorem prod_zero {s r : StepV} (h1 : Fwd s) (h2 : Fwd r) (hl : s.ps.length = r.ps.length) (h : prodQ s r = 0) : sqQ s.t s.ps = 0 ∧ mulS s r.t = mulS r s.t := by
  rw [prodQ_eq] at h
  have c := cauchy s.ps r.ps hl h1.l
  have hd : dotQ s.ps r.ps = s.t * r.t := by grind
  have a1 : sumQ s.ps ≤ s.t * s.t := by have := h1.q; unfold sqQ at this; grind
  have a2 : sumQ r.ps ≤ r.t * r.t := by have := h2.q; unfold sqQ at this; grind
  have n1 := sumQ_nn s.ps
  have n2 := sumQ_nn r.ps
  rw [hd] at c
  have p1 : 0 < s.t * s.t := Rat.mul_pos h1.t h1.t
  have p2 : 0 < r.t * r.t := Rat.mul_pos h2.t h2.t
  have b1 : sumQ s.ps * sumQ r.ps ≤ sumQ s.ps * (r.t * r.t) := Rat.mul_le_mul_of_nonneg_left a2 n1
  have e1 : sumQ s.ps = s.t * s.t := by
    refine Rat.le_antisymm a1 (Rat.le_of_mul_le_mul_right (c := r.t * r.t) ?_ p2)
    grind
  have b2 : sumQ s.ps * sumQ r.ps ≤ (s.t * s.t) * sumQ r.ps := Rat.mul_le_mul_of_nonneg_right a1 n2
  have e2 : sumQ r.ps = r.t * r.t := by
    refine Rat.le_antisymm a2 (Rat.le_of_mul_le_mul_left (c := s.t * s.t) ?_ p1)
    grind
  refine ⟨by unfold sqQ; grind, ?_⟩
  -- |r p - t q|^2 = 0
  have key : ∀ (ps qs : List Rat) (t r : Rat), ps.length = qs.length → sumQ ((ps.zip qs).map fun q => q.1 * r - q.2 * t) = r * r * sumQ ps + t * t * sumQ qs - 2 * t * r * dotQ ps qs := by
    intro ps
    induction ps with
    | nil =>
      intro qs t r h
      cases qs with
      | nil =>
        show (0 : Rat) = r * r * 0 + t * t * 0 - 2 * t * r * 0
        grind
      | cons q qs => cases h
    | cons p ps ih =>
      intro qs t r h
      cases qs with
      | nil => cases h
      | cons q qs =>
        have := ih qs t r (by simpa using h)
        show (p * r - q * t) * (p * r - q * t) + sumQ ((ps.zip qs).map fun q => q.1 * r - q.2 * t) = r * r * (p * p + sumQ ps) + t * t * (q * q + sumQ qs) - 2 * t * r * (p * q + dotQ ps qs)
        rw [this]
        grind
  have z := key s.ps r.ps s.t r.t hl
  rw [e1, e2, hd] at z
  have z0 : sumQ ((s.ps.zip r.ps).map fun q => q.1 * r.t - q.2 * s.t) = 0 := by rw [z]; grind
  have all0 : ∀ (xs : List Rat), sumQ xs = 0 → ∀ x ∈ xs, x = 0 := by
    intro xs
    induction xs with
    | nil => intro _ x hx; cases hx
    | cons y ys ih =>
      intro h x hx
      have h' : y * y + sumQ ys = 0 := h
      have hy := sq_nn y
      have hys := sumQ_nn ys
      have y0 : y * y = 0 := by grind
      have ys0 : sumQ ys = 0 := by grind
      rcases List.mem_cons.mp hx with e | e
      · rw [e]
        rcases Rat.mul_eq_zero.mp y0 with e | e <;> exact e
      · exact ih ys0 x e
  have q := all0 _ z0
  have lists : ∀ (ps qs : List Rat), ps.length = qs.length → (∀ x ∈ (ps.zip qs).map (fun q => q.1 * r.t - q.2 * s.t), x = 0) → ps.map (fun x => x * r.t) = qs.map (fun x => x * s.t) := by
    intro ps
    induction ps with
    | nil =>
      intro qs h _
      cases qs with
      | nil => rfl
      | cons q qs => cases h
    | cons p ps ih =>
      intro qs h hx
      cases qs with
      | nil => cases h
      | cons q qs =>
        have h0 := hx (p * r.t - q * s.t) (List.mem_cons_self ..)
        have h1 := ih qs (by simpa using h) fun x hx' => hx x (List.mem_cons_of_mem _ hx')
        show p * r.t :: ps.map (fun x => x * r.t) = q * s.t :: qs.map (fun x => x * s.t)
        rw [h1]
        congr 1
        grind
  unfold mulS
  rw [lists _ _ hl q]
  congr 1
  grind
structure Pl where
  n : Int
  ns : List Int
  b : Int
structure Pl.ok (k : Nat) (p : Pl) : Prop where
  l1 : 1 ≤ p.ns.length
  l2 : p.ns.length ≤ 3
  pos : 0 < p.b
  bb : p.b.natAbs < 2 ^ k
  bn : p.n.natAbs < 2 ^ k
  bs : ∀ x ∈ p.ns, x.natAbs < 2 ^ k
def stepP (p : Pl) : StepV := ⟨Rat.divInt p.n p.b, p.ns.map fun x => Rat.divInt x p.b⟩
def timesI (n : Int) (ns : List Int) (m : Int) (ms : List Int) : Int := n * m - ((ns.zip ms).map fun q => q.1 * q.2).sum
def kindI (n s : Int) : PySem.Str := if s < 0 then "apart" else if n = 0 then "nothing" else if 0 < n then "forward" else "backward"
theorem pl_sm {k : Nat} {p : Pl} (h : p.ok k) : SmS k (stepP p) := ⟨sm_div h.pos h.bn h.bb, fun q hq => by
  obtain ⟨x, hx, rfl⟩ := List.mem_map.mp hq
  exact sm_div h.pos (h.bs x hx) h.bb⟩
theorem pl_ax {k : Nat} {p : Pl} (h : p.ok k) : AxS (stepP p) := by
  unfold AxS stepP
  rw [List.length_map]
  exact ⟨h.l1, h.l2⟩
theorem div_lt {a b : Int} (hb : 0 < b) : Rat.divInt a b < 0 ↔ a < 0 := by
  have h := Rat.divInt_nonneg_iff_of_pos_right (a := a) hb
  have h2 : Rat.divInt a b < 0 ↔ ¬ 0 ≤ Rat.divInt a b := Rat.not_le.symm
  rw [h2, h]
  omega
theorem div_zero {a b : Int} (hb : 0 < b) : Rat.divInt a b = 0 ↔ a = 0 := by
  rw [Rat.divInt_eq_div]
  constructor
  · intro h
    have hz : ((b : Int) : Rat) ≠ 0 := by
      intro z
      have : b = 0 := by exact_mod_cast z
      omega
    have := Rat.div_mul_cancel (a := (a : Rat)) hz
    rw [h, Rat.zero_mul] at this
    have : (a : Rat) = 0 := this.symm
    exact_mod_cast this
  · intro h
    rw [h]
    show ((0 : Int) : Rat) / _ = 0
    rw [Rat.div_def, show ((0 : Int) : Rat) = 0 from rfl, Rat.zero_mul]
theorem div_gt {a b : Int} (hb : 0 < b) : 0 < Rat.divInt a b ↔ 0 < a := by
  have h1 := div_lt (a := a) hb
  have h2 := div_zero (a := a) hb
  have h3 : 0 < Rat.divInt a b ↔ ¬ Rat.divInt a b < 0 ∧ ¬ Rat.divInt a b = 0 := by grind
  rw [h3, h1, h2]
  omega
theorem kind_eq {n t b : Int} (hb : 0 < b) : kindQ (Rat.divInt n b) (Rat.divInt t (b * b)) = kindI n t := by
  have hbb : 0 < b * b := Int.mul_pos hb hb
  have e1 := div_lt (a := t) hbb
  have e2 := div_zero (a := n) hb
  have e3 := div_gt (a := n) hb
  unfold kindQ kindI
  simp only [e1, e2, e3]
theorem dd_mul {a b c d : Int} : Rat.divInt a b * Rat.divInt c d = Rat.divInt (a * c) (b * d) := Rat.divInt_mul_divInt a c
theorem dd_add {a b c d : Int} (hb : 0 < b) (hd : 0 < d) : Rat.divInt a b + Rat.divInt c d = Rat.divInt (a * d + c * b) (b * d) := Rat.divInt_add_divInt a c (by omega) (by omega)
theorem dd_sub {a b c d : Int} (hb : 0 < b) (hd : 0 < d) : Rat.divInt a b - Rat.divInt c d = Rat.divInt (a * d - c * b) (b * d) := Rat.divInt_sub_divInt a c (by omega) (by omega)
theorem dd_neg {a b : Int} : -Rat.divInt a b = Rat.divInt (-a) b := Rat.neg_divInt a b
theorem dd_addS {a b c : Int} (hb : 0 < b) : Rat.divInt a b + Rat.divInt c b = Rat.divInt (a + c) b := by
  rw [dd_add hb hb, ← Int.add_mul, Rat.divInt_mul_right (by omega)]
theorem dd_subS {a b c : Int} (hb : 0 < b) : Rat.divInt a b - Rat.divInt c b = Rat.divInt (a - c) b := by
  rw [dd_sub hb hb, ← Int.sub_mul, Rat.divInt_mul_right (by omega)]
theorem sumQ_div {b : Int} (hb : 0 < b) : ∀ ns : List Int, sumQ (ns.map fun x => Rat.divInt x b) = Rat.divInt ((ns.zip ns).map fun q => q.1 * q.2).sum (b * b)
  | [] => by
    show (0 : Rat) = Rat.divInt 0 _
    rw [Rat.zero_divInt]
  | n :: ns => by
    show Rat.divInt n b * Rat.divInt n b + sumQ (ns.map fun x => Rat.divInt x b) = Rat.divInt (n * n + ((ns.zip ns).map fun q => q.1 * q.2).sum) (b * b)
    rw [sumQ_div hb ns, dd_mul, dd_addS (Int.mul_pos hb hb)]
theorem sq_stepP {p : Pl} (hb : 0 < p.b) : sqQ (stepP p).t (stepP p).ps = Rat.divInt (timesI p.n p.ns p.n p.ns) (p.b * p.b) := by
  unfold sqQ stepP timesI
  dsimp only
  rw [sumQ_div hb, dd_mul, dd_subS (Int.mul_pos hb hb)]
theorem pow_4 (k : Nat) : 2 ^ (k + 2) = 4 * 2 ^ k := by rw [Nat.pow_add]; omega
theorem times_bits {k : Nat} {n m : Int} {ns ms : List Int} (h1 : n.natAbs < 2 ^ k) (h2 : m.natAbs < 2 ^ k) (h3 : ∀ x ∈ ns, x.natAbs < 2 ^ k) (h4 : ∀ x ∈ ms, x.natAbs < 2 ^ k) (hl : ns.length ≤ 3) : (timesI n ns m ms).natAbs < 2 ^ (k + k + 2) := by
  have e1 := b_mul h1 h2
  have e2 := sum_bits (k := k + k) (m := 3) ((ns.zip ms).map fun q => q.1 * q.2) (fun x hx => by
    obtain ⟨q, hq, rfl⟩ := List.mem_map.mp hx
    have zm := List.of_mem_zip (show (q.1, q.2) ∈ ns.zip ms from hq)
    exact b_mul (h3 _ zm.1) (h4 _ zm.2)) (by rw [List.length_map, List.length_zip]; omega)
  rw [pow_4]
  unfold timesI
  omega
def plusP (p q : Pl) : Pl := ⟨p.n * q.b + q.n * p.b, (p.ns.zip q.ns).map fun x => x.1 * q.b + x.2 * p.b, p.b * q.b⟩
def lessP (p q : Pl) : Pl := ⟨p.n * q.b - q.n * p.b, (p.ns.zip q.ns).map fun x => x.1 * q.b - x.2 * p.b, p.b * q.b⟩
def minusP (p : Pl) : Pl := ⟨-p.n, p.ns.map fun x => -x, p.b⟩
def manyP (p : Pl) (a b : Int) : Pl := ⟨p.n * a, p.ns.map fun x => x * a, p.b * b⟩
theorem zipmap {α β γ : Type} {f : α → β} {g : α → β} {h : β × β → γ} : ∀ (xs ys : List α), ((xs.map f).zip (ys.map g)).map h = (xs.zip ys).map fun q => h (f q.1, g q.2)
  | [], _ => rfl
  | _ :: _, [] => rfl
  | x :: xs, y :: ys => by
    show h (f x, g y) :: _ = h (f x, g y) :: _
    congr 1
    exact zipmap xs ys
theorem addS_P {p q : Pl} (hp : 0 < p.b) (hq : 0 < q.b) : addS (stepP p) (stepP q) = stepP (plusP p q) := by
  unfold addS stepP plusP
  dsimp only
  rw [zipmap, List.map_map, dd_add hp hq]
  congr 1
  exact List.map_congr_left fun x _ => dd_add hp hq
theorem subS_P {p q : Pl} (hp : 0 < p.b) (hq : 0 < q.b) : subS (stepP p) (stepP q) = stepP (lessP p q) := by
  unfold subS stepP lessP
  dsimp only
  rw [zipmap, List.map_map, dd_sub hp hq]
  congr 1
  exact List.map_congr_left fun x _ => dd_sub hp hq
theorem negS_P (p : Pl) : negS (stepP p) = stepP (minusP p) := by
  unfold negS stepP minusP
  dsimp only
  rw [List.map_map, List.map_map, dd_neg]
  congr 1
  exact List.map_congr_left fun x _ => dd_neg
theorem mulS_P (p : Pl) (a b : Int) : mulS (stepP p) (Rat.divInt a b) = stepP (manyP p a b) := by
  unfold mulS stepP manyP
  dsimp only
  rw [List.map_map, List.map_map, dd_mul]
  congr 1
  exact List.map_congr_left fun x _ => dd_mul
theorem dot_P {b d : Int} (hb : 0 < b) (hd : 0 < d) : ∀ (ns ms : List Int), dotQ (ns.map fun x => Rat.divInt x b) (ms.map fun x => Rat.divInt x d) = Rat.divInt ((ns.zip ms).map fun q => q.1 * q.2).sum (b * d)
  | [], ms => by
    show (0 : Rat) = Rat.divInt 0 _
    rw [Rat.zero_divInt]
  | _ :: _, [] => by
    show (0 : Rat) = Rat.divInt 0 _
    rw [Rat.zero_divInt]
  | n :: ns, m :: ms => by
    show Rat.divInt n b * Rat.divInt m d + dotQ (ns.map fun x => Rat.divInt x b) (ms.map fun x => Rat.divInt x d) = Rat.divInt (n * m + ((ns.zip ms).map fun q => q.1 * q.2).sum) (b * d)
    rw [dot_P hb hd ns ms, dd_mul, dd_addS (Int.mul_pos hb hd)]
theorem prod_P {p q : Pl} (hp : 0 < p.b) (hq : 0 < q.b) : prodQ (stepP p) (stepP q) = Rat.divInt (timesI p.n p.ns q.n q.ns) (p.b * q.b) := by
  rw [prodQ_eq]
  unfold stepP timesI
  dsimp only
  rw [dot_P hp hq, dd_mul, dd_subS (Int.mul_pos hp hq)]
theorem ok_plus {p q : Pl} (h : p.ok 30) (g : q.ok 30) (hl : p.ns.length = q.ns.length) : (plusP p q).ok 61 where
  l1 := by show 1 ≤ ((p.ns.zip q.ns).map _).length; rw [List.length_map, List.length_zip, ← hl, Nat.min_self]; exact h.l1
  l2 := by show ((p.ns.zip q.ns).map _).length ≤ 3; rw [List.length_map, List.length_zip, ← hl, Nat.min_self]; exact h.l2
  pos := Int.mul_pos h.pos g.pos
  bb := b_up (b_mul h.bb g.bb) (by decide)
  bn := b_add (n := 60) (b_mul h.bn g.bb) (b_mul g.bn h.bb)
  bs := fun x hx => by
    obtain ⟨q', hq, rfl⟩ := List.mem_map.mp hx
    have zm := List.of_mem_zip (show (q'.1, q'.2) ∈ p.ns.zip q.ns from hq)
    exact b_add (n := 60) (b_mul (h.bs _ zm.1) g.bb) (b_mul (g.bs _ zm.2) h.bb)
theorem ok_less {p q : Pl} (h : p.ok 30) (g : q.ok 30) (hl : p.ns.length = q.ns.length) : (lessP p q).ok 61 where
  l1 := by show 1 ≤ ((p.ns.zip q.ns).map _).length; rw [List.length_map, List.length_zip, ← hl, Nat.min_self]; exact h.l1
  l2 := by show ((p.ns.zip q.ns).map _).length ≤ 3; rw [List.length_map, List.length_zip, ← hl, Nat.min_self]; exact h.l2
  pos := Int.mul_pos h.pos g.pos
  bb := b_up (b_mul h.bb g.bb) (by decide)
  bn := b_sub (n := 60) (b_mul h.bn g.bb) (b_mul g.bn h.bb)
  bs := fun x hx => by
    obtain ⟨q', hq, rfl⟩ := List.mem_map.mp hx
    have zm := List.of_mem_zip (show (q'.1, q'.2) ∈ p.ns.zip q.ns from hq)
    exact b_sub (n := 60) (b_mul (h.bs _ zm.1) g.bb) (b_mul (g.bs _ zm.2) h.bb)
theorem ok_minus {p : Pl} {k : Nat} (h : p.ok k) : (minusP p).ok k where
  l1 := by show 1 ≤ (p.ns.map _).length; rw [List.length_map]; exact h.l1
  l2 := by show (p.ns.map _).length ≤ 3; rw [List.length_map]; exact h.l2
  pos := h.pos
  bb := h.bb
  bn := by show (-p.n).natAbs < _; rw [Int.natAbs_neg]; exact h.bn
  bs := fun x hx => by
    obtain ⟨y, hy, rfl⟩ := List.mem_map.mp hx
    rw [Int.natAbs_neg]
    exact h.bs y hy
theorem ok_many {p : Pl} {a b : Int} (h : p.ok 30) (ha : a.natAbs < 2 ^ 30) (hb : b.natAbs < 2 ^ 30) (h0 : 0 < b) : (manyP p a b).ok 60 where
  l1 := by show 1 ≤ (p.ns.map _).length; rw [List.length_map]; exact h.l1
  l2 := by show (p.ns.map _).length ≤ 3; rw [List.length_map]; exact h.l2
  pos := Int.mul_pos h.pos h0
  bb := b_mul h.bb hb
  bn := b_mul h.bn ha
  bs := fun x hx => by
    obtain ⟨y, hy, rfl⟩ := List.mem_map.mp hx
    exact b_mul (h.bs y hy) ha
theorem sub_self_P (s : StepV) : kindQ (subS s s).t (sqQ (subS s s).t (subS s s).ps) = "nothing" := by
  have z : ∀ ps : List Rat, sumQ ((ps.zip ps).map fun q => q.1 - q.2) = 0 := by
    intro ps
    induction ps with
    | nil => rfl
    | cons p ps ih =>
      show (p - p) * (p - p) + sumQ ((ps.zip ps).map fun q => q.1 - q.2) = 0
      rw [ih]
      grind
  have t0 : (subS s s).t = 0 := by show s.t - s.t = 0; grind
  have s0 : sqQ (subS s s).t (subS s s).ps = 0 := by
    unfold sqQ
    rw [t0]
    show 0 * 0 - sumQ ((s.ps.zip s.ps).map fun q => q.1 - q.2) = 0
    rw [z]
    grind
  rw [s0, t0]
  unfold kindQ
  rw [if_neg (by grind), if_pos rfl]
theorem zip_comm_add : ∀ (ps qs : List Rat), (ps.zip qs).map (fun q => q.1 + q.2) = (qs.zip ps).map fun q => q.1 + q.2
  | [], [] => rfl
  | [], _ :: _ => rfl
  | _ :: _, [] => rfl
  | p :: ps, q :: qs => by
    show (p + q) :: (ps.zip qs).map (fun q => q.1 + q.2) = (q + p) :: (qs.zip ps).map fun q => q.1 + q.2
    rw [zip_comm_add ps qs, Rat.add_comm]
theorem addS_comm (s r : StepV) : addS s r = addS r s := by
  unfold addS
  rw [zip_comm_add, Rat.add_comm]
theorem zip_assoc_add : ∀ (ps qs us : List Rat), (((ps.zip qs).map fun q => q.1 + q.2).zip us).map (fun q => q.1 + q.2) = (ps.zip ((qs.zip us).map fun q => q.1 + q.2)).map fun q => q.1 + q.2
  | [], _, _ => rfl
  | _ :: _, [], _ => rfl
  | _ :: _, _ :: _, [] => rfl
  | p :: ps, q :: qs, u :: us => by
    show (p + q + u) :: _ = (p + (q + u)) :: _
    rw [Rat.add_assoc]
    congr 1
    exact zip_assoc_add ps qs us
theorem addS_assoc (s r u : StepV) : addS (addS s r) u = addS s (addS r u) := by
  unfold addS
  dsimp only
  rw [zip_assoc_add, Rat.add_assoc]
theorem dot_comm : ∀ (ps qs : List Rat), dotQ ps qs = dotQ qs ps
  | [], [] => rfl
  | [], _ :: _ => rfl
  | _ :: _, [] => rfl
  | p :: ps, q :: qs => by
    show p * q + dotQ ps qs = q * p + dotQ qs ps
    rw [dot_comm ps qs, Rat.mul_comm]
theorem prod_comm (s r : StepV) : prodQ s r = prodQ r s := by
  rw [prodQ_eq, prodQ_eq, dot_comm, Rat.mul_comm]
theorem dot_add : ∀ (ps qs us : List Rat), ps.length = qs.length → dotQ ((ps.zip qs).map fun q => q.1 + q.2) us = dotQ ps us + dotQ qs us
  | [], [], us, _ => by
    show (0 : Rat) = 0 + 0
    grind
  | _ :: _, _ :: _, [], _ => by
    show (0 : Rat) = 0 + 0
    grind
  | p :: ps, q :: qs, u :: us, h => by
    show (p + q) * u + dotQ ((ps.zip qs).map fun q => q.1 + q.2) us = (p * u + dotQ ps us) + (q * u + dotQ qs us)
    rw [dot_add ps qs us (by simpa using h)]
    grind
theorem prod_add (s r u : StepV) (hl : s.ps.length = r.ps.length) : prodQ (addS s r) u = prodQ s u + prodQ r u := by
  rw [prodQ_eq, prodQ_eq, prodQ_eq]
  show (s.t + r.t) * u.t - dotQ ((s.ps.zip r.ps).map fun q => q.1 + q.2) u.ps = _
  rw [dot_add _ _ _ hl]
  grind
theorem sm_prodF {n : Nat} : ∀ (qs : List (Rat × Rat)) (a : Rat) (k : Nat), Sm k a → (∀ q ∈ qs, Sm n (q.1 * q.2)) → Sm (k + qs.length * (n + 1)) (prodF qs a)
  | [], a, k, h, _ => by simpa [prodF] using h
  | q :: qs, a, k, h, hq => by
    have := sm_prodF qs (a - q.1 * q.2) (k + n + 1) (sm_sub h (hq q (List.mem_cons_self ..))) fun x hx => hq x (List.mem_cons_of_mem _ hx)
    rw [List.length_cons]
    refine Sm.mono this ?_
    rw [Nat.add_mul]
    omega
theorem sm_prod {n : Nat} {s r : StepV} (h1 : SmS n s) (h2 : SmS n r) (hl : s.ps.length ≤ 3) : Sm (8 * n + 3) (prodQ s r) := by
  have := sm_prodF (n := 2 * n) (s.ps.zip r.ps) (s.t * r.t) (2 * n) ((sm_mul h1.1 h2.1).mono (by omega)) fun q hq => by
    have zm := List.of_mem_zip (show (q.1, q.2) ∈ s.ps.zip r.ps from hq)
    exact (sm_mul (h1.2 _ zm.1) (h2.2 _ zm.2)).mono (by omega)
  refine this.mono ?_
  have : (s.ps.zip r.ps).length ≤ 3 := by rw [List.length_zip]; omega
  have : (s.ps.zip r.ps).length * (2 * n + 1) ≤ 3 * (2 * n + 1) := Nat.mul_le_mul_right _ this
  omega
theorem len_add (s r : StepV) (hl : s.ps.length = r.ps.length) : (addS s r).ps.length = s.ps.length := by
  show ((s.ps.zip r.ps).map _).length = _
  rw [List.length_map, List.length_zip, hl, Nat.min_self]
def FwP (ax : Nat) (p : Pl) : Prop := p.ns.length = ax ∧ 1 ≤ p.b ∧ p.b ≤ 6 ∧ (1 ≤ p.n ∧ p.n ≤ 40) ∧ (∀ x ∈ p.ns, -12 ≤ x ∧ x ≤ 12) ∧ 0 ≤ timesI p.n p.ns p.n p.ns
def fastL : List (List (List Int)) := [[[1, 1], [2, -2], [5, 5]], [[5, 3, 4], [13, -5, 12], [1, 0, -1]], [[3, 1, 2, -2], [7, 2, 3, 6], [9, -4, 1, 8]]]
def fastOk (ax : Nat) (as : List Int) : Bool := match as with
  | [] => false
  | n :: ns => ns.length == ax && decide (1 ≤ n) && decide (n ≤ 40) && ns.all (fun x => decide (-12 ≤ x) && decide (x ≤ 12)) && decide (0 ≤ timesI n ns n ns)
theorem fast_ok (i : Nat) (h : i < 3) : ∃ as, fastL[i]? = some as ∧ 0 < as.length ∧ as.length ≤ 1000 ∧ as.all (fastOk (i + 1)) = true := by
  rcases i with _ | _ | _ | i
  · exact ⟨_, rfl, by decide, by decide, by decide⟩
  · exact ⟨_, rfl, by decide, by decide, by decide⟩
  · exact ⟨_, rfl, by decide, by decide, by decide⟩
  · omega
theorem fast_P {ax : Nat} {as : List Int} {b : Int} (h : fastOk ax as = true) (h1 : 1 ≤ b) (h2 : b ≤ 6) : ∃ n ns, as = n :: ns ∧ FwP ax ⟨n, ns, b⟩ := by
  cases as with
  | nil => cases h
  | cons n ns =>
    unfold fastOk at h
    simp only [Bool.and_eq_true, decide_eq_true_eq, List.all_eq_true, beq_iff_eq] at h
    obtain ⟨⟨⟨⟨a1, a2⟩, a3⟩, a4⟩, a5⟩ := h
    exact ⟨n, ns, rfl, a1, h1, h2, ⟨a2, a3⟩, a4, a5⟩
theorem far_le (ns : List Int) (hl : ns.length ≤ 3) (h : ∀ x ∈ ns, -12 ≤ x ∧ x ≤ 12) : 0 ≤ (ns.map fun x => x * x).sum ∧ (ns.map fun x => x * x).sum ≤ 432 := by
  have g : ∀ ns : List Int, (∀ x ∈ ns, -12 ≤ x ∧ x ≤ 12) → 0 ≤ (ns.map fun x => x * x).sum ∧ (ns.map fun x => x * x).sum ≤ 144 * ns.length := by
    intro ns
    induction ns with
    | nil => intro _; simp
    | cons n ns ih =>
      intro h
      have i := ih fun x hx => h x (List.mem_cons_of_mem _ hx)
      have j := h n (List.mem_cons_self ..)
      have k : n * n ≤ 144 := by
        rcases Int.le_total 0 n with z | z
        · exact Int.mul_le_mul j.2 j.2 z (by decide)
        · have := Int.mul_le_mul (a := -n) (b := -n) (c := 12) (d := 12) (by omega) (by omega) (by omega) (by decide)
          rwa [Int.neg_mul_neg] at this
      have k0 : 0 ≤ n * n := by
        rcases Int.le_total 0 n with z | z
        · exact Int.mul_nonneg z z
        · have := Int.mul_nonneg (a := -n) (b := -n) (by omega) (by omega)
          rwa [Int.neg_mul_neg] at this
      rw [List.map_cons, List.sum_cons, List.length_cons]
      omega
  have := g ns h
  omega
theorem zip_self (ns : List Int) : (ns.zip ns).map (fun q => q.1 * q.2) = ns.map fun x => x * x := by
  induction ns with
  | nil => rfl
  | cons n ns ih =>
    show n * n :: ((ns.zip ns).map fun q => q.1 * q.2) = n * n :: ns.map fun x => x * x
    rw [ih]
theorem fw_ok {ax : Nat} {p : Pl} (h : FwP ax p) (h1 : 1 ≤ ax) (h2 : ax ≤ 3) : p.ok 30 ∧ Fwd (stepP p) := by
  obtain ⟨l, b1, b2, n1, bs, t⟩ := h
  have e30 : (2 : Nat) ^ 30 = 1073741824 := by decide
  have hb : 0 < p.b := by omega
  refine ⟨⟨by omega, by omega, hb, by omega, by omega, fun x hx => by have := bs x hx; omega⟩, ⟨(div_gt hb).mpr (by omega), ?_, ?_⟩⟩
  · rw [sq_stepP hb]
    exact (Rat.divInt_nonneg_iff_of_pos_right (Int.mul_pos hb hb)).mpr t
  · unfold stepP
    rw [List.length_map]
    omega
instance : DecidableEq StepV := fun a b => decidable_of_iff (a.t = b.t ∧ a.ps = b.ps) (by cases a; cases b; simp)
end G
set_option maxHeartbeats 4000000
/-! E19: lists joined, repeated, turned about; draws. -/
namespace E
open PySem PySem.Spec PyProof.Rows L2 Evl G He
/-- what an operator gives of data -/
def OpV (rr : R2) (p q r : PV) : Prop := ∀ x y H, p.Is x H → q.Is y H → ∀ Q : VK, (∀ v H', Ex H H' → r.Is v H' → Q v H') → rr x y H Q
section
variable {X : Cx} {ρ : Rho} {S : List Sl} {α : Type} {as bs : List α} {f : α → PV} {a b c e l : Expr} {es : List Expr} {pos pp p1 p2 p3 : Pos} {p q r : PV} {ps qs : List PV} {Φ : Phi} {x y : Str} {i j : Int} {n m k : Nat} {rr : R2}
theorem ev_op2 (hp : PE X e (tOp rr (EW X a) (EW X b))) (ha : EV X a ρ p) (hb : EV X b ρ q) (ho : OpV rr p q r) : EV X e ρ r := fun σ H l h =>
  eg_of hp (ep_op (ha σ H l h) (hb σ H l h) fun v w H1 _ pv pw Q k => ho v w H1 pv pw Q k)
theorem xw_op2 (hp : PE X e (tOp rr (EW X a) (EW X b))) (hk : OpV rr p q r → ∀ S : List Sl, ∀ x y H σ, Rep S σ H → p.Is x (vis S H) → q.Is y (vis S H) → ∀ Q : VK, (∀ v H', Rep S σ H' → Ex (vis S H) (vis S H') → r.Is v (vis S H') → Q v H') → rr x y H Q)
    (ho : OpV rr p q r) (ha : XW X a S fun p' S1 => p' = p ∧ XW X b S1 fun q' S2 => q' = q ∧ Φ r S2) : XW X e S Φ := fun σ H re pins s I =>
  hp.run pins s σ H _ I (ew_mono (ha σ H re) fun v H1 ⟨p', S1, ⟨e0, h1⟩, r1, i1, x1⟩ => ew_mono (h1 σ H1 r1) fun w H2 ⟨q', S2, ⟨e2, h2⟩, r2, i2, x2⟩ => by
    subst e0 e2
    exact hk ho S2 v w H2 σ r2 (i1.up x2) i2 _ fun z H' r3 x3 i3 => ⟨_, S2, h2, r3, i3, (x1.trans x2).trans x3⟩)
/-! ### l + m -/
theorem ov_cat (hl : ps.length + qs.length ≤ 100000) : OpV rCat (.lst ps) (.lst qs) (.lst (ps ++ qs)) := fun x y H ⟨a1, xs, e1, h1, i1⟩ ⟨a2, ys, e2, h2, i2⟩ Q k =>
  ⟨a1, a2, xs, ys, e1, e2, h1, h2, sz_of (by rw [iss_len i1, iss_len i2]; exact Nat.le_trans hl (by decide)), fun d hd => k _ _ (Ex.new hd) (lst_new hd (iss_app i1 i2))⟩
theorem ev_cat (ha : EV X a ρ (.lst (as.map f))) (hb : EV X b ρ (.lst (bs.map f))) (hl : as.length + bs.length ≤ 100000 := by first | (simp <;> omega) | exact Int.mul_pos (q_dpos _) (q_dpos _) | exact q_dpos _ | with_reducible rfl | assumption | omega) : EV X (.BinOp a .Add b pos) ρ (.lst ((as ++ bs).map f)) :=
  (ev_op2 (pe_op op_cat pe_W pe_W) ha hb (ov_cat (by rw [List.length_map, List.length_map]; exact hl))).as (by rw [List.map_append])
theorem xw_cat (ha : XW X a S fun p S1 => ∃ as : List α, p = .lst (as.map f) ∧ XW X b S1 fun q S2 => ∃ bs : List α, q = .lst (bs.map f) ∧ as.length + bs.length ≤ 100000 ∧ Φ (.lst ((as ++ bs).map f)) S2) : XW X (.BinOp a .Add b pos) S Φ := fun σ H re pins s I =>
  (pe_op op_cat pe_W pe_W).run pins s σ H _ I (ew_mono (ha σ H re) fun v H1 ⟨p', S1, ⟨as, e0, h1⟩, r1, i1, x1⟩ => ew_mono (h1 σ H1 r1) fun w H2 ⟨q', S2, ⟨bs, e2, hl, h2⟩, r2, i2, x2⟩ => by
    subst e0 e2
    obtain ⟨a1, xs, e1, h3, i3⟩ := i1.up x2
    obtain ⟨a2, ys, e4, h4, i4⟩ := i2
    refine ⟨a1, a2, xs, ys, e1, e4, ex_vis _ _ h3, ex_vis _ _ h4, sz_of (by rw [iss_len i3, iss_len i4, List.length_map, List.length_map]; exact Nat.le_trans hl (by decide)), fun d hd => ?_⟩
    obtain ⟨z1, z2⟩ := vis_add (o := .lst (xs ++ ys)) r2 hd
    refine ⟨_, S2, h2, r2.up (Ex.new hd), ?_, (x1.trans x2).trans ?_⟩
    · rw [z1, List.map_append]
      exact lst_new z2 (iss_app i3 i4)
    · rw [z1]
      exact Ex.new z2)
/-! ### l[i], i drawn -/
theorem xw_ixM (ha : EV X a (view S) (.lst (as.map f))) (hb : XW X b S fun q S2 => ∃ j y, q = .int j ∧ atI as j = some y ∧ Φ (f y) S2) (hs : PlainIx b := by exact fun _ _ => rfl) : XW X (.Subscript a b pos) S Φ := fun σ H re pins s I =>
  (pe_ix ix_list pe_W pe_W hs).run pins s σ H _ I (re.ev ha H (Ex.refl H) _ fun v H1 e1 pv => ew_mono (hb σ H1 (re.up e1)) fun w H2 ⟨q, S2, ⟨j, y, e2, hy, h2⟩, r2, i2, x2⟩ => by
    subst e2
    obtain ⟨d, xs, h3, h4, h5⟩ := pv.up x2
    have hx : atI (as.map f) j = some (f y) := by
      unfold atI at *
      rw [List.length_map]
      cases e : ixN as.length j with
      | none => rw [e] at hy; cases hy
      | some k =>
        rw [e] at hy
        show (as.map f)[k]? = _
        rw [List.getElem?_map, show as[k]? = some y from hy]
        rfl
    obtain ⟨z, hz, rz⟩ := iss_atI h5 hx
    exact ⟨d, xs, j, z, h3, i2, SqL.of (ex_vis _ _ h4), hz, _, S2, h2, r2, rz, (ex_visL e1).trans x2⟩)
/-! ### [x] * n, l[::-1] -/
theorem iss_rep {H : Hp} {vs : List V} (h : PV.Iss ps vs H) : ∀ n : Nat, PV.Iss (List.replicate n ps).flatten (List.replicate n vs).flatten H
  | 0 => rfl
  | n + 1 => iss_app h (iss_rep h n)
theorem ov_rep {n : Nat} (h1 : n < 2 ^ 63) (h2 : ps.length * n ≤ 100000) : OpV rRep (.lst ps) (.int (n : Int)) (.lst (List.replicate n ps).flatten) := fun x y H ⟨a1, xs, e1, h1', i1⟩ i2 Q k =>
  ⟨a1, n, xs, e1, i2, h1', by omega, by omega, sz_of (by rw [iss_len i1, Int.toNat_natCast]; exact Nat.le_trans h2 (by decide)), fun d hd => k _ _ (Ex.new hd) (by rw [Int.toNat_natCast]; exact lst_new hd (iss_rep i1 n))⟩
theorem ev_revM (ha : EV X a ρ (.lst (as.map f))) : EV X (.Subscript a (.Slice none none (some (.UnaryOp .USub (.Constant (.int 1) k p1) p2)) p3) pos) ρ (.lst (as.reverse.map f)) := fun σ H l h =>
  eg_of (pe_revL pe_W) fun H1 e1 Q q => ha σ H l h H1 e1 _ fun v H2 e2 ⟨d, xs, h1, h2, h3⟩ => ⟨d, xs, h1, SqL.of h2, fun t ht => q _ _ (e2.trans (Ex.new ht)) (by rw [List.map_reverse]; exact lst_new ht (iss_rev h3))⟩
end
theorem all_snoc {α : Type} {P : α → Prop} {ys : List α} {y : α} (h : ∀ z ∈ ys, P z) (hy : P y) : ∀ z ∈ ys ++ [y], P z := fun z hz => (List.mem_append.mp hz).elim (h z) fun e => (List.mem_singleton.mp e) ▸ hy
theorem snoc_ex {α : Type} {f : α → PV} {P : α → Prop} {ys : List α} {i : Nat} {p : PV} {Q : Prop} (hyl : ys.length = i) (hya : ∀ y ∈ ys, P y) (y : α) (hp : p = f y) (hy : P y) (hq : Q) : ∃ zs : List α, ys.map f ++ [p] = zs.map f ∧ zs.length = i + 1 ∧ (∀ y ∈ zs, P y) ∧ Q :=
  ⟨ys ++ [y], by rw [List.map_append, hp]; rfl, by rw [List.length_append, hyl]; rfl, all_snoc hya hy, hq⟩
theorem iu_rangeE {X : Cx} {ρ : Rho} {l tg : Expr} {n : Nat} {i : Int} {pp pos : Pos} (hm : X.mg "range" = none) (h : EV X l ρ (.int i)) (he : i = (n : Int)) (hn : n ≤ 1000000) (hg : Gl X "range" := by rfl) (hs : starEach [l] X.env = [(false, eval l X.env)] := by rfl) : IU X tg (.Call (.Name "range" pp) [l] [] pos) ρ (fun i : Nat => PV.int (i : Int)) (List.range n) := iu_range hm (he ▸ h) hn hg hs
theorem iteF {b : Bool} {A B : Prop} (h : b = false) (h2 : B) : if b = true then A else B := by rw [if_neg (by rw [h]; exact Bool.false_ne_true)]; exact h2
theorem iteY {b : Bool} {A B : Prop} (h : b = true) (h2 : A) : if b = true then A else B := by rw [if_pos h]; exact h2
theorem glf_of {X : Cx} {x q : Str} {st : Stmt} {dvs : List V} {f : Addr} (h : ∃ fd, G.FnP X.K q q st dvs f fd) (hm : X.mg x = some (.ref f)) : GlF X x := let ⟨_, F⟩ := h; ⟨f, hm, F.kp⟩
theorem xt_val {X : Cx} {S : List Sl} {e : Expr} {Φ : Bool → List Sl → Prop} (he : XW X e S fun p S1 => ∃ b, p = .bl b ∧ Φ b S1) (hp : ∀ whole, isTrue e X.env whole = (do let v ← whole; standAt e.pos; holding [v] (truthy v)) := by intro _; rfl) : XT X e S Φ := fun σ H r pins s I => (pt_val pe_W hp).run pins s σ H _ I (ew_mono (he σ H r) fun v H1 ⟨p, S1, ⟨b, e0, h⟩, r1, i1, e1⟩ => by
  subst e0
  exact ⟨b, i1, S1, h, r1, e1⟩)
def XH (X : Cx) (e : Expr) (S : List Sl) (Φ : Bool → List Sl → Prop) : Prop := ∀ σ H, Rep S σ H → WW X e σ H fun b H' => ∃ S', Φ b S' ∧ Rep S' σ H' ∧ Ex (vis S H) (vis S' H')
section
variable {X : Cx} {S : List Sl} {a b e : Expr} {rest : List Expr} {pos : Pos} {Φ : Bool → List Sl → Prop}
theorem xt_h (h : XH X e S Φ) : XT X e S Φ := fun σ H r pins s I => h σ H r _ pins s I
theorem xh_or1 (h : XT X a S Φ) : XH X (.BoolOp .Or [a] pos) S Φ := fun σ H r wh pins s I => (pw_or1 pt_W).run wh pins s σ H _ I (h σ H r)
theorem xh_and1 (h : XT X a S Φ) : XH X (.BoolOp .And [a] pos) S Φ := fun σ H r wh pins s I => (pw_and1 pt_W).run wh pins s σ H _ I (h σ H r)
theorem xh_or (h : XT X a S fun x S1 => if x = true then Φ true S1 else XH X (.BoolOp .Or (b :: rest) pos) S1 Φ) : XH X (.BoolOp .Or (a :: b :: rest) pos) S Φ := fun σ H r wh pins s I =>
  (pw_or pt_W pw_W).run wh pins s σ H _ I (tw_mono (h σ H r) fun x H1 ⟨S1, h1, r1, e1⟩ => by
    cases x with
    | true => rw [if_pos rfl] at *; exact ⟨S1, h1, r1, e1⟩
    | false =>
      rw [if_neg Bool.false_ne_true] at *
      exact fun wh pins s I => thn (h1 σ H1 r1 wh pins s I) fun u s1 ⟨H2, J2, S2, h2, r2, e2⟩ => ⟨H2, J2, S2, h2, r2, e1.trans e2⟩)
theorem xh_and (h : XT X a S fun x S1 => if x = true then XH X (.BoolOp .And (b :: rest) pos) S1 Φ else Φ false S1) : XH X (.BoolOp .And (a :: b :: rest) pos) S Φ := fun σ H r wh pins s I =>
  (pw_and pt_W pw_W).run wh pins s σ H _ I (tw_mono (h σ H r) fun x H1 ⟨S1, h1, r1, e1⟩ => by
    cases x with
    | false => rw [if_neg Bool.false_ne_true] at *; exact ⟨S1, h1, r1, e1⟩
    | true =>
      rw [if_pos rfl] at *
      exact fun wh pins s I => thn (h1 σ H1 r1 wh pins s I) fun u s1 ⟨H2, J2, S2, h2, r2, e2⟩ => ⟨H2, J2, S2, h2, r2, e1.trans e2⟩)
end
theorem bv_appendM {X : Cx} {S : List Sl} {D : VE} {rest : List Stmt} {α : Type} {f : α → PV} {as : List α} {e : Expr} {x : Str} {pp pos p2 : Pos} (i : Nat) {a : Addr} {apos : Pos} (he : XW X e S fun p S1 => ∃ y as, p = f y ∧ S1[i]? = some (.own a (.lst (as.map f))) ∧ as.length < 100000 ∧ BV X rest (S1.set i (.own a (.lst ((as ++ [y]).map f)))) D) (hS : S[i]? = some (.own a (.lst (as.map f))) := by rfl) (hN : X.N[i]? = some x := by rfl) (hv : Vis X.env.scope x := by first | exact Or.inl rfl | exact Or.inr (Or.inl rfl) | exact Or.inr (Or.inr rfl))
    (hd : (x == ("__debug__" : Str)) = false := by decide) (hcd : (x == ("__classdict__" : Str)) = false := by decide) (hbase : attributeBase (.Name x pp) "append" X.env (eval (.Name x pp) X.env) = eval (.Name x pp) X.env := by rfl)
    (hfew : ((backTo pos (starEach (e :: []) X.env)).all (fun x => !x.1) && (backToKw pos (keywordEach [] X.env)).all (fun x => x.1.isSome) && decide ((e :: []).length + ([] : List Keyword).length + (if ([] : List Keyword).isEmpty then 0 else 1) < 30)) = true := by rfl)
    (hline : (apos.endLine == pos.line) = true := by rfl) (hs : starEach (e :: []) X.env = (false, eval e X.env) :: starEach [] X.env := by rfl) (hplain : (backTo pos (starEach [] X.env)).any (·.1) = false := by rfl)
    (hsw : swapsWith (.Call (.Attribute (.Name x pp) "append" apos) [e] [] pos) none p2.line X.env = pure false := by rfl) : BV X (.Expr (.Call (.Attribute (.Name x pp) "append" apos) [e] [] pos) p2 :: rest) S D :=
  bv_append i (he.imp fun p S1 ⟨y, as, e0, h1, h2, h3⟩ => ⟨_, h1, by rw [List.length_map]; omega, by rw [e0]; rw [List.map_append] at h3; exact h3⟩) hS hN hv hd hcd hbase hfew hline hs hplain hsw
theorem iteT {b : Bool} {A B : Prop} (h1 : b = true → A) (h2 : b = false → B) : if b = true then A else B := by
  cases b with
  | true => rw [if_pos rfl]; exact h1 rfl
  | false => rw [if_neg Bool.false_ne_true]; exact h2 rfl
/-! ### parallel assignment of what may draw -/
section
variable {X : Cx} {S : List Sl} {D : VE} {rest : List Stmt} {S' : List Sl} {pos pt pt2 px py pz : Pos} {e1 e2 e3 : Expr} {p q r : PV} {x y z : Str} {kt k2 : Nat}
theorem bv_par2X (i j : Nat) (hN : X.N.Nodup) (h : XA X [e1, e2] S fun ps S1 => ∃ p q, ps = [p, q] ∧ NotOwn S1 i ∧ NotOwn S1 j ∧ BV X rest ((S1.set i (.pv p)).set j (.pv q)) D) (hi : X.N[i]? = some x := by rfl) (hj : X.N[j]? = some y := by rfl) (hij : i ≠ j := by decide)
    (hx : X.env.scope.names.lookup x = some .local := by rfl) (hy : X.env.scope.names.lookup y = some .local := by rfl) (hc : X.calm = true := by rfl)
    (hw : swappedStores [.Tuple [.Name x px, .Name y py] kt pt] (.Tuple [e1, e2] k2 pt2) X.env = pure (some [x, y]) := by rfl) (hs : swapsWithSole [.Tuple [.Name x px, .Name y py] kt pt] (.Tuple [e1, e2] k2 pt2) pos.line X.env = pure false := by rfl) :
    BV X (.Assign [.Tuple [.Name x px, .Name y py] kt pt] (.Tuple [e1, e2] k2 pt2) pos :: rest) S D := fun σ H re => by
  refine b_of (ps_par hc hN hi hj hij hx hy pa_W hw hs) (aw_mono (h σ H re) fun vs H1 ⟨ps, S1, ⟨p, q, e0, ni, nj, k⟩, r1, i1, x1⟩ => ?_)
  subst e0
  obtain ⟨v, t1, e3, pv, w, t2, e4, pw, e5⟩ := i1
  subst e3 e4
  cases (show t2 = [] from e5)
  refine ⟨v, w, rfl, ?_⟩
  have r3 := r1.setP ni pv
  have ea : adrs (S1.set i (.pv p)) = adrs S1 := adrs_pure ni rfl
  have nj2 : NotOwn (S1.set i (.pv p)) j := by
    unfold NotOwn at *
    rw [List.getElem?_set_ne hij]
    exact nj
  have r4 := r3.setP (p := q) (v := w) nj2 (by rw [show vis (S1.set i (.pv p)) H1 = vis S1 H1 from by show visL _ _ = visL _ _; rw [ea]]; exact pw)
  refine k.at r4 ?_
  rw [show vis ((S1.set i (.pv p)).set j (.pv q)) H1 = vis S1 H1 from by show visL _ _ = visL _ _; rw [adrs_pure nj2 rfl, ea]]
  exact x1
theorem bv_par3X (i j l : Nat) (hN : X.N.Nodup) (h : XA X [e1, e2, e3] S fun ps S1 => ∃ p q r, ps = [p, q, r] ∧ NotOwn S1 i ∧ NotOwn S1 j ∧ NotOwn S1 l ∧ BV X rest (((S1.set i (.pv p)).set j (.pv q)).set l (.pv r)) D) (hi : X.N[i]? = some x := by rfl) (hj : X.N[j]? = some y := by rfl) (hl : X.N[l]? = some z := by rfl) (hij : i ≠ j := by decide) (hil : i ≠ l := by decide) (hjl : j ≠ l := by decide)
    (hx : X.env.scope.names.lookup x = some .local := by rfl) (hy : X.env.scope.names.lookup y = some .local := by rfl) (hz : X.env.scope.names.lookup z = some .local := by rfl) (hc : X.calm = true := by rfl)
    (hw : swappedStores [.Tuple [.Name x px, .Name y py, .Name z pz] kt pt] (.Tuple [e1, e2, e3] k2 pt2) X.env = pure (some [x, y, z]) := by rfl) (hs : swapsWithSole [.Tuple [.Name x px, .Name y py, .Name z pz] kt pt] (.Tuple [e1, e2, e3] k2 pt2) pos.line X.env = pure false := by rfl) :
    BV X (.Assign [.Tuple [.Name x px, .Name y py, .Name z pz] kt pt] (.Tuple [e1, e2, e3] k2 pt2) pos :: rest) S D := fun σ H re => by
  refine b_of (ps_par3 hc hN hi hj hl hij hil hjl hx hy hz pa_W hw hs) (aw_mono (h σ H re) fun vs H1 ⟨ps, S1, ⟨p, q, r, e0, ni, nj, nl, k⟩, r1, i1, x1⟩ => ?_)
  subst e0
  obtain ⟨v, t1, e3, pv, w, t2, e4, pw, u, t3, e5, pu, e6⟩ := i1
  subst e3 e4 e5
  cases (show t3 = [] from e6)
  refine ⟨v, w, u, rfl, ?_⟩
  have r3 := r1.setP ni pv
  have ea : adrs (S1.set i (.pv p)) = adrs S1 := adrs_pure ni rfl
  have nj2 : NotOwn (S1.set i (.pv p)) j := by
    unfold NotOwn at *
    rw [List.getElem?_set_ne hij]
    exact nj
  have ea2 : adrs ((S1.set i (.pv p)).set j (.pv q)) = adrs S1 := by rw [adrs_pure nj2 rfl, ea]
  have nl2 : NotOwn ((S1.set i (.pv p)).set j (.pv q)) l := by
    unfold NotOwn at *
    rw [List.getElem?_set_ne hjl, List.getElem?_set_ne hil]
    exact nl
  have r4 := r3.setP (p := q) (v := w) nj2 (by rw [show vis (S1.set i (.pv p)) H1 = vis S1 H1 from by show visL _ _ = visL _ _; rw [ea]]; exact pw)
  have r5 := r4.setP (p := r) (v := u) nl2 (by rw [show vis ((S1.set i (.pv p)).set j (.pv q)) H1 = vis S1 H1 from by show visL _ _ = visL _ _; rw [ea2]]; exact pu)
  refine k.at r5 ?_
  rw [show vis (((S1.set i (.pv p)).set j (.pv q)).set l (.pv r)) H1 = vis S1 H1 from by show visL _ _ = visL _ _; rw [adrs_pure nl2 rfl, ea2]]
  exact x1
end
/-! ### draws -/
/-- a def that draws at most c times from the pen that it is handed first -/
structure Dr (P : Program) (w : World) (K : PySem.W.Frag) (mg : Str → Option Value) (base : Heap) (x : Str) (k c : Nat) (ps : List PV) (post : PV → Prop) : Prop where
  ok : ∀ n, n + c ≤ 4000 → FnO P w K mg base x k (.pen n) ps fun p u => u = .pen (n + c) ∧ post p
section
variable {X : Cx} {S : List Sl} {es : List Expr} {pos pp p1 : Pos} {Φ : Phi} {x y : Str} {n k c : Nat} {a : Addr}
theorem xw_draw (i : Nat) (gf : GlF X x) (hr : Room k X.A) (ha : XA X es S fun ps S1 => ∃ n post, S1[i]? = some (.own a (.pen n)) ∧ n + c ≤ 4000 ∧ Dr X.prog X.w X.K X.mg X.base x k c ps post ∧ ∀ p S2, S1.set i (.own a (.pen (n + c))) = S2 → post p → Φ p S2) (hS : S[i]? = some (.own a (.pen n)) := by rfl) (hN : X.N[i]? = some y := by rfl) (hv : Vis X.env.scope y := by first | exact Or.inl rfl | exact Or.inr (Or.inl rfl) | exact Or.inr (Or.inr rfl))
    (hd : (y == ("__debug__" : Str)) = false := by decide) (hcd : (y == ("__classdict__" : Str)) = false := by decide) (hg : Gl X x := by rfl) (hdb : (x == ("__debug__" : Str)) = false := by decide)
    (he : starEach (.Name y p1 :: es) X.env = (false, eval (.Name y p1) X.env) :: starEach es X.env := by rfl) (hpl : (backTo pos (starEach es X.env)).any (·.1) = false := by rfl) : XW X (.Call (.Name x pp) (.Name y p1 :: es) [] pos) S Φ :=
  xw_callO gf i hS hr (ha.imp fun ps S1 ⟨m, post, h1, h2, h3, h4⟩ => ⟨_, _, h1, h3.ok m h2, fun p v ⟨e, hp⟩ => by rw [e]; exact h4 p _ rfl hp⟩) hN hv hd hcd hg hdb he hpl
end
section
variable {P : Program} {w : World} {K : PySem.W.Frag} {mg : Str → Option Value} {base : Heap} {x q qual : Str} {params : Arguments} {body : List Stmt} {scope : Scope} {f : Addr} {fd : FuncData} {N pn : List Str} {k c : Nat}
/-- a def that draws -/
theorem mk_dr {ps : List PV} {post : PV → Prop} {st : Stmt} (F : G.FnP K q q st [] f fd) (hm : mg x = some (.ref f)) (Sc : FnScope N pn (defScope st)) (hl : ps.length + 1 = pn.length) (hN : ps.length + 1 ≤ N.length) (b : Binds K fd pn [])
    (h : ∀ n, n + c ≤ 4000 → ∀ a cdv A outer s H E, Room k (A.deeper (envOfC q (defScope st) s.heap.objs.size f cdv)) → BV (ctx P w K mg base N q (defScope st) f cdv A outer s H E) (defBody st) (ent N (.own a (.pen n) :: ps.map .pv)) { nx := fun S' => S'[0]? = some (.own a (.pen (n + c))) ∧ post .non, rt := fun q S' => S'[0]? = some (.own a (.pen (n + c))) ∧ post q }) :
    Dr P w K mg base x (k + 1) c ps post := ⟨fun n hn => ⟨f, fd, pn, [], [], by
      rw [List.append_nil]
      exact fn_os F Sc hl hN fun a cdv A outer s H E hr σ H' r => BW.imp (h n hn a cdv A outer s H E hr σ H' r) (fun _ _ ⟨S', ⟨z1, z2⟩, y⟩ => ⟨S', ⟨_, z1, rfl, rfl, z2⟩, y⟩) (fun _ _ ⟨p, S', σ', ⟨z1, z2⟩, y⟩ => ⟨p, S', σ', ⟨_, z1, rfl, rfl, z2⟩, y⟩) (fun _ _ ⟨_, z, _⟩ => z.elim) (fun _ _ ⟨_, z, _⟩ => z.elim), hm, F.kp, b, dv_nil⟩⟩
end
end E
set_option maxHeartbeats 4000000
/-! E20: the pen itself, the script, a law's def. -/
namespace E
open PySem PySem.Spec PyProof.Rows L2 Evl G He
theorem mulO_l {i j : Int} (h : i.natAbs < 2 ^ 64) : IntMulOk i j := IntMulOk.of_left (PyProof.Rows.intBits_le h)
section
variable {X : Cx} {ρ : Rho} {S : List Sl} {D : VE} {A : List Stmt} {a b e c : Expr} {pos pp p1 p2 : Pos} {p : PV} {Φ : Phi} {i j : Int} {n m : Nat} {x : Str} {d : Addr}
theorem ev_mulO (ha : EV X a ρ (.int i)) (hb : EV X b ρ (.int j)) (hc : i.natAbs < 2 ^ 64 := by omega) : EV X (.BinOp a .Mult b pos) ρ (.int (i * j)) := fun σ H l h => eg_mulO (mulO_l hc) (ha σ H l h) (hb σ H l h)
theorem bv_close (k : Nat) (M : Nat) {cs : List Int} {t r : Int} (hS : S[k]? = some (.own d (.lst [.lst (pints cs), .int t, .int r]))) (hc : cs.length ≤ 63) (h0 : 0 ≤ t) (h1 : t ≤ M) (h2 : 0 ≤ r) (kk : BV X A (S.set k (.own d (.pen M))) D) : BV X A S D := fun σ H re => by
  have e : S[k]? = some (.own d (penL cs t.toNat r.toNat)) := by rw [hS]; unfold penL; rw [Int.toNat_of_nonneg h0, Int.toNat_of_nonneg h2]
  obtain ⟨r2, ev⟩ := re.close_ (n := M) e hc (by omega)
  exact kk.at r2 (by rw [ev]; exact Ex.refl _)
theorem bv_setixS {rest : List Stmt} {xs0 : List PV} (k : Nat) (n : Nat) (he : XW X e S fun p S1 => ∃ xs1, S1[k]? = some (.own d (.lst xs1)) ∧ EV X b (view S1) (.int (n : Int)) ∧ n < xs1.length ∧ BV X rest (S1.set k (.own d (.lst (xs1.set n p)))) D) (hS : S[k]? = some (.own d (.lst xs0)) := by rfl) (hN : X.N[k]? = some x := by rfl) (hv : Vis X.env.scope x := by first | exact Or.inl rfl | exact Or.inr (Or.inl rfl) | exact Or.inr (Or.inr rfl))
    (hd : (x == ("__debug__" : Str)) = false := by decide) (hcd : (x == ("__classdict__" : Str)) = false := by decide) (hs : swapsWithSole [.Subscript (.Name x pp) b p1] e pos.line X.env = pure false := by rfl) (hw : swappedStores [.Subscript (.Name x pp) b p1] e X.env = pure none := by rfl)
    (h1 : (assignEach [.Subscript (.Name x pp) b p1] X.env).map (·.2) = [assign (.Subscript (.Name x pp) b p1) X.env] := by rfl)
    (hpa : ∀ v, assign (.Subscript (.Name x pp) b p1) X.env v = (do
      let ov ← holding [v] (eval (.Name x pp) X.env)
      let iv ← holding [v, ov] (eval b X.env)
      standAt p1
      holding [v, ov, iv] (setItem ov iv v)
      release [v, ov, iv] []) := by intro _; rfl) : BV X (.Assign [.Subscript (.Name x pp) b p1] e pos :: rest) S D := bv_setix k he hN hv hd hcd hs hw h1 hpa
theorem xw_more (k : Nat) (M : Nat) (h : XW X e S fun p S1 => ∃ m, S1[k]? = some (.own d (.pen m)) ∧ m ≤ M ∧ Φ p (S1.set k (.own d (.pen M)))) : XW X e S Φ := fun σ H r =>
  ew_mono (h σ H r) fun v H1 ⟨p, S1, ⟨m, h1, h2, h3⟩, r1, i1, e1⟩ => by
    obtain ⟨_, vs, g1, cs, t, t', g2, g3, g4⟩ := r1.own k d _ h1
    obtain ⟨r2, ev⟩ := r1.chg (u := .pen M) h1 rfl (fun _ _ => rfl) ⟨vs, g1, cs, t, t', g2, g3, Nat.le_trans g4 h2⟩
    exact ⟨p, _, h3, r2, by rw [ev]; exact i1, by rw [ev]; exact e1⟩
theorem atI_mod {α : Type} {cs : List α} {t : Nat} (h : 0 < cs.length) : ∃ y, y ∈ cs ∧ atI cs ((t : Int) % (cs.length : Int)) = some y := by
  have hi : t % cs.length < cs.length := Nat.mod_lt _ h
  refine ⟨cs[t % cs.length], List.getElem_mem _, ?_⟩
  rw [← Int.natCast_emod]
  exact atI_nat (List.getElem?_eq_getElem hi)
/-- an item that was drawn -/
theorem atI_in {α : Type} {cs : List α} {i : Int} (h0 : 0 ≤ i) (h1 : i < cs.length) : ∃ y, y ∈ cs ∧ atI cs i = some y := by
  have hi : i.toNat < cs.length := by omega
  refine ⟨cs[i.toNat], List.getElem_mem _, ?_⟩
  have := atI_nat (xs := cs) (j := i.toNat) (List.getElem?_eq_getElem hi)
  rwa [Int.toNat_of_nonneg h0] at this
end
theorem mix_lt {x t C D E : Int} (h1 : 0 ≤ x) (h2 : x < 2147483648) (h3 : 0 ≤ t) (h4 : t ≤ 4000) (h5 : 0 ≤ C) (h6 : C ≤ 100000) (h7 : 0 ≤ D) (h8 : D ≤ 1000000) (h9 : 0 ≤ E) (h10 : E ≤ 1000000) : (x * (2 * t + C) + D * t * t + E).natAbs < 2 ^ 64 := by
  have w1 : x * (2 * t + C) ≤ 2147483648 * 108000 := Int.mul_le_mul (by omega) (by omega) (by omega) (by decide)
  have w0 : 0 ≤ x * (2 * t + C) := Int.mul_nonneg h1 (by omega)
  have w2 : D * t ≤ 1000000 * 4000 := Int.mul_le_mul h8 h4 h3 (by decide)
  have w3 : 0 ≤ D * t := Int.mul_nonneg h7 h3
  have w4 : D * t * t ≤ 4000000000 * 4000 := Int.mul_le_mul w2 h4 h3 (by decide)
  have w5 : 0 ≤ D * t * t := Int.mul_nonneg w3 h3
  omega
theorem dt_lt {t D : Int} (h3 : 0 ≤ t) (h4 : t ≤ 4000) (h7 : 0 ≤ D) (h8 : D ≤ 1000000) : (D * t).natAbs < 2 ^ 64 := by
  have w2 : D * t ≤ 1000000 * 4000 := Int.mul_le_mul h8 h4 h3 (by decide)
  have w3 : 0 ≤ D * t := Int.mul_nonneg h7 h3
  omega
/-! ### the script -/
def SqW (K : PySem.W.Frag) (ns : List Int) : G.Rep := fun v H => ∃ a, v = .ref a ∧ SqL K H a (ns.map V.int)
instance {K : PySem.W.Frag} {ns : List Int} : Mono (SqW K ns) := ⟨fun e ⟨a, h1, h2⟩ => ⟨a, h1, h2.ext fun b o h => e b o h⟩⟩
section
variable {X : Cx} {σ : L2.St} {H : Hp} {a b : Expr} {pos : Pos}
theorem eg_cutS {ns : List Int} {k : Nat} {p2 : Pos} (ha : EG X a σ H (SqW X.K ns)) (hb : EG X b σ H (IsI (k : Int))) : EG X (.Subscript a (.Slice none (some b) none p2) pos) σ H (IsL IsI (ns.take k)) :=
  eg_of (pe_slice sl_list pe_W po_none (po_some pe_W)) fun H1 e1 Q q => ha H1 e1 _ fun v H2 e2 ⟨d, h1, h2⟩ => hb H2 (e1.trans e2) _ fun y H3 e3 py => by
    refine ⟨k, py, d, _, h1, h2.ext (fun b o h => e3 b o h), fun l hl => ?_⟩
    have cut : cutV (ns.map V.int) none (some (k : Int)) = (ns.take k).map V.int := by
      unfold cutV
      rw [HT.sIx_none, HT.sIx_nat, List.drop_zero, Nat.sub_zero, List.map_take, List.take_eq_take_iff, List.length_map]
      omega
    rw [cut]
    exact q _ _ ((e2.trans e3).trans (Ex.new hl)) ⟨l, _, rfl, upd_same, ints_all2⟩
end
/-- what makes the pen of a script: its first m numbers, and twice nothing -/
abbrev SpPen (K : PySem.W.Frag) (m : Nat) : Sp := PSp (fun ns : {ns : List Int // ns.length ≤ 63} => [SqW K ns.1]) fun ns => LstOf [IsL IsI (ns.1.take m), IsI 0, IsI 0]
def SpLaw (K : PySem.W.Frag) : Sp := fun vs H Q _ => ∃ (a : Addr) (ns : List Int), vs = [.ref a] ∧ ns.length ≤ 63 ∧ SqL K H a (ns.map V.int) ∧ ∀ H', Q (.bl true) H'
theorem rep_law {N : List Str} {σ : L2.St} {H : Hp} {p : Addr} {v : V} {ns : List Int} {m : Nat} (hl : 2 ≤ N.length) (hs : σ.length = N.length) (h1 : σ[1]? = some (some v)) (hm : m ≤ 63) (h : LstOf [IsL IsI (ns.take m), IsI 0, IsI 0] v H) : ∃ p, Rep (ent N [.no, .own p (.pen 0)]) σ H := by
  obtain ⟨p, xs, rfl, hp, y1, t1, rfl, ⟨c, ys, rfl, hcc, hci⟩, y2, t2, rfl, h2, y3, t3, rfl, h3, h4⟩ := h
  cases (show t3 = [] from h4)
  cases (show y2 = _ from h2)
  cases (show y3 = _ from h3)
  have eys := all2_ints hci
  subst eys
  have hne : c ≠ p := fun z => by
    rw [z, hp] at hcc
    cases e : ns.take m with
    | nil => rw [e] at hcc; cases hcc
    | cons n ns => rw [e] at hcc; cases hcc
  have ha : adrs (ent N [.no, .own p (.pen 0)]) = [p] := by rw [ent_adrs]; rfl
  have no : ∀ (i : Nat) (q : PV), (ent N [.no, .own p (.pen 0)])[i]? = some (Sl.pv q) → False := fun i q e => by
    match i with
    | 0 => cases e
    | 1 => cases e
    | i + 2 =>
      unfold ent at e
      rw [List.getElem?_append_right (by simp)] at e
      rw [List.getElem?_replicate] at e
      split at e <;> cases e
  refine ⟨p, ?_, ?_, fun i q e => (no i q (view_get e)).elim, fun i b o e => ?_⟩
  · rw [hs]; unfold ent; simp; omega
  · rw [ha]; exact .one hp rfl .nil
  · match i with
    | 0 => cases e
    | 1 =>
      cases e
      refine ⟨h1, _, hp, ns.take m, 0, 0, ?_, by rw [List.length_take]; omega, Nat.le_refl _⟩
      show PV.Iss _ _ (visL (adrs _) H)
      rw [ha, visL_cons, visL_nil]
      exact ⟨_, _, rfl, ⟨c, _, rfl, by rw [hid_ne hne]; exact hcc, vints_iss⟩, _, _, rfl, rfl, _, _, rfl, rfl, rfl⟩
    | i + 2 =>
      unfold ent at e
      rw [List.getElem?_append_right (by simp)] at e
      rw [List.getElem?_replicate] at e
      split at e <;> cases e
section
variable {P : Program} {w : World} {K : PySem.W.Frag} {mg : Str → Option Value} {base : Heap} {x qual : Str} {params : Arguments} {body rest : List Stmt} {scope : Scope} {dvs : List V} {kws : List (Str × V)} {f : Addr} {fd : FuncData} {N : List Str} {k : Nat} {sc : Str} {m : Nat}
/-- a law's def: the pen first, then the rest -/
theorem fn_law (F : FunD K x qual params body scope dvs kws f fd) (Sc : FnScope N [sc] scope) (hl : 2 ≤ N.length) (hm : m ≤ 63)
    (hs : ∀ cdv A outer s H E D v ns, Room k (A.deeper (envOfC qual scope s.heap.objs.size f cdv)) → ns.length ≤ 63 → SqW K ns v H → (∀ v1 H1, Ex H H1 → LstOf [IsL IsI (ns.take m), IsI 0, IsI 0] v1 H1 → BW (ctx P w K mg base N qual scope f cdv A outer s H E) rest D ((L2.start N [v]).set 1 (some v1)) H1) → BW (ctx P w K mg base N qual scope f cdv A outer s H E) body D (L2.start N [v]) H)
    (h : ∀ p cdv A outer s H E, Room k (A.deeper (envOfC qual scope s.heap.objs.size f cdv)) → BV (ctx P w K mg base N qual scope f cdv A outer s H E) rest (ent N [.no, .own p (.pen 0)]) { nx := fun _ => False, rt := fun q _ => q = .bl true }) : FnOk P w K mg base CX0 (k + 1) f fd [sc] (SpLaw K) :=
  fn_any F Sc (fun vs H Q E ⟨a, ns, h1, _⟩ => by rw [h1]; rfl) fun cdv A outer s H E vs Q hr ⟨a, ns, hvs, hz, hsq, hq⟩ => by
    subst hvs
    refine hs cdv A outer s H E _ _ ns hr hz ⟨a, rfl, hsq⟩ fun v1 H1 e1 h1 => ?_
    have sl : (L2.start N [V.ref a]).length = N.length := by unfold L2.start; simp; omega
    obtain ⟨p, r⟩ := rep_law (N := N) (σ := (L2.start N [V.ref a]).set 1 (some v1)) (p := 0) hl (by rw [List.length_set]; exact sl) (List.getElem?_set_self (by rw [sl]; omega)) hm h1
    exact BW.imp (h p cdv A outer s H E hr _ H1 r) (fun _ _ ⟨_, z, _⟩ => z.elim) (fun v H' ⟨q, S', σ', e, r', i', _⟩ => by
      rw [show q = _ from e] at i'
      rw [show v = V.bl true from i']
      exact hq H') (fun _ _ ⟨_, z, _⟩ => z.elim) (fun _ _ ⟨_, z, _⟩ => z.elim)
end
end E
set_option maxHeartbeats 4000000
/-! E21: calls with keywords. -/
namespace E
open PySem PySem.Spec PyProof.Rows L2 Evl G He
def KV (X : Cx) (kws : List Keyword) (ρ : Rho) (qs : List PV) : Prop := ∀ σ H, ρ.length = σ.length → Env ρ σ H → ∀ H1, Ex H H1 → ∀ Q : List V → Hp → Prop, (∀ vs H2, Ex H1 H2 → PV.Iss qs vs H2 → Q vs H2) → KW X kws σ H1 Q
section
variable {X : Cx} {ρ : Rho} {e : Expr} {es : List Expr} {kws : List Keyword} {pos pp kpos : Pos} {p : PV} {ps qs : List PV} {x : Str} {nm : Option Str} {k : Nat} {ks : List Str}
theorem kv_nil : KV X [] ρ [] := fun σ H _ _ H1 _ Q q => fun pos pins s I => pk_nil.run pos pins s σ H1 Q I (q [] H1 (Ex.refl _) rfl)
theorem kv_cons (h : EV X e ρ p) (hr : KV X kws ρ qs) : KV X (⟨nm, e, kpos⟩ :: kws) ρ (p :: qs) := fun σ H l g H1 e1 Q q => fun pos pins s I =>
  (pk_cons pe_W pk_W).run pos pins s σ H1 Q I (h σ H l g H1 e1 _ fun v H2 e2 pv => hr σ H l g H2 (e1.trans e2) _ fun vs H3 e3 pvs => q _ _ (e2.trans e3) ⟨v, vs, rfl, PV.Is.up e3 pv, pvs⟩)
end
/-- a def that is called with keywords ks behind the values ps -/
structure FnK (P : Program) (w : World) (K : PySem.W.Frag) (mg : Str → Option Value) (base : Heap) (x : Str) (k : Nat) (ks : List Str) (ps qs : List PV) (p : PV) : Prop where
  ex : ∃ f fd pn rs g gV, FnOk P w K mg base CX0 k f fd pn (VS rs p) ∧ mg x = some (.ref f) ∧ PySem.W.keepIn K (.ref f) = true ∧ KBinds K fd pn ks g gV ∧ ∀ vs zs H, PV.Iss ps vs H → PV.Iss qs zs H → PV.Iss rs (gV vs zs) H
section
variable {X : Cx} {ρ : Rho} {e : Expr} {es : List Expr} {kws : List Keyword} {pos pp kpos : Pos} {p : PV} {ps qs : List PV} {x : Str} {nm : Str} {k : Nat} {ks : List Str}
theorem ev_callkw (hr : Room k X.A) (ha : AV X (e :: es) ρ ps) (hkw : KV X kws ρ qs) (D : FnK X.prog X.w X.K X.mg X.base x k ks ps qs p) (hg : Gl X x := by rfl) (hdb : (x == ("__debug__" : Str)) = false := by decide)
    (hall : (backToKw pos (keywordEach kws X.env)).all (·.1.isSome) = true := by rfl) (hks : (backToKw pos (keywordEach kws X.env)).filterMap (·.1) = ks := by rfl) (he : starEach (e :: es) X.env = (false, eval e X.env) :: starEach es X.env := by rfl)
    (hpl : ((backTo pos (starEach (e :: es) X.env)).any (·.1) || (backToKw pos (keywordEach kws X.env)).any (·.1.isNone)) = false := by rfl) : EV X (.Call (.Name x pp) (e :: es) kws pos) ρ p := fun σ H l h => by
  obtain ⟨f, fd, pn, rs, g, gV, F, hm, hk, hb, hi⟩ := D.ex
  refine eg_of (pe_callK (E := E0) F hr hg hm hk hb pass0 pa_W pk_W hall hks hdb he hpl) fun H1 e1 Q q => ha σ H l h H1 e1 _ fun vs H2 e2 pv => ?_
  exact hkw σ H l h H2 (e1.trans e2) _ fun zs H3 e3 pz => ⟨hi _ _ _ (PV.Iss.up e3 (iss_args.mpr pv)) pz, fun v H4 e4 z => q v H4 ((e2.trans e3).trans e4) z⟩
end
/-- one by place, one by name -/
def k11 {α : Type} : List α → List α → List α
  | [u], [w] => [u, w]
  | _, _ => []
theorem iss_k11 {p q : PV} {vs zs : List V} {H : Hp} (h1 : PV.Iss [p] vs H) (h2 : PV.Iss [q] zs H) : PV.Iss [p, q] (k11 vs zs) H := by
  obtain ⟨v, r, rfl, h3, h4⟩ := h1
  obtain ⟨u, r2, rfl, h5, h6⟩ := h2
  cases (show r = [] from h4)
  cases (show r2 = [] from h6)
  exact ⟨v, _, rfl, h3, u, _, rfl, h5, rfl⟩
theorem k11_rel {vs : List V} {us : List Value} {zs : List V} {ws : List Value} (r : Vals vs us) (rz : Vals zs ws) : Vals (k11 vs zs) (k11 us ws) := by
  cases r with
  | nil => exact .nil
  | cons r1 r =>
    cases r with
    | cons _ _ => exact .nil
    | nil =>
      cases rz with
      | nil => exact .nil
      | cons s1 s =>
        cases s with
        | cons _ _ => exact .nil
        | nil => exact .cons r1 (.cons s1 .nil)
/-! ### name = [elt for ..], the elements told by a map into data -/
section
variable {X : Cx} {S : List Sl} {D : VE} {rest : List Stmt} {S' : List Sl} {pos spos pp py : Pos} {tg iter elt t : Expr} {y : Str} {α β : Type} {f : α → PV} {as : List α} {b : α → List (Nat × PV)} {own : List (Str × Nat)} {scope : Scope} {q : α → Bool}
theorem bv_asgLcM (j : Nat) (g : β → PV) {h : α → β} (pat : Pat) (hN : X.N.Nodup) (hi : IU X tg iter (view S) f as) (hz : as.length ≤ 1000000)
    (he : ∀ a ∈ as, ∀ s H0 C cl fp, EV (X.blk s H0 scope (compEnvC scope cl C X.env) fp) elt (view (setS (forgetS S pat.vars) (b a))) (g (h a)))
    (hg : ∀ (s : Shared) (H : Hp) (C : Addr) (cl : List (Str × Addr)) (fp : List Addr), PG (X.blk s H scope (compEnvC scope cl C X.env) fp) tg (gPat X.K pat))
    (k : BV X rest S' D) (hS : (forgetS S pat.vars).set j (.pv (.lst ((as.map h).map g))) = S' := by rfl) (hj : NotOwn S j := by rfl) (hbv : ∀ a ∈ as, (b a).map (·.1) = pat.vars := by exact fun _ _ => rfl)
    (hb : ∀ a ∈ as, pat.bind (f a) = some (b a) := by exact fun _ _ => rfl) (hn : ∀ v ∈ pat.vars, NotOwn S v := by decide)
    (hv : own.map (·.2) = pat.vars := by rfl) (ok : BlkOk X.N X.env.scope scope own := by exact blkOk_by (by rfl)) (hc : X.calm = true := by rfl) (hf : ∀ x, foldedSetIterable iter X.env x = pure x := by intro _; rfl)
    (hy : X.N[j]? = some y := by rfl) (hyl : X.env.scope.names.lookup y = some .local := by rfl) (hsw : swapsWith (.ListComp elt [⟨tg, iter, [], 0⟩] scope pos) (some (.Name y py)) spos.line X.env = pure true := by rfl) :
    BV X (.Assign [.Name y py] (.ListComp elt [⟨tg, iter, [], 0⟩] scope pos) spos :: rest) S D :=
  bv_asgLc j (gg := fun a => g (h a)) pat hN hi hz he hg k (by rw [← hS, List.map_map]; rfl) hj hbv hb hn hv ok hc hf hy hyl hsw
theorem bv_asgLcTM (j : Nat) (g : β → PV) {h : α → β} (pat : Pat) (hN : X.N.Nodup) (hi : IU X tg iter (view S) f as) (hz : as.length ≤ 1000000)
    (ht : ∀ a ∈ as, ∀ s H0 C cl fp, TV (X.blk s H0 scope (compEnvC scope cl C X.env) fp) t (view (setS (forgetS S pat.vars) (b a))) (q a))
    (he : ∀ a ∈ as, q a = true → ∀ s H0 C cl fp, EV (X.blk s H0 scope (compEnvC scope cl C X.env) fp) elt (view (setS (forgetS S pat.vars) (b a))) (g (h a)))
    (hg : ∀ (s : Shared) (H : Hp) (C : Addr) (cl : List (Str × Addr)) (fp : List Addr), PG (X.blk s H scope (compEnvC scope cl C X.env) fp) tg (gPat X.K pat))
    (k : BV X rest S' D) (hS : (forgetS S pat.vars).set j (.pv (.lst (((as.filter q).map h).map g))) = S' := by rfl) (hj : NotOwn S j := by rfl) (hbv : ∀ a ∈ as, (b a).map (·.1) = pat.vars := by exact fun _ _ => rfl)
    (hb : ∀ a ∈ as, pat.bind (f a) = some (b a) := by exact fun _ _ => rfl) (hn : ∀ v ∈ pat.vars, NotOwn S v := by decide)
    (hv : own.map (·.2) = pat.vars := by rfl) (ok : BlkOk X.N X.env.scope scope own := by exact blkOk_by (by rfl)) (hc : X.calm = true := by rfl) (hf : ∀ x, foldedSetIterable iter X.env x = pure x := by intro _; rfl)
    (hy : X.N[j]? = some y := by rfl) (hyl : X.env.scope.names.lookup y = some .local := by rfl) (hsw : swapsWith (.ListComp elt [⟨tg, iter, [t], 0⟩] scope pos) (some (.Name y py)) spos.line X.env = pure true := by rfl) :
    BV X (.Assign [.Name y py] (.ListComp elt [⟨tg, iter, [t], 0⟩] scope pos) spos :: rest) S D :=
  bv_asgLcT j (gg := fun a => g (h a)) pat hN hi hz ht he hg k (by rw [← hS, List.map_map]; rfl) hj hbv hb hn hv ok hc hf hy hyl hsw
end
end E
set_option maxHeartbeats 4000000
/-! E22: zip of three tuples. -/
namespace E
open PySem PySem.Spec PyProof.Rows L2 Evl G He
def ItzT3 (K : PySem.W.Frag) (a b c : Addr) : It :=
  ⟨fun i H => ∃ (xs ys zs : List V), SqT K H a xs ∧ SqT K H b ys ∧ SqT K H c zs ∧ i < xs.length ∧ i < ys.length ∧ i < zs.length,
    fun i H v H' => ∃ T x y z, v = .ref T ∧ H T = none ∧ H' = upd H T (.tup [x, y, z]) ∧ (∀ xs, SqT K H a xs → xs[i]? = some x) ∧ (∀ ys, SqT K H b ys → ys[i]? = some y) ∧ ∀ zs, SqT K H c zs → zs[i]? = some z,
    fun i H => ∃ xs ys zs : List V, SqT K H a xs ∧ SqT K H b ys ∧ SqT K H c zs ∧ i = min (min xs.length ys.length) zs.length⟩
def StZ3 (z TI TO i1 i2 i3 a b c : Addr) (i : Nat) (h : Heap) : Prop :=
  IsZip h z TI TO .none ∧ IsTupOf3 h TI (.ref i1) (.ref i2) (.ref i3) ∧ (∃ a1 a2 a3, IsTupOf3 h TO a1 a2 a3) ∧ h.IsTupleIter i1 a i ∧ h.IsTupleIter i2 b i ∧ h.IsTupleIter i3 c i
theorem Paired.get' {vs : List V} {us : List Value} (r : Vals vs us) {i : Nat} {u : Value} (h : us[i]? = some u) : ∃ v, vs[i]? = some v ∧ RelV v u := by
  have hl := r.length
  have h2 : i < us.length := (List.getElem?_eq_some_iff.mp h).1
  have hv : vs[i]? = some vs[i] := List.getElem?_eq_getElem (by omega)
  obtain ⟨w, hw, rw_⟩ := r.get hv
  rw [h] at hw
  cases hw
  exact ⟨_, hv, rw_⟩
theorem turn_zip3 {P : Program} {w : World} {K : PySem.W.Frag} {elts : List Expr} {kk : Nat} {tpos : Pos} {a b c z TI TO i1 i2 i3 : Addr} (D : ZipSep3 z TI TO i1 i2 i3 [i1, a] [i2, b] [i3, c]) (na : a ≠ i1) (nb : b ≠ i2) (nc : c ≠ i3) :
    Turn P w K (.Tuple elts kk tpos) (ItzT3 K a b c) [z, TI, TO, i1, i2, i3] z (StZ3 z TI TO i1 i2 i3 a b c) where
  mem := by simp
  obj := fun i h st d hd => by
    obtain ⟨hz, hTI, ⟨x, y, u, hTO⟩, ⟨o1, e1, _, d1⟩, ⟨o2, e2, _, d2⟩, ⟨o3, e3, _, d3⟩⟩ := st
    have e' : d = z ∨ d = TI ∨ d = TO ∨ d = i1 ∨ d = i2 ∨ d = i3 := by simpa using hd
    rcases e' with q | q | q | q | q | q
    · rw [q]; exact ⟨_, hz, fun v q => nomatch q⟩
    · rw [q]; exact ⟨_, hTI, fun v q => nomatch q⟩
    · rw [q]; exact ⟨_, hTO, fun v q => nomatch q⟩
    · rw [q]; exact ⟨o1, e1, fun v q => by rw [d1] at q; cases q⟩
    · rw [q]; exact ⟨o2, e2, fun v q => by rw [d2] at q; cases q⟩
    · rw [q]; exact ⟨o3, e3, fun v q => by rw [d3] at q; cases q⟩
  keep := fun i h h' st k => by
    obtain ⟨hz, hTI, ⟨x, y, u, hTO⟩, h1, h2, h3⟩ := st
    exact ⟨k z (by simp) _ hz, k TI (by simp) _ hTI, ⟨x, y, u, k TO (by simp) _ hTO⟩, h1.at fun o q => k i1 (by simp) o q, h2.at fun o q => k i2 (by simp) o q, h3.at fun o q => k i3 (by simp) o q⟩
  item := by
    intro X hP hw hK hc i pins s σ H E I hf st hg
    subst hP hw hK
    obtain ⟨xs, ys, zs, hqx, hqy, hqz, lx, ly, lz⟩ := hg
    obtain ⟨its, rv, p, _⟩ := I.tuple hqx
    obtain ⟨its2, rv2, p2, _⟩ := I.tuple hqy
    obtain ⟨its3, rv3, p3, _⟩ := I.tuple hqz
    have n1 := rv.length
    have n2 := rv2.length
    have n3 := rv3.length
    have hh : X.A.in1.handled = none := I.ok.hd hc
    have W := GoesN.zip3 (prog := X.prog) (w := X.w) (A := X.A) (elts := elts) (x1 := kk) (pos := tpos) D (Draws.tuple hh i1 a na its.toArray) (Draws.tuple hh i2 b nb its2.toArray) (Draws.tuple hh i3 c nc its3.toArray)
    obtain ⟨hz, hTI, hTO, h1, h2, h3⟩ := st
    have lt : ∀ d ∈ [z, TI, TO, i1, i2, i3], d < s.heap.objs.size := fun d hd => by
      obtain ⟨x, y, u, hTO⟩ := hTO
      have e' : d = z ∨ d = TI ∨ d = TO ∨ d = i1 ∨ d = i2 ∨ d = i3 := by simpa using hd
      rcases e' with q | q | q | q | q | q
      · rw [q]; exact Heap.lt_size hz
      · rw [q]; exact Heap.lt_size hTI
      · rw [q]; exact Heap.lt_size hTO
      · rw [q]; obtain ⟨_, e1, _⟩ := h1; exact Heap.lt_size e1
      · rw [q]; obtain ⟨_, e1, _⟩ := h2; exact Heap.lt_size e1
      · rw [q]; obtain ⟨_, e1, _⟩ := h3; exact Heap.lt_size e1
    refine W.goes i s _ E (by simp only [List.size_toArray]; omega) ⟨hz, hTI, hTO, ⟨h1, p⟩, ⟨h2, p2⟩, ⟨h3, p3⟩⟩ fun v h' tk Y st' hk htk => ?_
    obtain ⟨T, u, u2, u3, rfl, hT, hu, hu2, hu3, ht⟩ := Y
    obtain ⟨hz', hTI', hTO', ⟨h1', _⟩, ⟨h2', _⟩, ⟨h3', _⟩⟩ := st'
    obtain ⟨x, hx, ru⟩ := Paired.get' rv (i := i) (u := u) (by simpa using hu)
    obtain ⟨y, hy, ru2⟩ := Paired.get' rv2 (i := i) (u := u2) (by simpa using hu2)
    obtain ⟨w, hw, ru3⟩ := Paired.get' rv3 (i := i) (u := u3) (by simpa using hu3)
    have new : ObjOk X.prog X.w (upd H T (.tup [x, y, w])) h' T (.tup [x, y, w]) :=
      ⟨by show 3 ≤ sizeLine; decide, [u, u2, u3], .cons ru (.cons ru2 (.cons ru3 .nil)), ht⟩
    have I1 : Inv X pins σ (upd H T (.tup [x, y, w])) { s with heap := h', toks := tk } :=
      I.turnedNew (t' := tk) (ch := [z, TI, TO, i1, i2, i3]) (fun d o hb q => hk d o (fun m => hb (by
        have e' : d = z ∨ d = TO ∨ d = i1 ∨ d = i2 ∨ d = i3 := by simpa using m
        rcases e' with q | q | q | q | q <;> simp [q])) q) hf hT new
    refine ⟨.ref T, _, I1, rfl, ⟨T, x, y, w, rfl, I.hok.fresh hT, rfl, fun l hl => by rw [I.tuple_inj hl hqx]; exact hx, fun l hl => by rw [I.tuple_inj hl hqy]; exact hy, fun l hl => by rw [I.tuple_inj hl hqz]; exact hw⟩, ⟨hz', hTI', hTO', h1', h2', h3'⟩, fun d hd => ?_⟩
    rw [upd_ne (Nat.ne_of_lt (Nat.lt_of_lt_of_le (lt d hd) hT))]
    exact (hf d hd).1
  done := by
    intro X hP hw hK hc i pins s σ H E I hf st hg
    subst hP hw hK
    obtain ⟨xs, ys, zs, hqx, hqy, hqz, hi⟩ := hg
    obtain ⟨its, rv, p, _⟩ := I.tuple hqx
    obtain ⟨its2, rv2, p2, _⟩ := I.tuple hqy
    obtain ⟨its3, rv3, p3, _⟩ := I.tuple hqz
    have n1 := rv.length
    have n2 := rv2.length
    have n3 := rv3.length
    have hh : X.A.in1.handled = none := I.ok.hd hc
    have W := GoesN.zip3 (prog := X.prog) (w := X.w) (A := X.A) (elts := elts) (x1 := kk) (pos := tpos) D (Draws.tuple hh i1 a na its.toArray) (Draws.tuple hh i2 b nb its2.toArray) (Draws.tuple hh i3 c nc its3.toArray)
    obtain ⟨hz, hTI, hTO, h1, h2, h3⟩ := st
    have e : i = min (min its.toArray.size its2.toArray.size) its3.toArray.size := by simp only [List.size_toArray]; omega
    rw [e] at h1 h2 h3
    refine W.stops s _ E ⟨hz, hTI, hTO, ⟨h1, p⟩, ⟨h2, p2⟩, ⟨h3, p3⟩⟩ fun h' tk hk htk => ?_
    exact I.turnedL (t' := tk) (ch := [z, TI, TO, i1, i2, i3]) (fun d o hb q => hk d o (fun m => hb (by
        have e' : d = z ∨ d = TO ∨ d = i1 ∨ d = i2 ∨ d = i3 := by simpa using m
        rcases e' with q | q | q | q | q <;> simp [q])) q) hf
  self := fun A i s Q E st h => wpAny_pyIter_zip st.1 h
def iZip3 (K : PySem.W.Frag) (ta : TA) : TI := fun σ H R => ta σ H fun vs H1 => ∃ a b c xs ys zs, vs = [.ref a, .ref b, .ref c] ∧ SqT K H1 a xs ∧ SqT K H1 b ys ∧ SqT K H1 c zs ∧ R (ItzT3 K a b c) H1
theorem pi_zip3 {X : Cx} {e1 e2 e3 : Expr} {ta : TA} {p pos tpos : Pos} {elts : List Expr} {kk : Nat} (hg : Gl X "zip") (hm : X.mg "zip" = none) (ha : PA X [e1, e2, e3] ta)
    (hs : starEach [e1, e2, e3] X.env = (false, eval e1 X.env) :: starEach [e2, e3] X.env := by rfl) (hpl : (backTo pos (starEach [e2, e3] X.env)).any (·.1) = false := by rfl) :
    PI X (.Tuple elts kk tpos) (.Call (.Name "zip" p) [e1, e2, e3] [] pos) (iZip3 X.K ta) := by
  refine ⟨fun pins s σ H R I h => ?_⟩
  refine Call_ (ld_blt I hg hm PyProof.Rows.boot_zip (PyProof.Rows.callWith_type1 (thn (ha.run pos pins s σ H _ I h) fun us s1 ⟨vs, H1, I1, r1, q1⟩ => ?_) hs hpl))
  obtain ⟨a, b, c, xs, ys, zs, ex, hqx, hqy, hqz, q⟩ := q1
  subst ex
  cases r1 with
  | cons r rr =>
    cases rr with
    | cons r' rr =>
      cases rr with
      | cons r'' rr =>
        cases rr
        cases r
        cases r'
        cases r''
        obtain ⟨its, rv, p1, _⟩ := I1.tuple hqx
        obtain ⟨its2, rv2, p2, _⟩ := I1.tuple hqy
        obtain ⟨its3, rv3, p3, _⟩ := I1.tuple hqz
        obtain ⟨_, ho1, _⟩ := id p1
        obtain ⟨_, ho2, _⟩ := id p2
        obtain ⟨_, ho3, _⟩ := id p3
        have la := Heap.lt_size ho1
        have lb := Heap.lt_size ho2
        have lc := Heap.lt_size ho3
        refine zip_begins3 (begins_tuple a its.toArray) (begins_tuple b its2.toArray) (begins_tuple c its3.toArray) p1 p2 p3 fun h' hz hTI hTO g1 g2 g3 hsz hk => wpAny_pyIter_zip hz ?_
        have I2 : Inv X pins σ H1 { s1 with heap := h' } := I1.kept (t' := s1.toks) hk
        have D := zip_sep3 (N := s1.heap.objs.size) (fp1 := [a]) (fp2 := [b]) (fp3 := [c]) (fun d hd => by rw [List.mem_singleton.mp hd]; exact la) (fun d hd => by rw [List.mem_singleton.mp hd]; exact lb) (fun d hd => by rw [List.mem_singleton.mp hd]; exact lc)
        refine ⟨s1.heap.objs.size + 5, [s1.heap.objs.size + 5, s1.heap.objs.size + 3, s1.heap.objs.size + 4, s1.heap.objs.size, s1.heap.objs.size + 1, s1.heap.objs.size + 2], _, _, H1, rfl, I2,
          turn_zip3 D (Nat.ne_of_lt la) (Nat.ne_of_lt (Nat.lt_of_lt_of_le lb (Nat.le_add_right _ _))) (Nat.ne_of_lt (Nat.lt_of_lt_of_le lc (Nat.le_add_right _ _))), ⟨hz, hTI, ⟨_, _, _, hTO⟩, ⟨_, g1, rfl, rfl⟩, ⟨_, g2, rfl, rfl⟩, ⟨_, g3, rfl, rfl⟩⟩, fun d hd => ?_, q⟩
        have e' : d = s1.heap.objs.size + 5 ∨ d = s1.heap.objs.size + 3 ∨ d = s1.heap.objs.size + 4 ∨ d = s1.heap.objs.size ∨ d = s1.heap.objs.size + 1 ∨ d = s1.heap.objs.size + 2 := by simpa using hd
        have hle : s1.heap.objs.size ≤ d := by
          rcases e' with z | z | z | z | z | z
          · rw [z]; exact Nat.le_add_right _ _
          · rw [z]; exact Nat.le_add_right _ _
          · rw [z]; exact Nat.le_add_right _ _
          · rw [z]; exact Nat.le_refl _
          · rw [z]; exact Nat.le_add_right _ _
          · rw [z]; exact Nat.le_add_right _ _
        exact I1.fpOk hle (I1.hok.fresh hle)
section
variable {X : Cx} {ρ : Rho} {l l2 l3 : Expr} {elts : List Expr} {kk : Nat} {tpos pos pp : Pos} {α β γ : Type} {f : α → PV} {g : β → PV} {h : γ → PV} {as : List α} {bs : List β} {cs : List γ}
theorem iu_zip3 (hm : X.mg "zip" = none) (ha : EV X l ρ (.tup (as.map f))) (hb : EV X l2 ρ (.tup (bs.map g))) (hc : EV X l3 ρ (.tup (cs.map h))) (hg : Gl X "zip" := by rfl)
    (hs : starEach [l, l2, l3] X.env = (false, eval l X.env) :: starEach [l2, l3] X.env := by rfl) (hs2 : starEach [l2, l3] X.env = (false, eval l2 X.env) :: starEach [l3] X.env := by rfl) (hs3 : starEach [l3] X.env = (false, eval l3 X.env) :: starEach [] X.env := by rfl) (hpl : (backTo pos (starEach [l2, l3] X.env)).any (·.1) = false := by rfl) :
    IU X (.Tuple elts kk tpos) (.Call (.Name "zip" pp) [l, l2, l3] [] pos) ρ (pr3 f g h) (as.zip (bs.zip cs)) := fun L σ H hL hl en => by
  refine ⟨_, pi_zip3 hg hm pa_W hs hpl, fun H1 e1 Rr k => ?_⟩
  haveI m1 : Mono (fun v H' => (PV.tup (as.map f)).Is v (visL L H')) := ⟨fun e h => PV.Is.up (ex_visL e) h⟩
  haveI m2 : Mono (fun v H' => (PV.tup (bs.map g)).Is v (visL L H')) := ⟨fun e h => PV.Is.up (ex_visL e) h⟩
  haveI m3 : Mono (fun v H' => (PV.tup (cs.map h)).Is v (visL L H')) := ⟨fun e h => PV.Is.up (ex_visL e) h⟩
  refine (ag_cons (ev_lift ha hL hl en) (ag_cons (ev_lift hb hL hl en) (ag_cons (ev_lift hc hL hl en) ag_nil (hs := hs3)) (hs := hs2)) (hs := hs)) H1 e1 _ fun vs H2 e2 ⟨v, r, hv, ⟨a, xs, h1, h2, h3⟩, w, r2, hr, ⟨b, ys, h4, h5, h6⟩, w3, r3, hr2, ⟨c, zs, h7, h8, h9⟩, hr3⟩ => ?_
  refine ⟨a, b, c, xs, ys, zs, by rw [hv, hr, hr2, show r3 = [] from hr3, h1, h4, h7], SqT.of (ex_vis _ _ h2), SqT.of (ex_vis _ _ h5), SqT.of (ex_vis _ _ h8), ?_⟩
  have lx := iss_len' h3
  have ly := iss_len' h6
  have lz := iss_len' h9
  have w : Walk (ItzT3 X.K a b c) (as.zip (bs.zip cs)).length (fun H => SqT X.K H a xs ∧ SqT X.K H b ys ∧ SqT X.K H c zs) (fun i H v H' => ∃ T x y z, v = .ref T ∧ H T = none ∧ H' = upd H T (.tup [x, y, z]) ∧ xs[i]? = some x ∧ ys[i]? = some y ∧ zs[i]? = some z) := by
    rw [List.length_zip, List.length_zip, ← lx, ← ly, ← lz]
    refine ⟨fun i _ hi q => ?_, fun _ q => ⟨xs, ys, zs, q.1, q.2.1, q.2.2, by omega⟩, fun i H v H' _ q y => ?_⟩
    · exact ⟨xs, ys, zs, q.1, q.2.1, q.2.2, by omega, by omega, by omega⟩
    · obtain ⟨T, x, z, u, h1, h2, h3, h4, h5, h6⟩ := y
      exact ⟨T, x, z, u, h1, h2, h3, h4 xs q.1, h5 ys q.2.1, h6 zs q.2.2⟩
  refine k _ H2 _ _ e2 w ⟨fun H' e => ⟨SqT.of (e _ _ h2), SqT.of (e _ _ h5), SqT.of (e _ _ h8)⟩, fun M i Ha w Hb e hM ⟨T, x, y, z, hv, hT, hb, hx, hy, hz⟩ => ?_⟩
  obtain ⟨p, hp, rp⟩ := (iss_map.mp h3).get hx
  obtain ⟨q, hq, rq⟩ := (iss_map.mp h6).get hy
  obtain ⟨u, hu, ru⟩ := (iss_map.mp h9).get hz
  subst hb hv
  obtain ⟨z1, z2⟩ := vis_new (o := .tup [x, y, z]) hT hM
  refine ⟨Ex.new hT, (p, q, u), ?_, ?_⟩
  · rw [List.getElem?_zip_eq_some]
    refine ⟨hp, ?_⟩
    rw [List.getElem?_zip_eq_some]
    exact ⟨hq, hu⟩
  · rw [z1]
    exact tup_new z2 ⟨x, _, rfl, PV.Is.up e rp, y, _, rfl, PV.Is.up e rq, z, _, rfl, PV.Is.up e ru, rfl⟩
end
end E
set_option maxHeartbeats 4000000
/-! E23: calls with keywords alone, of defs and of methods. -/
namespace E
open PySem PySem.Spec PyProof.Rows L2 Evl G He
section
variable {X : Cx} {CX : CXT} {k : Nat} {f C : Addr} {fd : FuncData} {ps ks : List Str} {sp : Sp} {x m : Str} {g : List Value → List Value → List Value} {gV : List V → List V → List V} {E0' : XK} {kws : List Keyword} {tk : TA} {p pos apos : Pos} {o : Expr} {ta : TE}
theorem pe_callK0 (F : FnOk X.prog X.w X.K X.mg X.base CX k f fd ps sp) (hr : Room k X.A) (hg : Gl X x) (hm : X.mg x = some (.ref f)) (hk : PySem.W.keepIn X.K (.ref f) = true) (hb : KBinds X.K fd ps ks g gV) (hx : Passes CX X E0')
    (hkw : PK X kws tk) (hall : (backToKw pos (keywordEach kws X.env)).all (·.1.isSome) = true) (hks : (backToKw pos (keywordEach kws X.env)).filterMap (·.1) = ks)
    (hdb : (x == ("__debug__" : Str)) = false) (hpl : ((backTo pos (starEach [] X.env)).any (·.1) || (backToKw pos (keywordEach kws X.env)).any (·.1.isNone)) = false) :
    PE X (.Call (.Name x p) [] kws pos) (fun σ H Q => tk σ H fun zs H2 => sp (gV [] zs) H2 Q E0') := by
  refine ⟨fun pins s σ H Q I h => ?_⟩
  refine wpAny_Call_Name_kw (ld_glob I hg hm ?_ hdb)
  refine PySem.W.callWith_KW0 (h₀ := X.base) I.ok.mod.kin hk hall ?_ hpl
  refine thn (hkw.run pos pins s σ H _ I h) fun ws s2 ⟨zs, H2, I2, rz, q2⟩ => ⟨I2.kIn, ?_⟩
  rw [hks]
  exact run_fnk (us := []) (vs := []) F hr hb hx I2 .nil rz q2
theorem pe_methK0 {pl : Sem Bool} (he : PE X o ta) (c : Cls X.K C) (hm : Meth X.K C m f) (F : FnOk X.prog X.w X.K X.mg X.base CX k f fd ps sp) (hr : Room k X.A) (hb : KBinds X.K fd ps ks g gV) (hx : Passes CX X E0')
    (hkw : PK X kws tk) (hall : (backToKw pos (keywordEach kws X.env)).all (·.1.isSome) = true) (hks : (backToKw pos (keywordEach kws X.env)).filterMap (·.1) = ks)
    (hpl : ((backTo pos (starEach [] X.env)).any (·.1) || (backToKw pos (keywordEach kws X.env)).any (·.1.isNone)) = false)
    (ht : eval (.Call (.Attribute o m apos) [] kws pos) X.env = (do
      let ov ← eval o X.env
      standAt apos.atName
      let (f, first) ← holding [ov] (getMethod ov m pl)
      callWith pos f first (backTo pos (starEach [] X.env)) (backToKw pos (keywordEach kws X.env)))) :
    PE X (.Call (.Attribute o m apos) [] kws pos) (fun σ H Q => ta σ H fun x H1 => ∃ a dx fs, x = .ref a ∧ H1 a = some (.ins C dx fs) ∧ fs.lookup m = none ∧ tk σ H1 fun zs H2 => sp (gV [.ref a] zs) H2 Q E0') := by
  refine ⟨fun pins s σ H Q I h => ?_⟩
  refine PySem.W.methodCall_KW (pl := pl) (thn (he.run pins s σ H _ I h) fun u s1 ⟨x, H1, I1, rx, a, dx, fs, ex, ea, l, q⟩ => ?_) ht
  subst ex
  obtain rfl : u = Value.ref a := rx
  refine getmeth_ok I1 ea c hm l ?_
  refine PySem.W.callWith_KW0 (first := [.ref a]) (h₀ := X.base) I.ok.mod.kin hm.kp hall ?_ hpl
  refine thn (hkw.run pos pins s1 σ H1 _ I1 q) fun ws s2 ⟨zs, H2, I2, rz, q2⟩ => ⟨I2.kIn, ?_⟩
  rw [hks]
  exact run_fnk (us := [.ref a]) (vs := [.ref a]) F hr hb hx I2 (.cons rfl .nil) rz q2
end
structure MeK (P : Program) (w : World) (K : PySem.W.Frag) (mg : Str → Option Value) (base : Heap) (C : Addr) (m : Str) (k : Nat) (ks : List Str) (sv : PV) (qs : List PV) (p : PV) : Prop where
  ex : ∃ f fd pn rs g gV, FnOk P w K mg base CX0 k f fd pn (VS rs p) ∧ Meth K C m f ∧ KBinds K fd pn ks g gV ∧ ∀ v zs H, sv.Is v H → PV.Iss qs zs H → PV.Iss rs (gV [v] zs) H
section
variable {X : Cx} {ρ : Rho} {o : Expr} {kws : List Keyword} {pos pp apos : Pos} {p : PV} {qs : List PV} {x m : Str} {k : Nat} {ks fsn : List Str} {C : Addr} {fs : List PV}
theorem ev_callkw0 (hr : Room k X.A) (hkw : KV X kws ρ qs) (D : FnK X.prog X.w X.K X.mg X.base x k ks [] qs p) (hg : Gl X x := by rfl) (hdb : (x == ("__debug__" : Str)) = false := by decide)
    (hall : (backToKw pos (keywordEach kws X.env)).all (·.1.isSome) = true := by rfl) (hks : (backToKw pos (keywordEach kws X.env)).filterMap (·.1) = ks := by rfl)
    (hpl : ((backTo pos (starEach [] X.env)).any (·.1) || (backToKw pos (keywordEach kws X.env)).any (·.1.isNone)) = false := by rfl) : EV X (.Call (.Name x pp) [] kws pos) ρ p := fun σ H l h => by
  obtain ⟨f, fd, pn, rs, g, gV, F, hm, hk, hb, hi⟩ := D.ex
  refine eg_of (pe_callK0 (E0' := E0) F hr hg hm hk hb pass0 pk_W hall hks hdb hpl) fun H1 e1 Q q => ?_
  exact hkw σ H l h H1 e1 _ fun zs H3 e3 pz => ⟨hi _ _ _ rfl pz, fun v H4 e4 z => q v H4 (e3.trans e4) z⟩
theorem ev_methkw {pl : Sem Bool} (c : Cls X.K C) (hr : Room k X.A) (ho : EV X o ρ (.ins C fsn fs)) (hkw : KV X kws ρ qs) (D : MeK X.prog X.w X.K X.mg X.base C m k ks (.ins C fsn fs) qs p) (hn : m ∉ fsn := by decide +kernel)
    (hall : (backToKw pos (keywordEach kws X.env)).all (·.1.isSome) = true := by rfl) (hks : (backToKw pos (keywordEach kws X.env)).filterMap (·.1) = ks := by rfl)
    (hpl : ((backTo pos (starEach [] X.env)).any (·.1) || (backToKw pos (keywordEach kws X.env)).any (·.1.isNone)) = false := by rfl)
    (ht : eval (.Call (.Attribute o m apos) [] kws pos) X.env = (do
      let ov ← eval o X.env
      standAt apos.atName
      let (f, first) ← holding [ov] (getMethod ov m pl)
      callWith pos f first (backTo pos (starEach [] X.env)) (backToKw pos (keywordEach kws X.env))) := by rfl) : EV X (.Call (.Attribute o m apos) [] kws pos) ρ p := fun σ H l h => by
  obtain ⟨f, fd, pn, rs, g, gV, F, hm, hb, hi⟩ := D.ex
  refine eg_of (pe_methK0 (E0' := E0) pe_W c hm F hr hb pass0 pk_W hall hks hpl ht) fun H1 e1 Q q => ho σ H l h H1 e1 _ fun v H2 e2 hv => ?_
  obtain ⟨aa, dx, ws, e3, e4, e5, e6⟩ := id hv
  subst e3
  refine ⟨aa, dx, _, rfl, e4, lookF_no hn, hkw σ H l h H2 (e1.trans e2) _ fun zs H3 e7 pz => ?_⟩
  exact ⟨hi _ _ _ (hv.up e7) pz, fun u H4 e8 z => q u H4 ((e2.trans e7).trans e8) z⟩
end
/-! ### how names bind -/
def k01 {α : Type} : List α → List α → List α
  | [], [u] => [u]
  | _, _ => []
def k02r {α : Type} : List α → List α → List α
  | [], [u, w] => [w, u]
  | _, _ => []
theorem k01_rel {vs : List V} {us : List Value} {zs : List V} {ws : List Value} (r : Vals vs us) (rz : Vals zs ws) : Vals (k01 vs zs) (k01 us ws) := by
  cases r with
  | cons _ _ => exact .nil
  | nil =>
    cases rz with
    | nil => exact .nil
    | cons s1 s =>
      cases s with
      | nil => exact .cons s1 .nil
      | cons _ _ => exact .nil
theorem k02r_rel {vs : List V} {us : List Value} {zs : List V} {ws : List Value} (r : Vals vs us) (rz : Vals zs ws) : Vals (k02r vs zs) (k02r us ws) := by
  cases r with
  | cons _ _ => exact .nil
  | nil =>
    cases rz with
    | nil => exact .nil
    | cons s1 s =>
      cases s with
      | nil => exact .nil
      | cons s2 s =>
        cases s with
        | nil => exact .cons s2 (.cons s1 .nil)
        | cons _ _ => exact .nil
theorem iss_k01 {p : PV} {vs zs : List V} {H : Hp} (h1 : PV.Iss [] vs H) (h2 : PV.Iss [p] zs H) : PV.Iss [p] (k01 vs zs) H := by
  obtain ⟨u, r2, rfl, h5, h6⟩ := h2
  cases (show r2 = [] from h6)
  cases (show vs = [] from h1)
  exact ⟨u, _, rfl, h5, rfl⟩
theorem iss_k02r {p q : PV} {vs zs : List V} {H : Hp} (h1 : PV.Iss [] vs H) (h2 : PV.Iss [q, p] zs H) : PV.Iss [p, q] (k02r vs zs) H := by
  obtain ⟨u, r2, rfl, h5, w, r3, rfl, h6, h7⟩ := h2
  cases (show r3 = [] from h7)
  cases (show vs = [] from h1)
  exact ⟨w, _, rfl, h6, u, _, rfl, h5, rfl⟩
theorem iss_k11m {p q : PV} {v : V} {zs : List V} {H : Hp} (h1 : p.Is v H) (h2 : PV.Iss [q] zs H) : PV.Iss [p, q] (k11 [v] zs) H := iss_k11 ⟨v, _, rfl, h1, rfl⟩ h2
end E
set_option maxHeartbeats 4000000
/-! E24: x in a list whose items answer == themselves. -/
namespace E16
open PySem PySem.SeqAt
open AutoSeq1 (wpAny_loadPart')
open MeetsSeq MeetsSeq2 MeetsSeq3 SeqRoads2
def anyB (N : Nat) (c : Nat → Bool) : Bool := (List.range N).any c
theorem anyB_true {N i : Nat} {c : Nat → Bool} (h : i < N) (hc : c i = true) : anyB N c = true := List.any_eq_true.mpr ⟨i, List.mem_range.mpr h, hc⟩
theorem anyB_false {N : Nat} {c : Nat → Bool} (h : ∀ j, j < N → c j = false) : anyB N c = false := List.any_eq_false.mpr fun j hj => by simp [h j (List.mem_range.mp hj)]
section
variable {prog : Program} {w : World} {A : Around} {R : Result → Shared → Prop}
def Seeks (prog : Program) (w : World) (A : Around) (E : Value → Shared → Prop) (p : Addr) (x : Value) (N : Nat) (c : Nat → Bool) (J : Nat → Shared → Prop) : Prop := ∀ i s, J i s → ∃ (us : Array Value) (a1 : Nat),
  s.heap.get? p = some { cls := .type "list", data := .seq us a1 } ∧ us.size = N ∧ ∀ (l1 : i < us.size), wpAny (model prog w) A.in1 (eqBool us[i] x) (fun r s' => r = c i ∧ J (i + 1) s') E s
theorem loop_has (p : Addr) (x : Value) (N : Nat) (c : Nat → Bool) (J : Nat → Shared → Prop) (hT : Seeks prog w A (fun e s' => R (.error e) s') p x N c J)
    (out : ∀ i s, J i s → R (.ok (.ret (.bool (anyB N c)))) s) (m : Nat) : ∀ i : Nat, N - i = m → i ≤ N → (∀ j, j < i → c j = false) → ∀ s, J i s →
      wpAny (model prog w) A.in1 (Builtin.«list.__contains__.loop» ⟨[.ref p, x, rawInt i], []⟩) (GQ.FinOf prog w A R) (fun e s' => R (.error e) s') s := by
  induction m with
  | zero =>
    intro i hm hle hpre s hJ
    obtain ⟨us, a1, g1, z1, _⟩ := hT i s hJ
    have nothing_ : anyB N c = false := anyB_false fun j hj => hpre j (by omega)
    have fin := out i s hJ
    rw [nothing_] at fin
    obtain ⟨h0, h1, h2, h3, h4⟩ := s
    wp_walk using wpAny_loadPart' g1
    rw [show us[((i : Nat) : Int).toNat]? = none from by simp; omega]
    wp_walk
    exact fin
  | succ m ih =>
    intro i hm hle hpre s hJ
    obtain ⟨us, a1, g1, z1, tn⟩ := hT i s hJ
    have l1 : i < us.size := by omega
    have now := tn l1
    obtain ⟨h0, h1, h2, h3, h4⟩ := s
    wp_walk using wpAny_loadPart' g1
    rw [show us[((i : Nat) : Int).toNat]? = some us[i] from by simp [l1]]
    refine wpAny_bind (wpAny_mono now (fun r t ⟨er, ht⟩ => ?_) fun _ _ x => x)
    subst er
    cases hc : c i with
    | false =>
      have again := ih (i + 1) (by omega) (by omega) (fun j hj => by
        rcases Nat.lt_or_ge j i with y | y
        · exact hpre j y
        · rw [show j = i from by omega]; exact hc) t ht
      obtain ⟨k0, k1, k2, k3, k4⟩ := t
      wp_walk
      rw [show ((i : Int) + 1) = ((i + 1 : Nat) : Int) from by omega]
      exact ⟨plainId_quiet plain_contains_loop _, codeAny_builtin entry_contains_loop (by rw [Around.under_plainId plain_contains_loop _]; exact again)⟩
    | true =>
      have some_ : anyB N c = true := anyB_true (by omega : i < N) hc
      have fin := out _ t ht
      rw [some_] at fin
      obtain ⟨k0, k1, k2, k3, k4⟩ := t
      wp_walk
      exact fin
theorem list_has (p : Addr) (x : Value) (N : Nat) (c : Nat → Bool) (J : Nat → Shared → Prop) (hT : Seeks prog w A (fun e s' => R (.error e) s') p x N c J)
    (out : ∀ i s, J i s → R (.ok (.ret (.bool (anyB N c)))) s) {s : Shared} (hJ : J 0 s) : wpAny (model prog w) A.in1 (Builtin.«list.__contains__» ⟨[.ref p, x], []⟩) (GQ.FinOf prog w A R) (fun e s' => R (.error e) s') s := by
  obtain ⟨us, a1, g1, z1, _⟩ := hT 0 s hJ
  have all := loop_has (A := A) (R := R) p x N c J hT out _ 0 rfl (Nat.zero_le _) (fun j hj => absurd hj (by omega)) s hJ
  obtain ⟨h0, h1, h2, h3, h4⟩ := s
  wp_walk using wpAny_loadPart' g1
  exact ⟨plainId_quiet plain_contains_loop _, codeAny_builtin entry_contains_loop (by rw [Around.under_plainId plain_contains_loop _]; exact all)⟩
theorem in_list_own {A : Around} {E : Value → Shared → Prop} {s : Shared} {p : Addr} {x : Value} {N : Nat} {c : Nat → Bool} {Q : Value → Shared → Prop} (J : Nat → Shared → Prop) (hT : Seeks prog w A E p x N c J)
    (out : ∀ i s, J i s → Q (.bool (anyB N c)) s) (hJ : J 0 s) : wpAny (model prog w) A (compareOp .In x (.ref p)) Q E s := by
  obtain ⟨us, a1, g1, _, _⟩ := hT 0 s hJ
  show wpAny _ A (do return .bool (← contains (.ref p) x)) Q E s
  refine wpAny_bind (wpAny_contains_slot ⟨_, g1, rfl⟩ F.slot_list_contains (wpAny_mono (Q := fun v s' => ∃ b, v = .bool b ∧ Q (.bool b) s') (GQ.call_here F.slot_list_contains ⟨_, g1, rfl⟩ F.entry_list_contains (F.args_list_contains_2 _ _) ?_) (fun v s' hv => ?_) fun _ _ e => e))
  · exact list_has (R := wants (fun v s' => ∃ b, v = .bool b ∧ Q (.bool b) s') E) p x N c J hT (fun i t h => ⟨_, rfl, out i t h⟩) hJ
  · obtain ⟨b, rfl, hq⟩ := hv
    exact wpAny_truthy_bool (wpAny_pure hq)
end
end E16
namespace E
open PySem PySem.Spec PyProof.Rows L2 Evl G He
section
variable {X : Cx} {ρ : Rho} {n : Nat} {p q : PV} {b : Bool} {a e : Expr} {ps : List PV} {c : Nat → Bool}
/-- an instance beside None -/
theorem eqP_insN {C : Addr} {ks : List Str} {ps : List PV} (hn : PySem.W.notFirst X.K C (.type "NoneType") = true) (D : Op X.prog X.w X.K X.mg X.base C "__eq__" n [.ins C ks ps, .non] (.bl b)) : EqP X n (.ins C ks ps) .non b := by
  intro A pins s σ H x y u v sb I rx ry px py
  obtain ⟨a1, dx, vs, e1, h1, _⟩ := id px
  have e2 : y = .non := py
  subst e1 e2
  cases rx
  cases ry
  obtain ⟨f, fd, pn, F, hs, hf, hb⟩ := D.ex.ex
  obtain ⟨mA, J, _⟩ := ins_get I.hok h1
  obtain ⟨od, J, _⟩ := J.look
  obtain ⟨m, hF⟩ := I.fr
  unfold eqBool
  refine wpAny_holding ?_
  refine wpAny_ite_split (fun hab => absurd (eq_of_beq hab) nofun) (fun _ => ?_)
  refine wpAny_bind (PySem.W.cmp_K (op := .Eq) (tb := .type "NoneType") sb.room.units0 hF I.ok.mod.kin J (PySem.W.Looks.of_pure rfl) hn hs hf ?_)
  refine thn (call_own (vs := [.ref a1, .non]) (us := [.ref a1, .none]) (Q := fun v H' => v = .bl b ∧ Ex H H') F hb sb I (.cons rfl (.cons rfl .nil)) ⟨⟨_, _, rfl, px, _, _, rfl, py, rfl⟩, fun v H' e hv => ⟨hv, e⟩⟩) fun w s1 ⟨z, H1, I1, r1, ez, ex⟩ => ?_
  subst ez
  cases (show w = _ from r1)
  exact wpAny_truthy_bool ⟨rfl, H1, I1, ex⟩
theorem eqP_non : EqP X 0 .non .non true := eqP_flat (x := .non) (y := .non) rfl rfl rfl
theorem cv_inL (h : ∀ i r, ps[i]? = some r → EqP X n r q (c i)) (hr : Room (n + 1) X.A) (ha : EV X a ρ q) (hb : EV X e ρ (.lst ps)) : CV X .In a e ρ (E16.anyB ps.length c) := fun σ H l g =>
  cg_of (P1 := q.Is) (P2 := (PV.lst ps).Is) (r := fun x y H Q => q.Is x H ∧ (PV.lst ps).Is y H ∧ ∀ H', Ex H H' → Q (.bl (E16.anyB ps.length c)) H') (fun pins s σ H x y v u Q I rx ry ⟨px, py, k⟩ => by
    obtain ⟨d, xs, e1, h1, i1⟩ := py
    subst e1
    cases ry
    have sb : Sub X (n + 1) X.A := ⟨hr, rfl⟩
    show wpAny (model X.prog X.w) X.A (compareOp .In v (.ref d)) (EP X pins σ Q) X.xe s
    refine E16.in_list_own (N := ps.length) (c := c) (fun _ t => KeepI X pins σ H t) (fun i t q => ?_) (fun i t ⟨H1, I1, e1⟩ => ⟨.bl _, H1, I1, rfl, k H1 e1⟩) ⟨H, I, Ex.refl H⟩
    obtain ⟨H1, I1, e1⟩ := q
    obtain ⟨z, its, m, rv, e⟩ := I1.hok d _ (e1 _ _ h1)
    refine ⟨its.toArray, m, e, by rw [List.size_toArray, ← rv.length, iss_len i1], fun l1 => ?_⟩
    have k1 : i < xs.length := by rw [rv.length]; simpa using l1
    have k3 : i < ps.length := by rw [← iss_len i1]; exact k1
    obtain ⟨y, hy, iy⟩ := iss_get i1 (List.getElem?_eq_getElem k3)
    obtain ⟨u, hu, ru⟩ := rv.get hy
    have z1 : its.toArray[i] = u := by
      have : its[i]? = some its.toArray[i] := by rw [List.getElem?_eq_getElem (by simpa using l1)]; simp
      rw [hu] at this
      exact (Option.some.inj this).symm
    rw [z1]
    exact wpAny_mono (h i _ (List.getElem?_eq_getElem k3) X.A.in1 pins t σ H1 y x u v sb.in1 I1 ru rx (PV.Is.up e1 iy) (PV.Is.up e1 px)) (fun r s2 ⟨er, H2, I2, e2⟩ => ⟨er, H2, I2, e1.trans e2⟩) fun _ _ x => x) (ha σ H l g) (hb σ H l g) fun x y H1 _ px py Q q => ⟨px, py, fun H' e => q H' e⟩
end
end E
namespace E
open PySem PySem.Spec PyProof.Rows L2 Evl G He
theorem cv_in2 {X : Cx} {ρ : Rho} {n : Nat} {p1 p2 q : PV} {b1 b2 : Bool} {a e : Expr} (hr : Room (n + 1) X.A) (ha : EV X a ρ q) (hb : EV X e ρ (.lst [p1, p2])) (h1 : EqP X n p1 q b1) (h2 : EqP X n p2 q b2) : CV X .In a e ρ (b1 || b2) := by
  have k := cv_inL (ps := [p1, p2]) (c := fun i => if i = 0 then b1 else b2) (fun i r hi => by
    match i with
    | 0 => cases hi; exact h1
    | 1 => cases hi; exact h2
    | i + 2 => cases hi) hr ha hb
  rwa [show E16.anyB [p1, p2].length (fun i => if i = 0 then b1 else b2) = (b1 || b2) from by cases b1 <;> cases b2 <;> rfl] at k
end E
set_option maxHeartbeats 4000000
/-! E25: own operators and fields of what may draw; own lists read, given away, made beside another value. -/
namespace E
open PySem PySem.Spec PyProof.Rows L2 Evl G He
section
variable {X : Cx} {S : List Sl} {D : VE} {A rest : List Stmt} {S' : List Sl} {pos pp pt pt2 p1 px py : Pos} {e a b : Expr} {es : List Expr} {p q : PV} {ps : List PV} {Φ : Phi} {x y m : Str} {k kt k2 : Nat} {C : Addr}
def rOwnS (X : Cx) (C : Addr) (nm : Str) (Φ : Phi) : R2 := fun x y H Q => ∃ (S2 : List Sl) (σ2 : L2.St) (ks kt : List Str) (ps qs : List PV) (r : PV) (k : Nat), Room k X.A ∧ Op X.prog X.w X.K X.mg X.base C nm k [.ins C ks ps, .ins C kt qs] r ∧ Rep S2 σ2 H ∧
  (PV.ins C ks ps).Is x (vis S2 H) ∧ (PV.ins C kt qs).Is y (vis S2 H) ∧ ∀ v H', Rep S2 σ2 H' → Ex (vis S2 H) (vis S2 H') → r.Is v (vis S2 H') → Q v H'
theorem opr_ownS {op : Operator} (hc : PySem.W.selfFirst X.K C = true) : OpR X (binaryOp op) (rOwnS X C (PySem.dunder op.info.2) Φ) := by
  intro pins s σ H x y v u Q I rx ry ⟨S2, σ2, ks, kt, ps, qs, r, k, hr, D, re, i1, i2, kk⟩
  obtain ⟨obs, J, back⟩ := inv_hideL re.hd I
  obtain ⟨a1, d1, v1, e1, h1, _⟩ := id i1
  obtain ⟨a2, d2, v2, e2, h2, _⟩ := id i2
  refine thn (op_own hc D.ex hr (obs ++ pins) s σ (vis S2 H) x y v u (fun v H2 => Ex (vis S2 H) H2 ∧ r.Is v H2) J rx ry ⟨a1, a2, d1, d2, _, _, e1, e2, h1, h2, ⟨x, _, rfl, i1, y, _, rfl, i2, rfl⟩, fun v H' e pv => ⟨e, pv⟩⟩) fun u s2 ⟨v, H2, J2, r2, e3, pv⟩ => ?_
  obtain ⟨n2, I2⟩ := back _ _ _ J2
  have ev : vis S2 (fillL (adrs S2) H H2) = H2 := vis_fill n2
  exact ⟨v, _, I2, r2, kk v _ (re.up (ex_fill e3)) (by rw [ev]; exact e3) (by rw [ev]; exact pv)⟩
/-- a + b of own instances, where a or b is read of own objects, or draws -/
theorem xw_opV {op : Operator} (hc : PySem.W.selfFirst X.K C = true) (ha : XW X a S fun p S1 => ∃ ks ps, p = .ins C ks ps ∧ XW X b S1 fun q S2 => ∃ kt qs r k, q = .ins C kt qs ∧ Room k X.A ∧ Op X.prog X.w X.K X.mg X.base C (PySem.dunder op.info.2) k [.ins C ks ps, .ins C kt qs] r ∧ Φ r S2) : XW X (.BinOp a op b pos) S Φ := fun σ H re pins s I =>
  (pe_op (opr_ownS (Φ := Φ) hc) pe_W pe_W).run pins s σ H _ I (ew_mono (ha σ H re) fun v H1 ⟨p, S1, ⟨ks, ps, e0, h1⟩, r1, i1, x1⟩ => ew_mono (h1 σ H1 r1) fun w H2 ⟨q, S2, ⟨kt, qs, r, k, e2, hr, D, h2⟩, r2, i2, x2⟩ => by
    subst e0 e2
    exact ⟨S2, σ, ks, kt, ps, qs, r, k, hr, D, r2, i1.up x2, i2, fun v H' r3 x3 i3 => ⟨_, S2, h2, r3, i3, (x1.trans x2).trans x3⟩⟩)
/-- an own list is told as data from now on -/
theorem bv_give (i : Nat) {d : Addr} {xs : List PV} (hS : S[i]? = some (.own d (.lst xs))) (kk : BV X A (S.set i (.pv (.lst xs))) D) : BV X A S D := fun σ H r =>
  kk.at (r.freeze hS rfl) (fun c o h => by
    unfold vis visL at *
    by_cases z : c ∈ adrs S
    · rw [if_pos z] at h; cases h
    · rw [if_neg z] at h
      rw [if_neg fun z2 => z (sub_drop rfl c z2)]
      exact h)
/-- x, y = [], e -/
theorem bv_par2N (i j : Nat) {pl : Pos} (hN : X.N.Nodup) (h : XW X e S fun q S1 => NotOwn S1 i ∧ NotOwn S1 j ∧ i < S1.length ∧ ∀ d, BV X rest ((S1.set i (.own d (.lst []))).set j (.pv q)) D) (hi : X.N[i]? = some x := by rfl) (hj : X.N[j]? = some y := by rfl) (hij : i ≠ j := by decide)
    (hx : X.env.scope.names.lookup x = some .local := by rfl) (hy : X.env.scope.names.lookup y = some .local := by rfl) (hc : X.calm = true := by rfl)
    (hst : starEach [.List [] pl, e] X.env = (false, eval (.List [] pl) X.env) :: starEach [e] X.env := by rfl) (hst2 : starEach [e] X.env = (false, eval e X.env) :: starEach [] X.env := by rfl)
    (hw : swappedStores [.Tuple [.Name x px, .Name y py] kt pt] (.Tuple [.List [] pl, e] k2 pt2) X.env = pure (some [x, y]) := by rfl) (hs : swapsWithSole [.Tuple [.Name x px, .Name y py] kt pt] (.Tuple [.List [] pl, e] k2 pt2) pos.line X.env = pure false := by rfl) :
    BV X (.Assign [.Tuple [.Name x px, .Name y py] kt pt] (.Tuple [.List [] pl, e] k2 pt2) pos :: rest) S D := fun σ H re => by
  refine b_of (ps_par hc hN hi hj hij hx hy (pa_cons (pe_lst pa_nil) (pa_cons pe_W pa_nil hst2) hst) hw hs) ?_
  refine ⟨sz_of (Nat.zero_le _), fun d hd => ?_⟩
  have e1 : Ex H (upd H d (.lst [])) := Ex.new hd
  have hid_ : Hideable [d] (upd H d (.lst [])) := .one upd_same rfl .nil
  have hv : visL [d] (upd H d (.lst [])) = H := by
    funext c
    unfold visL
    by_cases z : c = d
    · subst z; rw [if_pos (by simp), hd]
    · rw [if_neg (by simp [z]), upd_ne z]
  refine ew_hidL hid_ ?_
  rw [hv]
  refine ew_mono (h σ H re) fun v H2 ⟨q, S1, ⟨ni, nj, li, kk⟩, r1, i1, x1⟩ hn => ?_
  have hd2 : H2 d = none := hn d (by simp)
  have ef : fillL [d] (upd H d (.lst [])) H2 = upd H2 d (.lst []) := by
    funext c
    unfold fillL
    by_cases z : c = d
    · subst z; rw [if_pos (by simp), upd_same, upd_same]
    · rw [if_neg (by simp [z]), upd_ne z]
  rw [ef]
  obtain ⟨r2, ev⟩ := r1.new (o := .lst []) (w := .lst []) ni li hd2 rfl ⟨[], upd_same, rfl⟩
  have nj2 : NotOwn (S1.set i (.own d (.lst []))) j := by
    unfold NotOwn at *
    rw [List.getElem?_set_ne hij]
    exact nj
  have iv : q.Is v (vis (S1.set i (.own d (.lst []))) (upd H2 d (.lst []))) := by rw [ev]; exact i1
  have r3 := r2.setP nj2 iv
  refine ⟨.ref d, v, rfl, (kk d).at r3 ?_⟩
  rw [show vis ((S1.set i (.own d (.lst []))).set j (.pv q)) (upd H2 d (.lst [])) = vis (S1.set i (.own d (.lst []))) (upd H2 d (.lst [])) from by show visL _ _ = visL _ _; rw [adrs_pure nj2 rfl], ev]
  exact x1
end
end E
set_option maxHeartbeats 4000000
/-! E26: the greatest of a list, two stars, what is behind a tuple's first item. -/
namespace E
open PySem PySem.Spec PyProof.Rows L2 Evl G He
def maxL : List Int → Int
  | [] => 0
  | n :: ns => ns.foldl max n
theorem foldl_max : ∀ (ns : List Int) (n : Int), (ns.foldl max n ∈ n :: ns) ∧ ∀ y ∈ n :: ns, y ≤ ns.foldl max n
  | [], n => ⟨by simp, fun y hy => by simp at hy; subst hy; exact Int.le_refl _⟩
  | m :: ns, n => by
    obtain ⟨h1, h2⟩ := foldl_max ns (max n m)
    have h3 := h2 (max n m) (by simp)
    refine ⟨?_, fun y hy => ?_⟩
    · show ns.foldl max (max n m) ∈ _
      rcases List.mem_cons.mp h1 with e | h
      · rw [e]
        rcases Int.le_total n m with z | z
        · rw [Int.max_eq_right z]; simp
        · rw [Int.max_eq_left z]; simp
      · simp [h]
    · show y ≤ ns.foldl max (max n m)
      rcases List.mem_cons.mp hy with e | hy
      · rw [e]; exact Int.le_trans (Int.le_max_left _ _) h3
      · rcases List.mem_cons.mp hy with e | hy
        · rw [e]; exact Int.le_trans (Int.le_max_right _ _) h3
        · exact h2 y (List.mem_cons_of_mem _ hy)
theorem maxL_mem {ns : List Int} (h : 0 < ns.length) : maxL ns ∈ ns := by
  cases ns with
  | nil => cases h
  | cons n ns => exact (foldl_max ns n).1
theorem maxL_le {ns : List Int} : ∀ y ∈ ns, y ≤ maxL ns := by
  cases ns with
  | nil => intro y hy; cases hy
  | cons n ns => exact (foldl_max ns n).2
section
variable {X : Cx} {ρ : Rho} {a b e l l2 : Expr} {pos pp p1 p2 : Pos} {α : Type} {f : α → PV} {as bs : List α} {ps qs : List PV} {n : Nat}
theorem ev_max {ns : List Int} (hm : X.mg "max" = none) (ha : EV X e ρ (.lst (ns.map PV.int))) (h0 : 0 < ns.length := by first | (simp <;> omega) | exact Int.mul_pos (q_dpos _) (q_dpos _) | exact q_dpos _ | with_reducible rfl | assumption | omega) (hc : X.calm = true := by rfl) (hg : Gl X "max" := by rfl) (he : starEach [e] X.env = (false, eval e X.env) :: starEach [] X.env := by rfl) : EV X (.Call (.Name "max" pp) [e] [] pos) ρ (.int (maxL ns)) := fun σ H l h =>
  eg_callB (cr_max hc) hm rfl (ag_cons (ha σ H l h) ag_nil he) (fun vs H1 _ ⟨v, r, h1, h2, h5⟩ Q q => by
    obtain ⟨c, h3, h4⟩ := ints_is h2
    exact ⟨c, ns, by rw [h1, show r = [] from h5, h3], SqL.of h4, h0, fun m hm hl => q _ H1 (Ex.refl H1) (by
      rw [show maxL ns = m from Int.le_antisymm (hl _ (maxL_mem h0)) (maxL_le m hm)]; exact rfl)⟩) hg (by decide) (by decide) he rfl
theorem ev_star2 (ha : EV X l ρ (.tup ps)) (hb : EV X l2 ρ (.tup qs)) (hz : ps.length + qs.length ≤ 1000) (hs : starEach [.Starred l p1, .Starred l2 p2] X.env = (true, eval l X.env) :: starEach [.Starred l2 p2] X.env := by rfl)
    (hs2 : starEach [.Starred l2 p2] X.env = (true, eval l2 X.env) :: starEach [] X.env := by rfl) : EV X (.List [.Starred l p1, .Starred l2 p2] pos) ρ (.lst (ps ++ qs)) := fun σ H ll h =>
  eg_of (pe_lst (StX.pa_star pe_W (StX.pa_star pe_W pa_nil hs2) hs)) fun H1 e1 Q q => ha σ H ll h H1 e1 _ fun v H2 e2 ⟨c, xs, h1, h2, h3⟩ => by
    refine ⟨c, xs, h1, .inl (SqT.of h2), ?_⟩
    refine hb σ H ll h H2 (e1.trans e2) _ fun w H3 e3 ⟨d, ys, h4, h5, h6⟩ => ?_
    have hx := iss_len h3
    have hy := iss_len h6
    refine ⟨d, ys, h4, .inl (SqT.of h5), ?_⟩
    refine ⟨sz_of (by rw [List.append_nil, List.length_append, hx, hy]; exact Nat.le_trans hz (by decide)), fun t ht => q _ _ ((e2.trans e3).trans (Ex.new ht)) (by rw [List.append_nil]; exact lst_new ht (iss_app (PV.Iss.up e3 h3) h6))⟩
theorem ev_star2M (ha : EV X l ρ (.tup (as.map f))) (hb : EV X l2 ρ (.tup (bs.map f))) (hz : as.length + bs.length ≤ 1000 := by first | (simp <;> omega) | exact Int.mul_pos (q_dpos _) (q_dpos _) | exact q_dpos _ | with_reducible rfl | assumption | omega) (hs : starEach [.Starred l p1, .Starred l2 p2] X.env = (true, eval l X.env) :: starEach [.Starred l2 p2] X.env := by rfl)
    (hs2 : starEach [.Starred l2 p2] X.env = (true, eval l2 X.env) :: starEach [] X.env := by rfl) : EV X (.List [.Starred l p1, .Starred l2 p2] pos) ρ (.lst ((as ++ bs).map f)) := (ev_star2 ha hb (by rw [List.length_map, List.length_map]; exact hz) hs hs2).as (by rw [List.map_append])
theorem ev_tailT {y : α} (ha : EV X a ρ (.tup ((y :: as).map f))) (hb : EV X b ρ (.int 1)) : EV X (.Subscript a (.Slice (some b) none none p2) pos) ρ (.tup (as.map f)) := fun σ H l h =>
  eg_of (pe_slice sl_tup pe_W (po_some pe_W) po_none) fun H1 e1 Q q => ha σ H l h H1 e1 _ fun v H2 e2 ⟨c, xs, h1, h2, h3⟩ => hb σ H l h H2 (e1.trans e2) _ fun y H3 e3 py => by
    have hl := iss_len h3
    refine ⟨1, py, c, xs, h1, SqT.of (e3 _ _ h2), fun ⟨z, _⟩ => ?_, fun d hd => q _ _ ((e2.trans e3).trans (Ex.new hd)) ?_⟩
    · have e : HT.sIx xs.length 0 (some 1) = min 1 xs.length := HT.sIx_nat xs.length 0 1
      rw [e, hl, List.length_map, List.length_cons] at z
      omega
    · show (PV.tup (as.map f)).Is _ _
      rw [show as.map f = ((_ :: as).map f).drop 1 from rfl]
      rw [← cut_from (ps := (_ :: as).map f)]
      exact tup_new hd (iss_cut (PV.Iss.up e3 h3))
end
end E
namespace E
open PySem PySem.Spec PyProof.Rows L2 Evl G He
section
variable {X : Cx} {ρ : Rho} {a b : Expr} {pos : Pos} {α : Type} {f : α → PV} {as : List α}
/-- l * 1 -/
theorem ev_rep1 (ha : EV X a ρ (.lst (as.map f))) (hb : EV X b ρ (.int 1)) (hl : as.length ≤ 1000 := by first | (simp <;> omega) | exact Int.mul_pos (q_dpos _) (q_dpos _) | exact q_dpos _ | with_reducible rfl | assumption | omega) : EV X (.BinOp a .Mult b pos) ρ (.lst (as.map f)) :=
  (ev_op2 (pe_op op_rep pe_W pe_W) ha (hb : EV X b ρ (.int ((1 : Nat) : Int))) (ov_rep (n := 1) (by decide) (by rw [List.length_map]; omega))).as (by simp)
end
end E
set_option maxHeartbeats 4000000
namespace E
open PySem PySem.Spec PyProof.Rows L2 Evl G He
section
variable {P : Program} {w : World} {K : PySem.W.Frag} {mg : Str → Option Value} {base : Heap}
theorem over_bt {qs : List Rat} (hl : qs.length ≤ 2) (h : ∀ q ∈ qs, G.Sm 2200 q) (i : Nat) : (lcmF (qs.take i)) < 2 ^ 4500 := lcmF_lt (n := 2200) (fun q hq => h q (List.mem_of_mem_take hq)) (by rw [List.length_take]; omega)
theorem forall_cons {α : Type} {P : α → Prop} {a : α} {as : List α} (h : P a) (g : ∀ x ∈ as, P x) : ∀ x ∈ a :: as, P x := fun x hx => (List.mem_cons.mp hx).elim (fun e => e ▸ h) (g x)
abbrev Ax1 (s : StepV) : Prop := s.ps.length = 1
abbrev numF (s : StepV) : List Int := (s.t :: s.ps).map (overQ (lcmF (s.t :: s.ps)))
abbrev sK (K : PySem.W.Frag) : Addr := He.ga K "Step"
def stepV (K : PySem.W.Frag) (s : StepV) : PV := .ins (sK K) ["time", "place", "axes", "numbers", "bottom", "square", "kind"] [ratV K s.t, tpV (ratV K) s.ps, .int (s.ps.length : Int), lsV PV.int (numF s), .int (lcmF (s.t :: s.ps) : Int), ratV K (sqQ s.t s.ps), .str (kindQ s.t (sqQ s.t s.ps))]

theorem over_ok (T : GH.Txt K mg) {qs : List Rat} (hl : qs.length ≤ 2 := by first | (simp <;> omega) | exact Int.mul_pos (q_dpos _) (q_dpos _) | exact q_dpos _ | with_reducible rfl | assumption | omega) (h : ∀ q ∈ qs, G.Sm 2200 q := by first | assumption | exact smc_le (by decide)) : Fn P w K mg base "over_one_bottom" 1 [lsV (ratV K) qs] (pr2 (lsV PV.int) PV.int (qs.map (overQ (lcmF qs)), (lcmF qs : Int))) := by
  obtain ⟨fd, F⟩ := GH.d_over_one_bottom T
  have hnd : (["ratios", "bottom", "ratio"] : List Str).Nodup := by decide +kernel
  refine mk_fn (fn_vs (k := 0) (N := ["ratios", "bottom", "ratio"]) (pn := ["ratios"]) (S0 := [.pv (lsV (ratV K) qs), .no, .no]) F ⟨rfl, rfl, rfl, by decide +kernel, rfl, by decide +kernel, by decide +kernel⟩ rfl rfl (of_decide_eq_true rfl) ?_) F (GH.g_over_one_bottom (K := K) T) (b1 F)
  intro cdv A outer s H E hr
  refine bv_asgE (S' := [_, _, _]) 1 hnd ev_int ?_
  refine bv_for (.nm 2) (fun it : Rat => [(2, (ratV K) it)]) (fun i S => S = [_, .pv (.int (lcmF (qs.take i) : Int)), _]) (iu_list (ev_var 0)) (by exact rfl) (fun _ _ => rfl) (fun i it S1 hi hS => ?_) (fun S1 hS => ?_) (pg_name hnd rfl (by first | exact Or.inl rfl | exact Or.inr rfl))
  · subst hS
    have il := (List.getElem?_eq_some_iff.mp hi).1
    have hm := List.mem_of_getElem? hi
    haveI := smc_of (h it hm)
    have p1 : (0 : Int) < (lcmF (qs.take i) : Int) := by have := lcmF_pos (qs.take i); omega
    haveI : Bt (lcmF (qs.take i) : Int) 4500 := ⟨by rw [Int.natAbs_natCast]; exact over_bt hl h i⟩
    refine ⟨nown rfl, ?_⟩
    show BV _ _ [_, _, _] _
    refine bv_asgE (S' := [_, _, _]) 1 hnd (ev_lcmV (GH.im_lcm (K := K) T) (ev_var 1) (ev_at 1 (GH.cl_Ratio (K := K) T) (GH.na_Ratio_bottom (K := K) T) (ev_var 2))) ?_
    refine bv_drop 2 ?_
    refine bv_nil ?_
    show _ = _
    rw [take_next hi, lcmF_snoc]
    rfl
  · subst hS
    rw [List.take_length]
    have bo := over_bt hl h qs.length
    rw [List.take_length] at bo
    haveI : Bt (lcmF qs : Int) 4500 := ⟨by rw [Int.natAbs_natCast]; exact bo⟩
    refine bv_retE (ev_tup2 (lsV PV.int) PV.int (ev_mapL (g := PV.int) (ev_lc (b := (fun it : Rat => [(2, (ratV K) it)])) (own := [("ratio", 2)]) (.nm 2) hnd (iu_list (ev_var 0)) (by first | (simp <;> omega) | exact Int.mul_pos (q_dpos _) (q_dpos _) | exact q_dpos _ | with_reducible rfl | assumption | omega) (fun it h1 _ _ _ _ _ => haveI := smc_of (h it h1); haveI : Bt ((lcmF qs : Int) / (it.den : Int)) 4500 := ⟨by rw [← Int.natCast_ediv, Int.natAbs_natCast]; exact Nat.lt_of_le_of_lt (Nat.div_le_self _ _) bo⟩; (ev_mulV (ev_at 0 (GH.cl_Ratio (K := K) T) (GH.na_Ratio_top (K := K) T) (ev_var 2)) (ev_fdivV (ev_var 1) (ev_at 1 (GH.cl_Ratio (K := K) T) (GH.na_Ratio_bottom (K := K) T) (ev_var 2))))) (fun _ _ _ _ _ => (pg_name hnd rfl (by first | exact Or.inl rfl | exact Or.inr rfl))))) (ev_var 1)) ?_
    rfl

theorem sum_bt {ns : List Int} (hl : ns.length ≤ 3) (h : ∀ n ∈ ns, n.natAbs < 2 ^ 6700) : (ns.map fun n => n * n).sum.natAbs < 2 ^ 13402 := by
  have h1 := sum_bits (k := 13400) (m := 3) (ns.map fun n => n * n) (fun x hx => by
    obtain ⟨n, hn, rfl⟩ := List.mem_map.mp hx
    exact b_mul (h n hn) (h n hn)) (by rw [List.length_map]; exact hl)
  have h2 : 3 * 2 ^ 13400 < 2 ^ 13402 := by
    rw [show 13402 = 13400 + 2 from rfl, Nat.pow_add]
    have : 0 < 2 ^ 13400 := Nat.pow_pos (by decide)
    omega
  exact Nat.lt_of_le_of_lt h1 h2

theorem square_ok (T : GH.Txt K mg) {n b : Int} {ns : List Int} (hl : ns.length ≤ 3 := by first | (simp <;> omega) | exact Int.mul_pos (q_dpos _) (q_dpos _) | exact q_dpos _ | with_reducible rfl | assumption | omega) (hn : n.natAbs < 2 ^ 6700 := by first | assumption | exact bt_le (by decide) | omega) (h : ∀ m ∈ ns, m.natAbs < 2 ^ 6700 := by assumption) (h0 : 0 < b := by first | (simp <;> omega) | exact Int.mul_pos (q_dpos _) (q_dpos _) | exact q_dpos _ | with_reducible rfl | assumption | omega) (hb : b.natAbs < 2 ^ 4500 := by first | assumption | exact bt_le (by decide) | omega) : Fn P w K mg base "square_of" 3 [lsV PV.int (n :: ns), .int b] (ratV K (Rat.divInt (n * n - (ns.map fun m => m * m).sum) (b * b))) := by
  obtain ⟨fd, F⟩ := GH.d_square_of T
  have hnd : (["numbers", "bottom", "first", "number"] : List Str).Nodup := by decide +kernel
  haveI := int_bt hn
  haveI := int_bt hb
  haveI : Bt (ns.map fun m => m * m).sum 13402 := ⟨sum_bt hl h⟩
  have hbb := Int.mul_pos h0 h0
  have hll : ns.length ≤ 1000000 := by omega
  refine mk_fn (fn_vs (k := 2) (N := ["numbers", "bottom", "first", "number"]) (pn := ["numbers", "bottom"]) (S0 := [.pv (lsV PV.int (n :: ns)), .pv (.int b), .no, .no]) F ⟨rfl, rfl, rfl, by decide +kernel, rfl, by decide +kernel, by decide +kernel⟩ rfl rfl (of_decide_eq_true rfl) ?_) F (GH.g_square_of (K := K) T) (b2 F)
  intro cdv A outer s H E hr
  refine bv_asgE (S' := [_, _, _, _]) 2 hnd (ev_ixM (f := PV.int) (ev_var 0) ev_int (by first | exact atI_0 | exact atI_1 | exact atI_2 | exact rfl | assumption)) ?_
  refine bv_retE (ev_newA (hr.mono (show 2 ≤ _ by decide)) (av_cons (ev_sub (ev_mulV (ev_var 2) (ev_var 2)) (ev_sum (GH.fr_sum (K := K) T) (ev_mapL (g := PV.int) (ev_lc (b := (fun it : Int => [(3, PV.int it)])) (own := [("number", 3)]) (.nm 3) hnd (iu_list (ev_tailM (ev_var 0) ev_int)) (by first | (simp <;> omega) | exact Int.mul_pos (q_dpos _) (q_dpos _) | exact q_dpos _ | with_reducible rfl | assumption | omega) (fun it h1 _ _ _ _ _ => haveI := int_bt (h it h1); (ev_mulV (ev_var 3) (ev_var 3))) (fun _ _ _ _ _ => (pg_name hnd rfl (by first | exact Or.inl rfl | exact Or.inr rfl))))))) (av_cons (ev_mulV (ev_var 1) (ev_var 1)) av_nil)) (nw_Ratio (K := K) T)) ?_
  rfl

theorem sgn_lt' (q : Rat) : decide (q.num.sign < 0) = decide (q < 0) := sgn_lt q
theorem sgn_zero' (q : Rat) : decide (q.num.sign = 0) = decide (q = 0) := sgn_zero q
theorem sgn_gt' (q : Rat) : decide (0 < q.num.sign) = decide (0 < q) := sgn_gt q

theorem kind_ok (T : GH.Txt K mg) {t s : Rat} : Fn P w K mg base "kind_of" 1 [ratV K t, ratV K s] (.str (kindQ t s)) := by
  obtain ⟨fd, F⟩ := GH.d_kind_of T
  have hnd : (["time", "square"] : List Str).Nodup := by decide +kernel
  refine mk_fn (fn_vs (k := 0) (N := ["time", "square"]) (pn := ["time", "square"]) (S0 := [.pv (ratV K t), .pv (ratV K s)]) F ⟨rfl, rfl, rfl, by decide +kernel, rfl, by decide +kernel, by decide +kernel⟩ rfl rfl (of_decide_eq_true rfl) ?_) F (GH.g_kind_of (K := K) T) (b2 F)
  intro cdv A outer s H E hr
  refine bv_ifE (tv_cm (cv_lt (ev_at 2 (GH.cl_Ratio (K := K) T) (GH.na_Ratio_sign (K := K) T) (ev_var 1)) ev_int)) (fun h1 => ?_) (fun h1 => ?_)
  · refine bv_retE ev_str ?_
    rw [sgn_lt] at h1
    unfold kindQ
    rw [if_pos (ofT h1)]
  · refine bv_nil ?_
    show BV _ _ [_, _] _
    refine bv_ifE (tv_cm (cv_eqI (ev_at 2 (GH.cl_Ratio (K := K) T) (GH.na_Ratio_sign (K := K) T) (ev_var 0)) ev_int)) (fun h2 => ?_) (fun h2 => ?_)
    · refine bv_retE ev_str ?_
      rw [sgn_lt] at h1
      rw [sgn_zero] at h2
      unfold kindQ
      rw [if_neg (ofF h1), if_pos (ofT h2)]
    · refine bv_nil ?_
      show BV _ _ [_, _] _
      refine bv_retE (ev_ifM PV.str (tv_cm (cv_gt (ev_at 2 (GH.cl_Ratio (K := K) T) (GH.na_Ratio_sign (K := K) T) (ev_var 0)) ev_int)) (fun h3 => ev_str) (fun h3 => ev_str)) ?_
      rw [sgn_lt] at h1
      rw [sgn_zero] at h2
      unfold kindQ
      rw [if_neg (ofF h1), if_neg (ofF h2), sgn_gt]
      simp only [decide_eq_true_eq]

theorem nw_Step (T : GH.Txt K mg) {t : Rat} {ps : List Rat} (h : SmS 2200 ⟨t, ps⟩ := by first | assumption) (hx : Ax1 ⟨t, ps⟩ := by first | assumption | with_reducible rfl) : Nw P w K mg base "Step" (He.ga K "Step") 4 [ratV K t, lsV (ratV K) ps] ["time", "place", "axes", "numbers", "bottom", "square", "kind"] [ratV K t, tpV (ratV K) ps, .int (ps.length : Int), lsV PV.int (numF ⟨t, ps⟩), .int (lcmF (t :: ps) : Int), ratV K (sqQ t ps), .str (kindQ t (sqQ t ps))] := by
  obtain ⟨fd, F⟩ := GH.d_Step_init T
  have hnd : (["self", "time", "place", "number"] : List Str).Nodup := by decide +kernel
  haveI : NeC (rK K) (He.ga K "Step") := ne_of_kit (GH.kt_Ratio_Step T)
  have x0 : ps.length = 1 := hx
  have x1 : 1 ≤ ps.length := by omega
  have x2 : ps.length ≤ 3 := by omega
  have hm : ∀ q ∈ t :: ps, G.Sm 2200 q := forall_cons h.1 h.2
  have hl4 : (t :: ps).length ≤ 2 := by rw [List.length_cons]; omega
  have L0 := lcmF_pos (t :: ps)
  have L1 := over_bt hl4 hm (t :: ps).length
  rw [List.take_length] at L1
  haveI : Bt (lcmF (t :: ps) : Int) 4500 := int_bt (by rw [Int.natAbs_natCast]; exact L1)
  have o1 := over_bits h.1 L1
  haveI := int_bt o1
  have o2 : ∀ m ∈ ps.map (overQ (lcmF (t :: ps))), m.natAbs < 2 ^ 6700 := fun m hm => by
    obtain ⟨q, hq, rfl⟩ := List.mem_map.mp hm
    exact over_bits (h.2 q hq) L1
  have o3 : (ps.map (overQ (lcmF (t :: ps)))).length ≤ 3 := by rw [List.length_map]; exact x2
  have o4 : (0 : Int) < (lcmF (t :: ps) : Int) := by omega
  have o5 := sq_div (t := t) (ps := ps) L0 (lcmF_dvd (by simp)) fun q hq => lcmF_dvd (by simp [hq])
  refine mk_nw (ps := [ratV K t, lsV (ratV K) ps]) (dps := []) (fn_ns (k := 3) (N := ["self", "time", "place", "number"]) (pn := ["self", "time", "place"]) F ⟨rfl, rfl, rfl, by decide +kernel, rfl, by decide +kernel, by decide +kernel⟩ rfl (of_decide_eq_true rfl) rfl ?_) (GH.mk_Step (K := K) T) (GH.g_Step (K := K) T) (b3 F) dv_nil
  intro a dx cdv A outer s H E hr
  show BV _ _ [.own a (.obj _ dx [] []), .pv (ratV K t), .pv (lsV (ratV K) ps), .no] _
  refine bv_skip (tv_not (tv_val (ev_callA (hr.mono (show 1 ≤ _ by decide)) (av_cons (ev_var 1) av_nil) (is_ratio_r (K := K) T)))) (by first | rfl | (exact by first | (apply decide_eq_false; omega) | with_reducible rfl | (simp <;> omega) | (simp_all; done))) ?_
  refine bv_skip (tv_w (wv_or (tv_not (tv_val (ev_callA (hr.mono (show 2 ≤ _ by decide)) (av_cons (ev_var 2) av_nil) (are_ratios_r (K := K) T)))) fun h1 => (wv_or1 (tv_not (tv_val (ev_callA (hr.mono (show 3 ≤ _ by decide)) (av_cons (ev_lenM (GH.fr_len (K := K) T) (ev_var 2)) av_nil) (is_axes_i (K := K) T))))))) (by first | (apply decide_eq_false; omega) | with_reducible rfl | (simp <;> omega) | (simp_all; done)) ?_
  refine bv_newf (S' := [_, _, _, _]) 0 (GH.cl_Step (K := K) T) (GH.na_Step_time (K := K) T) (ev_smethA (hr.mono (show 2 ≤ _ by decide)) (av_cons (ev_var 1) av_nil) (rat_of (K := K) T)) ?_
  refine bv_newf (S' := [_, _, _, _]) 0 (GH.cl_Step (K := K) T) (GH.na_Step_place (K := K) T) (ev_tupleL (GH.fr_tuple (K := K) T) (ev_mapL (g := (ratV K)) (ev_lc (b := (fun it : Rat => [(3, (ratV K) it)])) (own := [("number", 3)]) (.nm 3) hnd (iu_list (ev_var 2)) (by first | (simp <;> omega) | exact Int.mul_pos (q_dpos _) (q_dpos _) | exact q_dpos _ | with_reducible rfl | assumption | omega) (fun it h2 _ _ _ _ _ => (ev_smethA (hr.mono (show 2 ≤ _ by decide)) (av_cons (ev_var 3) av_nil) (rat_of (K := K) T))) (fun _ _ _ _ _ => (pg_name hnd rfl (by first | exact Or.inl rfl | exact Or.inr rfl)))))) ?_
  simp only [List.map_id']
  refine bv_newfX 0 (GH.cl_Step (K := K) T) (GH.na_Step_axes (K := K) T) (xw_borrow 0 rfl (ev_lenTM (GH.fr_len (K := K) T) (ev_at 1 (GH.cl_Step (K := K) T) (GH.na_Step_place (K := K) T) (ev_var 0))) ⟨rfl, ?_⟩)
  show BV _ _ [_, _, _, _] _
  refine bv_newf2 0 (GH.cl_Step (K := K) T) (GH.na_Step_numbers (K := K) T) (GH.na_Step_bottom (K := K) T) ((xw_borrowM (pr2 (lsV PV.int) PV.int) 0 rfl (ev_callA (hr.mono (show 1 ≤ _ by decide)) (av_cons (ev_lstStarM (f := (ratV K)) (ev_at 0 (GH.cl_Step (K := K) T) (GH.na_Step_time (K := K) T) (ev_var 0)) rfl (ev_at 1 (GH.cl_Step (K := K) T) (GH.na_Step_place (K := K) T) (ev_var 0)) (by first | (simp <;> omega) | exact Int.mul_pos (q_dpos _) (q_dpos _) | exact q_dpos _ | with_reducible rfl | assumption | omega)) av_nil) (over_ok (K := K) T)) ?_))
  refine ⟨rfl, _, _, rfl, ?_⟩
  show BV _ _ [_, _, _, _] _
  refine bv_newfX 0 (GH.cl_Step (K := K) T) (GH.na_Step_square (K := K) T) (xw_borrowM (ratV K) 0 rfl (ev_callA (hr.mono (show 3 ≤ _ by decide)) (av_cons (ev_at 3 (GH.cl_Step (K := K) T) (GH.na_Step_numbers (K := K) T) (ev_var 0)) (av_cons (ev_at 4 (GH.cl_Step (K := K) T) (GH.na_Step_bottom (K := K) T) (ev_var 0)) av_nil)) (square_ok (K := K) T)) ⟨rfl, ?_⟩)
  show BV _ _ [_, _, _, _] _
  refine bv_newfX 0 (GH.cl_Step (K := K) T) (GH.na_Step_kind (K := K) T) (xw_borrow 0 rfl (ev_callA (hr.mono (show 1 ≤ _ by decide)) (av_cons (ev_at 0 (GH.cl_Step (K := K) T) (GH.na_Step_time (K := K) T) (ev_var 0)) (av_cons (ev_at 5 (GH.cl_Step (K := K) T) (GH.na_Step_square (K := K) T) (ev_var 0)) av_nil)) (kind_ok (K := K) T)) ⟨rfl, ?_⟩)
  show BV _ _ [_, _, _, _] _
  refine bv_nil ?_
  rw [← o5]
  rfl

theorem eqaxes_ok (T : GH.Txt K mg) {a b : StepV} (hl : a.ps.length = b.ps.length := by first | assumption | with_reducible rfl) : Fn P w K mg base "ask_equal_axes" 1 [stepV K a, stepV K b] (.non) := by
  obtain ⟨fd, F⟩ := GH.d_ask_equal_axes T
  have hnd : (["one", "other"] : List Str).Nodup := by decide +kernel
  refine mk_fn (fn_vs (k := 0) (N := ["one", "other"]) (pn := ["one", "other"]) (S0 := [.pv (stepV K a), .pv (stepV K b)]) F ⟨rfl, rfl, rfl, by decide +kernel, rfl, by decide +kernel, by decide +kernel⟩ rfl rfl (of_decide_eq_true rfl) ?_) F (GH.g_ask_equal_axes (K := K) T) (b2 F)
  intro cdv A outer s H E hr
  refine bv_skip (tv_cm (cv_neI (ev_at 2 (GH.cl_Step (K := K) T) (GH.na_Step_axes (K := K) T) (ev_var 0)) (ev_at 2 (GH.cl_Step (K := K) T) (GH.na_Step_axes (K := K) T) (ev_var 1)))) (by first | (apply decide_eq_false; omega) | with_reducible rfl | (simp <;> omega) | (simp_all; done)) ?_
  refine bv_nil ?_
  first | rfl | (simp_all; done)

theorem askother_ok (T : GH.Txt K mg) {a b : StepV} (hl : a.ps.length = b.ps.length := by first | assumption | with_reducible rfl) : Fn P w K mg base "ask_other" 2 [stepV K a, stepV K b] (.non) := by
  obtain ⟨fd, F⟩ := GH.d_ask_other T
  have hnd : (["step", "other"] : List Str).Nodup := by decide +kernel
  refine mk_fn (fn_vs (k := 1) (N := ["step", "other"]) (pn := ["step", "other"]) (S0 := [.pv (stepV K a), .pv (stepV K b)]) F ⟨rfl, rfl, rfl, by decide +kernel, rfl, by decide +kernel, by decide +kernel⟩ rfl rfl (of_decide_eq_true rfl) ?_) F (GH.g_ask_other (K := K) T) (b2 F)
  intro cdv A outer s H E hr
  refine bv_skip (tv_not (tv_val (ev_isi (bb := true) (GH.fr_isinstance (K := K) T) (ev_var 1) (ev_cls (GH.g_Step (K := K) T)) (by exact rfl) (isi_self (GH.isi_Step (K := K) T))))) (by first | rfl | (exact by first | (apply decide_eq_false; omega) | with_reducible rfl | (simp <;> omega) | (simp_all; done))) ?_
  refine bv_expr (xw_ev (ev_callA (hr.mono (show 1 ≤ _ by decide)) (av_cons (ev_var 0) (av_cons (ev_var 1) av_nil)) (eqaxes_ok (K := K) T)) ?_)
  refine bv_nil ?_
  first | rfl | (simp_all; done)

theorem step_add (T : GH.Txt K mg) {a : StepV} (ha : SmS 2200 a := by first | assumption) (xa : Ax1 a := by first | assumption | with_reducible rfl) {b : StepV} (hb : SmS 2200 b := by first | assumption) (xb : Ax1 b := by first | assumption | with_reducible rfl) (hl : a.ps.length = b.ps.length := by first | assumption | with_reducible rfl) (hw : SmS 2200 (addS a b) := by first | assumption) : Op P w K mg base (He.ga K "Step") "__add__" 6 [stepV K a, stepV K b] (stepV K (addS a b)) := by
  obtain ⟨fd, F⟩ := GH.d_Step_add T
  have hnd : (["self", "other", "one", "more"] : List Str).Nodup := by decide +kernel
  have x0_a : a.ps.length = 1 := xa
  have xl_a : a.ps.length ≤ 3 := by omega
  have x1_a : 1 ≤ a.ps.length := by omega
  haveI := smc_of ha.1
  have x0_b : b.ps.length = 1 := xb
  have xl_b : b.ps.length ≤ 3 := by omega
  have x1_b : 1 ≤ b.ps.length := by omega
  haveI := smc_of hb.1
  have zl : (a.ps.zip b.ps).length ≤ 1000000 := by rw [List.length_zip]; omega
  have zm := fun (q : Rat × Rat) (h : q ∈ a.ps.zip b.ps) => List.of_mem_zip (show (q.1, q.2) ∈ _ from h)
  have w1 : SmS 2200 (addS a b) := hw
  have w2 : Ax1 (addS a b) := by show ((a.ps.zip b.ps).map _).length = 1; rw [List.length_map, List.length_zip]; omega
  refine mk_op (fn_vs (k := 5) (N := ["self", "other", "one", "more"]) (pn := ["self", "other"]) (S0 := [.pv (stepV K a), .pv (stepV K b), .no, .no]) F ⟨rfl, rfl, rfl, by decide +kernel, rfl, by decide +kernel, by decide +kernel⟩ rfl rfl (of_decide_eq_true rfl) ?_) (GH.me_Step_add (K := K) T) (b2 F)
  intro cdv A outer s H E hr
  refine bv_expr (xw_ev (ev_callA (hr.mono (show 2 ≤ _ by decide)) (av_cons (ev_var 0) (av_cons (ev_var 1) av_nil)) (askother_ok (K := K) T)) ?_)
  refine bv_retE (ev_newA (hr.mono (show 5 ≤ _ by decide)) (av_cons (ev_opA (hr.mono (show 3 ≤ _ by decide)) (GH.sf_Ratio (K := K) T) (ev_at 0 (GH.cl_Step (K := K) T) (GH.na_Step_time (K := K) T) (ev_var 0)) (ev_at 0 (GH.cl_Step (K := K) T) (GH.na_Step_time (K := K) T) (ev_var 1)) (rat_add (K := K) T)) (av_cons (ev_mapL (g := (ratV K)) (ev_lc (b := (fun it : (Rat × Rat) => [(2, (ratV K) it.1), (3, (ratV K) it.2)])) (own := [("one", 2), ("more", 3)]) (.tp [.nm 2, .nm 3]) hnd (iu_zipT (GH.fr_zip (K := K) T) (ev_at 1 (GH.cl_Step (K := K) T) (GH.na_Step_place (K := K) T) (ev_var 0)) (ev_at 1 (GH.cl_Step (K := K) T) (GH.na_Step_place (K := K) T) (ev_var 1))) (by first | (simp <;> omega) | exact Int.mul_pos (q_dpos _) (q_dpos _) | exact q_dpos _ | with_reducible rfl | assumption | omega) (fun it h1 _ _ _ _ _ => haveI := smc_of (ha.2 it.1 (zm it h1).1); haveI := smc_of (hb.2 it.2 (zm it h1).2); (ev_opA (hr.mono (show 3 ≤ _ by decide)) (GH.sf_Ratio (K := K) T) (ev_var 2) (ev_var 3) (rat_add (K := K) T))) (fun _ _ _ _ _ => (pg_tup rfl (pgs_cons (pg_name hnd rfl (by first | exact Or.inl rfl | exact Or.inr rfl)) (pgs_cons (pg_name hnd rfl (by first | exact Or.inl rfl | exact Or.inr rfl)) pgs_nil)))))) av_nil)) (nw_Step (K := K) T)) ?_
  rfl

theorem step_sub (T : GH.Txt K mg) {a : StepV} (ha : SmS 2200 a := by first | assumption) (xa : Ax1 a := by first | assumption | with_reducible rfl) {b : StepV} (hb : SmS 2200 b := by first | assumption) (xb : Ax1 b := by first | assumption | with_reducible rfl) (hl : a.ps.length = b.ps.length := by first | assumption | with_reducible rfl) (hw : SmS 2200 (subS a b) := by first | assumption) : Op P w K mg base (He.ga K "Step") "__sub__" 6 [stepV K a, stepV K b] (stepV K (subS a b)) := by
  obtain ⟨fd, F⟩ := GH.d_Step_sub T
  have hnd : (["self", "other", "one", "less"] : List Str).Nodup := by decide +kernel
  have x0_a : a.ps.length = 1 := xa
  have xl_a : a.ps.length ≤ 3 := by omega
  have x1_a : 1 ≤ a.ps.length := by omega
  haveI := smc_of ha.1
  have x0_b : b.ps.length = 1 := xb
  have xl_b : b.ps.length ≤ 3 := by omega
  have x1_b : 1 ≤ b.ps.length := by omega
  haveI := smc_of hb.1
  have zl : (a.ps.zip b.ps).length ≤ 1000000 := by rw [List.length_zip]; omega
  have zm := fun (q : Rat × Rat) (h : q ∈ a.ps.zip b.ps) => List.of_mem_zip (show (q.1, q.2) ∈ _ from h)
  have w1 : SmS 2200 (subS a b) := hw
  have w2 : Ax1 (subS a b) := by show ((a.ps.zip b.ps).map _).length = 1; rw [List.length_map, List.length_zip]; omega
  refine mk_op (fn_vs (k := 5) (N := ["self", "other", "one", "less"]) (pn := ["self", "other"]) (S0 := [.pv (stepV K a), .pv (stepV K b), .no, .no]) F ⟨rfl, rfl, rfl, by decide +kernel, rfl, by decide +kernel, by decide +kernel⟩ rfl rfl (of_decide_eq_true rfl) ?_) (GH.me_Step_sub (K := K) T) (b2 F)
  intro cdv A outer s H E hr
  refine bv_expr (xw_ev (ev_callA (hr.mono (show 2 ≤ _ by decide)) (av_cons (ev_var 0) (av_cons (ev_var 1) av_nil)) (askother_ok (K := K) T)) ?_)
  refine bv_retE (ev_newA (hr.mono (show 5 ≤ _ by decide)) (av_cons (ev_opA (hr.mono (show 3 ≤ _ by decide)) (GH.sf_Ratio (K := K) T) (ev_at 0 (GH.cl_Step (K := K) T) (GH.na_Step_time (K := K) T) (ev_var 0)) (ev_at 0 (GH.cl_Step (K := K) T) (GH.na_Step_time (K := K) T) (ev_var 1)) (rat_sub (K := K) T)) (av_cons (ev_mapL (g := (ratV K)) (ev_lc (b := (fun it : (Rat × Rat) => [(2, (ratV K) it.1), (3, (ratV K) it.2)])) (own := [("one", 2), ("less", 3)]) (.tp [.nm 2, .nm 3]) hnd (iu_zipT (GH.fr_zip (K := K) T) (ev_at 1 (GH.cl_Step (K := K) T) (GH.na_Step_place (K := K) T) (ev_var 0)) (ev_at 1 (GH.cl_Step (K := K) T) (GH.na_Step_place (K := K) T) (ev_var 1))) (by first | (simp <;> omega) | exact Int.mul_pos (q_dpos _) (q_dpos _) | exact q_dpos _ | with_reducible rfl | assumption | omega) (fun it h1 _ _ _ _ _ => haveI := smc_of (ha.2 it.1 (zm it h1).1); haveI := smc_of (hb.2 it.2 (zm it h1).2); (ev_opA (hr.mono (show 3 ≤ _ by decide)) (GH.sf_Ratio (K := K) T) (ev_var 2) (ev_var 3) (rat_sub (K := K) T))) (fun _ _ _ _ _ => (pg_tup rfl (pgs_cons (pg_name hnd rfl (by first | exact Or.inl rfl | exact Or.inr rfl)) (pgs_cons (pg_name hnd rfl (by first | exact Or.inl rfl | exact Or.inr rfl)) pgs_nil)))))) av_nil)) (nw_Step (K := K) T)) ?_
  rfl

theorem step_eqB (a b : StepV) : (true && (decide (a.t = b.t) && decide (a.ps = b.ps))) = decide (a = b) := by
  cases a; cases b
  simp only [StepV.mk.injEq, Bool.true_and]
  rw [Bool.decide_and]

theorem step_eq (T : GH.Txt K mg) {a b : StepV} : Op P w K mg base (He.ga K "Step") "__eq__" 3 [stepV K a, stepV K b] (.bl (decide (a = b))) := by
  obtain ⟨fd, F⟩ := GH.d_Step_eq T
  have hnd : (["self", "other"] : List Str).Nodup := by decide +kernel
  refine mk_op (fn_vs (k := 2) (N := ["self", "other"]) (pn := ["self", "other"]) (S0 := [.pv (stepV K a), .pv (stepV K b)]) F ⟨rfl, rfl, rfl, by decide +kernel, rfl, by decide +kernel, by decide +kernel⟩ rfl rfl (of_decide_eq_true rfl) ?_) (GH.me_Step_eq (K := K) T) (b2 F)
  intro cdv A outer s H E hr
  refine bv_retE (ev_and (ev_isi (bb := true) (GH.fr_isinstance (K := K) T) (ev_var 1) (ev_cls (GH.g_Step (K := K) T)) (by exact rfl) (isi_self (GH.isi_Step (K := K) T))) fun h2 => (ev_and (ev_cm (cv_eqOA (hr.mono (show 1 ≤ _ by decide)) (ev_at 0 (GH.cl_Step (K := K) T) (GH.na_Step_time (K := K) T) (ev_var 0)) (ev_at 0 (GH.cl_Step (K := K) T) (GH.na_Step_time (K := K) T) (ev_var 1)) (rat_eq (K := K) T))) fun h1 => (ev_one (ev_cm (cv_eqF (rcF_tup (eqF_rat T)) (hr.mono (show 2 ≤ _ by decide)) (ev_at 1 (GH.cl_Step (K := K) T) (GH.na_Step_place (K := K) T) (ev_var 0)) (ev_at 1 (GH.cl_Step (K := K) T) (GH.na_Step_place (K := K) T) (ev_var 1))))))) ?_
  rw [← step_eqB]

theorem stepV_inj {K : PySem.W.Frag} (a b : StepV) (e : stepV K a = stepV K b) : a = b := by
  unfold stepV at e
  injection e with _ _ e
  injection e with e1 e
  injection e with e2 e
  injection e2 with e2
  have h1 : a.t = b.t := ratV_inj _ _ e1
  have h2 : a.ps = b.ps := map_inj ratV_inj e2
  cases a
  cases b
  cases h1
  cases h2
  rfl
theorem eqF_step {X : Cx} (T : GH.Txt X.K X.mg) : EqF X 3 (stepV X.K) := eqF_ins (fun _ => rfl) (fun a b => step_eq T) (fun s => ⟨rfl, ⟨rfl, trivial, trivial, trivial, trivial⟩, tellss_map (f := ratV X.K) fun _ => ⟨rfl, trivial, trivial, trivial, trivial⟩, trivial, tellss_map (f := PV.int) fun _ => trivial, trivial, ⟨rfl, trivial, trivial, trivial, trivial⟩, trivial, trivial⟩) stepV_inj

theorem nw_StepI (T : GH.Txt K mg)  : Nw P w K mg base "Step" (He.ga K "Step") 5 [.int 0, lsV PV.int [0]] ["time", "place", "axes", "numbers", "bottom", "square", "kind"] [ratV K ((0 : Int) : Rat), tpV (ratV K) [((0 : Int) : Rat)], .int 1, lsV PV.int (numF ⟨((0 : Int) : Rat), [((0 : Int) : Rat)]⟩), .int (lcmF [((0 : Int) : Rat), ((0 : Int) : Rat)] : Int), ratV K (sqQ ((0 : Int) : Rat) [((0 : Int) : Rat)]), .str (kindQ ((0 : Int) : Rat) (sqQ ((0 : Int) : Rat) [((0 : Int) : Rat)]))] := by
  obtain ⟨fd, F⟩ := GH.d_Step_init T
  have hnd : (["self", "time", "place", "number"] : List Str).Nodup := by decide +kernel
  haveI : NeC (rK K) (He.ga K "Step") := ne_of_kit (GH.kt_Ratio_Step T)
  have sz : ∀ q ∈ [((0 : Int) : Rat), ((0 : Int) : Rat)], G.Sm 2200 q := fun q hq => by
    have e : q = ((0 : Int) : Rat) := by simpa using hq
    rw [e]
    exact sm_int (by decide) (by decide)
  have L0 := lcmF_pos [((0 : Int) : Rat), ((0 : Int) : Rat)]
  have L1 := over_bt (by simp) sz [((0 : Int) : Rat), ((0 : Int) : Rat)].length
  rw [List.take_length] at L1
  haveI : Bt (lcmF [((0 : Int) : Rat), ((0 : Int) : Rat)] : Int) 4500 := int_bt (by rw [Int.natAbs_natCast]; exact L1)
  have o1 := over_bits (sz _ (by simp : ((0 : Int) : Rat) ∈ _)) L1
  haveI := int_bt o1
  have o2 : ∀ m ∈ [((0 : Int) : Rat)].map (overQ (lcmF [((0 : Int) : Rat), ((0 : Int) : Rat)])), m.natAbs < 2 ^ 6700 := fun m hm => by
    have e : m = overQ (lcmF [((0 : Int) : Rat), ((0 : Int) : Rat)]) ((0 : Int) : Rat) := by simpa using hm
    rw [e]; exact o1
  have o4 : (0 : Int) < (lcmF [((0 : Int) : Rat), ((0 : Int) : Rat)] : Int) := by omega
  have o5 := sq_div (t := ((0 : Int) : Rat)) (ps := [((0 : Int) : Rat)]) L0 (lcmF_dvd (by simp)) fun q hq => lcmF_dvd (by simp at hq; simp [hq])
  refine mk_nw (ps := [.int 0, lsV PV.int [0]]) (dps := []) (fn_ns (k := 4) (N := ["self", "time", "place", "number"]) (pn := ["self", "time", "place"]) F ⟨rfl, rfl, rfl, by decide +kernel, rfl, by decide +kernel, by decide +kernel⟩ rfl (of_decide_eq_true rfl) rfl ?_) (GH.mk_Step (K := K) T) (GH.g_Step (K := K) T) (b3 F) dv_nil
  intro a dx cdv A outer s H E hr
  show BV _ _ [.own a (.obj _ dx [] []), .pv (.int 0), .pv (lsV PV.int [0]), .no] _
  refine bv_skip (tv_not (tv_val (ev_callA (hr.mono (show 2 ≤ _ by decide)) (av_cons (ev_var 1) av_nil) (is_ratio_i (K := K) T)))) (by first | rfl | (exact by first | (apply decide_eq_false; omega) | with_reducible rfl | (simp <;> omega) | (simp_all; done))) ?_
  refine bv_skip (tv_w (wv_or (tv_not (tv_val (ev_callA (hr.mono (show 3 ≤ _ by decide)) (av_cons (ev_var 2) av_nil) (are_ratios_i (K := K) T)))) fun h1 => (wv_or1 (tv_not (tv_val (ev_callA (hr.mono (show 3 ≤ _ by decide)) (av_cons (ev_lenM (GH.fr_len (K := K) T) (ev_var 2)) av_nil) (is_axes_i (K := K) T))))))) (by first | (apply decide_eq_false; omega) | with_reducible rfl | (simp <;> omega) | (simp_all; done)) ?_
  refine bv_newf (S' := [_, _, _, _]) 0 (GH.cl_Step (K := K) T) (GH.na_Step_time (K := K) T) (ev_smethA (hr.mono (show 4 ≤ _ by decide)) (av_cons (ev_var 1) av_nil) (rat_ofi (K := K) T)) ?_
  refine bv_newf (S' := [_, _, _, _]) 0 (GH.cl_Step (K := K) T) (GH.na_Step_place (K := K) T) (ev_tupleL (GH.fr_tuple (K := K) T) (ev_mapL (g := (ratV K)) (ev_lc (b := (fun it : Int => [(3, PV.int it)])) (own := [("number", 3)]) (.nm 3) hnd (iu_list (ev_var 2)) (by first | (simp <;> omega) | exact Int.mul_pos (q_dpos _) (q_dpos _) | exact q_dpos _ | with_reducible rfl | assumption | omega) (fun it h2 _ _ _ _ _ => (ev_smethA (hr.mono (show 4 ≤ _ by decide)) (av_cons (ev_var 3) av_nil) (rat_ofi (K := K) T))) (fun _ _ _ _ _ => (pg_name hnd rfl (by first | exact Or.inl rfl | exact Or.inr rfl)))))) ?_
  refine bv_newfX 0 (GH.cl_Step (K := K) T) (GH.na_Step_axes (K := K) T) (xw_borrow 0 rfl (ev_lenTM (GH.fr_len (K := K) T) (ev_at 1 (GH.cl_Step (K := K) T) (GH.na_Step_place (K := K) T) (ev_var 0))) ⟨rfl, ?_⟩)
  show BV _ _ [_, _, _, _] _
  refine bv_newf2 0 (GH.cl_Step (K := K) T) (GH.na_Step_numbers (K := K) T) (GH.na_Step_bottom (K := K) T) ((xw_borrowM (pr2 (lsV PV.int) PV.int) 0 rfl (ev_callA (hr.mono (show 1 ≤ _ by decide)) (av_cons (ev_lstStarM (f := (ratV K)) (ev_at 0 (GH.cl_Step (K := K) T) (GH.na_Step_time (K := K) T) (ev_var 0)) rfl (ev_at 1 (GH.cl_Step (K := K) T) (GH.na_Step_place (K := K) T) (ev_var 0)) (by first | (simp <;> omega) | exact Int.mul_pos (q_dpos _) (q_dpos _) | exact q_dpos _ | with_reducible rfl | assumption | omega)) av_nil) (over_ok (K := K) T)) ?_))
  refine ⟨rfl, _, _, rfl, ?_⟩
  show BV _ _ [_, _, _, _] _
  refine bv_newfX 0 (GH.cl_Step (K := K) T) (GH.na_Step_square (K := K) T) (xw_borrowM (ratV K) 0 rfl (ev_callA (hr.mono (show 3 ≤ _ by decide)) (av_cons (ev_at 3 (GH.cl_Step (K := K) T) (GH.na_Step_numbers (K := K) T) (ev_var 0)) (av_cons (ev_at 4 (GH.cl_Step (K := K) T) (GH.na_Step_bottom (K := K) T) (ev_var 0)) av_nil)) (square_ok (K := K) T)) ⟨rfl, ?_⟩)
  show BV _ _ [_, _, _, _] _
  refine bv_newfX 0 (GH.cl_Step (K := K) T) (GH.na_Step_kind (K := K) T) (xw_borrow 0 rfl (ev_callA (hr.mono (show 1 ≤ _ by decide)) (av_cons (ev_at 0 (GH.cl_Step (K := K) T) (GH.na_Step_time (K := K) T) (ev_var 0)) (av_cons (ev_at 5 (GH.cl_Step (K := K) T) (GH.na_Step_square (K := K) T) (ev_var 0)) av_nil)) (kind_ok (K := K) T)) ⟨rfl, ?_⟩)
  show BV _ _ [_, _, _, _] _
  refine bv_nil ?_
  rw [← o5]
  rfl

theorem ask_axes_1 (T : GH.Txt K mg)  : Fn P w K mg base "ask_axes" 4 [.int 1] (.non) := by
  obtain ⟨fd, F⟩ := GH.d_ask_axes T
  have hnd : (["value"] : List Str).Nodup := by decide +kernel
  refine mk_fn (fn_vs (k := 3) (N := ["value"]) (pn := ["value"]) (S0 := [.pv (.int 1)]) F ⟨rfl, rfl, rfl, by decide +kernel, rfl, by decide +kernel, by decide +kernel⟩ rfl rfl (of_decide_eq_true rfl) ?_) F (GH.g_ask_axes (K := K) T) (b1 F)
  intro cdv A outer s H E hr
  refine bv_skip (tv_not (tv_val (ev_callA (hr.mono (show 3 ≤ _ by decide)) (av_cons (ev_var 0) av_nil) (is_axes_i (K := K) T)))) (by first | (apply decide_eq_false; omega) | with_reducible rfl | (simp <;> omega) | (simp_all; done)) ?_
  refine bv_nil ?_
  first | rfl | (simp_all; done)

theorem nothing_ok (T : GH.Txt K mg)  : Sm P w K mg base "Step" "nothing" 7 [.int 1] (stepV K ⟨((0 : Int) : Rat), [((0 : Int) : Rat)]⟩) := by
  obtain ⟨fd, F⟩ := GH.d_Step_nothing T
  have hnd : (["axes"] : List Str).Nodup := by decide +kernel
  refine mk_sm (fn_vs (k := 6) (N := ["axes"]) (pn := ["axes"]) (S0 := [.pv (.int 1)]) F ⟨rfl, rfl, rfl, by decide +kernel, rfl, by decide +kernel, by decide +kernel⟩ rfl rfl (of_decide_eq_true rfl) ?_) (GH.g_Step (K := K) T) (GH.sm_Step_nothing (K := K) T) (b1 F)
  intro cdv A outer s H E hr
  refine bv_expr (xw_ev (ev_callA (hr.mono (show 4 ≤ _ by decide)) (av_cons (ev_var 0) av_nil) (ask_axes_1 (K := K) T)) ?_)
  refine bv_retE (EV.as (ev_newA (hr.mono (show 6 ≤ _ by decide)) (av_cons ev_int (av_cons (ev_rep1 (ev_lstM PV.int (am_cons ev_int am_nil)) (ev_var 0)) av_nil)) (nw_StepI (K := K) T)) (show _ = stepV K ⟨((0 : Int) : Rat), [((0 : Int) : Rat)]⟩ from rfl)) ?_
  rfl
end
end E
set_option maxHeartbeats 4000000
/-! ETour: the mathematics of tours: lights, spots, ages, news. A part is (ratio, beats). -/
namespace G
def sumR : List Rat → Rat
  | [] => 0
  | q :: qs => q + sumR qs
theorem sumR_app : ∀ (as bs : List Rat), sumR (as ++ bs) = sumR as + sumR bs
  | [], bs => by show sumR bs = 0 + sumR bs; grind
  | a :: as, bs => by
    show a + sumR (as ++ bs) = a + sumR as + sumR bs
    rw [sumR_app as bs]
    grind
theorem sumR_sm {n : Nat} : ∀ {qs : List Rat}, (∀ q ∈ qs, Sm n q) → Sm (1 + qs.length * (n + 1)) (sumR qs)
  | [], _ => ⟨by show (0 : Nat) < _; exact Nat.two_pow_pos _, by show (1 : Nat) < _; exact Nat.one_lt_two_pow (by simp)⟩
  | q :: qs, h => by
    have h1 := h q (by simp)
    have h2 := sumR_sm fun x hx => h x (List.mem_cons_of_mem _ hx)
    refine (sm_add h1 h2).mono ?_
    rw [List.length_cons, Nat.add_mul]
    omega
def halfQ : Rat := Rat.divInt 1 2
theorem half2 : halfQ + halfQ = 1 := by decide +kernel
def SoL (R L : Rat) : StepV := ⟨(L + R) * halfQ, [(L - R) * halfQ]⟩
theorem add_SoL (R L R' L' : Rat) : addS (SoL R L) (SoL R' L') = SoL (R + R') (L + L') := by
  unfold addS SoL
  show StepV.mk ((L + R) * halfQ + (L' + R') * halfQ) [(L - R) * halfQ + (L' - R') * halfQ] = _
  have e1 : (L + R) * halfQ + (L' + R') * halfQ = (L + L' + (R + R')) * halfQ := by grind
  have e2 : (L - R) * halfQ + (L' - R') * halfQ = (L + L' - (R + R')) * halfQ := by grind
  rw [e1, e2]
theorem sub_SoL (R L R' L' : Rat) : subS (SoL R L) (SoL R' L') = SoL (R - R') (L - L') := by
  unfold subS SoL
  show StepV.mk ((L + R) * halfQ - (L' + R') * halfQ) [(L - R) * halfQ - (L' - R') * halfQ] = _
  have e1 : (L + R) * halfQ - (L' + R') * halfQ = (L - L' + (R - R')) * halfQ := by grind
  have e2 : (L - R) * halfQ - (L' - R') * halfQ = (L - L' - (R - R')) * halfQ := by grind
  rw [e1, e2]
theorem sq_SoL (R L : Rat) : sqQ (SoL R L).t (SoL R L).ps = R * L := by
  show (L + R) * halfQ * ((L + R) * halfQ) - ((L - R) * halfQ * ((L - R) * halfQ) + 0) = R * L
  have h := half2
  grind
theorem right_SoL (R L : Rat) : (L + R) * halfQ - (L - R) * halfQ = R := by
  have h := half2
  grind
theorem left_SoL (R L : Rat) : (L + R) * halfQ + (L - R) * halfQ = L := by
  have h := half2
  grind
theorem SoL_inj {R L R' L' : Rat} (h : SoL R L = SoL R' L') : R = R' ∧ L = L' := by
  unfold SoL at h
  injection h with h1 h2
  injection h2 with h2 _
  exact ⟨by rw [← right_SoL R L, ← right_SoL R' L', h1, h2], by rw [← left_SoL R L, ← left_SoL R' L', h1, h2]⟩
theorem kind_SoL {R L : Rat} (h1 : 0 < R) (h2 : 0 < L) : kindQ (SoL R L).t (sqQ (SoL R L).t (SoL R L).ps) = "forward" := by
  refine kind_fwd ⟨?_, ?_, ?_⟩
  · show 0 < (L + R) * halfQ
    refine Rat.mul_pos (by grind) (by decide +kernel)
  · rw [sq_SoL]
    exact Rat.le_of_lt (Rat.mul_pos h1 h2)
  · show 1 ≤ 3
    decide
abbrev Prt := Rat × Rat
def ageQ (ps : List Prt) : Rat := sumR (ps.map fun x => x.2)
def lR (ps : List Prt) : Rat := sumR (ps.map fun x => x.2 / x.1)
def lL (ps : List Prt) : Rat := sumR (ps.map fun x => x.2 * x.1)
def spQ (ps : List Prt) : StepV := SoL (lR ps) (lL ps)
def spTl (ps : List Prt) : List StepV := (List.range ps.length).map fun i => spQ (ps.take (i + 1))
def spotsL (ps : List Prt) : List StepV := spQ [] :: spTl ps
theorem ageQ_app (as bs : List Prt) : ageQ (as ++ bs) = ageQ as + ageQ bs := by unfold ageQ; rw [List.map_append, sumR_app]
theorem lR_app (as bs : List Prt) : lR (as ++ bs) = lR as + lR bs := by unfold lR; rw [List.map_append, sumR_app]
theorem lL_app (as bs : List Prt) : lL (as ++ bs) = lL as + lL bs := by unfold lL; rw [List.map_append, sumR_app]
theorem ageQ_one (p : Prt) : ageQ [p] = p.2 := by show p.2 + 0 = p.2; grind
theorem lR_one (p : Prt) : lR [p] = p.2 / p.1 := by show p.2 / p.1 + 0 = _; grind
theorem lL_one (p : Prt) : lL [p] = p.2 * p.1 := by show p.2 * p.1 + 0 = _; grind
theorem spQ_nil : spQ [] = ⟨((0 : Int) : Rat), [((0 : Int) : Rat)]⟩ := by decide +kernel
theorem sp_next (ps : List Prt) (p : Prt) : addS (spQ ps) (SoL (p.2 / p.1) (p.2 * p.1)) = spQ (ps ++ [p]) := by
  unfold spQ
  rw [add_SoL, lR_app, lL_app, lR_one, lL_one]
theorem spots_get {ps : List Prt} {i : Nat} (h : i ≤ ps.length) : (spotsL ps)[i]? = some (spQ (ps.take i)) := by
  cases i with
  | zero => rfl
  | succ i =>
    show (spTl ps)[i]? = _
    unfold spTl
    rw [List.getElem?_map, List.getElem?_range (by omega)]
    rfl
theorem spots_len (ps : List Prt) : (spotsL ps).length = ps.length + 1 := by
  show (spTl ps).length + 1 = _
  unfold spTl
  rw [List.length_map, List.length_range]
structure PsOk (ps : List Prt) : Prop where
  l1 : 1 ≤ ps.length
  l2 : ps.length ≤ 12
  p1 : ∀ p ∈ ps, 0 < p.1
  p2 : ∀ p ∈ ps, 0 < p.2
  s1 : ∀ p ∈ ps, Sm 14 p.1
  s2 : ∀ p ∈ ps, Sm 5 p.2
theorem num_posQ {q : Rat} (h0 : 0 < q) : 0 < q.num := by
  have := (Rat.lt_iff 0 q).mp h0
  simpa using this
theorem sm_inv {n : Nat} {q : Rat} (h : Sm n q) (h0 : 0 < q) : Sm n q⁻¹ := by
  have hn : 0 < q.num := num_posQ h0
  refine ⟨?_, ?_⟩
  · rw [Rat.num_inv, Int.sign_eq_one_of_pos hn, Int.one_mul, Int.natAbs_natCast]
    exact h.2
  · rw [Rat.den_inv, if_neg (by omega)]
    exact h.1
theorem sm_quot {n m : Nat} {a b : Rat} (h1 : Sm n a) (h2 : Sm m b) (h0 : 0 < b) : Sm (n + m) (a / b) := by
  rw [Rat.div_def]
  exact sm_mul h1 (sm_inv h2 h0)
theorem sum_take {f : Prt → Rat} {n : Nat} {ps : List Prt} (hl : ps.length ≤ 12) (h : ∀ p ∈ ps, Sm n (f p)) : Sm (1 + 12 * (n + 1)) (sumR (ps.map f)) := by
  refine (sumR_sm (n := n) fun q hq => ?_).mono ?_
  · obtain ⟨p, hp, rfl⟩ := List.mem_map.mp hq
    exact h p hp
  · rw [List.length_map]
    have := Nat.mul_le_mul_right (n + 1) hl
    omega
theorem PsOk.sR {ps : List Prt} (h : PsOk ps) (i : Nat) : Sm 241 (lR (ps.take i)) :=
  sum_take (n := 19) (by rw [List.length_take]; have := h.l2; omega) fun p hp => sm_quot (h.s2 p (List.mem_of_mem_take hp)) (h.s1 p (List.mem_of_mem_take hp)) (h.p1 p (List.mem_of_mem_take hp))
theorem PsOk.sL {ps : List Prt} (h : PsOk ps) (i : Nat) : Sm 241 (lL (ps.take i)) :=
  sum_take (n := 19) (by rw [List.length_take]; have := h.l2; omega) fun p hp => sm_mul (h.s2 p (List.mem_of_mem_take hp)) (h.s1 p (List.mem_of_mem_take hp))
theorem PsOk.sA {ps : List Prt} (h : PsOk ps) (i : Nat) : Sm 73 (ageQ (ps.take i)) :=
  sum_take (n := 5) (by rw [List.length_take]; have := h.l2; omega) fun p hp => h.s2 p (List.mem_of_mem_take hp)
theorem SoL_sm {n : Nat} {R L : Rat} (h1 : Sm n R) (h2 : Sm n L) : SmS (2 * n + 3) (SoL R L) := by
  have hh : Sm 2 halfQ := ⟨by decide +kernel, by decide +kernel⟩
  refine ⟨(sm_mul (sm_add h2 h1) hh).mono (by omega), fun q hq => ?_⟩
  rw [List.mem_singleton.mp hq]
  exact (sm_mul (sm_sub h2 h1) hh).mono (by omega)
theorem PsOk.sS {ps : List Prt} (h : PsOk ps) (i : Nat) : SmS 485 (spQ (ps.take i)) := SoL_sm (h.sR i) (h.sL i)
theorem take_full (ps : List Prt) : ps.take ps.length = ps := List.take_length
theorem sumR_nn : ∀ {qs : List Rat}, (∀ q ∈ qs, 0 ≤ q) → 0 ≤ sumR qs
  | [], _ => Rat.le_refl
  | q :: qs, h => by
    have h1 := h q (by simp)
    have h2 := sumR_nn fun x hx => h x (List.mem_cons_of_mem _ hx)
    show 0 ≤ q + sumR qs
    grind
/-! ### where a tour is at an age -/
def curve : List Prt → Rat → Rat × Rat
  | [], _ => (0, 0)
  | p :: ps, x => if p.2 < x then (p.2 / p.1 + (curve ps (x - p.2)).1, p.2 * p.1 + (curve ps (x - p.2)).2) else (x / p.1, x * p.1)
theorem ageQ_cons (p : Prt) (ps : List Prt) : ageQ (p :: ps) = p.2 + ageQ ps := rfl
theorem lR_cons (p : Prt) (ps : List Prt) : lR (p :: ps) = p.2 / p.1 + lR ps := rfl
theorem lL_cons (p : Prt) (ps : List Prt) : lL (p :: ps) = p.2 * p.1 + lL ps := rfl
theorem ageQ_nn {ps : List Prt} (h : ∀ p ∈ ps, 0 < p.2) : 0 ≤ ageQ ps := sumR_nn fun q hq => by
  obtain ⟨p, hp, rfl⟩ := List.mem_map.mp hq
  exact Rat.le_of_lt (h p hp)
theorem curve_take {ps : List Prt} {x : Rat} {i : Nat} (hi : i < ps.length) (c : curve ps x = (lR (ps.take i) + (curve (ps.drop i) (x - ageQ (ps.take i))).1, lL (ps.take i) + (curve (ps.drop i) (x - ageQ (ps.take i))).2)) (h : ps[i].2 < x - ageQ (ps.take i)) :
    curve ps x = (lR (ps.take (i + 1)) + (curve (ps.drop (i + 1)) (x - ageQ (ps.take (i + 1)))).1, lL (ps.take (i + 1)) + (curve (ps.drop (i + 1)) (x - ageQ (ps.take (i + 1)))).2) := by
  have e : ps.take (i + 1) = ps.take i ++ [ps[i]] := take_next (List.getElem?_eq_getElem hi)
  rw [c, e, ageQ_app, lR_app, lL_app, ageQ_one, lR_one, lL_one, List.drop_eq_getElem_cons hi]
  show ((lR (ps.take i) + (if ps[i].2 < _ then _ else _ : Rat × Rat).1), _ + (if ps[i].2 < _ then _ else _ : Rat × Rat).2) = _
  rw [if_pos h]
  have e2 : x - (ageQ (ps.take i) + ps[i].2) = x - ageQ (ps.take i) - ps[i].2 := by grind
  rw [e2]
  ext <;> dsimp only <;> grind
theorem curve_stop {ps : List Prt} {x : Rat} {i : Nat} (hi : i < ps.length) (c : curve ps x = (lR (ps.take i) + (curve (ps.drop i) (x - ageQ (ps.take i))).1, lL (ps.take i) + (curve (ps.drop i) (x - ageQ (ps.take i))).2)) (h : ¬ ps[i].2 < x - ageQ (ps.take i)) :
    curve ps x = (lR (ps.take i) + (x - ageQ (ps.take i)) / ps[i].1, lL (ps.take i) + (x - ageQ (ps.take i)) * ps[i].1) := by
  rw [c, List.drop_eq_getElem_cons hi]
  show ((lR (ps.take i) + (if ps[i].2 < _ then _ else _ : Rat × Rat).1), _ + (if ps[i].2 < _ then _ else _ : Rat × Rat).2) = _
  rw [if_neg h]
theorem room_next {ps : List Prt} {x : Rat} {i : Nat} (hi : i < ps.length) (p2 : ∀ p ∈ ps, 0 < p.2) (c : x - ageQ (ps.take i) ≤ ageQ (ps.drop i)) (h : ps[i].2 < x - ageQ (ps.take i)) : i + 1 < ps.length ∧ x - ageQ (ps.take (i + 1)) ≤ ageQ (ps.drop (i + 1)) := by
  have e : ps.take (i + 1) = ps.take i ++ [ps[i]] := take_next (List.getElem?_eq_getElem hi)
  rw [List.drop_eq_getElem_cons hi, ageQ_cons] at c
  have c2 : x - ageQ (ps.take (i + 1)) ≤ ageQ (ps.drop (i + 1)) := by
    rw [e, ageQ_app, ageQ_one]
    grind
  refine ⟨?_, c2⟩
  apply Classical.byContradiction
  intro z
  have e0 : ps.drop (i + 1) = [] := List.drop_eq_nil_iff.mpr (by omega)
  rw [e0] at c
  have : ageQ [] = 0 := rfl
  grind
theorem curve_sm {ps : List Prt} (h : PsOk ps) {x : Rat} {i : Nat} (hi : i < ps.length) (hx : Sm 600 x) (h0 : 0 ≤ x - ageQ (ps.take i)) : Sm 688 ((x - ageQ (ps.take i)) / ps[i].1) ∧ Sm 688 ((x - ageQ (ps.take i)) * ps[i].1) := by
  have m : ps[i] ∈ ps := List.getElem_mem hi
  have h1 := sm_sub hx (h.sA i)
  exact ⟨(sm_quot h1 (h.s1 _ m) (h.p1 _ m)).mono (by decide), (sm_mul h1 (h.s1 _ m)).mono (by decide)⟩
/-- at a part's share -/
theorem curve_at : ∀ (ps : List Prt) (i : Nat) (x : Rat) (hi : i < ps.length), (∀ p ∈ ps, 0 < p.1 ∧ 0 < p.2) → 0 ≤ x → x ≤ ps[i].2 → curve ps (ageQ (ps.take i) + x) = (lR (ps.take i) + x / ps[i].1, lL (ps.take i) + x * ps[i].1)
  | [], i, x, hi, _, _, _ => absurd hi (by simp)
  | p :: ps, 0, x, hi, hp, h0, h1 => by
    have e : ageQ ((p :: ps).take 0) + x = x := by show 0 + x = x; grind
    rw [e]
    show (if p.2 < x then _ else _) = _
    rw [if_neg (by have : x ≤ p.2 := h1; grind)]
    show (x / p.1, x * p.1) = (0 + x / p.1, 0 + x * p.1)
    ext <;> dsimp only <;> grind
  | p :: ps, i + 1, x, hi, hp, h0, h1 => by
    have hi2 : i < ps.length := by simpa using hi
    have ih := curve_at ps i x hi2 (fun q hq => hp q (List.mem_cons_of_mem _ hq)) h0 h1
    have nn : 0 ≤ ageQ (ps.take i) := ageQ_nn fun q hq => (hp q (List.mem_cons_of_mem _ (List.mem_of_mem_take hq))).2
    have pp := hp p (by simp)
    have e : ageQ ((p :: ps).take (i + 1)) + x = p.2 + (ageQ (ps.take i) + x) := by
      show p.2 + ageQ (ps.take i) + x = _
      grind
    have e1 : lR ((p :: ps).take (i + 1)) = p.2 / p.1 + lR (ps.take i) := rfl
    have e2 : lL ((p :: ps).take (i + 1)) = p.2 * p.1 + lL (ps.take i) := rfl
    rw [e, e1, e2]
    show (if p.2 < _ then _ else _) = _
    have e3 : p.2 + (ageQ (ps.take i) + x) - p.2 = ageQ (ps.take i) + x := by grind
    by_cases z : ageQ (ps.take i) + x = 0
    · have ex : x = 0 := by grind
      have ea : ageQ (ps.take i) = 0 := by grind
      have et : ps.take i = [] := by
        cases hq : ps.take i with
        | nil => rfl
        | cons q qs =>
          rw [hq] at ea
          have h2 : q ∈ ps.take i := by rw [hq]; simp
          have h3 := (hp q (List.mem_cons_of_mem _ (List.mem_of_mem_take h2))).2
          have h4 : 0 ≤ ageQ qs := ageQ_nn fun r hr => (hp r (List.mem_cons_of_mem _ (List.mem_of_mem_take (by rw [hq]; exact List.mem_cons_of_mem _ hr)))).2
          rw [ageQ_cons] at ea
          grind
      rw [z, if_neg (by grind), et, ex]
      show _ = (p.2 / p.1 + 0 + 0 / ((p :: ps)[i + 1]).1, p.2 * p.1 + 0 + 0 * _)
      have e4 : (0 : Rat) / ((p :: ps)[i + 1]).1 = 0 := by rw [Rat.div_def, Rat.zero_mul]
      rw [e4]
      ext <;> dsimp only <;> grind
    · rw [if_pos (by grind), e3, ih]
      show (p.2 / p.1 + (lR (ps.take i) + x / ps[i].1), p.2 * p.1 + (lL (ps.take i) + x * ps[i].1)) = (_ + x / ps[i].1, _ + x * ps[i].1)
      ext <;> dsimp only <;> grind
theorem curve_0 {ps : List Prt} (h : PsOk ps) : curve ps 0 = (0, 0) := by
  have l := h.l1
  cases ps with
  | nil => rfl
  | cons p ps =>
    have := h.p2 p (by simp)
    show (if p.2 < 0 then _ else _) = _
    rw [if_neg (by grind)]
    show ((0 : Rat) / p.1, 0 * p.1) = _
    rw [Rat.div_def, Rat.zero_mul, Rat.zero_mul]
theorem curve_all {ps : List Prt} (h : PsOk ps) : curve ps (ageQ ps) = (lR ps, lL ps) := by
  have l := h.l1
  have hi : ps.length - 1 < ps.length := by omega
  have m : ps[ps.length - 1] ∈ ps := List.getElem_mem hi
  have e : ps = ps.take (ps.length - 1) ++ [ps[ps.length - 1]] := by
    have := take_next (List.getElem?_eq_getElem hi)
    rw [show ps.length - 1 + 1 = ps.length from by omega, List.take_length] at this
    exact this
  have c := curve_at ps (ps.length - 1) (ps[ps.length - 1].2) hi (fun p hp => ⟨h.p1 p hp, h.p2 p hp⟩) (Rat.le_of_lt (h.p2 _ m)) Rat.le_refl
  have ea : ageQ ps = ageQ (ps.take (ps.length - 1)) + ps[ps.length - 1].2 := by
    conv => lhs; rw [e]
    rw [ageQ_app, ageQ_one]
  have er : lR ps = lR (ps.take (ps.length - 1)) + ps[ps.length - 1].2 / ps[ps.length - 1].1 := by
    conv => lhs; rw [e]
    rw [lR_app, lR_one]
  have el : lL ps = lL (ps.take (ps.length - 1)) + ps[ps.length - 1].2 * ps[ps.length - 1].1 := by
    conv => lhs; rw [e]
    rw [lL_app, lL_one]
  rw [ea, c, ← er, ← el]
/-! ### when news is there -/
theorem inv_pos' {r : Rat} (h : 0 < r) : 0 < r⁻¹ := by
  have h1 : r * r⁻¹ = 1 := Rat.mul_inv_cancel r (by grind)
  apply Classical.byContradiction
  intro z
  have h2 : 0 ≤ -r⁻¹ := by grind
  have h3 := Rat.mul_nonneg (Rat.le_of_lt h) h2
  grind
theorem div_le' {x y r : Rat} (h : 0 < r) (h1 : x ≤ y) : x / r ≤ y / r := by
  rw [Rat.div_def, Rat.div_def]
  have := Rat.mul_nonneg (a := y - x) (b := r⁻¹) (by grind) (Rat.le_of_lt (inv_pos' h))
  grind
theorem mul_le' {x y r : Rat} (h : 0 < r) (h1 : x ≤ y) : x * r ≤ y * r := by
  have := Rat.mul_nonneg (a := y - x) (b := r) (by grind) (Rat.le_of_lt h)
  grind
theorem div_nn {x r : Rat} (h : 0 < r) (h1 : 0 ≤ x) : 0 ≤ x / r := by
  rw [Rat.div_def]
  exact Rat.mul_nonneg h1 (Rat.le_of_lt (inv_pos' h))
theorem div_posQ {x r : Rat} (h : 0 < r) (h1 : 0 < x) : 0 < x / r := by
  rw [Rat.div_def]
  exact Rat.mul_pos h1 (inv_pos' h)
theorem div_mulQ {x r : Rat} (h : 0 < r) : x / r * r = x := by
  rw [Rat.div_def]
  have h1 : r * r⁻¹ = 1 := Rat.mul_inv_cancel r (by grind)
  grind
theorem curve_nn : ∀ (ps : List Prt) (x : Rat), (∀ p ∈ ps, 0 < p.1 ∧ 0 < p.2) → 0 ≤ x → 0 ≤ (curve ps x).1 ∧ 0 ≤ (curve ps x).2
  | [], _, _, _ => ⟨Rat.le_refl, Rat.le_refl⟩
  | p :: ps, x, h, h0 => by
    have pp := h p (by simp)
    by_cases z : p.2 < x
    · have ih := curve_nn ps (x - p.2) (fun q hq => h q (List.mem_cons_of_mem _ hq)) (by grind)
      have d := div_nn pp.1 (Rat.le_of_lt pp.2)
      have m := Rat.mul_nonneg (Rat.le_of_lt pp.2) (Rat.le_of_lt pp.1)
      unfold curve
      rw [if_pos z]
      exact ⟨by dsimp only; grind, by dsimp only; grind⟩
    · unfold curve
      rw [if_neg z]
      exact ⟨div_nn pp.1 h0, Rat.mul_nonneg h0 (Rat.le_of_lt pp.1)⟩
theorem curve_mono : ∀ (ps : List Prt) (x y : Rat), (∀ p ∈ ps, 0 < p.1 ∧ 0 < p.2) → 0 ≤ x → x ≤ y → (curve ps x).1 ≤ (curve ps y).1 ∧ (curve ps x).2 ≤ (curve ps y).2
  | [], _, _, _, _, _ => ⟨Rat.le_refl, Rat.le_refl⟩
  | p :: ps, x, y, h, h0, h1 => by
    have pp := h p (by simp)
    have hh := fun q hq => h q (List.mem_cons_of_mem p hq)
    unfold curve
    by_cases z : p.2 < x
    · rw [if_pos z, if_pos (by grind)]
      have ih := curve_mono ps (x - p.2) (y - p.2) hh (by grind) (by grind)
      exact ⟨by dsimp only; grind, by dsimp only; grind⟩
    · rw [if_neg z]
      by_cases z2 : p.2 < y
      · rw [if_pos z2]
        have nn := curve_nn ps (y - p.2) hh (by grind)
        have d := div_le' pp.1 (show x ≤ p.2 by grind)
        have m := mul_le' pp.1 (show x ≤ p.2 by grind)
        exact ⟨by dsimp only; grind, by dsimp only; grind⟩
      · rw [if_neg z2]
        exact ⟨div_le' pp.1 h1, mul_le' pp.1 h1⟩
def wQ (sd : Int) (p : Prt) : Rat := if sd = 1 then p.2 * p.1 else p.2 / p.1
def lQ (sd : Int) (ps : List Prt) : Rat := if sd = 1 then lL ps else lR ps
def cQ (sd : Int) (c : Rat × Rat) : Rat := if sd = 1 then c.2 else c.1
theorem lQ_cons (sd : Int) (p : Prt) (ps : List Prt) : lQ sd (p :: ps) = wQ sd p + lQ sd ps := by
  unfold lQ wQ
  split <;> rfl
theorem lQ_snoc (sd : Int) (p : Prt) (ps : List Prt) : lQ sd (ps ++ [p]) = lQ sd ps + wQ sd p := by
  unfold lQ wQ
  split
  · rw [lL_app, lL_one]
  · rw [lR_app, lR_one]
theorem wQ_pos {sd : Int} {p : Prt} (h : 0 < p.1 ∧ 0 < p.2) : 0 < wQ sd p := by
  unfold wQ
  split
  · exact Rat.mul_pos h.2 h.1
  · exact div_posQ h.1 h.2
theorem lQ_nn {sd : Int} : ∀ {ps : List Prt}, (∀ p ∈ ps, 0 < p.1 ∧ 0 < p.2) → 0 ≤ lQ sd ps
  | [], _ => by unfold lQ; split <;> exact Rat.le_refl
  | p :: ps, h => by
    rw [lQ_cons]
    have h1 := wQ_pos (sd := sd) (h p (by simp))
    have h2 := lQ_nn (sd := sd) fun q hq => h q (List.mem_cons_of_mem p hq)
    grind
def past (sd : Int) : List Prt → Rat → Option Rat
  | [], _ => none
  | p :: ps, x => if wQ sd p < x then (past sd ps (x - wQ sd p)).map fun a => p.2 + a else some (p.2 * (x / wQ sd p))
def ageF (sd : Int) (ps : List Prt) (x : Rat) : Option Rat := if x ≤ 0 then some 0 else past sd ps x
theorem past_take {sd : Int} {ps : List Prt} {x : Rat} {i : Nat} (hi : i < ps.length) (c : past sd ps x = (past sd (ps.drop i) (x - lQ sd (ps.take i))).map fun a => ageQ (ps.take i) + a) (h : lQ sd (ps.take (i + 1)) < x) :
    past sd ps x = (past sd (ps.drop (i + 1)) (x - lQ sd (ps.take (i + 1)))).map fun a => ageQ (ps.take (i + 1)) + a := by
  have e : ps.take (i + 1) = ps.take i ++ [ps[i]] := take_next (List.getElem?_eq_getElem hi)
  rw [e, lQ_snoc] at h
  rw [c, e, ageQ_app, lQ_snoc, ageQ_one, List.drop_eq_getElem_cons hi]
  show Option.map _ (if wQ sd ps[i] < _ then _ else _) = _
  rw [if_pos (by grind), Option.map_map, show x - (lQ sd (ps.take i) + wQ sd ps[i]) = x - lQ sd (ps.take i) - wQ sd ps[i] from by grind]
  congr 1
  funext a
  show ageQ (ps.take i) + (ps[i].2 + a) = _
  grind
theorem past_stop {sd : Int} {ps : List Prt} {x : Rat} {i : Nat} (hi : i < ps.length) (c : past sd ps x = (past sd (ps.drop i) (x - lQ sd (ps.take i))).map fun a => ageQ (ps.take i) + a) (h : ¬ lQ sd (ps.take (i + 1)) < x) :
    past sd ps x = some (ageQ (ps.take i) + ps[i].2 * ((x - lQ sd (ps.take i)) / (lQ sd (ps.take (i + 1)) - lQ sd (ps.take i)))) := by
  have e : ps.take (i + 1) = ps.take i ++ [ps[i]] := take_next (List.getElem?_eq_getElem hi)
  rw [e, lQ_snoc] at h
  rw [c, e, lQ_snoc, List.drop_eq_getElem_cons hi, show lQ sd (ps.take i) + wQ sd ps[i] - lQ sd (ps.take i) = wQ sd ps[i] from by grind]
  show Option.map _ (if wQ sd ps[i] < _ then _ else _) = _
  rw [if_neg (by grind)]
  rfl
theorem past_0 (sd : Int) (ps : List Prt) (x : Rat) : past sd ps x = (past sd (ps.drop 0) (x - lQ sd (ps.take 0))).map fun a => ageQ (ps.take 0) + a := by
  have e1 : lQ sd (ps.take 0) = 0 := by unfold lQ; split <;> rfl
  have e2 : ageQ (ps.take 0) = 0 := rfl
  rw [e1, e2, show x - 0 = x from by grind, List.drop_zero]
  cases past sd ps x with
  | none => rfl
  | some a => show some a = some (0 + a); congr 1; grind
theorem past_none {sd : Int} : ∀ {ps : List Prt} {x : Rat}, (∀ p ∈ ps, 0 < p.1 ∧ 0 < p.2) → 0 < x → (past sd ps x = none ↔ lQ sd ps < x)
  | [], x, _, h0 => by
    have e1 : lQ sd [] = 0 := by unfold lQ; split <;> rfl
    rw [e1]
    exact ⟨fun _ => h0, fun _ => rfl⟩
  | p :: ps, x, h, h0 => by
    have hh := fun q hq => h q (List.mem_cons_of_mem p hq)
    have w := wQ_pos (sd := sd) (h p (by simp))
    have nn := lQ_nn (sd := sd) hh
    rw [lQ_cons]
    unfold past
    by_cases z : wQ sd p < x
    · rw [if_pos z, Option.map_eq_none_iff, past_none hh (by grind)]
      constructor <;> intro q <;> grind
    · rw [if_neg z]
      constructor
      · intro q; cases q
      · intro q; exfalso; grind
theorem ageF_none {sd : Int} {ps : List Prt} {x : Rat} (h : ∀ p ∈ ps, 0 < p.1 ∧ 0 < p.2) : ageF sd ps x = none ↔ lQ sd ps < x := by
  have nn := lQ_nn (sd := sd) h
  unfold ageF
  by_cases z : x ≤ 0
  · rw [if_pos z]
    constructor
    · intro q; cases q
    · intro q; exfalso; grind
  · rw [if_neg z]
    exact past_none h (by grind)
theorem past_some {sd : Int} : ∀ {ps : List Prt} {x a : Rat}, (∀ p ∈ ps, 0 < p.1 ∧ 0 < p.2) → 0 < x → past sd ps x = some a → 0 < a ∧ a ≤ ageQ ps ∧ cQ sd (curve ps a) = x
  | [], _, _, _, _, q => nomatch q
  | p :: ps, x, a, h, h0, q => by
    have hh := fun q hq => h q (List.mem_cons_of_mem p hq)
    have pp := h p (by simp)
    have w := wQ_pos (sd := sd) pp
    have nn : 0 ≤ ageQ ps := ageQ_nn fun q hq => (hh q hq).2
    unfold past at q
    by_cases z : wQ sd p < x
    · rw [if_pos z] at q
      obtain ⟨b, hb, e⟩ := Option.map_eq_some_iff.mp q
      obtain ⟨b0, b1, b2⟩ := past_some hh (by grind) hb
      subst e
      refine ⟨by grind, by rw [ageQ_cons]; grind, ?_⟩
      unfold curve
      rw [if_pos (by grind), show p.2 + b - p.2 = b from by grind]
      unfold cQ at *
      unfold wQ at *
      split <;> rename_i sd1
      · rw [if_pos sd1] at b2
        rw [if_pos sd1] at b2
        dsimp only
        grind
      · rw [if_neg sd1] at b2
        rw [if_neg sd1] at b2
        dsimp only
        grind
    · rw [if_neg z] at q
      injection q with e
      have d0 := div_posQ w h0
      have d1 := div_mulQ (x := x) w
      have a0 : 0 < a := by rw [← e]; exact Rat.mul_pos pp.2 d0
      have q1 : x / wQ sd p ≤ 1 := by
        have := div_le' w (show x ≤ wQ sd p by grind)
        have e1 : wQ sd p / wQ sd p = 1 := by rw [Rat.div_def]; exact Rat.mul_inv_cancel _ (by grind)
        grind
      have a1 : a ≤ p.2 := by
        rw [← e]
        have := Rat.mul_nonneg (a := p.2) (b := 1 - x / wQ sd p) (Rat.le_of_lt pp.2) (by grind)
        grind
      refine ⟨a0, by rw [ageQ_cons]; grind, ?_⟩
      unfold curve
      rw [if_neg (by grind)]
      unfold cQ
      unfold wQ at *
      split <;> rename_i sd1
      · rw [if_pos sd1] at *
        dsimp only
        rw [← e]
        grind
      · rw [if_neg sd1] at *
        dsimp only
        rw [← e, Rat.div_def]
        have : p.2 / p.1 = p.2 * p.1⁻¹ := Rat.div_def ..
        grind
theorem ageF_some {sd : Int} {ps : List Prt} {x a : Rat} (h : PsOk ps) (q : ageF sd ps x = some a) : 0 ≤ a ∧ a ≤ ageQ ps ∧ x ≤ cQ sd (curve ps a) ∧ (0 < x → 0 < a ∧ cQ sd (curve ps a) = x) ∧ (x ≤ 0 → a = 0) := by
  have hh : ∀ p ∈ ps, 0 < p.1 ∧ 0 < p.2 := fun p hp => ⟨h.p1 p hp, h.p2 p hp⟩
  unfold ageF at q
  by_cases z : x ≤ 0
  · rw [if_pos z] at q
    injection q with e
    subst e
    refine ⟨Rat.le_refl, ageQ_nn h.p2, ?_, fun k => by grind, fun _ => rfl⟩
    rw [curve_0 h]
    unfold cQ
    split <;> exact z
  · rw [if_neg z] at q
    obtain ⟨a0, a1, a2⟩ := past_some hh (by grind) q
    exact ⟨Rat.le_of_lt a0, a1, by rw [a2]; exact Rat.le_refl, fun _ => ⟨a0, a2⟩, fun k => by grind⟩
theorem past_form {sd : Int} : ∀ {ps : List Prt} {x a : Rat}, past sd ps x = some a → ∃ (i : Nat) (hi : i < ps.length), a = ageQ (ps.take i) + ps[i].2 * ((x - lQ sd (ps.take i)) / wQ sd ps[i])
  | [], _, _, q => nomatch q
  | p :: ps, x, a, q => by
    unfold past at q
    by_cases z : wQ sd p < x
    · rw [if_pos z] at q
      obtain ⟨b, hb, e⟩ := Option.map_eq_some_iff.mp q
      obtain ⟨i, hi, e2⟩ := past_form hb
      refine ⟨i + 1, by simpa using hi, ?_⟩
      rw [← e, e2]
      show p.2 + (ageQ (ps.take i) + ps[i].2 * ((x - wQ sd p - lQ sd (ps.take i)) / wQ sd ps[i])) = ageQ (p :: ps.take i) + ps[i].2 * ((x - lQ sd (p :: ps.take i)) / wQ sd ps[i])
      rw [lQ_cons, ageQ_cons, show x - (wQ sd p + lQ sd (ps.take i)) = x - wQ sd p - lQ sd (ps.take i) from by grind]
      grind
    · rw [if_neg z] at q
      injection q with e
      refine ⟨0, by simp, ?_⟩
      have e1 : lQ sd ((p :: ps).take 0) = 0 := by unfold lQ; split <;> rfl
      have e2 : ageQ ((p :: ps).take 0) = 0 := rfl
      rw [e1, e2, ← e]
      show p.2 * (x / wQ sd p) = 0 + p.2 * ((x - 0) / wQ sd p)
      rw [show x - 0 = x from by grind]
      grind
theorem lQ_sm {sd : Int} {ps : List Prt} (h : PsOk ps) (i : Nat) : Sm 241 (lQ sd (ps.take i)) := by
  unfold lQ
  split
  · exact h.sL i
  · exact h.sR i
theorem past_sm {sd : Int} {ps : List Prt} {x a : Rat} (h : PsOk ps) (hx : Sm 260 x) (q : past sd ps x = some a) : Sm 600 a := by
  obtain ⟨i, hi, e⟩ := past_form q
  have m : ps[i] ∈ ps := List.getElem_mem hi
  have w : Sm 19 (wQ sd ps[i]) := by
    unfold wQ
    split
    · exact sm_mul (h.s2 _ m) (h.s1 _ m)
    · exact sm_quot (h.s2 _ m) (h.s1 _ m) (h.p1 _ m)
  have w0 : 0 < wQ sd ps[i] := wQ_pos ⟨h.p1 _ m, h.p2 _ m⟩
  rw [e]
  exact (sm_add (h.sA i) (sm_mul (h.s2 _ m) (sm_quot (sm_sub hx (lQ_sm h i)) w w0))).mono (by decide)
theorem ageF_sm {sd : Int} {ps : List Prt} {x a : Rat} (h : PsOk ps) (hx : Sm 260 x) (q : ageF sd ps x = some a) : Sm 600 a := by
  unfold ageF at q
  by_cases z : x ≤ 0
  · rw [if_pos z] at q
    injection q with e
    subst e
    exact ⟨by show (0 : Nat) < _; exact Nat.two_pow_pos _, by show (1 : Nat) < _; exact Nat.one_lt_two_pow (by decide)⟩
  · rw [if_neg z] at q
    exact past_sm h hx q
def maxR (a b : Rat) : Rat := if a < b then b else a
theorem news_ok {ps : List Prt} {R L a1 a2 : Rat} (h : PsOk ps) (hR : Sm 260 R) (hL : Sm 260 L) (e1 : ageF (-1) ps R = some a1) (e2 : ageF 1 ps L = some a2) :
    0 ≤ maxR a1 a2 ∧ maxR a1 a2 ≤ ageQ ps ∧ Sm 600 (maxR a1 a2) ∧ (R ≤ 0 → L ≤ 0 → maxR a1 a2 = 0) ∧ R ≤ (curve ps (maxR a1 a2)).1 ∧ L ≤ (curve ps (maxR a1 a2)).2 ∧ (¬ (R ≤ 0 ∧ L ≤ 0) → (curve ps (maxR a1 a2)).1 = R ∨ (curve ps (maxR a1 a2)).2 = L) := by
  have hh : ∀ p ∈ ps, 0 < p.1 ∧ 0 < p.2 := fun p hp => ⟨h.p1 p hp, h.p2 p hp⟩
  obtain ⟨p0, p1, p2, p3, p4⟩ := ageF_some h e1
  obtain ⟨q0, q1, q2, q3, q4⟩ := ageF_some h e2
  have s1 := ageF_sm h hR e1
  have s2 := ageF_sm h hL e2
  have c1 : ∀ c : Rat × Rat, cQ (-1) c = c.1 := fun _ => rfl
  have c2 : ∀ c : Rat × Rat, cQ 1 c = c.2 := fun _ => rfl
  rw [c1] at p2 p3
  rw [c2] at q2 q3
  unfold maxR
  by_cases z : a1 < a2
  · rw [if_pos z]
    have m := (curve_mono ps a1 a2 hh p0 (Rat.le_of_lt z)).1
    refine ⟨q0, q1, s2, fun _ k => q4 k, by grind, q2, fun k => .inr (q3 ?_).2⟩
    apply Classical.byContradiction
    intro y
    have := q4 (by grind)
    grind
  · rw [if_neg z]
    have m := (curve_mono ps a2 a1 hh q0 (by grind)).2
    refine ⟨p0, p1, s1, fun k _ => p4 k, p2, by grind, fun k => .inl (p3 ?_).2⟩
    apply Classical.byContradiction
    intro y
    have e3 := p4 (by grind)
    have : 0 < L := by
      apply Classical.byContradiction
      intro y2
      exact k ⟨by grind, by grind⟩
    have := (q3 this).1
    grind
/-! ### a tour and its straight step -/
def eQ (r : Rat) (ps : List Prt) : Rat := r * r * lR ps + lL ps - 2 * r * ageQ ps
def aQ (ps : List Prt) : Rat := lR ps * lL ps - ageQ ps * ageQ ps
theorem eQ_cons {r : Rat} {p : Prt} {ps : List Prt} (h : 0 < p.1) : eQ r (p :: ps) = p.2 / p.1 * ((r - p.1) * (r - p.1)) + eQ r ps := by
  unfold eQ
  rw [lR_cons, lL_cons, ageQ_cons]
  have := div_mulQ (x := p.2) h
  grind
theorem eQ_nn {r : Rat} : ∀ {ps : List Prt}, (∀ p ∈ ps, 0 < p.1 ∧ 0 < p.2) → 0 ≤ eQ r ps ∧ (eQ r ps = 0 ↔ ∀ p ∈ ps, p.1 = r)
  | [], _ => by
    have e : eQ r [] = 0 := by
      show r * r * 0 + 0 - 2 * r * 0 = 0
      grind
    rw [e]
    exact ⟨Rat.le_refl, fun _ p hp => (List.not_mem_nil hp).elim, fun _ => rfl⟩
  | p :: ps, h => by
    have pp := h p (by simp)
    obtain ⟨i1, i2⟩ := eQ_nn (r := r) fun q hq => h q (List.mem_cons_of_mem p hq)
    have d := div_posQ pp.1 pp.2
    have s := sq_nn (r - p.1)
    have m := Rat.mul_nonneg (Rat.le_of_lt d) s
    rw [eQ_cons pp.1]
    refine ⟨by grind, fun z => ?_, fun z => ?_⟩
    · have z1 : eQ r ps = 0 := by grind
      have z2 : p.2 / p.1 * ((r - p.1) * (r - p.1)) = 0 := by grind
      have z3 : (r - p.1) * (r - p.1) = 0 := by
        rcases Rat.mul_eq_zero.mp z2 with q | q
        · grind
        · exact q
      have z4 : p.1 = r := by
        rcases Rat.mul_eq_zero.mp z3 with q | q <;> grind
      intro q hq
      rcases List.mem_cons.mp hq with e | hq
      · rw [e]; exact z4
      · exact i2.mp z1 q hq
    · have z1 := i2.mpr fun q hq => z q (List.mem_cons_of_mem _ hq)
      have z2 := z p (by simp)
      rw [z1, z2]
      grind
theorem aQ_cons {p : Prt} {ps : List Prt} (h : 0 < p.1) : aQ (p :: ps) = aQ ps + p.2 / p.1 * eQ p.1 ps := by
  unfold aQ eQ
  rw [lR_cons, lL_cons, ageQ_cons]
  have := div_mulQ (x := p.2) h
  grind
theorem aQ_nn : ∀ {ps : List Prt}, (∀ p ∈ ps, 0 < p.1 ∧ 0 < p.2) → 0 ≤ aQ ps ∧ ((∀ p ∈ ps, ∀ q ∈ ps, p.1 = q.1) → aQ ps = 0)
  | [], _ => by
    have e : aQ [] = 0 := by
      show (0 : Rat) * 0 - 0 * 0 = 0
      grind
    rw [e]
    exact ⟨Rat.le_refl, fun _ => rfl⟩
  | p :: ps, h => by
    have pp := h p (by simp)
    have hh := fun q hq => h q (List.mem_cons_of_mem p hq)
    obtain ⟨i1, i2⟩ := aQ_nn hh
    obtain ⟨j1, j2⟩ := eQ_nn (r := p.1) hh
    have d := div_posQ pp.1 pp.2
    have m := Rat.mul_nonneg (Rat.le_of_lt d) j1
    rw [aQ_cons pp.1]
    refine ⟨by grind, fun z => ?_⟩
    rw [i2 fun q hq r hr => z q (List.mem_cons_of_mem _ hq) r (List.mem_cons_of_mem _ hr), j2.mpr fun q hq => z q (List.mem_cons_of_mem _ hq) p (by simp)]
    grind
theorem aQ_zero {p : Prt} {ps : List Prt} (h : ∀ q ∈ p :: ps, 0 < q.1 ∧ 0 < q.2) : aQ (p :: ps) = 0 ↔ ∀ q ∈ p :: ps, q.1 = p.1 := by
  have pp := h p (by simp)
  have hh := fun q hq => h q (List.mem_cons_of_mem p hq)
  obtain ⟨i1, i2⟩ := aQ_nn hh
  obtain ⟨j1, j2⟩ := eQ_nn (r := p.1) hh
  have d := div_posQ pp.1 pp.2
  have m := Rat.mul_nonneg (Rat.le_of_lt d) j1
  constructor
  · intro z
    rw [aQ_cons pp.1] at z
    have z2 : p.2 / p.1 * eQ p.1 ps = 0 := by grind
    have z3 : eQ p.1 ps = 0 := by
      rcases Rat.mul_eq_zero.mp z2 with q | q
      · grind
      · exact q
    intro q hq
    rcases List.mem_cons.mp hq with e | hq
    · rw [e]
    · exact j2.mp z3 q hq
  · intro z
    exact (aQ_nn h).2 fun a ha b hb => (z a ha).trans (z b hb).symm
theorem apart_sign {p : Prt} {ps : List Prt} (h : ∀ q ∈ p :: ps, 0 < q.1 ∧ 0 < q.2) : (aQ (p :: ps)).num.sign = if (∀ q ∈ p :: ps, q.1 = p.1) then 0 else 1 := by
  have n := (aQ_nn h).1
  by_cases z : ∀ q ∈ p :: ps, q.1 = p.1
  · rw [if_pos z, (aQ_zero h).mpr z]
    rfl
  · rw [if_neg z]
    have : 0 < aQ (p :: ps) := by
      have : aQ (p :: ps) ≠ 0 := fun e => z ((aQ_zero h).mp e)
      grind
    exact Int.sign_eq_one_of_pos (num_posQ this)
/-! ### kin -/
theorem sumR_rev : ∀ qs : List Rat, sumR qs.reverse = sumR qs
  | [] => rfl
  | q :: qs => by
    rw [List.reverse_cons, sumR_app, sumR_rev qs]
    show sumR qs + (q + 0) = q + sumR qs
    grind
theorem ageQ_rev (ps : List Prt) : ageQ ps.reverse = ageQ ps := by unfold ageQ; rw [List.map_reverse, sumR_rev]
theorem lR_rev (ps : List Prt) : lR ps.reverse = lR ps := by unfold lR; rw [List.map_reverse, sumR_rev]
theorem lL_rev (ps : List Prt) : lL ps.reverse = lL ps := by unfold lL; rw [List.map_reverse, sumR_rev]
theorem spQ_rev (ps : List Prt) : spQ ps.reverse = spQ ps := by unfold spQ; rw [lR_rev, lL_rev]
theorem spQ_app (as bs : List Prt) : spQ (as ++ bs) = addS (spQ as) (spQ bs) := by unfold spQ; rw [lR_app, lL_app, add_SoL]
def scaleP (c : Rat) (p : Prt) : Prt := (p.1 * c, p.2)
theorem ageQ_scale (c : Rat) : ∀ ps : List Prt, ageQ (ps.map (scaleP c)) = ageQ ps
  | [] => rfl
  | p :: ps => by
    rw [List.map_cons, ageQ_cons, ageQ_cons, ageQ_scale c ps]
    rfl
theorem div_divQ {x r c : Rat} (h : 0 < r) (hc : 0 < c) : x / (r * c) = x / r * c⁻¹ := by
  have h1 : r * r⁻¹ = 1 := Rat.mul_inv_cancel r (by grind)
  have h2 : c * c⁻¹ = 1 := Rat.mul_inv_cancel c (by grind)
  have h3 : r * c * (r * c)⁻¹ = 1 := Rat.mul_inv_cancel _ (by have := Rat.mul_pos h hc; grind)
  have h4 : (r * c)⁻¹ = r⁻¹ * c⁻¹ := by grind
  rw [Rat.div_def, Rat.div_def, h4]
  grind
theorem lR_scale {c : Rat} (hc : 0 < c) : ∀ {ps : List Prt}, (∀ p ∈ ps, 0 < p.1) → lR (ps.map (scaleP c)) = lR ps * c⁻¹
  | [], _ => by show (0 : Rat) = 0 * c⁻¹; grind
  | p :: ps, h => by
    rw [List.map_cons, lR_cons, lR_cons, lR_scale hc fun q hq => h q (List.mem_cons_of_mem _ hq)]
    show p.2 / (p.1 * c) + _ = _
    rw [div_divQ (h p (by simp)) hc]
    grind
theorem lL_scale (c : Rat) : ∀ ps : List Prt, lL (ps.map (scaleP c)) = lL ps * c
  | [] => by show (0 : Rat) = 0 * c; grind
  | p :: ps => by
    rw [List.map_cons, lL_cons, lL_cons, lL_scale c ps]
    show p.2 * (p.1 * c) + _ = _
    grind
end G
set_option maxHeartbeats 4000000
namespace E
open PySem PySem.Spec PyProof.Rows L2 Evl G He
section
variable {P : Program} {w : World} {K : PySem.W.Frag} {mg : Str → Option Value} {base : Heap}
theorem one_of {qs : List Rat} (h0 : 1 ≤ qs.length) (h1 : (qs.length : Int) < 2) : ∃ q, qs = [q] := by
  match qs, h0, h1 with
  | [q], _, _ => exact ⟨q, rfl⟩
  | _ :: _ :: _, _, h => exact absurd h (by simp only [List.length_cons]; omega)
theorem sm_up {n m : Nat} {q : Rat} (h : G.Sm n q) (k : n ≤ m) : G.Sm m q := h.mono k
theorem sumR_one (q : Rat) : sumR [q] = q := by show q + 0 = q; grind

theorem summed_0 (T : GH.Txt K mg) {qs : List Rat} (h0 : 1 ≤ qs.length := by first | (simp <;> omega) | exact Int.mul_pos (q_dpos _) (q_dpos _) | exact q_dpos _ | with_reducible rfl | assumption | omega) (h1 : qs.length ≤ 1 := by first | (simp <;> omega) | exact Int.mul_pos (q_dpos _) (q_dpos _) | exact q_dpos _ | with_reducible rfl | assumption | omega) (hs : ∀ q ∈ qs, G.Sm 20 q := by assumption) : Fn P w K mg base "summed" 3 [.lst (qs.map (ratV K))] (ratV K (sumR qs)) := by
  obtain ⟨fd, F⟩ := GH.d_summed T
  have hnd : (["ratios", "half"] : List Str).Nodup := by decide +kernel
  have hl : qs.length ≤ 1000 := by omega
  refine mk_fn (fn_vs (k := 2) (N := ["ratios", "half"]) (pn := ["ratios"]) (S0 := [.pv (.lst (qs.map (ratV K))), .no]) F ⟨rfl, rfl, rfl, by decide +kernel, rfl, by decide +kernel, by decide +kernel⟩ rfl rfl (of_decide_eq_true rfl) ?_) F (GH.g_summed (K := K) T) (b1 F)
  intro cdv A outer s H E hr
  refine bv_skip (tv_not (tv_val (ev_callA (hr.mono (show 2 ≤ _ by decide)) (av_cons (ev_var 0) av_nil) (are_ratios_r (K := K) T)))) (by first | rfl | (exact by first | (apply decide_eq_false; omega) | with_reducible rfl | (simp <;> omega) | (simp_all; done))) ?_
  obtain ⟨q, rfl⟩ := one_of h0 (by omega)
  refine bv_take (tv_cm (cv_lt (ev_lenM (GH.fr_len (K := K) T) (ev_var 0)) ev_int)) (by first | (apply decide_eq_true; omega) | with_reducible rfl | (simp <;> omega) | (simp_all; done)) ?_
  refine bv_retE (ev_ifT (TV.as (tv_cm (cv_eqI (ev_lenM (GH.fr_len (K := K) T) (ev_var 0)) ev_int)) (by first | (apply decide_eq_true; omega) | with_reducible rfl | (simp <;> omega) | (simp_all; done))) (ev_smethA (hr.mono (show 2 ≤ _ by decide)) (av_cons (ev_ixM (f := (ratV K)) (ev_var 0) ev_int (by first | exact atI_0 | exact atI_1 | exact atI_2 | exact rfl | assumption)) av_nil) (rat_of (K := K) T))) ?_
  rw [sumR_one]

theorem summed_1 (T : GH.Txt K mg) {qs : List Rat} (h0 : 1 ≤ qs.length := by first | (simp <;> omega) | exact Int.mul_pos (q_dpos _) (q_dpos _) | exact q_dpos _ | with_reducible rfl | assumption | omega) (h1 : qs.length ≤ 2 := by first | (simp <;> omega) | exact Int.mul_pos (q_dpos _) (q_dpos _) | exact q_dpos _ | with_reducible rfl | assumption | omega) (hs : ∀ q ∈ qs, G.Sm 20 q := by assumption) : Fn P w K mg base "summed" 4 [.lst (qs.map (ratV K))] (ratV K (sumR qs)) := by
  obtain ⟨fd, F⟩ := GH.d_summed T
  have hnd : (["ratios", "half"] : List Str).Nodup := by decide +kernel
  have hl : qs.length ≤ 1000 := by omega
  refine mk_fn (fn_vs (k := 3) (N := ["ratios", "half"]) (pn := ["ratios"]) (S0 := [.pv (.lst (qs.map (ratV K))), .no]) F ⟨rfl, rfl, rfl, by decide +kernel, rfl, by decide +kernel, by decide +kernel⟩ rfl rfl (of_decide_eq_true rfl) ?_) F (GH.g_summed (K := K) T) (b1 F)
  intro cdv A outer s H E hr
  refine bv_skip (tv_not (tv_val (ev_callA (hr.mono (show 2 ≤ _ by decide)) (av_cons (ev_var 0) av_nil) (are_ratios_r (K := K) T)))) (by first | rfl | (exact by first | (apply decide_eq_false; omega) | with_reducible rfl | (simp <;> omega) | (simp_all; done))) ?_
  refine bv_ifE (tv_cm (cv_lt (ev_lenM (GH.fr_len (K := K) T) (ev_var 0)) ev_int)) (fun hlt => ?_) (fun hlt => ?_)
  · have hone := ofT hlt
    obtain ⟨q, rfl⟩ := one_of h0 hone
    refine bv_retE (ev_ifT (TV.as (tv_cm (cv_eqI (ev_lenM (GH.fr_len (K := K) T) (ev_var 0)) ev_int)) (by first | (apply decide_eq_true; omega) | with_reducible rfl | (simp <;> omega) | (simp_all; done))) (ev_smethA (hr.mono (show 2 ≤ _ by decide)) (av_cons (ev_ixM (f := (ratV K)) (ev_var 0) ev_int (by first | exact atI_0 | exact atI_1 | exact atI_2 | exact rfl | assumption)) av_nil) (rat_of (K := K) T))) ?_
    rw [sumR_one]
  · refine bv_nil ?_
    show BV _ _ [_, _] _
    refine bv_asgE (S' := [_, _]) 1 hnd (ev_fdivV (ev_lenM (GH.fr_len (K := K) T) (ev_var 0)) ev_int) ?_
    show BV _ _ [.pv (.lst (qs.map (ratV K))), .pv (.int ((qs.length / 2 : Nat) : Int))] _
    have htwo := ofF hlt
    haveI := smc_of ((sumR_sm (n := 20) fun q hq => hs q (List.mem_of_mem_take (i := qs.length / 2) hq)).mono (show _ ≤ 400 by rw [List.length_take]; omega))
    haveI := smc_of ((sumR_sm (n := 20) fun q hq => hs q (List.mem_of_mem_drop (i := qs.length / 2) hq)).mono (show _ ≤ 400 by rw [List.length_drop]; omega))
    refine bv_retE (ev_opA (hr.mono (show 3 ≤ _ by decide)) (GH.sf_Ratio (K := K) T) (ev_callA (hr.mono (show 3 ≤ _ by decide)) (av_cons (ev_uptoM (n := (qs.length / 2)) (ev_var 0) (ev_var 1)) av_nil) (summed_0 (K := K) T (h0 := by rw [List.length_take]; omega) (h1 := by rw [List.length_take]; omega) (hs := fun q hq => hs q (List.mem_of_mem_take hq)))) (ev_callA (hr.mono (show 3 ≤ _ by decide)) (av_cons (ev_fromM (n := (qs.length / 2)) (ev_var 0) (ev_var 1)) av_nil) (summed_0 (K := K) T (h0 := by rw [List.length_drop]; omega) (h1 := by rw [List.length_drop]; omega) (hs := fun q hq => hs q (List.mem_of_mem_drop hq)))) (rat_add (K := K) T)) ?_
    rw [← sumR_app, List.take_append_drop]

theorem summed_2 (T : GH.Txt K mg) {qs : List Rat} (h0 : 1 ≤ qs.length := by first | (simp <;> omega) | exact Int.mul_pos (q_dpos _) (q_dpos _) | exact q_dpos _ | with_reducible rfl | assumption | omega) (h1 : qs.length ≤ 4 := by first | (simp <;> omega) | exact Int.mul_pos (q_dpos _) (q_dpos _) | exact q_dpos _ | with_reducible rfl | assumption | omega) (hs : ∀ q ∈ qs, G.Sm 20 q := by assumption) : Fn P w K mg base "summed" 5 [.lst (qs.map (ratV K))] (ratV K (sumR qs)) := by
  obtain ⟨fd, F⟩ := GH.d_summed T
  have hnd : (["ratios", "half"] : List Str).Nodup := by decide +kernel
  have hl : qs.length ≤ 1000 := by omega
  refine mk_fn (fn_vs (k := 4) (N := ["ratios", "half"]) (pn := ["ratios"]) (S0 := [.pv (.lst (qs.map (ratV K))), .no]) F ⟨rfl, rfl, rfl, by decide +kernel, rfl, by decide +kernel, by decide +kernel⟩ rfl rfl (of_decide_eq_true rfl) ?_) F (GH.g_summed (K := K) T) (b1 F)
  intro cdv A outer s H E hr
  refine bv_skip (tv_not (tv_val (ev_callA (hr.mono (show 2 ≤ _ by decide)) (av_cons (ev_var 0) av_nil) (are_ratios_r (K := K) T)))) (by first | rfl | (exact by first | (apply decide_eq_false; omega) | with_reducible rfl | (simp <;> omega) | (simp_all; done))) ?_
  refine bv_ifE (tv_cm (cv_lt (ev_lenM (GH.fr_len (K := K) T) (ev_var 0)) ev_int)) (fun hlt => ?_) (fun hlt => ?_)
  · have hone := ofT hlt
    obtain ⟨q, rfl⟩ := one_of h0 hone
    refine bv_retE (ev_ifT (TV.as (tv_cm (cv_eqI (ev_lenM (GH.fr_len (K := K) T) (ev_var 0)) ev_int)) (by first | (apply decide_eq_true; omega) | with_reducible rfl | (simp <;> omega) | (simp_all; done))) (ev_smethA (hr.mono (show 2 ≤ _ by decide)) (av_cons (ev_ixM (f := (ratV K)) (ev_var 0) ev_int (by first | exact atI_0 | exact atI_1 | exact atI_2 | exact rfl | assumption)) av_nil) (rat_of (K := K) T))) ?_
    rw [sumR_one]
  · refine bv_nil ?_
    show BV _ _ [_, _] _
    refine bv_asgE (S' := [_, _]) 1 hnd (ev_fdivV (ev_lenM (GH.fr_len (K := K) T) (ev_var 0)) ev_int) ?_
    show BV _ _ [.pv (.lst (qs.map (ratV K))), .pv (.int ((qs.length / 2 : Nat) : Int))] _
    have htwo := ofF hlt
    haveI := smc_of ((sumR_sm (n := 20) fun q hq => hs q (List.mem_of_mem_take (i := qs.length / 2) hq)).mono (show _ ≤ 400 by rw [List.length_take]; omega))
    haveI := smc_of ((sumR_sm (n := 20) fun q hq => hs q (List.mem_of_mem_drop (i := qs.length / 2) hq)).mono (show _ ≤ 400 by rw [List.length_drop]; omega))
    refine bv_retE (ev_opA (hr.mono (show 3 ≤ _ by decide)) (GH.sf_Ratio (K := K) T) (ev_callA (hr.mono (show 4 ≤ _ by decide)) (av_cons (ev_uptoM (n := (qs.length / 2)) (ev_var 0) (ev_var 1)) av_nil) (summed_1 (K := K) T (h0 := by rw [List.length_take]; omega) (h1 := by rw [List.length_take]; omega) (hs := fun q hq => hs q (List.mem_of_mem_take hq)))) (ev_callA (hr.mono (show 4 ≤ _ by decide)) (av_cons (ev_fromM (n := (qs.length / 2)) (ev_var 0) (ev_var 1)) av_nil) (summed_1 (K := K) T (h0 := by rw [List.length_drop]; omega) (h1 := by rw [List.length_drop]; omega) (hs := fun q hq => hs q (List.mem_of_mem_drop hq)))) (rat_add (K := K) T)) ?_
    rw [← sumR_app, List.take_append_drop]

theorem summed_3 (T : GH.Txt K mg) {qs : List Rat} (h0 : 1 ≤ qs.length := by first | (simp <;> omega) | exact Int.mul_pos (q_dpos _) (q_dpos _) | exact q_dpos _ | with_reducible rfl | assumption | omega) (h1 : qs.length ≤ 8 := by first | (simp <;> omega) | exact Int.mul_pos (q_dpos _) (q_dpos _) | exact q_dpos _ | with_reducible rfl | assumption | omega) (hs : ∀ q ∈ qs, G.Sm 20 q := by assumption) : Fn P w K mg base "summed" 6 [.lst (qs.map (ratV K))] (ratV K (sumR qs)) := by
  obtain ⟨fd, F⟩ := GH.d_summed T
  have hnd : (["ratios", "half"] : List Str).Nodup := by decide +kernel
  have hl : qs.length ≤ 1000 := by omega
  refine mk_fn (fn_vs (k := 5) (N := ["ratios", "half"]) (pn := ["ratios"]) (S0 := [.pv (.lst (qs.map (ratV K))), .no]) F ⟨rfl, rfl, rfl, by decide +kernel, rfl, by decide +kernel, by decide +kernel⟩ rfl rfl (of_decide_eq_true rfl) ?_) F (GH.g_summed (K := K) T) (b1 F)
  intro cdv A outer s H E hr
  refine bv_skip (tv_not (tv_val (ev_callA (hr.mono (show 2 ≤ _ by decide)) (av_cons (ev_var 0) av_nil) (are_ratios_r (K := K) T)))) (by first | rfl | (exact by first | (apply decide_eq_false; omega) | with_reducible rfl | (simp <;> omega) | (simp_all; done))) ?_
  refine bv_ifE (tv_cm (cv_lt (ev_lenM (GH.fr_len (K := K) T) (ev_var 0)) ev_int)) (fun hlt => ?_) (fun hlt => ?_)
  · have hone := ofT hlt
    obtain ⟨q, rfl⟩ := one_of h0 hone
    refine bv_retE (ev_ifT (TV.as (tv_cm (cv_eqI (ev_lenM (GH.fr_len (K := K) T) (ev_var 0)) ev_int)) (by first | (apply decide_eq_true; omega) | with_reducible rfl | (simp <;> omega) | (simp_all; done))) (ev_smethA (hr.mono (show 2 ≤ _ by decide)) (av_cons (ev_ixM (f := (ratV K)) (ev_var 0) ev_int (by first | exact atI_0 | exact atI_1 | exact atI_2 | exact rfl | assumption)) av_nil) (rat_of (K := K) T))) ?_
    rw [sumR_one]
  · refine bv_nil ?_
    show BV _ _ [_, _] _
    refine bv_asgE (S' := [_, _]) 1 hnd (ev_fdivV (ev_lenM (GH.fr_len (K := K) T) (ev_var 0)) ev_int) ?_
    show BV _ _ [.pv (.lst (qs.map (ratV K))), .pv (.int ((qs.length / 2 : Nat) : Int))] _
    have htwo := ofF hlt
    haveI := smc_of ((sumR_sm (n := 20) fun q hq => hs q (List.mem_of_mem_take (i := qs.length / 2) hq)).mono (show _ ≤ 400 by rw [List.length_take]; omega))
    haveI := smc_of ((sumR_sm (n := 20) fun q hq => hs q (List.mem_of_mem_drop (i := qs.length / 2) hq)).mono (show _ ≤ 400 by rw [List.length_drop]; omega))
    refine bv_retE (ev_opA (hr.mono (show 3 ≤ _ by decide)) (GH.sf_Ratio (K := K) T) (ev_callA (hr.mono (show 5 ≤ _ by decide)) (av_cons (ev_uptoM (n := (qs.length / 2)) (ev_var 0) (ev_var 1)) av_nil) (summed_2 (K := K) T (h0 := by rw [List.length_take]; omega) (h1 := by rw [List.length_take]; omega) (hs := fun q hq => hs q (List.mem_of_mem_take hq)))) (ev_callA (hr.mono (show 5 ≤ _ by decide)) (av_cons (ev_fromM (n := (qs.length / 2)) (ev_var 0) (ev_var 1)) av_nil) (summed_2 (K := K) T (h0 := by rw [List.length_drop]; omega) (h1 := by rw [List.length_drop]; omega) (hs := fun q hq => hs q (List.mem_of_mem_drop hq)))) (rat_add (K := K) T)) ?_
    rw [← sumR_app, List.take_append_drop]

theorem summed_4 (T : GH.Txt K mg) {qs : List Rat} (h0 : 1 ≤ qs.length := by first | (simp <;> omega) | exact Int.mul_pos (q_dpos _) (q_dpos _) | exact q_dpos _ | with_reducible rfl | assumption | omega) (h1 : qs.length ≤ 16 := by first | (simp <;> omega) | exact Int.mul_pos (q_dpos _) (q_dpos _) | exact q_dpos _ | with_reducible rfl | assumption | omega) (hs : ∀ q ∈ qs, G.Sm 20 q := by assumption) : Fn P w K mg base "summed" 7 [.lst (qs.map (ratV K))] (ratV K (sumR qs)) := by
  obtain ⟨fd, F⟩ := GH.d_summed T
  have hnd : (["ratios", "half"] : List Str).Nodup := by decide +kernel
  have hl : qs.length ≤ 1000 := by omega
  refine mk_fn (fn_vs (k := 6) (N := ["ratios", "half"]) (pn := ["ratios"]) (S0 := [.pv (.lst (qs.map (ratV K))), .no]) F ⟨rfl, rfl, rfl, by decide +kernel, rfl, by decide +kernel, by decide +kernel⟩ rfl rfl (of_decide_eq_true rfl) ?_) F (GH.g_summed (K := K) T) (b1 F)
  intro cdv A outer s H E hr
  refine bv_skip (tv_not (tv_val (ev_callA (hr.mono (show 2 ≤ _ by decide)) (av_cons (ev_var 0) av_nil) (are_ratios_r (K := K) T)))) (by first | rfl | (exact by first | (apply decide_eq_false; omega) | with_reducible rfl | (simp <;> omega) | (simp_all; done))) ?_
  refine bv_ifE (tv_cm (cv_lt (ev_lenM (GH.fr_len (K := K) T) (ev_var 0)) ev_int)) (fun hlt => ?_) (fun hlt => ?_)
  · have hone := ofT hlt
    obtain ⟨q, rfl⟩ := one_of h0 hone
    refine bv_retE (ev_ifT (TV.as (tv_cm (cv_eqI (ev_lenM (GH.fr_len (K := K) T) (ev_var 0)) ev_int)) (by first | (apply decide_eq_true; omega) | with_reducible rfl | (simp <;> omega) | (simp_all; done))) (ev_smethA (hr.mono (show 2 ≤ _ by decide)) (av_cons (ev_ixM (f := (ratV K)) (ev_var 0) ev_int (by first | exact atI_0 | exact atI_1 | exact atI_2 | exact rfl | assumption)) av_nil) (rat_of (K := K) T))) ?_
    rw [sumR_one]
  · refine bv_nil ?_
    show BV _ _ [_, _] _
    refine bv_asgE (S' := [_, _]) 1 hnd (ev_fdivV (ev_lenM (GH.fr_len (K := K) T) (ev_var 0)) ev_int) ?_
    show BV _ _ [.pv (.lst (qs.map (ratV K))), .pv (.int ((qs.length / 2 : Nat) : Int))] _
    have htwo := ofF hlt
    haveI := smc_of ((sumR_sm (n := 20) fun q hq => hs q (List.mem_of_mem_take (i := qs.length / 2) hq)).mono (show _ ≤ 400 by rw [List.length_take]; omega))
    haveI := smc_of ((sumR_sm (n := 20) fun q hq => hs q (List.mem_of_mem_drop (i := qs.length / 2) hq)).mono (show _ ≤ 400 by rw [List.length_drop]; omega))
    refine bv_retE (ev_opA (hr.mono (show 3 ≤ _ by decide)) (GH.sf_Ratio (K := K) T) (ev_callA (hr.mono (show 6 ≤ _ by decide)) (av_cons (ev_uptoM (n := (qs.length / 2)) (ev_var 0) (ev_var 1)) av_nil) (summed_3 (K := K) T (h0 := by rw [List.length_take]; omega) (h1 := by rw [List.length_take]; omega) (hs := fun q hq => hs q (List.mem_of_mem_take hq)))) (ev_callA (hr.mono (show 6 ≤ _ by decide)) (av_cons (ev_fromM (n := (qs.length / 2)) (ev_var 0) (ev_var 1)) av_nil) (summed_3 (K := K) T (h0 := by rw [List.length_drop]; omega) (h1 := by rw [List.length_drop]; omega) (hs := fun q hq => hs q (List.mem_of_mem_drop hq)))) (rat_add (K := K) T)) ?_
    rw [← sumR_app, List.take_append_drop]

def gF (g : Rat) (qs : List Rat) : Rat := qs.foldl (fun g r => if g < r then r else g) g
theorem gF_snoc (g : Rat) (as : List Rat) (r : Rat) : gF g (as ++ [r]) = if gF g as < r then r else gF g as := by
  unfold gF
  rw [List.foldl_append]
  rfl
theorem gF_mem : ∀ (as : List Rat) (g : Rat), gF g as ∈ g :: as
  | [], g => by show g ∈ [g]; simp
  | a :: as, g => by
    have := gF_mem as (if g < a then a else g)
    show gF (if g < a then a else g) as ∈ _
    rcases List.mem_cons.mp this with e | h
    · rw [e]
      split <;> simp
    · simp [h]

theorem greatest_ok (T : GH.Txt K mg) {q : Rat} {qs : List Rat} (hl : qs.length ≤ 900 := by first | (simp <;> omega) | exact Int.mul_pos (q_dpos _) (q_dpos _) | exact q_dpos _ | with_reducible rfl | assumption | omega) (hs : ∀ r ∈ q :: qs, G.Sm 700 r := by assumption) : Fn P w K mg base "greatest_of" 3 [.lst ((q :: qs).map (ratV K))] (ratV K (gF q (q :: qs))) := by
  obtain ⟨fd, F⟩ := GH.d_greatest_of T
  have hnd : (["ratios", "greatest", "ratio"] : List Str).Nodup := by decide +kernel
  have hl2 : (q :: qs).length ≤ 1000 := by rw [List.length_cons]; omega
  refine mk_fn (fn_vs (k := 2) (N := ["ratios", "greatest", "ratio"]) (pn := ["ratios"]) (S0 := [.pv (.lst ((q :: qs).map (ratV K))), .no, .no]) F ⟨rfl, rfl, rfl, by decide +kernel, rfl, by decide +kernel, by decide +kernel⟩ rfl rfl (of_decide_eq_true rfl) ?_) F (GH.g_greatest_of (K := K) T) (b1 F)
  intro cdv A outer s H E hr
  refine bv_skip (tv_w (wv_or (tv_not (tv_val (ev_callA (hr.mono (show 2 ≤ _ by decide)) (av_cons (ev_var 0) av_nil) (are_ratios_r (K := K) T)))) fun h1 => (wv_or1 (tv_cm (cv_eqI (ev_lenM (GH.fr_len (K := K) T) (ev_var 0)) ev_int))))) (by first | (apply decide_eq_false; omega) | with_reducible rfl | (simp <;> omega) | (simp_all; done)) ?_
  refine bv_asgE (S' := [_, _, _]) 1 hnd (ev_smethA (hr.mono (show 2 ≤ _ by decide)) (av_cons (ev_ixM (f := (ratV K)) (ev_var 0) ev_int (by first | exact atI_0 | exact atI_1 | exact atI_2 | exact rfl | assumption)) av_nil) (rat_of (K := K) T)) ?_
  refine bv_for (.nm 2) (fun it : Rat => [(2, (ratV K) it)]) (fun i S => S = [_, .pv (ratV K (gF q ((q :: qs).take i))), _]) (iu_list (ev_var 0)) (by exact rfl) (fun _ _ => rfl) (fun i it S1 hi hS => ?_) (fun S1 hS => ?_) (pg_name hnd rfl (by first | exact Or.inl rfl | exact Or.inr rfl))
  · subst hS
    have il := (List.getElem?_eq_some_iff.mp hi).1
    have hm := List.mem_of_getElem? hi
    haveI := smc_of (hs it hm)
    haveI := smc_of (hs (gF q ((q :: qs).take i)) (by
      rcases List.mem_cons.mp (gF_mem ((q :: qs).take i) q) with e | h
      · rw [e]; simp
      · exact List.mem_of_mem_take h))
    refine ⟨nown rfl, ?_⟩
    show BV _ _ [_, _, _] _
    refine bv_ifE (tv_val (ev_methA (GH.cl_Ratio (K := K) T) (hr.mono (show 2 ≤ _ by decide)) (ev_var 1) (av_cons (ev_var 2) av_nil) (rat_below (K := K) T))) (fun hb => ?_) (fun hb => ?_)
    · refine bv_asgE (S' := [_, _, _]) 1 hnd (ev_smethA (hr.mono (show 2 ≤ _ by decide)) (av_cons (ev_var 2) av_nil) (rat_of (K := K) T)) ?_
      refine bv_nil ?_
      show BV _ _ [_, _, _] _
      refine bv_drop 2 ?_
      refine bv_nil ?_
      show _ = _
      rw [take_next hi, gF_snoc]
      first | (rw [if_pos (ofT hb)]; rfl) | (rw [if_neg (ofF hb)]; rfl)
    · refine bv_nil ?_
      show BV _ _ [_, _, _] _
      refine bv_drop 2 ?_
      refine bv_nil ?_
      show _ = _
      rw [take_next hi, gF_snoc]
      first | (rw [if_pos (ofT hb)]; rfl) | (rw [if_neg (ofF hb)]; rfl)
  · subst hS
    rw [List.take_length]
    refine bv_retE (ev_var 1) ?_
    rfl

theorem are_ratios_p (T : GH.Txt K mg) {a b : Rat} : Fn P w K mg base "are_ratios" 2 [tpV (ratV K) [a, b]] (.bl true) := by
  obtain ⟨fd, F⟩ := GH.d_are_ratios T
  have hnd : (["value", "number"] : List Str).Nodup := by decide +kernel
  refine mk_fn (fn_vs (k := 1) (N := ["value", "number"]) (pn := ["value"]) (S0 := [.pv (tpV (ratV K) [a, b]), .no]) F ⟨rfl, rfl, rfl, by decide +kernel, rfl, by decide +kernel, by decide +kernel⟩ rfl rfl (of_decide_eq_true rfl) ?_) F (GH.g_are_ratios (K := K) T) (b1 F)
  intro cdv A outer s H E hr
  refine bv_retE (ev_and (ev_callA (hr.mono (show 1 ≤ _ by decide)) (av_cons (ev_var 0) av_nil) (is_listed_t (K := K) T)) fun h2 => (ev_one (ev_all (GH.fr_all (K := K) T) (ev_mapL (g := PV.bl) (ev_lc (b := (fun it : Rat => [(1, (ratV K) it)])) (own := [("number", 1)]) (.nm 1) hnd (iu_tup (ev_var 0)) (by first | (simp <;> omega) | exact Int.mul_pos (q_dpos _) (q_dpos _) | exact q_dpos _ | with_reducible rfl | assumption | omega) (fun it h1 _ _ _ _ _ => (ev_callA (hr.mono (show 1 ≤ _ by decide)) (av_cons (ev_var 1) av_nil) (is_ratio_r (K := K) T))) (fun _ _ _ _ _ => (pg_name hnd rfl (by first | exact Or.inl rfl | exact Or.inr rfl)))))))) ?_
  simp

theorem are_ratios_t (T : GH.Txt K mg) {qs : List Rat} (hl : qs.length ≤ 1000 := by first | (simp <;> omega) | exact Int.mul_pos (q_dpos _) (q_dpos _) | exact q_dpos _ | with_reducible rfl | assumption | omega) : Fn P w K mg base "are_ratios" 2 [tpV (ratV K) qs] (.bl true) := by
  obtain ⟨fd, F⟩ := GH.d_are_ratios T
  have hnd : (["value", "number"] : List Str).Nodup := by decide +kernel
  refine mk_fn (fn_vs (k := 1) (N := ["value", "number"]) (pn := ["value"]) (S0 := [.pv (tpV (ratV K) qs), .no]) F ⟨rfl, rfl, rfl, by decide +kernel, rfl, by decide +kernel, by decide +kernel⟩ rfl rfl (of_decide_eq_true rfl) ?_) F (GH.g_are_ratios (K := K) T) (b1 F)
  intro cdv A outer s H E hr
  refine bv_retE (ev_and (ev_callA (hr.mono (show 1 ≤ _ by decide)) (av_cons (ev_var 0) av_nil) (is_listed_t (K := K) T)) fun h2 => (ev_one (ev_all (GH.fr_all (K := K) T) (ev_mapL (g := PV.bl) (ev_lc (b := (fun it : Rat => [(1, (ratV K) it)])) (own := [("number", 1)]) (.nm 1) hnd (iu_tup (ev_var 0)) (by first | (simp <;> omega) | exact Int.mul_pos (q_dpos _) (q_dpos _) | exact q_dpos _ | with_reducible rfl | assumption | omega) (fun it h1 _ _ _ _ _ => (ev_callA (hr.mono (show 1 ≤ _ by decide)) (av_cons (ev_var 1) av_nil) (is_ratio_r (K := K) T))) (fun _ _ _ _ _ => (pg_name hnd rfl (by first | exact Or.inl rfl | exact Or.inr rfl)))))))) ?_
  simp

theorem least_p (T : GH.Txt K mg) {a b : Rat} (ha : G.Sm 700 a := by first | assumption | exact smc_le (by decide)) (hb : G.Sm 700 b := by first | assumption | exact smc_le (by decide)) : Fn P w K mg base "least_of" 4 [tpV (ratV K) [a, b]] (ratV K (-(gF (-a) [-a, -b]))) := by
  obtain ⟨fd, F⟩ := GH.d_least_of T
  have hnd : (["ratios", "ratio"] : List Str).Nodup := by decide +kernel
  haveI := smc_of ha
  haveI := smc_of hb
  have hs2 : ∀ r ∈ [-a, -b], G.Sm 700 r := fun r hr => by
    rcases List.mem_cons.mp hr with e | h
    · rw [e]; exact sm_neg ha
    · rw [List.mem_singleton.mp h]; exact sm_neg hb
  have hs3 := sm_up (hs2 (gF (-a) [-a, -b]) (by
    rcases List.mem_cons.mp (gF_mem [-a, -b] (-a)) with e | h
    · rw [e]; simp
    · exact h)) (show 700 ≤ 4500 by decide)
  refine mk_fn (fn_vs (k := 3) (N := ["ratios", "ratio"]) (pn := ["ratios"]) (S0 := [.pv (tpV (ratV K) [a, b]), .no]) F ⟨rfl, rfl, rfl, by decide +kernel, rfl, by decide +kernel, by decide +kernel⟩ rfl rfl (of_decide_eq_true rfl) ?_) F (GH.g_least_of (K := K) T) (b1 F)
  intro cdv A outer s H E hr
  refine bv_skip (tv_not (tv_val (ev_callA (hr.mono (show 2 ≤ _ by decide)) (av_cons (ev_var 0) av_nil) (are_ratios_t (K := K) T)))) (by first | rfl | (exact by first | (apply decide_eq_false; omega) | with_reducible rfl | (simp <;> omega) | (simp_all; done))) ?_
  refine bv_retE (ev_negOA (hr.mono (show 3 ≤ _ by decide)) (ev_callA (hr.mono (show 3 ≤ _ by decide)) (av_cons (ev_mapL (g := (ratV K)) (ev_lc (b := (fun it : Rat => [(1, (ratV K) it)])) (own := [("ratio", 1)]) (.nm 1) hnd (iu_tup (ev_var 0)) (by first | (simp <;> omega) | exact Int.mul_pos (q_dpos _) (q_dpos _) | exact q_dpos _ | with_reducible rfl | assumption | omega) (fun it h1 _ _ _ _ _ => haveI : SmC 700 it := ⟨(List.mem_cons.mp h1).elim (fun e => e ▸ ha) (fun h => List.mem_singleton.mp h ▸ hb)⟩; (ev_negOA (hr.mono (show 3 ≤ _ by decide)) (ev_smethA (hr.mono (show 2 ≤ _ by decide)) (av_cons (ev_var 1) av_nil) (rat_of (K := K) T)) (rat_neg (K := K) T))) (fun _ _ _ _ _ => (pg_name hnd rfl (by first | exact Or.inl rfl | exact Or.inr rfl))))) av_nil) (greatest_ok (K := K) T)) (rat_neg (K := K) T)) ?_
  rfl

theorem least_pos {a b : Rat} (ha : 0 < a) (hb : 0 < b) : 0 < -(gF (-a) [-a, -b]) := by
  rcases List.mem_cons.mp (gF_mem [-a, -b] (-a)) with e | h
  · rw [e]; grind
  · rcases List.mem_cons.mp h with e | h
    · rw [e]; grind
    · rw [List.mem_singleton.mp h]; grind
theorem least_sign {a b : Rat} (ha : 0 < a) (hb : 0 < b) : decide (0 < (-(gF (-a) [-a, -b])).num.sign) = true := by
  rw [sgn_gt]
  exact decide_eq_true (least_pos ha hb)

theorem are_parts_ok (T : GH.Txt K mg) {ps : List Prt} (h : PsOk ps := by first | assumption) : Fn P w K mg base "are_parts" 5 [lsV (pr2 (ratV K) (ratV K)) ps] (.bl true) := by
  obtain ⟨fd, F⟩ := GH.d_are_parts T
  have hnd : (["parts", "part"] : List Str).Nodup := by decide +kernel
  have hl1 := h.l1
  have hl2 := h.l2
  refine mk_fn (fn_vs (k := 4) (N := ["parts", "part"]) (pn := ["parts"]) (S0 := [.pv (lsV (pr2 (ratV K) (ratV K)) ps), .no]) F ⟨rfl, rfl, rfl, by decide +kernel, rfl, by decide +kernel, by decide +kernel⟩ rfl rfl (of_decide_eq_true rfl) ?_) F (GH.g_are_parts (K := K) T) (b1 F)
  intro cdv A outer s H E hr
  refine bv_skip (tv_w (wv_or (tv_not (tv_val (ev_callA (hr.mono (show 1 ≤ _ by decide)) (av_cons (ev_var 0) av_nil) (is_listed_l (K := K) T)))) fun h1 => (wv_or1 (tv_cm (cv_eqI (ev_lenM (GH.fr_len (K := K) T) (ev_var 0)) ev_int))))) (by first | (apply decide_eq_false; omega) | with_reducible rfl | (simp <;> omega) | (simp_all; done)) ?_
  refine bv_retE (ev_all (GH.fr_all (K := K) T) (ev_mapL (g := PV.bl) (ev_lc (b := (fun it : (Rat × Rat) => [(1, (pr2 (ratV K) (ratV K)) it)])) (own := [("part", 1)]) (.nm 1) hnd (iu_list (ev_var 0)) (by first | (simp <;> omega) | exact Int.mul_pos (q_dpos _) (q_dpos _) | exact q_dpos _ | with_reducible rfl | assumption | omega) (fun it h2 _ _ _ _ _ => haveI := smc_of (h.s1 it h2); haveI := smc_of (h.s2 it h2); (ev_and (ev_callA (hr.mono (show 2 ≤ _ by decide)) (av_cons (ev_var 1) av_nil) (are_ratios_p (K := K) T)) fun h4 => (ev_and (ev_cm (cv_eqI (ev_lenT (GH.fr_len (K := K) T) (ev_var 1)) ev_int)) fun h3 => (ev_one (ev_cm (cv_gt (ev_at 2 (GH.cl_Ratio (K := K) T) (GH.na_Ratio_sign (K := K) T) (ev_callA (hr.mono (show 4 ≤ _ by decide)) (av_cons (ev_var 1) av_nil) (least_p (K := K) T))) ev_int)))))) (fun _ _ _ _ _ => (pg_name hnd rfl (by first | exact Or.inl rfl | exact Or.inr rfl)))))) ?_
  show PV.bl _ = PV.bl true
  congr 1
  rw [List.all_eq_true]
  intro b hb
  obtain ⟨p, hp, e⟩ := List.mem_map.mp hb
  rw [← e, least_sign (h.p1 p hp) (h.p2 p hp)]
  rfl

theorem light_ok (T : GH.Txt K mg) {t x : Rat} {sd : Int} (ht : G.Sm 2200 t := by first | assumption | exact smc_le (by decide)) (hx : G.Sm 2200 x := by first | assumption | exact smc_le (by decide)) (hd : sd.natAbs < 2 ^ 2 := by first | assumption | exact bt_le (by decide) | omega) : Fn P w K mg base "light_of" 5 [stepV K ⟨t, [x]⟩, .int sd] (ratV K (t + x * (sd : Rat))) := by
  obtain ⟨fd, F⟩ := GH.d_light_of T
  have hnd : (["step", "side"] : List Str).Nodup := by decide +kernel
  haveI := smc_of ht
  haveI := smc_of hx
  haveI := int_bt hd
  haveI := smc_of (sm_int (n := 2) hd (by decide))
  refine mk_fn (fn_vs (k := 4) (N := ["step", "side"]) (pn := ["step", "side"]) (S0 := [.pv (stepV K ⟨t, [x]⟩), .pv (.int sd)]) F ⟨rfl, rfl, rfl, by decide +kernel, rfl, by decide +kernel, by decide +kernel⟩ rfl rfl (of_decide_eq_true rfl) ?_) F (GH.g_light_of (K := K) T) (b2 F)
  intro cdv A outer s H E hr
  refine bv_retE (ev_opA (hr.mono (show 3 ≤ _ by decide)) (GH.sf_Ratio (K := K) T) (ev_at 0 (GH.cl_Step (K := K) T) (GH.na_Step_time (K := K) T) (ev_var 0)) (ev_opIA (hr.mono (show 4 ≤ _ by decide)) (GH.sf_Ratio (K := K) T) (GH.slTR_mul (K := K) T) (ev_ixTM (f := (ratV K)) (ev_at 1 (GH.cl_Step (K := K) T) (GH.na_Step_place (K := K) T) (ev_var 0)) ev_int (by first | exact atI_0 | exact atI_1 | exact atI_2 | exact rfl | assumption)) (ev_var 1) (rat_muli (K := K) T)) (rat_add (K := K) T)) ?_
  rfl

theorem lights_ok (T : GH.Txt K mg) {a b : Rat} (ha : G.Sm 1090 a := by first | assumption | exact smc_le (by decide)) (hb : G.Sm 1090 b := by first | assumption | exact smc_le (by decide)) : Fn P w K mg base "spot_of_lights" 6 [ratV K a, ratV K b] (stepV K (SoL a b)) := by
  obtain ⟨fd, F⟩ := GH.d_spot_of_lights T
  have hnd : (["right", "left", "half", "late", "far"] : List Str).Nodup := by decide +kernel
  haveI := smc_of ha
  haveI := smc_of hb
  haveI := smc_of (show G.Sm 2 (Rat.divInt 1 2) from ⟨by decide +kernel, by decide +kernel⟩)
  have w1 : SmS 2200 (SoL a b) := (SoL_sm ha hb).mono (by decide)
  have w2 : Ax1 (SoL a b) := rfl
  refine mk_fn (fn_vs (k := 5) (N := ["right", "left", "half", "late", "far"]) (pn := ["right", "left"]) (S0 := [.pv (ratV K a), .pv (ratV K b), .no, .no, .no]) F ⟨rfl, rfl, rfl, by decide +kernel, rfl, by decide +kernel, by decide +kernel⟩ rfl rfl (of_decide_eq_true rfl) ?_) F (GH.g_spot_of_lights (K := K) T) (b2 F)
  intro cdv A outer s H E hr
  refine bv_par2 (S' := [_, _, _, _, _]) 3 4 hnd (ev_callA (hr.mono (show 3 ≤ _ by decide)) (av_cons (ev_var 0) (av_cons ev_str av_nil)) (asked_ratio_r (K := K) T)) (ev_callA (hr.mono (show 3 ≤ _ by decide)) (av_cons (ev_var 1) (av_cons ev_str av_nil)) (asked_ratio_r (K := K) T)) ?_
  refine bv_asgE (S' := [_, _, _, _, _]) 2 hnd (ev_newA (hr.mono (show 2 ≤ _ by decide)) (av_cons ev_int (av_cons ev_int av_nil)) (nw_Ratio (K := K) T)) ?_
  refine bv_retE (ev_newA (hr.mono (show 5 ≤ _ by decide)) (av_cons (ev_opA (hr.mono (show 3 ≤ _ by decide)) (GH.sf_Ratio (K := K) T) (ev_opA (hr.mono (show 3 ≤ _ by decide)) (GH.sf_Ratio (K := K) T) (ev_var 4) (ev_var 3) (rat_add (K := K) T)) (ev_var 2) (rat_mul (K := K) T)) (av_cons (ev_lstM (ratV K) (am_cons (ev_opA (hr.mono (show 3 ≤ _ by decide)) (GH.sf_Ratio (K := K) T) (ev_opA (hr.mono (show 3 ≤ _ by decide)) (GH.sf_Ratio (K := K) T) (ev_var 4) (ev_var 3) (rat_sub (K := K) T)) (ev_var 2) (rat_mul (K := K) T)) am_nil)) av_nil)) (nw_Step (K := K) T)) ?_
  rfl

theorem beats_ok (T : GH.Txt K mg) {r b : Rat} (h0 : 0 < r := by assumption) (hr1 : G.Sm 20 r := by first | assumption | exact smc_le (by decide)) (hb : G.Sm 1000 b := by first | assumption | exact smc_le (by decide)) : Fn P w K mg base "step_of_beats" 7 [ratV K r, ratV K b] (stepV K (SoL (b / r) (b * r))) := by
  obtain ⟨fd, F⟩ := GH.d_step_of_beats T
  have hnd : (["ratio", "beats"] : List Str).Nodup := by decide +kernel
  haveI := smc_of hr1
  haveI := smc_of hb
  haveI := smc_of (sm_quot hb hr1 h0)
  refine mk_fn (fn_vs (k := 6) (N := ["ratio", "beats"]) (pn := ["ratio", "beats"]) (S0 := [.pv (ratV K r), .pv (ratV K b)]) F ⟨rfl, rfl, rfl, by decide +kernel, rfl, by decide +kernel, by decide +kernel⟩ rfl rfl (of_decide_eq_true rfl) ?_) F (GH.g_step_of_beats (K := K) T) (b2 F)
  intro cdv A outer s H E hr
  refine bv_retE (ev_callA (hr.mono (show 6 ≤ _ by decide)) (av_cons (ev_methA (GH.cl_Ratio (K := K) T) (hr.mono (show 3 ≤ _ by decide)) (ev_var 1) (av_cons (ev_var 0) av_nil) (rat_over (K := K) T)) (av_cons (ev_opA (hr.mono (show 3 ≤ _ by decide)) (GH.sf_Ratio (K := K) T) (ev_var 1) (ev_var 0) (rat_mul (K := K) T)) av_nil)) (lights_ok (K := K) T)) ?_
  rfl

theorem atI_last {α : Type} {as : List α} {y : α} : atI (as ++ [y]) (-1) = some y := by
  unfold atI ixN
  rw [if_neg (by decide), if_pos (by rw [List.length_append]; simp; omega)]
  show (as ++ [y])[((((as ++ [y]).length : Nat) : Int) + -1).toNat]? = some y
  rw [show ((((as ++ [y]).length : Nat) : Int) + -1).toNat = as.length from by rw [List.length_append, List.length_singleton]; omega]
  simp
def spR (ps : List Prt) (i : Nat) : List StepV := (List.range (i + 1)).map fun j => spQ (ps.take j)
theorem spR_snoc (ps : List Prt) (i : Nat) : spR ps (i + 1) = spR ps i ++ [spQ (ps.take (i + 1))] := by
  unfold spR
  rw [List.range_succ (n := i + 1), List.map_append]
  rfl
theorem spR_last (ps : List Prt) (i : Nat) : ∃ as, spR ps i = as ++ [spQ (ps.take i)] := ⟨(List.range i).map fun j => spQ (ps.take j), by
  unfold spR
  rw [List.range_succ, List.map_append]
  rfl⟩
theorem spR_all (ps : List Prt) : spR ps ps.length = spotsL ps := by
  unfold spR spotsL spTl
  rw [List.range_succ_eq_map, List.map_cons, List.map_map]
  rfl
theorem last_PV {α : Type} {f : α → PV} {as bs : List α} {y : α} (h : as = bs ++ [y]) : atI (as.map f) (-1) = some (f y) := by
  rw [h, List.map_append]
  exact atI_last

theorem along_ok (T : GH.Txt K mg) {ps : List Prt} (h : PsOk ps := by first | assumption) : Fn P w K mg base "spots_along" 8 [tpV (pr2 (ratV K) (ratV K)) ps] (tpV (stepV K) (spotsL ps)) := by
  obtain ⟨fd, F⟩ := GH.d_spots_along T
  have hnd : (["parts", "spots", "ratio", "beats"] : List Str).Nodup := by decide +kernel
  have hl1 := h.l1
  have hl2 := h.l2
  refine mk_fn (fn_vs (k := 7) (N := ["parts", "spots", "ratio", "beats"]) (pn := ["parts"]) (S0 := [.pv (tpV (pr2 (ratV K) (ratV K)) ps), .no, .no, .no]) F ⟨rfl, rfl, rfl, by decide +kernel, rfl, by decide +kernel, by decide +kernel⟩ rfl rfl (of_decide_eq_true rfl) ?_) F (GH.g_spots_along (K := K) T) (b1 F)
  intro cdv A outer s H E hr
  refine bv_newL 1 hnd ?_
  refine xa_cons ?_
  refine xw_ev (ev_smethA (hr.mono (show 7 ≤ _ by decide)) (av_cons ev_int av_nil) (nothing_ok (K := K) T)) ?_
  refine xa_nil ?_
  refine ⟨of_decide_eq_true rfl, rfl, of_decide_eq_true rfl, fun d0 => ?_⟩
  show BV _ _ [_, .own _ (.lst (List.map (stepV K) [_])), _, _] _
  rw [← spQ_nil]
  refine bv_for (.tp [.nm 2, .nm 3]) (fun it : (Rat × Rat) => [(2, (ratV K) it.1), (3, (ratV K) it.2)]) (fun i S => S = [_, .own d0 (.lst (List.map (stepV K) (spR ps i))), _, _]) (iu_tup (ev_var 0)) (by rfl) (fun _ _ => rfl) (fun i it S1 hi hS => ?_) (fun S1 hS => ?_) (pg_tup rfl (pgs_cons (pg_name hnd rfl (by first | exact Or.inl rfl | exact Or.inr rfl)) (pgs_cons (pg_name hnd rfl (by first | exact Or.inl rfl | exact Or.inr rfl)) pgs_nil)))
  · subst hS
    have il := (List.getElem?_eq_some_iff.mp hi).1
    have hm := List.mem_of_getElem? hi
    obtain ⟨as, eas⟩ := spR_last ps i
    have hlast := last_PV (f := stepV K) eas
    haveI := smc_of (h.s1 it hm)
    haveI := smc_of (h.s2 it hm)
    have r0 := h.p1 it hm
    have w1 : SmS 2200 (spQ (ps.take i)) := (h.sS i).mono (by decide)
    have w2 : Ax1 (spQ (ps.take i)) := rfl
    have w3 : SmS 2200 (SoL (it.2 / it.1) (it.2 * it.1)) := (SoL_sm (sm_quot (h.s2 it hm) (h.s1 it hm) r0) (sm_mul (h.s2 it hm) (h.s1 it hm))).mono (by decide)
    have w4 : Ax1 (SoL (it.2 / it.1) (it.2 * it.1)) := rfl
    have e5 : addS (spQ (ps.take i)) (SoL (it.2 / it.1) (it.2 * it.1)) = spQ (ps.take (i + 1)) := by rw [sp_next, take_next hi]
    have w5 : SmS 2200 (addS (spQ (ps.take i)) (SoL (it.2 / it.1) (it.2 * it.1))) := by rw [e5]; exact (h.sS _).mono (by decide)
    have w6 : (spQ (ps.take i)).ps.length = (SoL (it.2 / it.1) (it.2 * it.1)).ps.length := rfl
    have lenR : (spR ps i).length = i + 1 := by unfold spR; rw [List.length_map, List.length_range]
    refine ⟨nown rfl, ?_⟩
    show BV _ _ [_, _, _, _] _
    refine bv_appendM (f := (stepV K)) 1 ?_
    refine xw_opV (GH.sf_Step (K := K) T) ?_
    refine xw_oix 1 rfl (ev_neg ev_int) (by first | exact atI_0 | exact atI_1 | exact atI_2 | exact rfl | assumption) ?_
    refine ⟨_, _, rfl, ?_⟩
    refine xw_ev (ev_callA (hr.mono (show 7 ≤ _ by decide)) (av_cons (ev_var 2) (av_cons (ev_var 3) av_nil)) (beats_ok (K := K) T)) ?_
    refine ⟨_, _, _, _, rfl, (hr.mono (show 6 ≤ _ by decide)), (step_add (K := K) T), ?_⟩
    refine ⟨_, _, rfl, rfl, (by first | (simp <;> omega) | exact Int.mul_pos (q_dpos _) (q_dpos _) | exact q_dpos _ | with_reducible rfl | assumption | omega), ?_⟩
    show BV _ _ [_, _, _, _] _
    refine bv_drop 2 ?_
    refine bv_drop 3 ?_
    refine bv_nil ?_
    show _ = _
    rw [e5, spR_snoc]
    rfl
  · subst hS
    rw [spR_all]
    refine bv_give 1 rfl ?_
    show BV _ _ [_, _, _, _] _
    refine bv_retE (ev_tupleL (GH.fr_tuple (K := K) T) (ev_var 1)) ?_
    rfl

abbrev tK (K : PySem.W.Frag) : Addr := He.ga K "Tour"
def tourV (K : PySem.W.Frag) (ps : List Prt) : PV := .ins (tK K) ["parts", "age", "spots", "step"] [tpV (pr2 (ratV K) (ratV K)) ps, ratV K (ageQ ps), tpV (stepV K) (spotsL ps), stepV K (spQ ps)]
instance {C : Addr} {K : PySem.W.Frag} [h : NeC (rK K) C] [g : NeC (sK K) C] : NoI C (stepV K) := ⟨fun s => ⟨g.ne, ⟨h.ne, trivial, trivial, trivial, trivial⟩, noInss_map (f := ratV K) fun _ => ⟨h.ne, trivial, trivial, trivial, trivial⟩, trivial, noInss_map (f := PV.int) fun _ => trivial, trivial, ⟨h.ne, trivial, trivial, trivial, trivial⟩, trivial, trivial⟩⟩
theorem spots_last {ps : List Prt} : ∃ as, spotsL ps = as ++ [spQ ps] := by
  obtain ⟨as, e⟩ := spR_last ps ps.length
  rw [spR_all, List.take_length] at e
  exact ⟨as, e⟩
theorem at_last {ps : List Prt} : atI (spotsL ps) (-1) = some (spQ ps) := by
  obtain ⟨as, e⟩ := spots_last (ps := ps)
  rw [e]
  exact atI_last

theorem nw_Tour (T : GH.Txt K mg) {ps : List Prt} (h : PsOk ps := by first | assumption) : Nw P w K mg base "Tour" (He.ga K "Tour") 9 [lsV (pr2 (ratV K) (ratV K)) ps] ["parts", "age", "spots", "step"] [tpV (pr2 (ratV K) (ratV K)) ps, ratV K (ageQ ps), tpV (stepV K) (spotsL ps), stepV K (spQ ps)] := by
  obtain ⟨fd, F⟩ := GH.d_Tour_init T
  have hnd : (["self", "parts", "ratio", "beats", "_"] : List Str).Nodup := by decide +kernel
  haveI : NeC (rK K) (He.ga K "Tour") := ne_of_kit (GH.kt_Ratio_Tour T)
  haveI : NeC (sK K) (He.ga K "Tour") := ne_of_kit (GH.kt_Step_Tour T)
  have hl1 := h.l1
  have hl2 := h.l2
  have hat := at_last (ps := ps)
  have hb : ∀ q ∈ ps.map fun x => x.2, G.Sm 20 q := fun q hq => by
    obtain ⟨p, hp, rfl⟩ := List.mem_map.mp hq
    exact (h.s2 p hp).mono (by decide)
  obtain ⟨_, co_MOST_PARTS⟩ := GH.co_MOST_PARTS T
  refine mk_nw (ps := [lsV (pr2 (ratV K) (ratV K)) ps]) (dps := []) (fn_ns (k := 8) (N := ["self", "parts", "ratio", "beats", "_"]) (pn := ["self", "parts"]) F ⟨rfl, rfl, rfl, by decide +kernel, rfl, by decide +kernel, by decide +kernel⟩ rfl (of_decide_eq_true rfl) rfl ?_) (GH.mk_Tour (K := K) T) (GH.g_Tour (K := K) T) (b2 F) dv_nil
  intro a dx cdv A outer s H E hr
  show BV _ _ [.own a (.obj _ dx [] []), .pv (lsV (pr2 (ratV K) (ratV K)) ps), .no, .no, .no] _
  refine bv_skip (tv_not (tv_val (ev_callA (hr.mono (show 5 ≤ _ by decide)) (av_cons (ev_var 1) av_nil) (are_parts_ok (K := K) T)))) (by first | rfl | (exact by first | (apply decide_eq_false; omega) | with_reducible rfl | (simp <;> omega) | (simp_all; done))) ?_
  refine bv_skip (tv_cm (cv_gt (ev_lenM (GH.fr_len (K := K) T) (ev_var 1)) (ev_gint co_MOST_PARTS))) (by first | (apply decide_eq_false; omega) | with_reducible rfl | (simp <;> omega) | (simp_all; done)) ?_
  refine bv_newf (S' := [_, _, _, _, _]) 0 (GH.cl_Tour (K := K) T) (GH.na_Tour_parts (K := K) T) (ev_tupleL (GH.fr_tuple (K := K) T) (ev_mapL (g := (pr2 (ratV K) (ratV K))) (ev_lc (b := (fun it : (Rat × Rat) => [(2, (ratV K) it.1), (3, (ratV K) it.2)])) (own := [("ratio", 2), ("beats", 3)]) (.tp [.nm 2, .nm 3]) hnd (iu_list (ev_var 1)) (by first | (simp <;> omega) | exact Int.mul_pos (q_dpos _) (q_dpos _) | exact q_dpos _ | with_reducible rfl | assumption | omega) (fun it h1 _ _ _ _ _ => (ev_tup2 (ratV K) (ratV K) (ev_smethA (hr.mono (show 2 ≤ _ by decide)) (av_cons (ev_var 2) av_nil) (rat_of (K := K) T)) (ev_smethA (hr.mono (show 2 ≤ _ by decide)) (av_cons (ev_var 3) av_nil) (rat_of (K := K) T)))) (fun _ _ _ _ _ => (pg_tup rfl (pgs_cons (pg_name hnd rfl (by first | exact Or.inl rfl | exact Or.inr rfl)) (pgs_cons (pg_name hnd rfl (by first | exact Or.inl rfl | exact Or.inr rfl)) pgs_nil))))))) ?_
  simp only [List.map_id']
  refine bv_newfX 0 (GH.cl_Tour (K := K) T) (GH.na_Tour_age (K := K) T) (xw_borrowM (ratV K) 0 rfl (ev_callA (hr.mono (show 7 ≤ _ by decide)) (av_cons (ev_mapL (g := (ratV K)) (ev_lc (b := (fun it : (Rat × Rat) => [(4, (ratV K) it.1), (3, (ratV K) it.2)])) (own := [("_", 4), ("beats", 3)]) (.tp [.nm 4, .nm 3]) hnd (iu_tup (ev_at 0 (GH.cl_Tour (K := K) T) (GH.na_Tour_parts (K := K) T) (ev_var 0))) (by first | (simp <;> omega) | exact Int.mul_pos (q_dpos _) (q_dpos _) | exact q_dpos _ | with_reducible rfl | assumption | omega) (fun it h2 _ _ _ _ _ => (ev_var 3)) (fun _ _ _ _ _ => (pg_tup rfl (pgs_cons (pg_name hnd rfl (by first | exact Or.inl rfl | exact Or.inr rfl)) (pgs_cons (pg_name hnd rfl (by first | exact Or.inl rfl | exact Or.inr rfl)) pgs_nil)))))) av_nil) (summed_4 (K := K) T (h0 := by rw [List.length_map]; omega) (h1 := by rw [List.length_map]; omega))) ⟨rfl, ?_⟩)
  show BV _ _ [_, _, _, _, _] _
  refine bv_newfX 0 (GH.cl_Tour (K := K) T) (GH.na_Tour_spots (K := K) T) (xw_borrowM (tpV (stepV K)) 0 rfl (ev_callA (hr.mono (show 8 ≤ _ by decide)) (av_cons (ev_at 0 (GH.cl_Tour (K := K) T) (GH.na_Tour_parts (K := K) T) (ev_var 0)) av_nil) (along_ok (K := K) T)) ⟨rfl, ?_⟩)
  show BV _ _ [_, _, _, _, _] _
  refine bv_newfX 0 (GH.cl_Tour (K := K) T) (GH.na_Tour_step (K := K) T) (xw_borrowM (stepV K) 0 rfl (ev_ixTM (f := (stepV K)) (ev_at 2 (GH.cl_Tour (K := K) T) (GH.na_Tour_spots (K := K) T) (ev_var 0)) (ev_neg ev_int) (by first | exact atI_0 | exact atI_1 | exact atI_2 | exact rfl | assumption)) ⟨rfl, ?_⟩)
  show BV _ _ [_, _, _, _, _] _
  refine bv_nil ?_
  rfl

theorem joined_ok_f (T : GH.Txt K mg) {ps qs : List Prt} (h : PsOk (ps ++ qs) := by first | assumption) {f : Addr} {fd : FuncData} (F : G.FnP K "joined" "Tour.joined" (inClass (G.top 48) 2) [] f fd) : FnOk P w K mg base CX0 11 f fd ["self", "other"] (VS [tourV K ps, tourV K qs] (tourV K (ps ++ qs))) := by
  have hnd : (["self", "other"] : List Str).Nodup := by decide +kernel
  have hl2 := h.l2
  rw [List.length_append] at hl2
  refine fn_vs (k := 10) (N := ["self", "other"]) (pn := ["self", "other"]) (S0 := [.pv (tourV K ps), .pv (tourV K qs)]) F ⟨rfl, rfl, rfl, by decide +kernel, rfl, by decide +kernel, by decide +kernel⟩ rfl rfl (of_decide_eq_true rfl) ?_
  intro cdv A outer s H E hr
  refine bv_skip (tv_not (tv_val (ev_isi (bb := true) (GH.fr_isinstance (K := K) T) (ev_var 1) (ev_cls (GH.g_Tour (K := K) T)) (by exact rfl) (isi_self (GH.isi_Tour (K := K) T))))) (by first | rfl | (exact by first | (apply decide_eq_false; omega) | with_reducible rfl | (simp <;> omega) | (simp_all; done))) ?_
  refine bv_retE (ev_newA (hr.mono (show 10 ≤ _ by decide)) (av_cons (ev_star2M (f := (pr2 (ratV K) (ratV K))) (ev_at 0 (GH.cl_Tour (K := K) T) (GH.na_Tour_parts (K := K) T) (ev_var 0)) (ev_at 0 (GH.cl_Tour (K := K) T) (GH.na_Tour_parts (K := K) T) (ev_var 1))) av_nil) (nw_Tour (K := K) T)) ?_
  rfl
theorem joined_ok (T : GH.Txt K mg) {ps qs : List Prt} (h : PsOk (ps ++ qs) := by first | assumption) : Me P w K mg base (He.ga K "Tour") "joined" 11 (tourV K ps) [tourV K qs] (tourV K (ps ++ qs)) := by
  obtain ⟨fd, F⟩ := GH.d_Tour_joined T
  exact mk_me (joined_ok_f T (F := F)) (GH.me_Tour_joined (K := K) T) (b2 F)
theorem joined_ok_kw0 (T : GH.Txt K mg) {ps qs : List Prt} (h : PsOk (ps ++ qs) := by first | assumption) : MeK P w K mg base (He.ga K "Tour") "joined" 11 ["other"] (tourV K ps) [tourV K qs] (tourV K (ps ++ qs)) := by
  obtain ⟨fd, F⟩ := GH.d_Tour_joined T
  refine ⟨_, fd, _, _, k11, k11, joined_ok_f T (F := F), (GH.me_Tour_joined (K := K) T), ⟨fun s us ws _ hl => ?_, k11_rel⟩, fun _ _ _ => iss_k11m⟩
  obtain ⟨oc, od, dV, kV, doc, pm, an, cdv, ct, osl, e, lk, hcd, hD, hK⟩ := F.ex
  rcases hD with ⟨_, e2⟩ | ⟨e2, _⟩
  · subst e e2
    match us, ws, hl with
    | [u0], [v0], _ => exact .of_eq rfl
  · exact absurd rfl e2

theorem tour_eq (T : GH.Txt K mg) {ps qs : List Prt} : Op P w K mg base (He.ga K "Tour") "__eq__" 4 [tourV K ps, tourV K qs] (.bl (decide (ps = qs))) := by
  obtain ⟨fd, F⟩ := GH.d_Tour_eq T
  have hnd : (["self", "other"] : List Str).Nodup := by decide +kernel
  refine mk_op (fn_vs (k := 3) (N := ["self", "other"]) (pn := ["self", "other"]) (S0 := [.pv (tourV K ps), .pv (tourV K qs)]) F ⟨rfl, rfl, rfl, by decide +kernel, rfl, by decide +kernel, by decide +kernel⟩ rfl rfl (of_decide_eq_true rfl) ?_) (GH.me_Tour_eq (K := K) T) (b2 F)
  intro cdv A outer s H E hr
  refine bv_retE (ev_and (ev_isi (bb := true) (GH.fr_isinstance (K := K) T) (ev_var 1) (ev_cls (GH.g_Tour (K := K) T)) (by exact rfl) (isi_self (GH.isi_Tour (K := K) T))) fun h1 => (ev_one (ev_cm (cv_eqF (rcF_tup (rcF_pr2 (EqF.mono (m := 1) (eqF_rat T) (by decide)) (EqF.mono (m := 1) (eqF_rat T) (by decide))).eqF) (hr.mono (show 3 ≤ _ by decide)) (ev_at 0 (GH.cl_Tour (K := K) T) (GH.na_Tour_parts (K := K) T) (ev_var 0)) (ev_at 0 (GH.cl_Tour (K := K) T) (GH.na_Tour_parts (K := K) T) (ev_var 1)))))) ?_
  simp

theorem ask_tour_ok (T : GH.Txt K mg) {ps : List Prt} : Fn P w K mg base "ask_tour" 1 [tourV K ps] (.non) := by
  obtain ⟨fd, F⟩ := GH.d_ask_tour T
  have hnd : (["value"] : List Str).Nodup := by decide +kernel
  refine mk_fn (fn_vs (k := 0) (N := ["value"]) (pn := ["value"]) (S0 := [.pv (tourV K ps)]) F ⟨rfl, rfl, rfl, by decide +kernel, rfl, by decide +kernel, by decide +kernel⟩ rfl rfl (of_decide_eq_true rfl) ?_) F (GH.g_ask_tour (K := K) T) (b1 F)
  intro cdv A outer s H E hr
  refine bv_skip (tv_not (tv_val (ev_isi (bb := true) (GH.fr_isinstance (K := K) T) (ev_var 0) (ev_cls (GH.g_Tour (K := K) T)) (by exact rfl) (isi_self (GH.isi_Tour (K := K) T))))) (by first | rfl | (exact by first | (apply decide_eq_false; omega) | with_reducible rfl | (simp <;> omega) | (simp_all; done))) ?_
  refine bv_nil ?_
  first | rfl | (simp_all; done)

theorem straight_ok_f (T : GH.Txt K mg) {ps : List Prt} {f : Addr} {fd : FuncData} (F : G.FnP K "straight_square" "straight_square" (G.top 49) [] f fd) : FnOk P w K mg base CX0 2 f fd ["tour"] (VS [tourV K ps] (ratV K (sqQ (spQ ps).t (spQ ps).ps))) := by
  have hnd : (["tour"] : List Str).Nodup := by decide +kernel
  refine fn_vs (k := 1) (N := ["tour"]) (pn := ["tour"]) (S0 := [.pv (tourV K ps)]) F ⟨rfl, rfl, rfl, by decide +kernel, rfl, by decide +kernel, by decide +kernel⟩ rfl rfl (of_decide_eq_true rfl) ?_
  intro cdv A outer s H E hr
  refine bv_expr (xw_ev (ev_callA (hr.mono (show 1 ≤ _ by decide)) (av_cons (ev_var 0) av_nil) (ask_tour_ok (K := K) T)) ?_)
  refine bv_retE (ev_at 5 (GH.cl_Step (K := K) T) (GH.na_Step_square (K := K) T) (ev_at 3 (GH.cl_Tour (K := K) T) (GH.na_Tour_step (K := K) T) (ev_var 0))) ?_
  rfl
theorem straight_ok (T : GH.Txt K mg) {ps : List Prt} : Fn P w K mg base "straight_square" 2 [tourV K ps] (ratV K (sqQ (spQ ps).t (spQ ps).ps)) := by
  obtain ⟨fd, F⟩ := GH.d_straight_square T
  exact mk_fn (straight_ok_f T (F := F)) F (GH.g_straight_square (K := K) T) (b1 F)
theorem straight_ok_kw0 (T : GH.Txt K mg) {ps : List Prt} : FnK P w K mg base "straight_square" 2 ["tour"] [] [tourV K ps] (ratV K (sqQ (spQ ps).t (spQ ps).ps)) := by
  obtain ⟨fd, F⟩ := GH.d_straight_square T
  refine ⟨_, fd, _, _, k01, k01, straight_ok_f T (F := F), (GH.g_straight_square (K := K) T), F.kp, ⟨fun s us ws _ hl => ?_, k01_rel⟩, fun _ _ _ => iss_k01⟩
  obtain ⟨oc, od, dV, kV, doc, pm, an, cdv, ct, osl, e, lk, hcd, hD, hK⟩ := F.ex
  rcases hD with ⟨_, e2⟩ | ⟨e2, _⟩
  · subst e e2
    match us, ws, hl with
    | [], [v0], _ => exact .of_eq rfl
  · exact absurd rfl e2
end
end E
set_option maxHeartbeats 4000000
namespace E
open PySem PySem.Spec PyProof.Rows L2 Evl G He
section
variable {P : Program} {w : World} {K : PySem.W.Frag} {mg : Str → Option Value} {base : Heap}
def leftQ (a : Rat) (ps : List Prt) : Nat → Rat
  | 0 => a
  | j + 1 => a - ageQ (ps.take (j + 1))
theorem leftQ_eq (a : Rat) (ps : List Prt) (j : Nat) : leftQ a ps j = a - ageQ (ps.take j) := by
  cases j with
  | zero => show a = a - 0; grind
  | succ j => rfl
theorem left_next {a : Rat} {ps : List Prt} {j : Nat} (hj : j < ps.length) : leftQ a ps j - ps[j].2 = leftQ a ps (j + 1) := by
  rw [leftQ_eq, leftQ_eq, take_next (List.getElem?_eq_getElem hj), ageQ_app, ageQ_one]
  grind
structure At (ps : List Prt) (a : Rat) (j : Nat) : Prop where
  lt : j < ps.length
  nn : 0 ≤ a - ageQ (ps.take j)
  up : a - ageQ (ps.take j) ≤ ageQ (ps.drop j)
  c : curve ps a = (lR (ps.take j) + (curve (ps.drop j) (a - ageQ (ps.take j))).1, lL (ps.take j) + (curve (ps.drop j) (a - ageQ (ps.take j))).2)
theorem At.zero {ps : List Prt} {a : Rat} (h : PsOk ps) (h0 : 0 ≤ a) (h1 : a ≤ ageQ ps) : At ps a 0 := by
  have e : ageQ (ps.take 0) = 0 := rfl
  have l := h.l1
  refine ⟨by omega, by rw [e]; grind, by rw [e, List.drop_zero]; grind, ?_⟩
  rw [e, List.drop_zero, show a - 0 = a from by grind]
  show _ = ((0 : Rat) + _, (0 : Rat) + _)
  ext <;> dsimp only <;> grind
theorem At.next {ps : List Prt} {a : Rat} {j : Nat} (A : At ps a j) (h : PsOk ps) (hb : (ps[j]'A.lt).2 < a - ageQ (ps.take j)) : At ps a (j + 1) := by
  obtain ⟨r1, r2⟩ := room_next A.lt h.p2 A.up hb
  refine ⟨r1, ?_, r2, curve_take A.lt A.c hb⟩
  rw [take_next (List.getElem?_eq_getElem A.lt), ageQ_app, ageQ_one]
  grind

theorem spot_at_r_f (T : GH.Txt K mg) {ps : List Prt} {a : Rat} (h : PsOk ps := by first | assumption) (ha : G.Sm 600 a := by first | assumption | exact smc_le (by decide)) (h0 : 0 ≤ a := by assumption) (h1 : a ≤ ageQ ps := by assumption) {f : Addr} {fd : FuncData} (F : G.FnP K "spot_at" "spot_at" (G.top 50) [] f fd) : FnOk P w K mg base CX0 8 f fd ["tour", "age"] (VS [tourV K ps, ratV K a] (stepV K (SoL (curve ps (a)).1 (curve ps (a)).2))) := by
  have hnd : (["tour", "age", "left", "at"] : List Str).Nodup := by decide +kernel
  have hl1 := h.l1
  have hl2 := h.l2
  have A0 := At.zero h (a := a) h0 h1
  haveI : SmC 73 (ageQ ps) := ⟨by have := h.sA ps.length; rwa [List.take_length] at this⟩
  haveI := smc_of (show G.Sm 600 (a) from ha)
  refine fn_vs (k := 7) (N := ["tour", "age", "left", "at"]) (pn := ["tour", "age"]) (S0 := [.pv (tourV K ps), .pv (ratV K a), .no, .no]) F ⟨rfl, rfl, rfl, by decide +kernel, rfl, by decide +kernel, by decide +kernel⟩ rfl rfl (of_decide_eq_true rfl) ?_
  intro cdv A outer s H E hr
  refine bv_expr (xw_ev (ev_callA (hr.mono (show 1 ≤ _ by decide)) (av_cons (ev_var 0) av_nil) (ask_tour_ok (K := K) T)) ?_)
  refine bv_skip (tv_w (wv_or (tv_not (tv_val (ev_callA (hr.mono (show 1 ≤ _ by decide)) (av_cons (ev_var 1) av_nil) (is_ratio_r (K := K) T)))) fun h2 => (wv_or (tv_cm (cv_lt (ev_at 2 (GH.cl_Ratio (K := K) T) (GH.na_Ratio_sign (K := K) T) (ev_smethA (hr.mono (show 2 ≤ _ by decide)) (av_cons (ev_var 1) av_nil) (rat_of (K := K) T))) ev_int)) fun h1 => (wv_or1 (tv_val (ev_methA (GH.cl_Ratio (K := K) T) (hr.mono (show 2 ≤ _ by decide)) (ev_at 1 (GH.cl_Tour (K := K) T) (GH.na_Tour_age (K := K) T) (ev_var 0)) (av_cons (ev_var 1) av_nil) (rat_below (K := K) T))))))) (by rw [sgn_lt, decide_eq_false (show ¬ (a : Rat) < 0 by grind), decide_eq_false (show ¬ ageQ ps < (a : Rat) by grind)]; rfl) ?_
  refine bv_asgE (S' := [_, _, _, _]) 2 hnd (ev_smethA (hr.mono (show 2 ≤ _ by decide)) (av_cons (ev_var 1) av_nil) (rat_of (K := K) T)) ?_
  refine bv_asgE (S' := [_, _, _, _]) 3 hnd ev_int ?_
  refine bv_while (fun m S => ∃ j : Nat, (m = ps.length - j ∧ At ps (a) j) ∧ S = [_, _, .pv (ratV K (leftQ (a) ps j)), .pv (.int (j : Int))]) ((ps.length - 0)) ⟨0, ⟨rfl, A0⟩, rfl⟩ (fun m S1 hP => ?_)
  obtain ⟨j, ⟨hm, AJ⟩, rfl⟩ := hP
  have hj := AJ.lt
  have hx : atI ps (j : Int) = some ps[j] := atI_nat (List.getElem?_eq_getElem hj)
  have mj : ps[j] ∈ ps := List.getElem_mem hj
  haveI := smc_of (h.s1 _ mj)
  haveI := smc_of (h.s2 _ mj)
  have r0 := h.p1 _ mj
  have lq := leftQ_eq (a) ps j
  haveI : SmC 674 (leftQ (a) ps j) := ⟨by rw [lq]; exact sm_sub ha (h.sA j)⟩
  refine xt_tv (tv_val (ev_methA (GH.cl_Ratio (K := K) T) (hr.mono (show 2 ≤ _ by decide)) (ev_ixT (ev_ixTM (f := (pr2 (ratV K) (ratV K))) (ev_at 0 (GH.cl_Tour (K := K) T) (GH.na_Tour_parts (K := K) T) (ev_var 0)) (ev_var 3) (by first | exact atI_0 | exact atI_1 | exact atI_2 | exact rfl | assumption)) ev_int) (av_cons (ev_var 2) av_nil) (rat_below (K := K) T))) ?_
  refine iteT (fun tt => ?_) (fun tt => ?_)
  · refine bv_asgE (S' := [_, _, _, _]) 2 hnd (ev_opA (hr.mono (show 3 ≤ _ by decide)) (GH.sf_Ratio (K := K) T) (ev_var 2) (ev_ixT (ev_ixTM (f := (pr2 (ratV K) (ratV K))) (ev_at 0 (GH.cl_Tour (K := K) T) (GH.na_Tour_parts (K := K) T) (ev_var 0)) (ev_var 3) (by first | exact atI_0 | exact atI_1 | exact atI_2 | exact rfl | assumption)) ev_int) (rat_sub (K := K) T)) ?_
    refine bv_asgE (S' := [_, _, _, _]) 3 hnd (ev_add (ev_var 3) ev_int) ?_
    refine bv_nil ?_
    refine ⟨ps.length - (j + 1), by omega, j + 1, ⟨rfl, AJ.next h (by rw [← lq]; exact ofT tt)⟩, ?_⟩
    rw [left_next hj]
    rfl
  · have hs : atI (spotsL ps) (j : Int) = some (spQ (ps.take j)) := atI_nat (spots_get (Nat.le_of_lt hj))
    have cs := curve_stop hj AJ.c (by rw [← lq]; exact ofF tt)
    rw [← lq] at cs
    have sq := sm_quot (SmC.sm (n := 674) (q := leftQ (a) ps j)) (h.s1 _ mj) r0
    have sp := sm_mul (SmC.sm (n := 674) (q := leftQ (a) ps j)) (h.s1 _ mj)
    have w1 : SmS 2200 (spQ (ps.take j)) := (h.sS j).mono (by decide)
    have w2 : Ax1 (spQ (ps.take j)) := rfl
    have w3 : SmS 2200 (SoL (leftQ (a) ps j / ps[j].1) (leftQ (a) ps j * ps[j].1)) := (SoL_sm sq sp).mono (by decide)
    have w4 : Ax1 (SoL (leftQ (a) ps j / ps[j].1) (leftQ (a) ps j * ps[j].1)) := rfl
    have w6 : (spQ (ps.take j)).ps.length = (SoL (leftQ (a) ps j / ps[j].1) (leftQ (a) ps j * ps[j].1)).ps.length := rfl
    have e5 : addS (spQ (ps.take j)) (SoL (leftQ (a) ps j / ps[j].1) (leftQ (a) ps j * ps[j].1)) = SoL (curve ps (a)).1 (curve ps (a)).2 := by
      unfold spQ
      rw [add_SoL, cs]
    have w5 : SmS 2200 (addS (spQ (ps.take j)) (SoL (leftQ (a) ps j / ps[j].1) (leftQ (a) ps j * ps[j].1))) := by
      unfold spQ
      rw [add_SoL]
      exact (SoL_sm (n := 1000) ((sm_add (h.sR j) sq).mono (by decide)) ((sm_add (h.sL j) sp).mono (by decide))).mono (by decide)
    refine bv_retE (ev_opA (hr.mono (show 6 ≤ _ by decide)) (GH.sf_Step (K := K) T) (ev_ixTM (f := (stepV K)) (ev_at 2 (GH.cl_Tour (K := K) T) (GH.na_Tour_spots (K := K) T) (ev_var 0)) (ev_var 3) (by first | exact atI_0 | exact atI_1 | exact atI_2 | exact rfl | assumption)) (ev_callA (hr.mono (show 7 ≤ _ by decide)) (av_cons (ev_ixT (ev_ixTM (f := (pr2 (ratV K) (ratV K))) (ev_at 0 (GH.cl_Tour (K := K) T) (GH.na_Tour_parts (K := K) T) (ev_var 0)) (ev_var 3) (by first | exact atI_0 | exact atI_1 | exact atI_2 | exact rfl | assumption)) ev_int) (av_cons (ev_var 2) av_nil)) (beats_ok (K := K) T)) (step_add (K := K) T)) ?_
    rw [e5]
theorem spot_at_r (T : GH.Txt K mg) {ps : List Prt} {a : Rat} (h : PsOk ps := by first | assumption) (ha : G.Sm 600 a := by first | assumption | exact smc_le (by decide)) (h0 : 0 ≤ a := by assumption) (h1 : a ≤ ageQ ps := by assumption) : Fn P w K mg base "spot_at" 8 [tourV K ps, ratV K a] (stepV K (SoL (curve ps (a)).1 (curve ps (a)).2)) := by
  obtain ⟨fd, F⟩ := GH.d_spot_at T
  exact mk_fn (spot_at_r_f T (F := F)) F (GH.g_spot_at (K := K) T) (b2 F)
theorem spot_at_r_kw0 (T : GH.Txt K mg) {ps : List Prt} {a : Rat} (h : PsOk ps := by first | assumption) (ha : G.Sm 600 a := by first | assumption | exact smc_le (by decide)) (h0 : 0 ≤ a := by assumption) (h1 : a ≤ ageQ ps := by assumption) : FnK P w K mg base "spot_at" 8 ["age", "tour"] [] [ratV K a, tourV K ps] (stepV K (SoL (curve ps (a)).1 (curve ps (a)).2)) := by
  obtain ⟨fd, F⟩ := GH.d_spot_at T
  refine ⟨_, fd, _, _, k02r, k02r, spot_at_r_f T (F := F), (GH.g_spot_at (K := K) T), F.kp, ⟨fun s us ws _ hl => ?_, k02r_rel⟩, fun _ _ _ => iss_k02r⟩
  obtain ⟨oc, od, dV, kV, doc, pm, an, cdv, ct, osl, e, lk, hcd, hD, hK⟩ := F.ex
  rcases hD with ⟨_, e2⟩ | ⟨e2, _⟩
  · subst e e2
    match us, ws, hl with
    | [], [v0, v1], _ => exact .of_eq rfl
  · exact absurd rfl e2

theorem spot_at_0_f (T : GH.Txt K mg) {ps : List Prt} (h : PsOk ps := by first | assumption) (ha : G.Sm 600 ((0 : Int) : Rat) := by exact sm_int (by decide) (by decide)) (h0 : (0 : Rat) ≤ ((0 : Int) : Rat) := by exact Rat.le_refl) (h1 : ((0 : Int) : Rat) ≤ ageQ ps := by assumption) {f : Addr} {fd : FuncData} (F : G.FnP K "spot_at" "spot_at" (G.top 50) [] f fd) : FnOk P w K mg base CX0 8 f fd ["tour", "age"] (VS [tourV K ps, .int 0] (stepV K (SoL (curve ps (((0 : Int) : Rat))).1 (curve ps (((0 : Int) : Rat))).2))) := by
  have hnd : (["tour", "age", "left", "at"] : List Str).Nodup := by decide +kernel
  have hl1 := h.l1
  have hl2 := h.l2
  have A0 := At.zero h (a := ((0 : Int) : Rat)) h0 h1
  haveI : SmC 73 (ageQ ps) := ⟨by have := h.sA ps.length; rwa [List.take_length] at this⟩
  haveI := smc_of (show G.Sm 600 (((0 : Int) : Rat)) from ha)
  refine fn_vs (k := 7) (N := ["tour", "age", "left", "at"]) (pn := ["tour", "age"]) (S0 := [.pv (tourV K ps), .pv (.int 0), .no, .no]) F ⟨rfl, rfl, rfl, by decide +kernel, rfl, by decide +kernel, by decide +kernel⟩ rfl rfl (of_decide_eq_true rfl) ?_
  intro cdv A outer s H E hr
  refine bv_expr (xw_ev (ev_callA (hr.mono (show 1 ≤ _ by decide)) (av_cons (ev_var 0) av_nil) (ask_tour_ok (K := K) T)) ?_)
  refine bv_skip (tv_w (wv_or (tv_not (tv_val (ev_callA (hr.mono (show 2 ≤ _ by decide)) (av_cons (ev_var 1) av_nil) (is_ratio_i (K := K) T)))) fun h2 => (wv_or (tv_cm (cv_lt (ev_at 2 (GH.cl_Ratio (K := K) T) (GH.na_Ratio_sign (K := K) T) (ev_smethA (hr.mono (show 4 ≤ _ by decide)) (av_cons (ev_var 1) av_nil) (rat_ofi (K := K) T))) ev_int)) fun h1 => (wv_or1 (tv_val (ev_methA (GH.cl_Ratio (K := K) T) (hr.mono (show 4 ≤ _ by decide)) (ev_at 1 (GH.cl_Tour (K := K) T) (GH.na_Tour_age (K := K) T) (ev_var 0)) (av_cons (ev_var 1) av_nil) (rat_belowi (K := K) T))))))) (by rw [sgn_lt, decide_eq_false (show ¬ (((0 : Int) : Rat) : Rat) < 0 by grind), decide_eq_false (show ¬ ageQ ps < (((0 : Int) : Rat) : Rat) by grind)]; rfl) ?_
  refine bv_asgE (S' := [_, _, _, _]) 2 hnd (ev_smethA (hr.mono (show 4 ≤ _ by decide)) (av_cons (ev_var 1) av_nil) (rat_ofi (K := K) T)) ?_
  refine bv_asgE (S' := [_, _, _, _]) 3 hnd ev_int ?_
  refine bv_while (fun m S => ∃ j : Nat, (m = ps.length - j ∧ At ps (((0 : Int) : Rat)) j) ∧ S = [_, _, .pv (ratV K (leftQ (((0 : Int) : Rat)) ps j)), .pv (.int (j : Int))]) ((ps.length - 0)) ⟨0, ⟨rfl, A0⟩, rfl⟩ (fun m S1 hP => ?_)
  obtain ⟨j, ⟨hm, AJ⟩, rfl⟩ := hP
  have hj := AJ.lt
  have hx : atI ps (j : Int) = some ps[j] := atI_nat (List.getElem?_eq_getElem hj)
  have mj : ps[j] ∈ ps := List.getElem_mem hj
  haveI := smc_of (h.s1 _ mj)
  haveI := smc_of (h.s2 _ mj)
  have r0 := h.p1 _ mj
  have lq := leftQ_eq (((0 : Int) : Rat)) ps j
  haveI : SmC 674 (leftQ (((0 : Int) : Rat)) ps j) := ⟨by rw [lq]; exact sm_sub ha (h.sA j)⟩
  refine xt_tv (tv_val (ev_methA (GH.cl_Ratio (K := K) T) (hr.mono (show 2 ≤ _ by decide)) (ev_ixT (ev_ixTM (f := (pr2 (ratV K) (ratV K))) (ev_at 0 (GH.cl_Tour (K := K) T) (GH.na_Tour_parts (K := K) T) (ev_var 0)) (ev_var 3) (by first | exact atI_0 | exact atI_1 | exact atI_2 | exact rfl | assumption)) ev_int) (av_cons (ev_var 2) av_nil) (rat_below (K := K) T))) ?_
  refine iteT (fun tt => ?_) (fun tt => ?_)
  · refine bv_asgE (S' := [_, _, _, _]) 2 hnd (ev_opA (hr.mono (show 3 ≤ _ by decide)) (GH.sf_Ratio (K := K) T) (ev_var 2) (ev_ixT (ev_ixTM (f := (pr2 (ratV K) (ratV K))) (ev_at 0 (GH.cl_Tour (K := K) T) (GH.na_Tour_parts (K := K) T) (ev_var 0)) (ev_var 3) (by first | exact atI_0 | exact atI_1 | exact atI_2 | exact rfl | assumption)) ev_int) (rat_sub (K := K) T)) ?_
    refine bv_asgE (S' := [_, _, _, _]) 3 hnd (ev_add (ev_var 3) ev_int) ?_
    refine bv_nil ?_
    refine ⟨ps.length - (j + 1), by omega, j + 1, ⟨rfl, AJ.next h (by rw [← lq]; exact ofT tt)⟩, ?_⟩
    rw [left_next hj]
    rfl
  · have hs : atI (spotsL ps) (j : Int) = some (spQ (ps.take j)) := atI_nat (spots_get (Nat.le_of_lt hj))
    have cs := curve_stop hj AJ.c (by rw [← lq]; exact ofF tt)
    rw [← lq] at cs
    have sq := sm_quot (SmC.sm (n := 674) (q := leftQ (((0 : Int) : Rat)) ps j)) (h.s1 _ mj) r0
    have sp := sm_mul (SmC.sm (n := 674) (q := leftQ (((0 : Int) : Rat)) ps j)) (h.s1 _ mj)
    have w1 : SmS 2200 (spQ (ps.take j)) := (h.sS j).mono (by decide)
    have w2 : Ax1 (spQ (ps.take j)) := rfl
    have w3 : SmS 2200 (SoL (leftQ (((0 : Int) : Rat)) ps j / ps[j].1) (leftQ (((0 : Int) : Rat)) ps j * ps[j].1)) := (SoL_sm sq sp).mono (by decide)
    have w4 : Ax1 (SoL (leftQ (((0 : Int) : Rat)) ps j / ps[j].1) (leftQ (((0 : Int) : Rat)) ps j * ps[j].1)) := rfl
    have w6 : (spQ (ps.take j)).ps.length = (SoL (leftQ (((0 : Int) : Rat)) ps j / ps[j].1) (leftQ (((0 : Int) : Rat)) ps j * ps[j].1)).ps.length := rfl
    have e5 : addS (spQ (ps.take j)) (SoL (leftQ (((0 : Int) : Rat)) ps j / ps[j].1) (leftQ (((0 : Int) : Rat)) ps j * ps[j].1)) = SoL (curve ps (((0 : Int) : Rat))).1 (curve ps (((0 : Int) : Rat))).2 := by
      unfold spQ
      rw [add_SoL, cs]
    have w5 : SmS 2200 (addS (spQ (ps.take j)) (SoL (leftQ (((0 : Int) : Rat)) ps j / ps[j].1) (leftQ (((0 : Int) : Rat)) ps j * ps[j].1))) := by
      unfold spQ
      rw [add_SoL]
      exact (SoL_sm (n := 1000) ((sm_add (h.sR j) sq).mono (by decide)) ((sm_add (h.sL j) sp).mono (by decide))).mono (by decide)
    refine bv_retE (ev_opA (hr.mono (show 6 ≤ _ by decide)) (GH.sf_Step (K := K) T) (ev_ixTM (f := (stepV K)) (ev_at 2 (GH.cl_Tour (K := K) T) (GH.na_Tour_spots (K := K) T) (ev_var 0)) (ev_var 3) (by first | exact atI_0 | exact atI_1 | exact atI_2 | exact rfl | assumption)) (ev_callA (hr.mono (show 7 ≤ _ by decide)) (av_cons (ev_ixT (ev_ixTM (f := (pr2 (ratV K) (ratV K))) (ev_at 0 (GH.cl_Tour (K := K) T) (GH.na_Tour_parts (K := K) T) (ev_var 0)) (ev_var 3) (by first | exact atI_0 | exact atI_1 | exact atI_2 | exact rfl | assumption)) ev_int) (av_cons (ev_var 2) av_nil)) (beats_ok (K := K) T)) (step_add (K := K) T)) ?_
    rw [e5]
theorem spot_at_0 (T : GH.Txt K mg) {ps : List Prt} (h : PsOk ps := by first | assumption) (ha : G.Sm 600 ((0 : Int) : Rat) := by exact sm_int (by decide) (by decide)) (h0 : (0 : Rat) ≤ ((0 : Int) : Rat) := by exact Rat.le_refl) (h1 : ((0 : Int) : Rat) ≤ ageQ ps := by assumption) : Fn P w K mg base "spot_at" 8 [tourV K ps, .int 0] (stepV K (SoL (curve ps (((0 : Int) : Rat))).1 (curve ps (((0 : Int) : Rat))).2)) := by
  obtain ⟨fd, F⟩ := GH.d_spot_at T
  exact mk_fn (spot_at_0_f T (F := F)) F (GH.g_spot_at (K := K) T) (b2 F)
theorem spot_at_0_kw0 (T : GH.Txt K mg) {ps : List Prt} (h : PsOk ps := by first | assumption) (ha : G.Sm 600 ((0 : Int) : Rat) := by exact sm_int (by decide) (by decide)) (h0 : (0 : Rat) ≤ ((0 : Int) : Rat) := by exact Rat.le_refl) (h1 : ((0 : Int) : Rat) ≤ ageQ ps := by assumption) : FnK P w K mg base "spot_at" 8 ["age", "tour"] [] [.int 0, tourV K ps] (stepV K (SoL (curve ps (((0 : Int) : Rat))).1 (curve ps (((0 : Int) : Rat))).2)) := by
  obtain ⟨fd, F⟩ := GH.d_spot_at T
  refine ⟨_, fd, _, _, k02r, k02r, spot_at_0_f T (F := F), (GH.g_spot_at (K := K) T), F.kp, ⟨fun s us ws _ hl => ?_, k02r_rel⟩, fun _ _ _ => iss_k02r⟩
  obtain ⟨oc, od, dV, kV, doc, pm, an, cdv, ct, osl, e, lk, hcd, hD, hK⟩ := F.ex
  rcases hD with ⟨_, e2⟩ | ⟨e2, _⟩
  · subst e e2
    match us, ws, hl with
    | [], [v0, v1], _ => exact .of_eq rfl
  · exact absurd rfl e2

def optV (K : PySem.W.Frag) : Option Rat → PV
  | none => .non
  | some q => ratV K q
def dQ (sd : Int) (a b : Rat) : Rat := if sd = 1 then b else a
theorem due_eq {sd : Int} (h : sd = -1 ∨ sd = 1) (a b : Rat) : (b + a) * halfQ + (b - a) * halfQ * (sd : Rat) = dQ sd a b := by
  unfold dQ
  rcases h with e | e
  · subst e
    rw [if_neg (by decide), show (((-1 : Int)) : Rat) = -1 from by decide +kernel]
    have := right_SoL a b
    grind
  · subst e
    rw [if_pos rfl, show (((1 : Int)) : Rat) = 1 from by decide +kernel]
    have := left_SoL a b
    grind
theorem light_sp {sd : Int} (h : sd = -1 ∨ sd = 1) (ps : List Prt) : (lL ps + lR ps) * halfQ + (lL ps - lR ps) * halfQ * (sd : Rat) = lQ sd ps := due_eq h (lR ps) (lL ps)
theorem zip3_at {ps : List Prt} {i : Nat} {p : Prt} {s1 s2 : StepV} (h : (ps.zip ((spotsL ps).zip (spTl ps)))[i]? = some (p, s1, s2)) : ∃ hi : i < ps.length, p = ps[i] ∧ s1 = spQ (ps.take i) ∧ s2 = spQ (ps.take (i + 1)) := by
  rw [List.getElem?_zip_eq_some] at h
  obtain ⟨h1, h2⟩ := h
  rw [List.getElem?_zip_eq_some] at h2
  obtain ⟨h2, h3⟩ := h2
  have hi : i < ps.length := (List.getElem?_eq_some_iff.mp h1).1
  dsimp only at h1 h2 h3
  rw [List.getElem?_eq_getElem hi] at h1
  rw [spots_get (Nat.le_of_lt hi)] at h2
  have h4 := spots_get (ps := ps) (i := i + 1) (by omega)
  rw [show (spotsL ps)[i + 1]? = (spTl ps)[i]? from rfl, h3] at h4
  exact ⟨hi, (Option.some.inj h1).symm, (Option.some.inj h2).symm, Option.some.inj h4⟩
theorem zip3_len {ps : List Prt} : (ps.zip ((spotsL ps).zip (spTl ps))).length = ps.length := by
  rw [List.length_zip, List.length_zip, spots_len, show (spTl ps).length = ps.length from by unfold spTl; rw [List.length_map, List.length_range]]
  omega
theorem w_pos {sd : Int} {ps : List Prt} (h : PsOk ps) {i : Nat} (hi : i < ps.length) : 0 < lQ sd (ps.take (i + 1)) - lQ sd (ps.take i) := by
  rw [take_next (List.getElem?_eq_getElem hi), lQ_snoc]
  have := wQ_pos (sd := sd) ⟨h.p1 _ (List.getElem_mem hi), h.p2 _ (List.getElem_mem hi)⟩
  grind
theorem sgn_le (q : Rat) : decide (q.num.sign ≤ 0) = decide (q ≤ 0) := by
  have e : 0 < q.num.sign ↔ 0 < q := by
    have := sgn_gt q
    rwa [decide_eq_decide] at this
  rw [decide_eq_decide]
  constructor
  · intro h
    have : ¬ 0 < q := fun k => by have := e.mpr k; omega
    grind
  · intro h
    have : ¬ 0 < q.num.sign := fun k => by have := e.mp k; grind
    omega
theorem past_end {sd : Int} {ps : List Prt} {x : Rat} (c : past sd ps x = (past sd (ps.drop ps.length) (x - lQ sd (ps.take ps.length))).map fun a => ageQ (ps.take ps.length) + a) : past sd ps x = none := by
  rw [List.drop_length] at c
  exact c

theorem age_past_ok (T : GH.Txt K mg) {ps : List Prt} {a b : Rat} {sd : Int} (h : PsOk ps := by first | assumption) (ha : G.Sm 260 a := by first | assumption | exact smc_le (by decide)) (hb : G.Sm 260 b := by first | assumption | exact smc_le (by decide)) (hsd : sd = -1 ∨ sd = 1 := by omega) : Fn P w K mg base "age_past" 6 [tourV K ps, stepV K (SoL a b), .int sd] (optV K (ageF sd ps (dQ sd a b))) := by
  obtain ⟨fd, F⟩ := GH.d_age_past T
  have hnd : (["tour", "step", "side", "due", "age", "begin", "end", "_", "beats", "before", "behind"] : List Str).Nodup := by decide +kernel
  have hl1 := h.l1
  have hl2 := h.l2
  haveI := smc_of ha
  haveI := smc_of hb
  haveI := smc_of (show G.Sm 2 halfQ from ⟨by decide +kernel, by decide +kernel⟩)
  haveI : Bt sd 2 := int_bt (by omega)
  haveI : SmC 260 (dQ sd a b) := ⟨by unfold dQ; split; exact hb; exact ha⟩
  refine mk_fn (fn_vs (k := 5) (N := ["tour", "step", "side", "due", "age", "begin", "end", "_", "beats", "before", "behind"]) (pn := ["tour", "step", "side"]) (S0 := [.pv (tourV K ps), .pv (stepV K (SoL a b)), .pv (.int sd), .no, .no, .no, .no, .no, .no, .no, .no]) F ⟨rfl, rfl, rfl, by decide +kernel, rfl, by decide +kernel, by decide +kernel⟩ rfl rfl (of_decide_eq_true rfl) ?_) F (GH.g_age_past (K := K) T) (b3 F)
  intro cdv A outer s H E hr
  refine bv_asgE (S' := [_, _, _, _, _, _, _, _, _, _, _]) 3 hnd (ev_callA (hr.mono (show 5 ≤ _ by decide)) (av_cons (ev_var 1) (av_cons (ev_var 2) av_nil)) (light_ok (K := K) T)) ?_
  rw [due_eq hsd]
  refine bv_ifE (tv_cm (cv_le (ev_at 2 (GH.cl_Ratio (K := K) T) (GH.na_Ratio_sign (K := K) T) (ev_var 3)) ev_int)) (fun hd => ?_) (fun hd => ?_)
  · refine bv_retE (ev_newA (hr.mono (show 2 ≤ _ by decide)) (av_cons ev_int av_nil) (nw_Ratio1 (K := K) T)) ?_
    have hd2 := ofT hd
    rw [← decide_eq_true_eq (p := _ ≤ _), sgn_le, decide_eq_true_eq] at hd2
    unfold ageF
    rw [if_pos hd2]
    rfl
  · refine bv_nil ?_
    show BV _ _ [_, _, _, _, _, _, _, _, _, _, _] _
    refine bv_asgE (S' := [_, _, _, _, _, _, _, _, _, _, _]) 4 hnd (ev_newA (hr.mono (show 2 ≤ _ by decide)) (av_cons ev_int av_nil) (nw_Ratio1 (K := K) T)) ?_
    refine bv_for (.tp [.tp [.nm 7, .nm 8], .nm 5, .nm 6]) (fun it : ((Rat × Rat) × StepV × StepV) => [(7, (ratV K) it.1.1), (8, (ratV K) it.1.2), (5, (stepV K) it.2.1), (6, (stepV K) it.2.2)]) (fun i S => past sd ps (dQ sd a b) = (past sd (ps.drop i) (dQ sd a b - lQ sd (ps.take i))).map (fun y => ageQ (ps.take i) + y) ∧ S = [_, _, _, _, .pv (ratV K (ageQ (ps.take i))), _, _, _, _, _, _]) (iu_zip3 (GH.fr_zip (K := K) T) (ev_at 0 (GH.cl_Tour (K := K) T) (GH.na_Tour_parts (K := K) T) (ev_var 0)) (ev_at 2 (GH.cl_Tour (K := K) T) (GH.na_Tour_spots (K := K) T) (ev_var 0)) (ev_tailT (ev_at 2 (GH.cl_Tour (K := K) T) (GH.na_Tour_spots (K := K) T) (ev_var 0)) ev_int)) ⟨past_0 sd ps _, rfl⟩ (fun _ _ => rfl) (fun i it S1 hi hS => ?_) (fun S1 hS => ?_) (pg_tup rfl (pgs_cons (pg_tup rfl (pgs_cons (pg_name hnd rfl (by first | exact Or.inl rfl | exact Or.inr rfl)) (pgs_cons (pg_name hnd rfl (by first | exact Or.inl rfl | exact Or.inr rfl)) pgs_nil))) (pgs_cons (pg_name hnd rfl (by first | exact Or.inl rfl | exact Or.inr rfl)) (pgs_cons (pg_name hnd rfl (by first | exact Or.inl rfl | exact Or.inr rfl)) pgs_nil))))
    · obtain ⟨hP, rfl⟩ := hS
      have il := (List.getElem?_eq_some_iff.mp hi).1
      obtain ⟨p, s1, s2⟩ := it
      obtain ⟨hi2, rfl, rfl, rfl⟩ := zip3_at hi
      have mi : ps[i] ∈ ps := List.getElem_mem hi2
      haveI := smc_of (h.s2 _ mi)
      haveI := smc_of (h.sA i)
      haveI := smc_of (h.sR i)
      haveI := smc_of (h.sL i)
      haveI := smc_of (h.sR (i + 1))
      haveI := smc_of (h.sL (i + 1))
      haveI := smc_of (lQ_sm (sd := sd) h i)
      haveI := smc_of (lQ_sm (sd := sd) h (i + 1))
      have w0 := w_pos (sd := sd) h hi2
      haveI := smc_of (sm_quot (SmC.sm (q := dQ sd a b - lQ sd (ps.take i))) (SmC.sm (q := lQ sd (ps.take (i + 1)) - lQ sd (ps.take i))) w0)
      refine ⟨nown rfl, ?_⟩
      show BV _ _ [_, _, _, _, _, _, _, _, _, _, _] _
      refine bv_par2 (S' := [_, _, _, _, _, _, _, _, _, _, _]) 9 10 hnd (ev_callA (hr.mono (show 5 ≤ _ by decide)) (av_cons (ev_var 5) (av_cons (ev_var 2) av_nil)) (light_ok (K := K) T)) (ev_callA (hr.mono (show 5 ≤ _ by decide)) (av_cons (ev_var 6) (av_cons (ev_var 2) av_nil)) (light_ok (K := K) T)) ?_
      rw [light_sp hsd, light_sp hsd]
      refine bv_ifE (tv_not (tv_val (ev_methA (GH.cl_Ratio (K := K) T) (hr.mono (show 2 ≤ _ by decide)) (ev_var 10) (av_cons (ev_var 3) av_nil) (rat_below (K := K) T)))) (fun hb => ?_) (fun hb => ?_)
      · refine bv_retE (ev_opA (hr.mono (show 3 ≤ _ by decide)) (GH.sf_Ratio (K := K) T) (ev_var 4) (ev_opA (hr.mono (show 3 ≤ _ by decide)) (GH.sf_Ratio (K := K) T) (ev_var 8) (ev_methA (GH.cl_Ratio (K := K) T) (hr.mono (show 3 ≤ _ by decide)) (ev_opA (hr.mono (show 3 ≤ _ by decide)) (GH.sf_Ratio (K := K) T) (ev_var 3) (ev_var 9) (rat_sub (K := K) T)) (av_cons (ev_opA (hr.mono (show 3 ≤ _ by decide)) (GH.sf_Ratio (K := K) T) (ev_var 10) (ev_var 9) (rat_sub (K := K) T)) av_nil) (rat_over (K := K) T)) (rat_mul (K := K) T)) (rat_add (K := K) T)) ?_
        have hd2 := ofF hd
        unfold ageF
        rw [if_neg (fun k => hd2 (by rw [← decide_eq_true_eq (p := _ ≤ _), sgn_le]; exact decide_eq_true k)), past_stop hi2 hP (by simpa using hb)]
        rfl
      · refine bv_nil ?_
        show BV _ _ [_, _, _, _, _, _, _, _, _, _, _] _
        refine bv_asgE (S' := [_, _, _, _, _, _, _, _, _, _, _]) 4 hnd (ev_opA (hr.mono (show 3 ≤ _ by decide)) (GH.sf_Ratio (K := K) T) (ev_var 4) (ev_var 8) (rat_add (K := K) T)) ?_
        refine bv_drop 7 ?_
        refine bv_drop 8 ?_
        refine bv_drop 5 ?_
        refine bv_drop 6 ?_
        refine bv_drop 9 ?_
        refine bv_drop 10 ?_
        refine bv_nil ?_
        show _ ∧ _
        refine ⟨past_take hi2 hP (by simpa using hb), ?_⟩
        rw [show ageQ (ps.take (i + 1)) = ageQ (ps.take i) + ps[i].2 from by rw [take_next (List.getElem?_eq_getElem hi2), ageQ_app, ageQ_one]]
        rfl
    · obtain ⟨hP, rfl⟩ := hS
      refine bv_retE ev_non ?_
      have hd2 := ofF hd
      rw [zip3_len] at hP
      unfold ageF
      rw [if_neg (fun k => hd2 (by rw [← decide_eq_true_eq (p := _ ≤ _), sgn_le]; exact decide_eq_true k)), past_end hP]
      rfl

theorem past_is {o : Option Rat} (T : GH.Txt K mg) {ps : List Prt} {a b : Rat} {sd : Int} (h : PsOk ps := by first | assumption) (ha : G.Sm 260 a := by first | assumption | exact smc_le (by decide)) (hb : G.Sm 260 b := by first | assumption | exact smc_le (by decide)) (hsd : sd = -1 ∨ sd = 1 := by omega) (ho : ageF sd ps (dQ sd a b) = o := by assumption) : Fn P w K mg base "age_past" 6 [tourV K ps, stepV K (SoL a b), .int sd] (optV K o) := ho ▸ age_past_ok T h ha hb hsd
theorem past_no (T : GH.Txt K mg) {ps : List Prt} {a b : Rat} {sd : Int} (h : PsOk ps := by first | assumption) (ha : G.Sm 260 a := by first | assumption | exact smc_le (by decide)) (hb : G.Sm 260 b := by first | assumption | exact smc_le (by decide)) (hsd : sd = -1 ∨ sd = 1 := by omega) (ho : ageF sd ps (dQ sd a b) = none := by assumption) : Fn P w K mg base "age_past" 6 [tourV K ps, stepV K (SoL a b), .int sd] .non := past_is (o := none) T h ha hb hsd ho
theorem past_yes (T : GH.Txt K mg) {ps : List Prt} {a b y : Rat} {sd : Int} (h : PsOk ps := by first | assumption) (ha : G.Sm 260 a := by first | assumption | exact smc_le (by decide)) (hb : G.Sm 260 b := by first | assumption | exact smc_le (by decide)) (hsd : sd = -1 ∨ sd = 1 := by omega) (ho : ageF sd ps (dQ sd a b) = some y := by assumption) : Fn P w K mg base "age_past" 6 [tourV K ps, stepV K (SoL a b), .int sd] (ratV K y) := past_is (o := some y) T h ha hb hsd ho
theorem gF_two (a b : Rat) : gF a [a, b] = maxR a b := by
  show (if (if a < a then a else a) < b then b else if a < a then a else a) = _
  rw [show (if a < a then a else a) = a from by split <;> rfl]
  rfl

theorem news_ss_f (T : GH.Txt K mg) {ps : List Prt} {a b : Rat} {y1 : Rat} {y2 : Rat} (h : PsOk ps := by first | assumption) (ha : G.Sm 260 a := by first | assumption | exact smc_le (by decide)) (hb : G.Sm 260 b := by first | assumption | exact smc_le (by decide)) (h1 : ageF (-1) ps (dQ (-1) a b) = some y1 := by assumption) (h2 : ageF 1 ps (dQ 1 a b) = some y2 := by assumption) {f : Addr} {fd : FuncData} (F : G.FnP K "age_of_news" "age_of_news" (G.top 51) [] f fd) : FnOk P w K mg base CX0 7 f fd ["tour", "step"] (VS [tourV K ps, stepV K (SoL a b)] (ratV K (maxR y1 y2))) := by
  have hnd : (["tour", "step", "ages"] : List Str).Nodup := by decide +kernel
  haveI := smc_of ha
  haveI := smc_of hb
  have ax1 : (SoL a b).ps.length = (spQ ps).ps.length := rfl
  have gs : ∀ r ∈ [y1, y2], G.Sm 700 r := fun r hr => by
    rcases List.mem_cons.mp hr with e | k
    · rw [e]; exact (ageF_sm h (show G.Sm 260 (dQ (-1) a b) from ha) h1).mono (by decide)
    · rw [List.mem_singleton.mp k]; exact (ageF_sm h (show G.Sm 260 (dQ 1 a b) from hb) h2).mono (by decide)
  refine fn_vs (k := 6) (N := ["tour", "step", "ages"]) (pn := ["tour", "step"]) (S0 := [.pv (tourV K ps), .pv (stepV K (SoL a b)), .no]) F ⟨rfl, rfl, rfl, by decide +kernel, rfl, by decide +kernel, by decide +kernel⟩ rfl rfl (of_decide_eq_true rfl) ?_
  intro cdv A outer s H E hr
  refine bv_expr (xw_ev (ev_callA (hr.mono (show 1 ≤ _ by decide)) (av_cons (ev_var 0) av_nil) (ask_tour_ok (K := K) T)) ?_)
  refine bv_skip (tv_not (tv_val (ev_isi (bb := true) (GH.fr_isinstance (K := K) T) (ev_var 1) (ev_cls (GH.g_Step (K := K) T)) (by exact rfl) (isi_self (GH.isi_Step (K := K) T))))) (by first | rfl | (exact by first | (apply decide_eq_false; omega) | with_reducible rfl | (simp <;> omega) | (simp_all; done))) ?_
  refine bv_expr (xw_ev (ev_callA (hr.mono (show 1 ≤ _ by decide)) (av_cons (ev_var 1) (av_cons (ev_at 3 (GH.cl_Tour (K := K) T) (GH.na_Tour_step (K := K) T) (ev_var 0)) av_nil)) (eqaxes_ok (K := K) T)) ?_)
  refine bv_asgE (S' := [_, _, _]) 2 hnd (ev_lstM (ratV K) (am_cons (ev_callA (hr.mono (show 6 ≤ _ by decide)) (av_cons (ev_var 0) (av_cons (ev_var 1) (av_cons (ev_neg ev_int) av_nil))) (past_yes (K := K) T)) (am_cons (ev_callA (hr.mono (show 6 ≤ _ by decide)) (av_cons (ev_var 0) (av_cons (ev_var 1) (av_cons ev_int av_nil))) (past_yes (K := K) T)) am_nil))) ?_
  refine bv_retE (ev_ifF (tv_cm (cv_in2 (b1 := false) (b2 := false) (n := 2) (hr.mono (show 3 ≤ _ by decide)) ev_non (ev_var 2) (EqP.mono (m := 2) (eqP_insN (GH.nn_Ratio (K := K) T) (rat_eqN (K := K) T)) (by decide)) (EqP.mono (m := 2) (eqP_insN (GH.nn_Ratio (K := K) T) (rat_eqN (K := K) T)) (by decide)))) (ev_callA (hr.mono (show 3 ≤ _ by decide)) (av_cons (ev_var 2) av_nil) (greatest_ok (K := K) T))) ?_
  rw [gF_two]
theorem news_ss (T : GH.Txt K mg) {ps : List Prt} {a b : Rat} {y1 : Rat} {y2 : Rat} (h : PsOk ps := by first | assumption) (ha : G.Sm 260 a := by first | assumption | exact smc_le (by decide)) (hb : G.Sm 260 b := by first | assumption | exact smc_le (by decide)) (h1 : ageF (-1) ps (dQ (-1) a b) = some y1 := by assumption) (h2 : ageF 1 ps (dQ 1 a b) = some y2 := by assumption) : Fn P w K mg base "age_of_news" 7 [tourV K ps, stepV K (SoL a b)] (ratV K (maxR y1 y2)) := by
  obtain ⟨fd, F⟩ := GH.d_age_of_news T
  exact mk_fn (news_ss_f T (F := F)) F (GH.g_age_of_news (K := K) T) (b2 F)
theorem news_ss_kw0 (T : GH.Txt K mg) {ps : List Prt} {a b : Rat} {y1 : Rat} {y2 : Rat} (h : PsOk ps := by first | assumption) (ha : G.Sm 260 a := by first | assumption | exact smc_le (by decide)) (hb : G.Sm 260 b := by first | assumption | exact smc_le (by decide)) (h1 : ageF (-1) ps (dQ (-1) a b) = some y1 := by assumption) (h2 : ageF 1 ps (dQ 1 a b) = some y2 := by assumption) : FnK P w K mg base "age_of_news" 7 ["step", "tour"] [] [stepV K (SoL a b), tourV K ps] (ratV K (maxR y1 y2)) := by
  obtain ⟨fd, F⟩ := GH.d_age_of_news T
  refine ⟨_, fd, _, _, k02r, k02r, news_ss_f T (F := F), (GH.g_age_of_news (K := K) T), F.kp, ⟨fun s us ws _ hl => ?_, k02r_rel⟩, fun _ _ _ => iss_k02r⟩
  obtain ⟨oc, od, dV, kV, doc, pm, an, cdv, ct, osl, e, lk, hcd, hD, hK⟩ := F.ex
  rcases hD with ⟨_, e2⟩ | ⟨e2, _⟩
  · subst e e2
    match us, ws, hl with
    | [], [v0, v1], _ => exact .of_eq rfl
  · exact absurd rfl e2

theorem news_ns_f (T : GH.Txt K mg) {ps : List Prt} {a b : Rat} {y2 : Rat} (h : PsOk ps := by first | assumption) (ha : G.Sm 260 a := by first | assumption | exact smc_le (by decide)) (hb : G.Sm 260 b := by first | assumption | exact smc_le (by decide)) (h1 : ageF (-1) ps (dQ (-1) a b) = none := by assumption) (h2 : ageF 1 ps (dQ 1 a b) = some y2 := by assumption) {f : Addr} {fd : FuncData} (F : G.FnP K "age_of_news" "age_of_news" (G.top 51) [] f fd) : FnOk P w K mg base CX0 7 f fd ["tour", "step"] (VS [tourV K ps, stepV K (SoL a b)] (.non)) := by
  have hnd : (["tour", "step", "ages"] : List Str).Nodup := by decide +kernel
  haveI := smc_of ha
  haveI := smc_of hb
  have ax1 : (SoL a b).ps.length = (spQ ps).ps.length := rfl
  refine fn_vs (k := 6) (N := ["tour", "step", "ages"]) (pn := ["tour", "step"]) (S0 := [.pv (tourV K ps), .pv (stepV K (SoL a b)), .no]) F ⟨rfl, rfl, rfl, by decide +kernel, rfl, by decide +kernel, by decide +kernel⟩ rfl rfl (of_decide_eq_true rfl) ?_
  intro cdv A outer s H E hr
  refine bv_expr (xw_ev (ev_callA (hr.mono (show 1 ≤ _ by decide)) (av_cons (ev_var 0) av_nil) (ask_tour_ok (K := K) T)) ?_)
  refine bv_skip (tv_not (tv_val (ev_isi (bb := true) (GH.fr_isinstance (K := K) T) (ev_var 1) (ev_cls (GH.g_Step (K := K) T)) (by exact rfl) (isi_self (GH.isi_Step (K := K) T))))) (by first | rfl | (exact by first | (apply decide_eq_false; omega) | with_reducible rfl | (simp <;> omega) | (simp_all; done))) ?_
  refine bv_expr (xw_ev (ev_callA (hr.mono (show 1 ≤ _ by decide)) (av_cons (ev_var 1) (av_cons (ev_at 3 (GH.cl_Tour (K := K) T) (GH.na_Tour_step (K := K) T) (ev_var 0)) av_nil)) (eqaxes_ok (K := K) T)) ?_)
  refine bv_asgE (S' := [_, _, _]) 2 hnd (ev_lst (av_cons (ev_callA (hr.mono (show 6 ≤ _ by decide)) (av_cons (ev_var 0) (av_cons (ev_var 1) (av_cons (ev_neg ev_int) av_nil))) (past_no (K := K) T)) (av_cons (ev_callA (hr.mono (show 6 ≤ _ by decide)) (av_cons (ev_var 0) (av_cons (ev_var 1) (av_cons ev_int av_nil))) (past_yes (K := K) T)) av_nil))) ?_
  refine bv_retE (ev_ifT (tv_cm (cv_in2 (b1 := true) (b2 := false) (n := 2) (hr.mono (show 3 ≤ _ by decide)) ev_non (ev_var 2) (EqP.mono (m := 2) eqP_non (by decide)) (EqP.mono (m := 2) (eqP_insN (GH.nn_Ratio (K := K) T) (rat_eqN (K := K) T)) (by decide)))) ev_non) ?_
  rfl
theorem news_ns (T : GH.Txt K mg) {ps : List Prt} {a b : Rat} {y2 : Rat} (h : PsOk ps := by first | assumption) (ha : G.Sm 260 a := by first | assumption | exact smc_le (by decide)) (hb : G.Sm 260 b := by first | assumption | exact smc_le (by decide)) (h1 : ageF (-1) ps (dQ (-1) a b) = none := by assumption) (h2 : ageF 1 ps (dQ 1 a b) = some y2 := by assumption) : Fn P w K mg base "age_of_news" 7 [tourV K ps, stepV K (SoL a b)] (.non) := by
  obtain ⟨fd, F⟩ := GH.d_age_of_news T
  exact mk_fn (news_ns_f T (F := F)) F (GH.g_age_of_news (K := K) T) (b2 F)
theorem news_ns_kw0 (T : GH.Txt K mg) {ps : List Prt} {a b : Rat} {y2 : Rat} (h : PsOk ps := by first | assumption) (ha : G.Sm 260 a := by first | assumption | exact smc_le (by decide)) (hb : G.Sm 260 b := by first | assumption | exact smc_le (by decide)) (h1 : ageF (-1) ps (dQ (-1) a b) = none := by assumption) (h2 : ageF 1 ps (dQ 1 a b) = some y2 := by assumption) : FnK P w K mg base "age_of_news" 7 ["step", "tour"] [] [stepV K (SoL a b), tourV K ps] (.non) := by
  obtain ⟨fd, F⟩ := GH.d_age_of_news T
  refine ⟨_, fd, _, _, k02r, k02r, news_ns_f T (F := F), (GH.g_age_of_news (K := K) T), F.kp, ⟨fun s us ws _ hl => ?_, k02r_rel⟩, fun _ _ _ => iss_k02r⟩
  obtain ⟨oc, od, dV, kV, doc, pm, an, cdv, ct, osl, e, lk, hcd, hD, hK⟩ := F.ex
  rcases hD with ⟨_, e2⟩ | ⟨e2, _⟩
  · subst e e2
    match us, ws, hl with
    | [], [v0, v1], _ => exact .of_eq rfl
  · exact absurd rfl e2

theorem news_sn_f (T : GH.Txt K mg) {ps : List Prt} {a b : Rat} {y1 : Rat} (h : PsOk ps := by first | assumption) (ha : G.Sm 260 a := by first | assumption | exact smc_le (by decide)) (hb : G.Sm 260 b := by first | assumption | exact smc_le (by decide)) (h1 : ageF (-1) ps (dQ (-1) a b) = some y1 := by assumption) (h2 : ageF 1 ps (dQ 1 a b) = none := by assumption) {f : Addr} {fd : FuncData} (F : G.FnP K "age_of_news" "age_of_news" (G.top 51) [] f fd) : FnOk P w K mg base CX0 7 f fd ["tour", "step"] (VS [tourV K ps, stepV K (SoL a b)] (.non)) := by
  have hnd : (["tour", "step", "ages"] : List Str).Nodup := by decide +kernel
  haveI := smc_of ha
  haveI := smc_of hb
  have ax1 : (SoL a b).ps.length = (spQ ps).ps.length := rfl
  refine fn_vs (k := 6) (N := ["tour", "step", "ages"]) (pn := ["tour", "step"]) (S0 := [.pv (tourV K ps), .pv (stepV K (SoL a b)), .no]) F ⟨rfl, rfl, rfl, by decide +kernel, rfl, by decide +kernel, by decide +kernel⟩ rfl rfl (of_decide_eq_true rfl) ?_
  intro cdv A outer s H E hr
  refine bv_expr (xw_ev (ev_callA (hr.mono (show 1 ≤ _ by decide)) (av_cons (ev_var 0) av_nil) (ask_tour_ok (K := K) T)) ?_)
  refine bv_skip (tv_not (tv_val (ev_isi (bb := true) (GH.fr_isinstance (K := K) T) (ev_var 1) (ev_cls (GH.g_Step (K := K) T)) (by exact rfl) (isi_self (GH.isi_Step (K := K) T))))) (by first | rfl | (exact by first | (apply decide_eq_false; omega) | with_reducible rfl | (simp <;> omega) | (simp_all; done))) ?_
  refine bv_expr (xw_ev (ev_callA (hr.mono (show 1 ≤ _ by decide)) (av_cons (ev_var 1) (av_cons (ev_at 3 (GH.cl_Tour (K := K) T) (GH.na_Tour_step (K := K) T) (ev_var 0)) av_nil)) (eqaxes_ok (K := K) T)) ?_)
  refine bv_asgE (S' := [_, _, _]) 2 hnd (ev_lst (av_cons (ev_callA (hr.mono (show 6 ≤ _ by decide)) (av_cons (ev_var 0) (av_cons (ev_var 1) (av_cons (ev_neg ev_int) av_nil))) (past_yes (K := K) T)) (av_cons (ev_callA (hr.mono (show 6 ≤ _ by decide)) (av_cons (ev_var 0) (av_cons (ev_var 1) (av_cons ev_int av_nil))) (past_no (K := K) T)) av_nil))) ?_
  refine bv_retE (ev_ifT (tv_cm (cv_in2 (b1 := false) (b2 := true) (n := 2) (hr.mono (show 3 ≤ _ by decide)) ev_non (ev_var 2) (EqP.mono (m := 2) (eqP_insN (GH.nn_Ratio (K := K) T) (rat_eqN (K := K) T)) (by decide)) (EqP.mono (m := 2) eqP_non (by decide)))) ev_non) ?_
  rfl
theorem news_sn (T : GH.Txt K mg) {ps : List Prt} {a b : Rat} {y1 : Rat} (h : PsOk ps := by first | assumption) (ha : G.Sm 260 a := by first | assumption | exact smc_le (by decide)) (hb : G.Sm 260 b := by first | assumption | exact smc_le (by decide)) (h1 : ageF (-1) ps (dQ (-1) a b) = some y1 := by assumption) (h2 : ageF 1 ps (dQ 1 a b) = none := by assumption) : Fn P w K mg base "age_of_news" 7 [tourV K ps, stepV K (SoL a b)] (.non) := by
  obtain ⟨fd, F⟩ := GH.d_age_of_news T
  exact mk_fn (news_sn_f T (F := F)) F (GH.g_age_of_news (K := K) T) (b2 F)
theorem news_sn_kw0 (T : GH.Txt K mg) {ps : List Prt} {a b : Rat} {y1 : Rat} (h : PsOk ps := by first | assumption) (ha : G.Sm 260 a := by first | assumption | exact smc_le (by decide)) (hb : G.Sm 260 b := by first | assumption | exact smc_le (by decide)) (h1 : ageF (-1) ps (dQ (-1) a b) = some y1 := by assumption) (h2 : ageF 1 ps (dQ 1 a b) = none := by assumption) : FnK P w K mg base "age_of_news" 7 ["step", "tour"] [] [stepV K (SoL a b), tourV K ps] (.non) := by
  obtain ⟨fd, F⟩ := GH.d_age_of_news T
  refine ⟨_, fd, _, _, k02r, k02r, news_sn_f T (F := F), (GH.g_age_of_news (K := K) T), F.kp, ⟨fun s us ws _ hl => ?_, k02r_rel⟩, fun _ _ _ => iss_k02r⟩
  obtain ⟨oc, od, dV, kV, doc, pm, an, cdv, ct, osl, e, lk, hcd, hD, hK⟩ := F.ex
  rcases hD with ⟨_, e2⟩ | ⟨e2, _⟩
  · subst e e2
    match us, ws, hl with
    | [], [v0, v1], _ => exact .of_eq rfl
  · exact absurd rfl e2

theorem news_nn_f (T : GH.Txt K mg) {ps : List Prt} {a b : Rat}  (h : PsOk ps := by first | assumption) (ha : G.Sm 260 a := by first | assumption | exact smc_le (by decide)) (hb : G.Sm 260 b := by first | assumption | exact smc_le (by decide)) (h1 : ageF (-1) ps (dQ (-1) a b) = none := by assumption) (h2 : ageF 1 ps (dQ 1 a b) = none := by assumption) {f : Addr} {fd : FuncData} (F : G.FnP K "age_of_news" "age_of_news" (G.top 51) [] f fd) : FnOk P w K mg base CX0 7 f fd ["tour", "step"] (VS [tourV K ps, stepV K (SoL a b)] (.non)) := by
  have hnd : (["tour", "step", "ages"] : List Str).Nodup := by decide +kernel
  haveI := smc_of ha
  haveI := smc_of hb
  have ax1 : (SoL a b).ps.length = (spQ ps).ps.length := rfl
  refine fn_vs (k := 6) (N := ["tour", "step", "ages"]) (pn := ["tour", "step"]) (S0 := [.pv (tourV K ps), .pv (stepV K (SoL a b)), .no]) F ⟨rfl, rfl, rfl, by decide +kernel, rfl, by decide +kernel, by decide +kernel⟩ rfl rfl (of_decide_eq_true rfl) ?_
  intro cdv A outer s H E hr
  refine bv_expr (xw_ev (ev_callA (hr.mono (show 1 ≤ _ by decide)) (av_cons (ev_var 0) av_nil) (ask_tour_ok (K := K) T)) ?_)
  refine bv_skip (tv_not (tv_val (ev_isi (bb := true) (GH.fr_isinstance (K := K) T) (ev_var 1) (ev_cls (GH.g_Step (K := K) T)) (by exact rfl) (isi_self (GH.isi_Step (K := K) T))))) (by first | rfl | (exact by first | (apply decide_eq_false; omega) | with_reducible rfl | (simp <;> omega) | (simp_all; done))) ?_
  refine bv_expr (xw_ev (ev_callA (hr.mono (show 1 ≤ _ by decide)) (av_cons (ev_var 1) (av_cons (ev_at 3 (GH.cl_Tour (K := K) T) (GH.na_Tour_step (K := K) T) (ev_var 0)) av_nil)) (eqaxes_ok (K := K) T)) ?_)
  refine bv_asgE (S' := [_, _, _]) 2 hnd (ev_lst (av_cons (ev_callA (hr.mono (show 6 ≤ _ by decide)) (av_cons (ev_var 0) (av_cons (ev_var 1) (av_cons (ev_neg ev_int) av_nil))) (past_no (K := K) T)) (av_cons (ev_callA (hr.mono (show 6 ≤ _ by decide)) (av_cons (ev_var 0) (av_cons (ev_var 1) (av_cons ev_int av_nil))) (past_no (K := K) T)) av_nil))) ?_
  refine bv_retE (ev_ifT (tv_cm (cv_in2 (b1 := true) (b2 := true) (n := 0) (hr.mono (show 1 ≤ _ by decide)) ev_non (ev_var 2) (EqP.mono (m := 0) eqP_non (by decide)) (EqP.mono (m := 0) eqP_non (by decide)))) ev_non) ?_
  rfl
theorem news_nn (T : GH.Txt K mg) {ps : List Prt} {a b : Rat}  (h : PsOk ps := by first | assumption) (ha : G.Sm 260 a := by first | assumption | exact smc_le (by decide)) (hb : G.Sm 260 b := by first | assumption | exact smc_le (by decide)) (h1 : ageF (-1) ps (dQ (-1) a b) = none := by assumption) (h2 : ageF 1 ps (dQ 1 a b) = none := by assumption) : Fn P w K mg base "age_of_news" 7 [tourV K ps, stepV K (SoL a b)] (.non) := by
  obtain ⟨fd, F⟩ := GH.d_age_of_news T
  exact mk_fn (news_nn_f T (F := F)) F (GH.g_age_of_news (K := K) T) (b2 F)
theorem news_nn_kw0 (T : GH.Txt K mg) {ps : List Prt} {a b : Rat}  (h : PsOk ps := by first | assumption) (ha : G.Sm 260 a := by first | assumption | exact smc_le (by decide)) (hb : G.Sm 260 b := by first | assumption | exact smc_le (by decide)) (h1 : ageF (-1) ps (dQ (-1) a b) = none := by assumption) (h2 : ageF 1 ps (dQ 1 a b) = none := by assumption) : FnK P w K mg base "age_of_news" 7 ["step", "tour"] [] [stepV K (SoL a b), tourV K ps] (.non) := by
  obtain ⟨fd, F⟩ := GH.d_age_of_news T
  refine ⟨_, fd, _, _, k02r, k02r, news_nn_f T (F := F), (GH.g_age_of_news (K := K) T), F.kp, ⟨fun s us ws _ hl => ?_, k02r_rel⟩, fun _ _ _ => iss_k02r⟩
  obtain ⟨oc, od, dV, kV, doc, pm, an, cdv, ct, osl, e, lk, hcd, hD, hK⟩ := F.ex
  rcases hD with ⟨_, e2⟩ | ⟨e2, _⟩
  · subst e e2
    match us, ws, hl with
    | [], [v0, v1], _ => exact .of_eq rfl
  · exact absurd rfl e2
end
end E
set_option maxHeartbeats 4000000
namespace E
open PySem PySem.Spec PyProof.Rows L2 Evl G He
section
variable {P : Program} {w : World} {K : PySem.W.Frag} {mg : Str → Option Value} {base : Heap}
theorem pen_ok (T : GH.Txt K mg) : Cal P w K mg base "_law_pen" 1 [] (SpPen K 62) := by
  obtain ⟨fd, F⟩ := GH.d__law_pen T
  have Sc : FnScope ["_law_script", "_law_cell"] ["_law_script"] (defScope (G.top 60)) := ⟨rfl, rfl, rfl, by decide +kernel, rfl, by decide +kernel, by decide +kernel⟩
  refine ⟨_, _, _, [], fn_pure F Sc (fun _ => rfl) fun t cdv Ar outer s H E vs Q hr ha hq => ?_, GH.g__law_pen T, F.kp, b1 F, .nil⟩
  obtain ⟨ns, hl⟩ := t
  obtain ⟨v, r, rfl, hv, hr2⟩ := ha
  cases (show r = [] from hr2)
  refine b_ret (P := LstOf [IsL IsI (ns.take 62), IsI 0, IsI 0]) ?_ fun v5 H5 e5 h5 => hq v5 H5 e5 h5
  refine eg_lst (ag_cons ?_ (ag_cons eg_int (ag_cons eg_int ag_nil))) (show 3 ≤ 1000 by decide)
  refine eg_lc 1 (R := IsI) (S := IsI) (as := ns.take 62) (fun x => x) Sc.nd (ip_list ?_) (by rw [List.length_take]; omega) (fun a hm u H4 e4 ra s2' H0 Cc cl fp => ?_) (fun _ _ _ _ _ => pg_name Sc.nd rfl (Or.inl rfl)) (hp := ?_)
  · exact eg_cutS (ns := ns) (k := 62) (eg_var 0 rfl hv) eg_int
  · exact eg_intI (GH.fr_int T) (eg_var 1 rfl ra)
  · intro v H h
    rwa [List.map_id'] at h


theorem draw_ok (T : GH.Txt K mg) {m : Int} (h0 : 0 < m := by first | (simp <;> omega) | exact Int.mul_pos (q_dpos _) (q_dpos _) | exact q_dpos _ | with_reducible rfl | assumption | omega) (h1 : m.natAbs < 2 ^ 2000 := by first | assumption | exact bt_le (by decide) | omega) : Dr P w K mg base "_law_draw" 2 1 [.int m] (fun p => ∃ d : Int, p = .int d ∧ 0 ≤ d ∧ d < m) := by
  obtain ⟨fd, F⟩ := GH.d__law_draw T
  have hnd : (["_law_pen_here", "_law_many", "_law_at", "_law_cell", "_law_mixed", "_law_digit", "_law_great"] : List Str).Nodup := by decide +kernel
  haveI := int_bt h1
  refine mk_dr (k := 1) (N := ["_law_pen_here", "_law_many", "_law_at", "_law_cell", "_law_mixed", "_law_digit", "_law_great"]) (pn := ["_law_pen_here", "_law_many"]) F (GH.g__law_draw (K := K) T) ⟨rfl, rfl, rfl, by decide +kernel, rfl, by decide +kernel, by decide +kernel⟩ rfl (of_decide_eq_true rfl) (b2 F) ?_
  intro n hn pa cdv A outer s H E hr
  show BV _ _ [.own pa (.pen n), .pv (.int m), .no, .no, .no, .no, .no] _
  refine bv_open 0 rfl fun cs t r hcl ht => ?_
  show BV _ _ [.own _ (.lst [.lst (pints cs), .int (t : Int), .int (r : Int)]), _, _, _, _, _, _] _
  refine bv_if ?_
  refine xt_borrow 0 rfl (tv_cm (cv_gt (ev_ixL (ev_var 0) ev_int) ev_int)) ?_
  refine iteT (fun h1 => ?_) (fun h1 => ?_)
  · refine bv_asg 5 hnd ?_
    refine xw_borrow 0 rfl (ev_modV (ev_intI (GH.fr_int (K := K) T) (ev_ixL (ev_var 0) ev_int)) (ev_var 1)) ?_
    refine ⟨rfl, ?_⟩
    show BV _ _ [_, _, _, _, _, _, _] _
    refine bv_setixS 0 2 ?_
    refine xw_borrow 0 rfl (ev_fdivV (ev_intI (GH.fr_int (K := K) T) (ev_ixL (ev_var 0) ev_int)) (ev_var 1)) ?_
    refine ⟨_, rfl, ev_int, of_decide_eq_true rfl, ?_⟩
    show BV _ _ [_, _, _, _, _, _, _] _
    refine bv_close 0 (n + 1) rfl hcl (by omega) (by omega) (by first | omega | (refine Int.ediv_nonneg ?_ (by omega); first | omega | (split <;> omega))) ?_
    show BV _ _ [_, _, _, _, _, _, _] _
    refine bv_retE (ev_var 5) ⟨rfl, ?_⟩
    exact ⟨_, rfl, Int.emod_nonneg _ (by omega), Int.emod_lt_of_pos _ h0⟩
  · refine bv_nil ?_
    show BV _ _ [_, _, _, _, _, _, _] _
    refine bv_asg 2 hnd ?_
    refine xw_borrow 0 rfl (ev_ixL (ev_var 0) ev_int) ?_
    refine ⟨rfl, ?_⟩
    show BV _ _ [_, _, _, _, _, _, _] _
    refine bv_setixS 0 1 ?_
    refine xw_ev (ev_add (ev_var 2) ev_int) ?_
    refine ⟨_, rfl, ev_int, of_decide_eq_true rfl, ?_⟩
    show BV _ _ [_, _, _, _, _, _, _] _
    refine bv_asgE (S' := [_, _, _, _, _, _, _]) 3 hnd (ev_add (ev_mulO ev_int (ev_var 2)) ev_int) ?_
    refine bv_if ?_
    refine xt_borrow 0 rfl (tv_cm (cv_neF (rcF_lst eqF_int) (hr.mono (show 1 ≤ _ by decide)) (ev_ixL (ev_var 0) ev_int) (ev_lstM PV.int am_nil))) ?_
    refine iteT (fun hcs => ?_) (fun hcs => ?_)
    · have cl0 : 0 < cs.length := List.length_pos_iff.mpr (by simpa using hcs)
      obtain ⟨y, my, hy⟩ := atI_mod (t := t) cl0
      refine bv_asg 3 hnd ?_
      refine xw_borrow 0 rfl (ev_ixM (f := PV.int) (ev_ixL (ev_var 0) ev_int) (ev_modV (ev_intI (GH.fr_int (K := K) T) (ev_var 2)) (ev_lenM (GH.fr_len (K := K) T) (ev_ixL (ev_var 0) ev_int))) (by first | exact atI_0 | exact atI_1 | exact atI_2 | exact rfl | assumption)) ?_
      refine ⟨rfl, ?_⟩
      show BV _ _ [_, _, _, _, _, _, _] _
      refine bv_nil ?_
      show BV _ _ [_, _, _, _, _, _, _] _
      first | have hyy := hy | generalize 71257 * (t : Int) + 4919 = y
      refine bv_if ?_
      refine xt_borrow 0 rfl (tv_w (wv_and (tv_cm (cv_lt (ev_var 2) (ev_lenM (GH.fr_len (K := K) T) (ev_ixL (ev_var 0) ev_int)))) fun h2 => (wv_and1 (tv_cm (cv_ge (ev_abs (GH.fr_abs (K := K) T) (ev_var 3)) (ev_powV 18 ev_int ev_int)))))) ?_
      refine iteT (fun hbig => ?_) (fun hbig => ?_)
      · have hb18 : (10 : Int) ^ 18 ≤ (y.natAbs : Int) := by simp only [Bool.and_eq_true, decide_eq_true_eq] at hbig; exact hbig.2
        refine bv_asgE (S' := [_, _, _, _, _, _, _]) 6 hnd (ev_add (ev_mulO ev_int (ev_sub (ev_abs (GH.fr_abs (K := K) T) (ev_var 3)) (ev_powV 18 ev_int ev_int))) (ev_intB (GH.fr_int (K := K) T) (ev_cm (cv_lt (ev_var 3) ev_int)))) ?_
        refine bv_setixS 0 2 ?_
        refine xw_ev (ev_fdivV (ev_intI (GH.fr_int (K := K) T) (ev_var 6)) (ev_var 1)) ?_
        refine ⟨_, rfl, ev_int, of_decide_eq_true rfl, ?_⟩
        show BV _ _ [_, _, _, _, _, _, _] _
        refine bv_close 0 (n + 1) rfl hcl (by omega) (by omega) (by first | omega | (refine Int.ediv_nonneg ?_ (by omega); first | omega | (split <;> omega))) ?_
        show BV _ _ [_, _, _, _, _, _, _] _
        refine bv_retE (ev_modV (ev_intI (GH.fr_int (K := K) T) (ev_var 6)) (ev_var 1)) ⟨rfl, ?_⟩
        exact ⟨_, rfl, Int.emod_nonneg _ (by omega), Int.emod_lt_of_pos _ h0⟩
      · refine bv_nil ?_
        show BV _ _ [_, _, _, _, _, _, _] _
        have q1 := Int.emod_nonneg y (show (2147483587 : Int) ≠ 0 by decide)
        have q2 := Int.emod_lt_of_pos y (show (0 : Int) < 2147483587 by decide)
        refine bv_asgE (S' := [_, _, _, _, _, _, _]) 4 hnd (ev_modV (ev_intI (GH.fr_int (K := K) T) (ev_powV 5 (ev_add (ev_add (ev_modV (ev_intI (GH.fr_int (K := K) T) (ev_var 3)) ev_int) (ev_mulO ev_int (ev_var 2))) ev_int) ev_int)) ev_int) ?_
        generalize hx1 : (y % 2147483587 + 83227 * (t : Int) + 4919) ^ 5 % 2147483629 = x1
        have p1 : 0 ≤ x1 := hx1 ▸ Int.emod_nonneg _ (by decide)
        have p2 : x1 < 2147483629 := hx1 ▸ Int.emod_lt_of_pos _ (by decide)
        have w1 := mix_lt (x := x1) (t := (t : Int)) (C := 2381) (D := 71257) (E := 83227) p1 (by omega) (by omega) (by omega) (by decide) (by decide) (by decide) (by decide) (by decide) (by decide)
        have w2 := dt_lt (t := (t : Int)) (D := 71257) (by omega) (by omega) (by decide) (by decide)
        refine bv_asgE (S' := [_, _, _, _, _, _, _]) 4 hnd (ev_modV (ev_intI (GH.fr_int (K := K) T) (ev_powV 3 (ev_add (ev_add (ev_mulO (ev_var 4) (ev_add (ev_mulO ev_int (ev_var 2)) ev_int)) (ev_mulO (ev_mulO ev_int (ev_var 2)) (ev_var 2))) ev_int) ev_int)) ev_int) ?_
        generalize hx2 : (x1 * (2 * (t : Int) + 2381) + 71257 * (t : Int) * (t : Int) + 83227) ^ 3 % 2147483549 = x2
        refine bv_close 0 (n + 1) rfl hcl (by omega) (by omega) (by first | omega | (refine Int.ediv_nonneg ?_ (by omega); first | omega | (split <;> omega))) ?_
        show BV _ _ [_, _, _, _, _, _, _] _
        refine bv_retE (ev_modV (ev_intI (GH.fr_int (K := K) T) (ev_fdivV (ev_var 4) ev_int)) (ev_var 1)) ⟨rfl, ?_⟩
        exact ⟨_, rfl, Int.emod_nonneg _ (by omega), Int.emod_lt_of_pos _ h0⟩
    · refine bv_nil ?_
      show BV _ _ [_, _, _, _, _, _, _] _
      first | have hyy := hy | generalize 71257 * (t : Int) + 4919 = y
      refine bv_if ?_
      refine xt_borrow 0 rfl (tv_w (wv_and (tv_cm (cv_lt (ev_var 2) (ev_lenM (GH.fr_len (K := K) T) (ev_ixL (ev_var 0) ev_int)))) fun h3 => (wv_and1 (tv_cm (cv_ge (ev_abs (GH.fr_abs (K := K) T) (ev_var 3)) (ev_powV 18 ev_int ev_int)))))) ?_
      refine iteT (fun hbig => ?_) (fun hbig => ?_)
      · have hb18 : (10 : Int) ^ 18 ≤ (y.natAbs : Int) := by simp only [Bool.and_eq_true, decide_eq_true_eq] at hbig; exact hbig.2
        refine bv_asgE (S' := [_, _, _, _, _, _, _]) 6 hnd (ev_add (ev_mulO ev_int (ev_sub (ev_abs (GH.fr_abs (K := K) T) (ev_var 3)) (ev_powV 18 ev_int ev_int))) (ev_intB (GH.fr_int (K := K) T) (ev_cm (cv_lt (ev_var 3) ev_int)))) ?_
        refine bv_setixS 0 2 ?_
        refine xw_ev (ev_fdivV (ev_intI (GH.fr_int (K := K) T) (ev_var 6)) (ev_var 1)) ?_
        refine ⟨_, rfl, ev_int, of_decide_eq_true rfl, ?_⟩
        show BV _ _ [_, _, _, _, _, _, _] _
        refine bv_close 0 (n + 1) rfl hcl (by omega) (by omega) (by first | omega | (refine Int.ediv_nonneg ?_ (by omega); first | omega | (split <;> omega))) ?_
        show BV _ _ [_, _, _, _, _, _, _] _
        refine bv_retE (ev_modV (ev_intI (GH.fr_int (K := K) T) (ev_var 6)) (ev_var 1)) ⟨rfl, ?_⟩
        exact ⟨_, rfl, Int.emod_nonneg _ (by omega), Int.emod_lt_of_pos _ h0⟩
      · refine bv_nil ?_
        show BV _ _ [_, _, _, _, _, _, _] _
        have q1 := Int.emod_nonneg y (show (2147483587 : Int) ≠ 0 by decide)
        have q2 := Int.emod_lt_of_pos y (show (0 : Int) < 2147483587 by decide)
        refine bv_asgE (S' := [_, _, _, _, _, _, _]) 4 hnd (ev_modV (ev_intI (GH.fr_int (K := K) T) (ev_powV 5 (ev_add (ev_add (ev_modV (ev_intI (GH.fr_int (K := K) T) (ev_var 3)) ev_int) (ev_mulO ev_int (ev_var 2))) ev_int) ev_int)) ev_int) ?_
        generalize hx1 : (y % 2147483587 + 83227 * (t : Int) + 4919) ^ 5 % 2147483629 = x1
        have p1 : 0 ≤ x1 := hx1 ▸ Int.emod_nonneg _ (by decide)
        have p2 : x1 < 2147483629 := hx1 ▸ Int.emod_lt_of_pos _ (by decide)
        have w1 := mix_lt (x := x1) (t := (t : Int)) (C := 2381) (D := 71257) (E := 83227) p1 (by omega) (by omega) (by omega) (by decide) (by decide) (by decide) (by decide) (by decide) (by decide)
        have w2 := dt_lt (t := (t : Int)) (D := 71257) (by omega) (by omega) (by decide) (by decide)
        refine bv_asgE (S' := [_, _, _, _, _, _, _]) 4 hnd (ev_modV (ev_intI (GH.fr_int (K := K) T) (ev_powV 3 (ev_add (ev_add (ev_mulO (ev_var 4) (ev_add (ev_mulO ev_int (ev_var 2)) ev_int)) (ev_mulO (ev_mulO ev_int (ev_var 2)) (ev_var 2))) ev_int) ev_int)) ev_int) ?_
        generalize hx2 : (x1 * (2 * (t : Int) + 2381) + 71257 * (t : Int) * (t : Int) + 83227) ^ 3 % 2147483549 = x2
        refine bv_close 0 (n + 1) rfl hcl (by omega) (by omega) (by first | omega | (refine Int.ediv_nonneg ?_ (by omega); first | omega | (split <;> omega))) ?_
        show BV _ _ [_, _, _, _, _, _, _] _
        refine bv_retE (ev_modV (ev_intI (GH.fr_int (K := K) T) (ev_fdivV (ev_var 4) ev_int)) (ev_var 1)) ⟨rfl, ?_⟩
        exact ⟨_, rfl, Int.emod_nonneg _ (by omega), Int.emod_lt_of_pos _ h0⟩

theorem pick_ok (T : GH.Txt K mg) {α : Type} {f : α → PV} {ys : List α} (h0 : 0 < ys.length := by first | (simp <;> omega) | exact Int.mul_pos (q_dpos _) (q_dpos _) | exact q_dpos _ | with_reducible rfl | assumption | omega) (h1 : ys.length ≤ 1000 := by first | (simp <;> omega) | exact Int.mul_pos (q_dpos _) (q_dpos _) | exact q_dpos _ | with_reducible rfl | assumption | omega) : Dr P w K mg base "_law_pick" 3 1 [.lst (ys.map f)] (fun p => ∃ y, y ∈ ys ∧ p = f y) := by
  obtain ⟨fd, F⟩ := GH.d__law_pick T
  have hnd : (["_law_pen_here", "_law_some"] : List Str).Nodup := by decide +kernel
  refine mk_dr (k := 2) (N := ["_law_pen_here", "_law_some"]) (pn := ["_law_pen_here", "_law_some"]) F (GH.g__law_pick (K := K) T) ⟨rfl, rfl, rfl, by decide +kernel, rfl, by decide +kernel, by decide +kernel⟩ rfl (of_decide_eq_true rfl) (b2 F) ?_
  intro n hn pa cdv A outer s H E hr
  show BV _ _ [.own pa (.pen n), .pv (.lst (ys.map f))] _
  refine bv_ret (xw_more (d := pa) 0 (n + 1) ?_)
  refine xw_ixM (ev_var 1) ?_
  refine xw_draw (k := 2) (c := 1) 0 (glf_of (GH.d__law_draw (K := K) T) (GH.g__law_draw (K := K) T)) (hr.mono (show 2 ≤ _ by decide)) ?_
  refine xa_cons ?_
  refine xw_ev (ev_lenM (GH.fr_len (K := K) T) (ev_var 1)) ?_
  refine xa_nil ?_
  refine ⟨_, _, rfl, by omega, draw_ok (K := K) T, ?_⟩
  rintro _ S2 e2 ⟨d1, rfl, d1a, d1b⟩
  replace e2 : [_, _] = S2 := e2
  subst e2
  obtain ⟨y0, my0, hy0⟩ := atI_in (cs := ys) d1a d1b
  refine ⟨_, _, rfl, hy0, ?_⟩
  refine ⟨_, rfl, by omega, rfl, ?_⟩
  exact ⟨_, my0, rfl⟩
end
end E
set_option maxHeartbeats 4000000
/-! E27: a loop over a drawn range; an own list and another value by a plain tuple; and, where both may draw. -/
namespace E
open PySem PySem.Spec PyProof.Rows L2 Evl G He
section
variable {X : Cx} {S : List Sl} {D : VE} {rest A B body : List Stmt} {S' : List Sl} {pos pp pt pt2 pf px py p1 p2 : Pos} {e tg l a b : Expr} {es : List Expr} {p q : PV} {Φ : Phi} {x y m : Str} {kt k2 : Nat}
theorem bv_forR (pat : Pat) (bd : Nat → List (Nat × PV)) (hm : X.mg "range" = none) (ha : XA X [l] S fun ps S1 => ∃ (n : Nat) (P : Nat → List Sl → Prop), ps = [.int (n : Int)] ∧ n ≤ 1000000 ∧ P 0 S1 ∧
      (∀ i S2, i < n → P i S2 → (∀ c ∈ bd i, NotOwn S2 c.1) ∧ BV X body (setS S2 (bd i)) { nx := P (i + 1), ct := P (i + 1), bk := fun S3 => BV X rest S3 D, rt := D.rt }) ∧ ∀ S2, P n S2 → BV X rest S2 D)
    (hb : ∀ i : Nat, pat.bind (PV.int (i : Int)) = some (bd i)) (hg : PG X tg (gPat X.K pat)) (hgl : Gl X "range" := by rfl) (hst : starEach [l] X.env = [(false, eval l X.env)] := by rfl)
    (hxe : PassesOwn (model X.prog X.w) X.A X.env X.xe := by exact PassesOwn.never) (hc : X.calm = true := by rfl) (hf : ∀ x, foldedSetIterable (.Call (.Name "range" pp) [l] [] pf) X.env x = pure x := by intro _; rfl) : BV X (.For tg (.Call (.Name "range" pp) [l] [] pf) body [] pos :: rest) S D := fun σ H r => by
  refine b_of (ps_for hxe hc (pi_range1 hgl hm pa_W hst) hg pss_W hf) ?_
  refine aw_mono (ha σ H r) fun vs H2 ⟨ps, S1, ⟨n, P, e0, hn, h0, hs, hd⟩, r1, i1, x0⟩ => ?_
  subst e0
  obtain ⟨v, t1, ev, pv, e5⟩ := i1
  cases (show t1 = [] from e5)
  cases (show v = _ from pv)
  refine ⟨(n : Int), ev, by omega, by omega, ?_⟩
  have W : Walk (Itr 0 ((n : Int)).toNat) (List.range n).length (fun _ => True) (fun i H x H' => H' = H ∧ i < n ∧ x = .int (i : Int)) := by
    rw [List.length_range]
    refine ⟨fun i _ hi _ => ?_, fun _ _ => ?_, fun i Ha x Hb hi _ y => ?_⟩
    · show i < ((n : Int)).toNat
      omega
    · show ((n : Int)).toNat ≤ n
      omega
    · obtain ⟨y1, y2⟩ := y
      exact ⟨y1, hi, by rw [y2, Int.zero_add]⟩
  refine for_it W (fun i σ' H' => ∃ S2, P i S2 ∧ Rep S2 σ' H' ∧ Ex (vis S H) (vis S2 H')) ⟨S1, h0, r1, x0⟩ (fun i σ' H' _ _ => True.intro) (fun i v σ' Ha Hb hi ⟨S2, p1, r2, x1⟩ yy => ?_) (fun σ' H' ⟨S2, p1, r2, x1⟩ => (hd S2 (by rwa [List.length_range] at p1)).at r2 x1)
  obtain ⟨eb, hin, ei⟩ := yy
  subst eb ei
  obtain ⟨hno, hB⟩ := hs i S2 hin p1
  refine gPat_run (h := vis S2 Hb) (fun _ _ z => ex_vis _ _ z) (hb i) rfl fun σ2 hBd => ?_
  have r3 := rep_bound r2 hno hBd
  have ev : vis (setS S2 (bd i)) Hb = vis S2 Hb := by show visL _ _ = visL _ _; rw [(setS_adr hno).1]
  have x2 : Ex (vis S H) (vis (setS S2 (bd i)) Hb) := by rw [ev]; exact x1
  refine BW.imp (hB σ2 Hb r3) ?_ ?_ ?_ ?_
  · exact fun _ _ ⟨S3, q1, q2, q3⟩ => ⟨S3, q1, q2, x2.trans q3⟩
  · exact fun _ _ ⟨w, S3, σ3, q1, q2, q3, q4⟩ => ⟨w, S3, σ3, q1, q2, q3, x2.trans q4⟩
  · exact fun _ _ ⟨S3, q1, q2, q3⟩ => q1.at q2 (x2.trans q3)
  · exact fun _ _ ⟨S3, q1, q2, q3⟩ => ⟨S3, q1, q2, x2.trans q3⟩
/-- x, y = [], e, by a tuple -/
theorem bv_tgt2N (i j : Nat) {pl : Pos} (hN : X.N.Nodup) (h : XW X e S fun q S1 => NotOwn S1 i ∧ NotOwn S1 j ∧ i < S1.length ∧ ∀ d, BV X rest ((S1.set i (.own d (.lst []))).set j (.pv q)) D) (hi : X.N[i]? = some x := by rfl) (hj : X.N[j]? = some y := by rfl) (hij : i ≠ j := by decide)
    (g1 : PG X (.Name x px) (gName i)) (g2 : PG X (.Name y py) (gName j)) (hc : X.calm = true := by rfl)
    (hst : starEach [.List [] pl, e] X.env = (false, eval (.List [] pl) X.env) :: starEach [e] X.env := by rfl) (hst2 : starEach [e] X.env = (false, eval e X.env) :: starEach [] X.env := by rfl)
    (hn : (assignEach [.Name x px, .Name y py] X.env).length = 2 := by rfl) (hfi : (assignEach [.Name x px, .Name y py] X.env).findIdx? (·.1) = none := by rfl)
    (q1 : (assignEach [.Name x px, .Name y py] X.env).map (·.2) = assign (.Name x px) X.env :: (assignEach [.Name y py] X.env).map (·.2) := by rfl) (q2 : (assignEach [.Name y py] X.env).map (·.2) = assign (.Name y py) X.env :: (assignEach [] X.env).map (·.2) := by rfl)
    (hs : swapsWithSole [.Tuple [.Name x px, .Name y py] kt pt] (.Tuple [.List [] pl, e] k2 pt2) pos.line X.env = pure false := by rfl) (hw : swappedStores [.Tuple [.Name x px, .Name y py] kt pt] (.Tuple [.List [] pl, e] k2 pt2) X.env = pure none := by rfl)
    (h1 : (assignEach [.Tuple [.Name x px, .Name y py] kt pt] X.env).map (·.2) = [assign (.Tuple [.Name x px, .Name y py] kt pt) X.env] := by rfl) :
    BV X (.Assign [.Tuple [.Name x px, .Name y py] kt pt] (.Tuple [.List [] pl, e] k2 pt2) pos :: rest) S D := fun σ H re => by
  refine b_of (ps_asg (pe_tup (pa_cons (pe_lst pa_nil) (pa_cons pe_W pa_nil hst2) hst)) (pg_tup hc (pgs_cons g1 (pgs_cons g2 pgs_nil q2) q1) hn hfi) hs hw h1) ?_
  refine ⟨sz_of (Nat.zero_le _), fun d hd => ?_⟩
  have e1 : Ex H (upd H d (.lst [])) := Ex.new hd
  have hid_ : Hideable [d] (upd H d (.lst [])) := .one upd_same rfl .nil
  have hv : visL [d] (upd H d (.lst [])) = H := by
    funext c
    unfold visL
    by_cases z : c = d
    · subst z; rw [if_pos (by simp), hd]
    · rw [if_neg (by simp [z]), upd_ne z]
  refine ew_hidL hid_ ?_
  rw [hv]
  refine ew_mono (h σ H re) fun v H2 ⟨q, S1, ⟨ni, nj, li, kk⟩, r1, i1, x1⟩ hn2 => ?_
  have hd2 : H2 d = none := hn2 d (by simp)
  have ef : fillL [d] (upd H d (.lst [])) H2 = upd H2 d (.lst []) := by
    funext c
    unfold fillL
    by_cases z : c = d
    · subst z; rw [if_pos (by simp), upd_same, upd_same]
    · rw [if_neg (by simp [z]), upd_ne z]
  rw [ef]
  obtain ⟨r2, ev⟩ := r1.new (o := .lst []) (w := .lst []) ni li hd2 rfl ⟨[], upd_same, rfl⟩
  have nj2 : NotOwn (S1.set i (.own d (.lst []))) j := by
    unfold NotOwn at *
    rw [List.getElem?_set_ne hij]
    exact nj
  have iv : q.Is v (vis (S1.set i (.own d (.lst []))) (upd H2 d (.lst []))) := by rw [ev]; exact i1
  have r3 := r2.setP nj2 iv
  refine ⟨sz_of (show 2 ≤ _ by decide), fun t ht => ?_⟩
  have x3 : Ex (upd H2 d (.lst [])) (upd (upd H2 d (.lst [])) t (.tup [.ref d, v])) := Ex.new ht
  refine ⟨t, _, rfl, SqT.of upd_same, rfl, .ref d, _, rfl, v, _, rfl, rfl, ?_⟩
  refine (kk d).at (r3.up x3) (x1.trans ?_)
  have ev2 : vis ((S1.set i (.own d (.lst []))).set j (.pv q)) (upd H2 d (.lst [])) = vis S1 H2 := by
    rw [show vis ((S1.set i (.own d (.lst []))).set j (.pv q)) (upd H2 d (.lst [])) = vis (S1.set i (.own d (.lst []))) (upd H2 d (.lst [])) from by show visL _ _ = visL _ _; rw [adrs_pure nj2 rfl], ev]
  rw [← ev2]
  exact ex_visL x3
theorem xw_and1 (h : XW X a S Φ) (hp : PE X (.BoolOp .And [a] pos) (EW X a) := by exact pe_one pe_W) : XW X (.BoolOp .And [a] pos) S Φ := fun σ H r pins s I => hp.run pins s σ H _ I (h σ H r)
theorem xw_andT (h : XW X a S fun p S1 => p = .bl true ∧ XW X (.BoolOp .And (b :: es) pos) S1 Φ) : XW X (.BoolOp .And (a :: b :: es) pos) S Φ := fun σ H r pins s I =>
  (pe_and pe_W pe_W).run pins s σ H _ I (ew_mono (h σ H r) fun v H1 ⟨p, S1, ⟨e0, h1⟩, r1, i1, x1⟩ => by
    subst e0
    cases (show v = _ from i1)
    refine ⟨true, rfl, ?_⟩
    rw [if_pos rfl]
    exact ew_mono (h1 σ H1 r1) fun w H2 ⟨q, S2, h2, r2, i2, x2⟩ => ⟨q, S2, h2, r2, i2, x1.trans x2⟩)
end
end E
set_option maxHeartbeats 4000000
namespace E
open PySem PySem.Spec PyProof.Rows L2 Evl G He
section
variable {P : Program} {w : World} {K : PySem.W.Frag} {mg : Str → Option Value} {base : Heap}
abbrev LPt := (Int × Int) × (Int × Int)
abbrev TRt := (Int × Int) × (Int × Int) × (Int × Int)
def LB (w : Int) (x : LPt) : Prop := (1 ≤ x.1.1 ∧ x.1.1 ≤ w) ∧ (1 ≤ x.1.2 ∧ x.1.2 ≤ w) ∧ (1 ≤ x.2.1 ∧ x.2.1 ≤ 20) ∧ (1 ≤ x.2.2 ∧ x.2.2 ≤ 6)
def cvP (x : LPt) : Prt := (Rat.divInt x.1.1 x.1.2, Rat.divInt x.2.1 x.2.2)
structure LOk (w : Int) (xs : List LPt) : Prop where
  l1 : 1 ≤ xs.length
  l2 : xs.length ≤ 12
  b : ∀ x ∈ xs, LB w x
theorem LOk.ps {w : Int} {xs : List LPt} (h : LOk w xs) (hw : w ≤ 8991) : PsOk (xs.map cvP) := by
  have e14 : (2 : Nat) ^ 14 = 16384 := by decide
  refine ⟨by rw [List.length_map]; exact h.l1, by rw [List.length_map]; exact h.l2, fun p hp => ?_, fun p hp => ?_, fun p hp => ?_, fun p hp => ?_⟩
  all_goals
    obtain ⟨x, hx, e⟩ := List.mem_map.mp hp
    obtain ⟨⟨a1, a2⟩, ⟨a3, a4⟩, ⟨a5, a6⟩, a7, a8⟩ := h.b x hx
    subst e
  · exact (div_gt (by omega)).mpr (by omega)
  · exact (div_gt (by omega)).mpr (by omega)
  · exact sm_div (by omega) (by omega) (by omega)
  · exact sm_div (by omega) (by omega) (by omega)

theorem parts_ok (T : GH.Txt K mg) {m : Int} (m1 : 1 ≤ m := by first | (simp <;> omega) | exact Int.mul_pos (q_dpos _) (q_dpos _) | exact q_dpos _ | with_reducible rfl | assumption | omega) (m2 : m ≤ 7 := by first | (simp <;> omega) | exact Int.mul_pos (q_dpos _) (q_dpos _) | exact q_dpos _ | with_reducible rfl | assumption | omega) : Dr P w K mg base "_law_parts" 4 31 [.int m] (fun v => ∃ xs : List LPt, v = lsV (pr2 (pr2 PV.int PV.int) (pr2 PV.int PV.int)) xs ∧ 1 ≤ xs.length ∧ (xs.length : Int) ≤ m ∧ ∀ x ∈ xs, LB 999 x) := by
  obtain ⟨fd, F⟩ := GH.d__law_parts T
  have hnd : (["_law_pen_here", "_law_most", "_law_turn", "_law_found", "_law_wide", "_law_ratio", "_law_beats"] : List Str).Nodup := by decide +kernel
  refine mk_dr (k := 3) (N := ["_law_pen_here", "_law_most", "_law_turn", "_law_found", "_law_wide", "_law_ratio", "_law_beats"]) (pn := ["_law_pen_here", "_law_most"]) F (GH.g__law_parts (K := K) T) ⟨rfl, rfl, rfl, by decide +kernel, rfl, by decide +kernel, by decide +kernel⟩ rfl (of_decide_eq_true rfl) (b2 F) ?_
  intro n hn pa cdv A outer s H E hr
  show BV _ _ [.own pa (.pen n), .pv (.int m), .no, .no, .no, .no, .no] _
  refine bv_tgt2N 3 4 hnd ?_ (g1 := pg_name hnd rfl (by first | exact Or.inl rfl | exact Or.inr rfl)) (g2 := pg_name hnd rfl (by first | exact Or.inl rfl | exact Or.inr rfl))
  refine xw_draw (k := 3) (c := 1) 0 (glf_of (GH.d__law_pick (K := K) T) (GH.g__law_pick (K := K) T)) (hr.mono (show 3 ≤ _ by decide)) ?_
  refine xa_cons ?_
  refine xw_ev (ev_lstM PV.int (am_cons ev_int (am_cons ev_int (am_cons ev_int am_nil)))) ?_
  refine xa_nil ?_
  refine ⟨_, _, rfl, by omega, pick_ok (K := K) T, ?_⟩
  rintro _ S2 e2 ⟨y1, y1m, rfl⟩
  replace e2 : [_, _, _, _, _, _, _] = S2 := e2
  subst e2
  have w1 : 9 ≤ y1 ∧ y1 ≤ 999 := by simp only [List.mem_cons, List.not_mem_nil, or_false] at y1m; omega
  refine ⟨rfl, rfl, of_decide_eq_true rfl, fun d0 => ?_⟩
  show BV _ _ [_, _, _, .own _ (.lst (List.map (pr2 (pr2 PV.int PV.int) (pr2 PV.int PV.int)) [])), _, _, _] _
  refine bv_forR (.nm 2) (fun it => [(2, PV.int ((it : Nat) : Int))]) (GH.fr_range (K := K) T) ?_ (fun _ => rfl) (pg_name hnd rfl (by first | exact Or.inl rfl | exact Or.inr rfl))
  refine xa_cons ?_
  refine xw_add ?_
  refine xw_ev ev_int ?_
  refine ⟨_, rfl, ?_⟩
  refine xw_draw (k := 2) (c := 1) 0 (glf_of (GH.d__law_draw (K := K) T) (GH.g__law_draw (K := K) T)) (hr.mono (show 2 ≤ _ by decide)) ?_
  refine xa_cons ?_
  refine xw_ev (ev_var 1) ?_
  refine xa_nil ?_
  refine ⟨_, _, rfl, by omega, draw_ok (K := K) T, ?_⟩
  rintro _ S2 e2 ⟨d2, rfl, d2a, d2b⟩
  replace e2 : [_, _, _, _, _, _, _] = S2 := e2
  subst e2
  refine ⟨_, rfl, ?_⟩
  refine xa_nil ?_
  obtain ⟨nn, enn⟩ : ∃ n : Nat, 1 + d2 = (n : Int) := ⟨(1 + d2).toNat, by omega⟩
  refine ⟨nn, (fun i S => ∃ xs : List LPt, (xs.length = i ∧ ∀ x ∈ xs, LB 999 x) ∧ S = [.own _ (.pen (n + 1 + 1 + i * 4)), _, _, .own d0 (.lst (List.map (pr2 (pr2 PV.int PV.int) (pr2 PV.int PV.int)) xs)), _, _, _]), by rw [enn], by omega, ⟨[], ⟨rfl, fun _ h => nomatch h⟩, rfl⟩, fun i S1 il hS => ?_, fun S1 hS => ?_⟩
  · obtain ⟨xs, ⟨xl, xb⟩, rfl⟩ := hS
    refine ⟨nown rfl, ?_⟩
    show BV _ _ [_, _, _, _, _, _, _] _
    refine bv_appendM (f := (pr2 (pr2 PV.int PV.int) (pr2 PV.int PV.int))) 3 ?_
    refine xw_tup ?_
    refine xa_cons ?_
    refine xw_tup ?_
    refine xa_cons ?_
    refine xw_add ?_
    refine xw_ev ev_int ?_
    refine ⟨_, rfl, ?_⟩
    refine xw_draw (k := 2) (c := 1) 0 (glf_of (GH.d__law_draw (K := K) T) (GH.g__law_draw (K := K) T)) (hr.mono (show 2 ≤ _ by decide)) ?_
    refine xa_cons ?_
    refine xw_ev (ev_var 4) ?_
    refine xa_nil ?_
    refine ⟨_, _, rfl, by omega, draw_ok (K := K) T, ?_⟩
    rintro _ S2 e2 ⟨d3, rfl, d3a, d3b⟩
    replace e2 : [_, _, _, _, _, _, _] = S2 := e2
    subst e2
    refine ⟨_, rfl, ?_⟩
    refine xa_cons ?_
    refine xw_add ?_
    refine xw_ev ev_int ?_
    refine ⟨_, rfl, ?_⟩
    refine xw_draw (k := 2) (c := 1) 0 (glf_of (GH.d__law_draw (K := K) T) (GH.g__law_draw (K := K) T)) (hr.mono (show 2 ≤ _ by decide)) ?_
    refine xa_cons ?_
    refine xw_ev (ev_var 4) ?_
    refine xa_nil ?_
    refine ⟨_, _, rfl, by omega, draw_ok (K := K) T, ?_⟩
    rintro _ S2 e2 ⟨d4, rfl, d4a, d4b⟩
    replace e2 : [_, _, _, _, _, _, _] = S2 := e2
    subst e2
    refine ⟨_, rfl, ?_⟩
    refine xa_nil ?_
    refine ⟨of_decide_eq_true rfl, ?_⟩
    refine xa_cons ?_
    refine xw_tup ?_
    refine xa_cons ?_
    refine xw_add ?_
    refine xw_ev ev_int ?_
    refine ⟨_, rfl, ?_⟩
    refine xw_draw (k := 2) (c := 1) 0 (glf_of (GH.d__law_draw (K := K) T) (GH.g__law_draw (K := K) T)) (hr.mono (show 2 ≤ _ by decide)) ?_
    refine xa_cons ?_
    refine xw_ev ev_int ?_
    refine xa_nil ?_
    refine ⟨_, _, rfl, by omega, draw_ok (K := K) T, ?_⟩
    rintro _ S2 e2 ⟨d5, rfl, d5a, d5b⟩
    replace e2 : [_, _, _, _, _, _, _] = S2 := e2
    subst e2
    refine ⟨_, rfl, ?_⟩
    refine xa_cons ?_
    refine xw_add ?_
    refine xw_ev ev_int ?_
    refine ⟨_, rfl, ?_⟩
    refine xw_draw (k := 2) (c := 1) 0 (glf_of (GH.d__law_draw (K := K) T) (GH.g__law_draw (K := K) T)) (hr.mono (show 2 ≤ _ by decide)) ?_
    refine xa_cons ?_
    refine xw_ev ev_int ?_
    refine xa_nil ?_
    refine ⟨_, _, rfl, by omega, draw_ok (K := K) T, ?_⟩
    rintro _ S2 e2 ⟨d6, rfl, d6a, d6b⟩
    replace e2 : [_, _, _, _, _, _, _] = S2 := e2
    subst e2
    refine ⟨_, rfl, ?_⟩
    refine xa_nil ?_
    refine ⟨of_decide_eq_true rfl, ?_⟩
    refine xa_nil ?_
    refine ⟨of_decide_eq_true rfl, ?_⟩
    refine ⟨((_, _), (_, _)), _, rfl, rfl, (by first | (simp <;> omega) | exact Int.mul_pos (q_dpos _) (q_dpos _) | exact q_dpos _ | with_reducible rfl | assumption | omega), ?_⟩
    show BV _ _ [_, _, _, _, _, _, _] _
    refine bv_drop 2 ?_
    refine bv_more 0 rfl (m := n + 1 + 1 + (i + 1) * 4) (by omega) ?_
    refine bv_nil ?_
    refine ⟨_, ⟨?_, ?_⟩, rfl⟩
    · rw [List.length_append, xl]; rfl
    · exact all_snoc xb ⟨⟨by show 1 ≤ 1 + _; omega, by show 1 + _ ≤ 999; omega⟩, ⟨by show 1 ≤ 1 + _; omega, by show 1 + _ ≤ 999; omega⟩, ⟨by show 1 ≤ 1 + _; omega, by show 1 + _ ≤ 20; omega⟩, by show 1 ≤ 1 + _; omega, by show 1 + _ ≤ 6; omega⟩
  · obtain ⟨xs, ⟨xl, xb⟩, rfl⟩ := hS
    refine bv_more 0 rfl (m := n + 1 + 1 + 28) (by omega) ?_
    show BV _ _ [_, _, _, _, _, _, _] _
    obtain ⟨x0, xt, rfl⟩ : ∃ a b, xs = a :: b := by
      cases xs with
      | nil => simp at xl; omega
      | cons a b => exact ⟨a, b, rfl⟩
    refine bv_if ?_
    refine xt_ci op_eqI ?_
    refine xw_draw (k := 2) (c := 1) 0 (glf_of (GH.d__law_draw (K := K) T) (GH.g__law_draw (K := K) T)) (hr.mono (show 2 ≤ _ by decide)) ?_
    refine xa_cons ?_
    refine xw_ev ev_int ?_
    refine xa_nil ?_
    refine ⟨_, _, rfl, by omega, draw_ok (K := K) T, ?_⟩
    rintro _ S2 e2 ⟨d7, rfl, d7a, d7b⟩
    replace e2 : [_, _, _, _, _, _, _] = S2 := e2
    subst e2
    refine ⟨_, rfl, ?_⟩
    refine xw_ev ev_int ?_
    refine ⟨_, rfl, ?_⟩
    refine iteT (fun h1 => ?_) (fun h1 => ?_)
    · refine bv_give 3 rfl ?_
      show BV _ _ [_, _, _, _, _, _, _] _
      refine bv_more 0 rfl (m := n + 31) (by omega) ?_
      show BV _ _ [_, _, _, _, _, _, _] _
      refine bv_retE (ev_mapL (g := (pr2 (pr2 PV.int PV.int) (pr2 PV.int PV.int))) (ev_lc (b := (fun it : ((Int × Int) × (Int × Int)) => [(5, (pr2 PV.int PV.int) it.1), (6, (pr2 PV.int PV.int) it.2)])) (own := [("_law_ratio", 5), ("_law_beats", 6)]) (.tp [.nm 5, .nm 6]) hnd (iu_list (ev_var 3)) (by first | (simp <;> omega) | exact Int.mul_pos (q_dpos _) (q_dpos _) | exact q_dpos _ | with_reducible rfl | assumption | omega) (fun it h2 _ _ _ _ _ => (ev_tup2 (pr2 PV.int PV.int) (pr2 PV.int PV.int) (ev_ixT (ev_ixM (f := (pr2 (pr2 PV.int PV.int) (pr2 PV.int PV.int))) (ev_var 3) ev_int (by first | exact atI_0 | exact atI_1 | exact atI_2 | exact rfl | assumption)) ev_int) (ev_var 6))) (fun _ _ _ _ _ => (pg_tup rfl (pgs_cons (pg_name hnd rfl (by first | exact Or.inl rfl | exact Or.inr rfl)) (pgs_cons (pg_name hnd rfl (by first | exact Or.inl rfl | exact Or.inr rfl)) pgs_nil)))))) ⟨rfl, ?_⟩
      refine ⟨(x0 :: xt).map fun it => (x0.1, it.2), rfl, by simp, by rw [List.length_map, xl]; omega, fun x hx => ?_⟩
      obtain ⟨y, hy, e⟩ := List.mem_map.mp hx
      subst e
      exact ⟨(xb x0 (by simp)).1, (xb x0 (by simp)).2.1, (xb y hy).2.2⟩
    · refine bv_nil ?_
      show BV _ _ [_, _, _, _, _, _, _] _
      refine bv_give 3 rfl ?_
      show BV _ _ [_, _, _, _, _, _, _] _
      refine bv_more 0 rfl (m := n + 31) (by omega) ?_
      show BV _ _ [_, _, _, _, _, _, _] _
      refine bv_retE (ev_var 3) ⟨rfl, ?_⟩
      exact ⟨_, rfl, by simp, by rw [xl]; omega, xb⟩
end
end E
set_option maxHeartbeats 4000000
namespace E
open PySem PySem.Spec PyProof.Rows L2 Evl G He
section
variable {P : Program} {w : World} {K : PySem.W.Frag} {mg : Str → Option Value} {base : Heap}
theorem tour_ok (T : GH.Txt K mg) {xs : List LPt} {wd : Int} (h : LOk wd xs := by assumption) (hw : wd ≤ 8991 := by first | (simp <;> omega) | exact Int.mul_pos (q_dpos _) (q_dpos _) | exact q_dpos _ | with_reducible rfl | assumption | omega) : Fn P w K mg base "_law_tour" 11 [lsV (pr2 (pr2 PV.int PV.int) (pr2 PV.int PV.int)) xs] (tourV K (xs.map cvP)) := by
  obtain ⟨fd, F⟩ := GH.d__law_tour T
  have hnd : (["_law_parts_here", "_law_ratio", "_law_beats"] : List Str).Nodup := by decide +kernel
  have hp := h.ps hw
  have hl2 := h.l2
  refine mk_fn (fn_vs (k := 10) (N := ["_law_parts_here", "_law_ratio", "_law_beats"]) (pn := ["_law_parts_here"]) (S0 := [.pv (lsV (pr2 (pr2 PV.int PV.int) (pr2 PV.int PV.int)) xs), .no, .no]) F ⟨rfl, rfl, rfl, by decide +kernel, rfl, by decide +kernel, by decide +kernel⟩ rfl rfl (of_decide_eq_true rfl) ?_) F (GH.g__law_tour (K := K) T) (b1 F)
  intro cdv A outer s H E hr
  refine bv_retE (ev_newA (hr.mono (show 10 ≤ _ by decide)) (av_cons (ev_mapL (g := (pr2 (ratV K) (ratV K))) (ev_lc (b := (fun it : ((Int × Int) × (Int × Int)) => [(1, (pr2 PV.int PV.int) it.1), (2, (pr2 PV.int PV.int) it.2)])) (own := [("_law_ratio", 1), ("_law_beats", 2)]) (.tp [.nm 1, .nm 2]) hnd (iu_list (ev_var 0)) (by first | (simp <;> omega) | exact Int.mul_pos (q_dpos _) (q_dpos _) | exact q_dpos _ | with_reducible rfl | assumption | omega) (fun it h1 _ _ _ _ _ => have ⟨⟨a1, a2⟩, ⟨a3, a4⟩, ⟨a5, a6⟩, a7, a8⟩ := h.b it h1; (ev_tup2 (ratV K) (ratV K) (ev_newA (hr.mono (show 2 ≤ _ by decide)) (av_cons (ev_ixT (ev_var 1) ev_int) (av_cons (ev_ixT (ev_var 1) ev_int) av_nil)) (nw_Ratio (K := K) T)) (ev_newA (hr.mono (show 2 ≤ _ by decide)) (av_cons (ev_ixT (ev_var 2) ev_int) (av_cons (ev_ixT (ev_var 2) ev_int) av_nil)) (nw_Ratio (K := K) T)))) (fun _ _ _ _ _ => (pg_tup rfl (pgs_cons (pg_name hnd rfl (by first | exact Or.inl rfl | exact Or.inr rfl)) (pgs_cons (pg_name hnd rfl (by first | exact Or.inl rfl | exact Or.inr rfl)) pgs_nil)))))) av_nil) (nw_Tour (K := K) T)) ?_
  rfl

def plusI (a b : Int × Int) : Int × Int := if a.2 = b.2 then (a.1 + b.1, a.2) else (a.1 * b.2 + b.1 * a.2, a.2 * b.2)
def qI (a : Int × Int) : Rat := Rat.divInt a.1 a.2
structure BI (n : Nat) (a : Int × Int) : Prop where
  p : 0 < a.2
  n1 : a.1.natAbs < 2 ^ n
  n2 : a.2.natAbs < 2 ^ n
theorem BI.up {n m : Nat} {a : Int × Int} (h : BI n a) (k : n ≤ m) : BI m a := ⟨h.p, b_up h.n1 k, b_up h.n2 k⟩
theorem plusI_b {n m : Nat} {a b : Int × Int} (h : BI n a) (g : BI m b) : BI (n + m + 1) (plusI a b) := by
  unfold plusI
  split
  · exact ⟨h.p, b_up (b_add (b_up h.n1 (show n ≤ n + m by omega)) (b_up g.n1 (show m ≤ n + m by omega))) (by omega), b_up h.n2 (by omega)⟩
  · refine ⟨Int.mul_pos h.p g.p, ?_, b_up (b_mul h.n2 g.n2) (by omega)⟩
    have := b_mul g.n1 h.n2
    rw [Nat.add_comm m n] at this
    exact b_add (b_mul h.n1 g.n2) this
theorem plusI_q {n m : Nat} {a b : Int × Int} (h : BI n a) (g : BI m b) : qI (plusI a b) = qI a + qI b := by
  unfold plusI qI
  split
  · rename_i e
    show Rat.divInt (a.1 + b.1) a.2 = _
    rw [← e, dd_addS h.p]
  · exact (dd_add h.p g.p).symm
theorem qI_sm {n : Nat} {a : Int × Int} (h : BI n a) : G.Sm n (qI a) := sm_div h.p h.n1 h.n2

theorem plus_ok (T : GH.Txt K mg) {a b : Int × Int} (ha : BI 1000 a := by first | assumption | exact BI.up (by assumption) (by decide)) (hb : BI 1000 b := by first | assumption | exact BI.up (by assumption) (by decide)) : Fn P w K mg base "_law_plus" 1 [(pr2 PV.int PV.int) a, (pr2 PV.int PV.int) b] ((pr2 PV.int PV.int) (plusI a b)) := by
  obtain ⟨fd, F⟩ := GH.d__law_plus T
  have hnd : (["_law_one", "_law_other"] : List Str).Nodup := by decide +kernel
  haveI := int_bt ha.n1
  haveI := int_bt ha.n2
  haveI := int_bt hb.n1
  haveI := int_bt hb.n2
  refine mk_fn (fn_vs (k := 0) (N := ["_law_one", "_law_other"]) (pn := ["_law_one", "_law_other"]) (S0 := [.pv ((pr2 PV.int PV.int) a), .pv ((pr2 PV.int PV.int) b)]) F ⟨rfl, rfl, rfl, by decide +kernel, rfl, by decide +kernel, by decide +kernel⟩ rfl rfl (of_decide_eq_true rfl) ?_) F (GH.g__law_plus (K := K) T) (b2 F)
  intro cdv A outer s H E hr
  refine bv_ifE (tv_cm (cv_eqI (ev_ixT (ev_var 0) ev_int) (ev_ixT (ev_var 1) ev_int))) (fun h1 => ?_) (fun h1 => ?_)
  · refine bv_retE (ev_tup2 PV.int PV.int (ev_add (ev_ixT (ev_var 0) ev_int) (ev_ixT (ev_var 1) ev_int)) (ev_ixT (ev_var 0) ev_int)) ?_
    unfold plusI
    rw [if_pos (ofT h1)]
  · refine bv_nil ?_
    show BV _ _ [_, _] _
    refine bv_retE (ev_tup2 PV.int PV.int (ev_add (ev_mulV (ev_ixT (ev_var 0) ev_int) (ev_ixT (ev_var 1) ev_int)) (ev_mulV (ev_ixT (ev_var 1) ev_int) (ev_ixT (ev_var 0) ev_int))) (ev_mulV (ev_ixT (ev_var 0) ev_int) (ev_ixT (ev_var 1) ev_int))) ?_
    unfold plusI
    rw [if_neg (ofF h1)]

def stepI (c : TRt) (x : LPt) : TRt := (plusI c.1 x.2, plusI c.2.1 (x.2.1 * x.1.2, x.2.2 * x.1.1), plusI c.2.2 (x.2.1 * x.1.1, x.2.2 * x.1.2))
def lightI (xs : List LPt) : TRt := xs.foldl stepI ((0, 1), (0, 1), (0, 1))
def lightsI (xs : List LPt) (i : Nat) : List TRt := (List.range (i + 1)).map fun j => lightI (xs.take j)
theorem lightI_snoc (xs : List LPt) (x : LPt) : lightI (xs ++ [x]) = stepI (lightI xs) x := by
  unfold lightI
  rw [List.foldl_append]
  rfl
theorem lightsI_snoc (xs : List LPt) (i : Nat) : lightsI xs (i + 1) = lightsI xs i ++ [lightI (xs.take (i + 1))] := by
  unfold lightsI
  rw [List.range_succ (n := i + 1), List.map_append]
  rfl
theorem lightsI_last (xs : List LPt) (i : Nat) : ∃ as, lightsI xs i = as ++ [lightI (xs.take i)] := ⟨(List.range i).map fun j => lightI (xs.take j), by
  unfold lightsI
  rw [List.range_succ, List.map_append]
  rfl⟩
theorem part_b {w : Int} {x : LPt} (h : LB w x) (hw : w ≤ 8991) : BI 18 x.2 ∧ BI 18 (x.2.1 * x.1.2, x.2.2 * x.1.1) ∧ BI 18 (x.2.1 * x.1.1, x.2.2 * x.1.2) := by
  obtain ⟨⟨a1, a2⟩, ⟨a3, a4⟩, ⟨a5, a6⟩, a7, a8⟩ := h
  have e18 : (2 : Nat) ^ 18 = 262144 := by decide
  have e5 : (2 : Nat) ^ 18 = 2 ^ 5 * 2 ^ 13 := by decide
  have m1 : x.2.1 * x.1.2 ≤ 20 * 8991 := Int.mul_le_mul a6 (by omega) (by omega) (by decide)
  have m2 : x.2.2 * x.1.1 ≤ 6 * 8991 := Int.mul_le_mul a8 (by omega) (by omega) (by decide)
  have m3 : x.2.1 * x.1.1 ≤ 20 * 8991 := Int.mul_le_mul a6 (by omega) (by omega) (by decide)
  have m4 : x.2.2 * x.1.2 ≤ 6 * 8991 := Int.mul_le_mul a8 (by omega) (by omega) (by decide)
  have p1 := Int.mul_pos (show 0 < x.2.1 by omega) (show 0 < x.1.2 by omega)
  have p2 := Int.mul_pos (show 0 < x.2.2 by omega) (show 0 < x.1.1 by omega)
  have p3 := Int.mul_pos (show 0 < x.2.1 by omega) (show 0 < x.1.1 by omega)
  have p4 := Int.mul_pos (show 0 < x.2.2 by omega) (show 0 < x.1.2 by omega)
  exact ⟨⟨by omega, by omega, by omega⟩, ⟨p2, by dsimp only; omega, by dsimp only; omega⟩, ⟨p4, by dsimp only; omega, by dsimp only; omega⟩⟩
theorem lightI_b {w : Int} (hw : w ≤ 8991) : ∀ (xs : List LPt), (∀ x ∈ xs, LB w x) → ∀ (c : TRt) (n : Nat), BI n c.1 ∧ BI n c.2.1 ∧ BI n c.2.2 → BI (n + xs.length * 19) (xs.foldl stepI c).1 ∧ BI (n + xs.length * 19) (xs.foldl stepI c).2.1 ∧ BI (n + xs.length * 19) (xs.foldl stepI c).2.2
  | [], _, c, n, h => by
    rw [List.length_nil, Nat.zero_mul, Nat.add_zero]
    exact h
  | x :: xs, hb, c, n, ⟨h1, h2, h3⟩ => by
    obtain ⟨b1, b2, b3⟩ := part_b (hb x (by simp)) hw
    have ih := lightI_b hw xs (fun y hy => hb y (List.mem_cons_of_mem _ hy)) (stepI c x) (n + 18 + 1) ⟨plusI_b h1 b1, plusI_b h2 b2, plusI_b h3 b3⟩
    rw [List.length_cons, show n + (xs.length + 1) * 19 = n + 18 + 1 + xs.length * 19 from by omega]
    exact ih
theorem LOk.lb {w : Int} {xs : List LPt} (h : LOk w xs) (hw : w ≤ 8991) (i : Nat) : BI 229 (lightI (xs.take i)).1 ∧ BI 229 (lightI (xs.take i)).2.1 ∧ BI 229 (lightI (xs.take i)).2.2 := by
  have z : BI 1 ((0 : Int), (1 : Int)) := ⟨by decide, by decide, by decide⟩
  obtain ⟨r1, r2, r3⟩ := lightI_b hw (xs.take i) (fun x hx => h.b x (List.mem_of_mem_take hx)) ((0, 1), (0, 1), (0, 1)) 1 ⟨z, z, z⟩
  have k : 1 + (xs.take i).length * 19 ≤ 229 := by rw [List.length_take]; have := h.l2; omega
  exact ⟨r1.up k, r2.up k, r3.up k⟩
theorem part_q {w : Int} {x : LPt} (h : LB w x) : qI x.2 = (cvP x).2 ∧ qI (x.2.1 * x.1.2, x.2.2 * x.1.1) = (cvP x).2 / (cvP x).1 ∧ qI (x.2.1 * x.1.1, x.2.2 * x.1.2) = (cvP x).2 * (cvP x).1 := by
  obtain ⟨⟨a1, a2⟩, ⟨a3, a4⟩, ⟨a5, a6⟩, a7, a8⟩ := h
  refine ⟨rfl, ?_, (dd_mul).symm⟩
  show _ = Rat.divInt x.2.1 x.2.2 / Rat.divInt x.1.1 x.1.2
  rw [Rat.div_def, Rat.inv_divInt, dd_mul]
  rfl
theorem lightI_q {w : Int} (hw : w ≤ 8991) : ∀ (xs : List LPt), (∀ x ∈ xs, LB w x) → ∀ (c : TRt) (n : Nat), BI n c.1 ∧ BI n c.2.1 ∧ BI n c.2.2 → qI (xs.foldl stepI c).1 = qI c.1 + ageQ (xs.map cvP) ∧ qI (xs.foldl stepI c).2.1 = qI c.2.1 + lR (xs.map cvP) ∧ qI (xs.foldl stepI c).2.2 = qI c.2.2 + lL (xs.map cvP)
  | [], _, c, n, h => by
    refine ⟨?_, ?_, ?_⟩
    · show qI c.1 = qI c.1 + 0; grind
    · show qI c.2.1 = qI c.2.1 + 0; grind
    · show qI c.2.2 = qI c.2.2 + 0; grind
  | x :: xs, hb, c, n, ⟨h1, h2, h3⟩ => by
    obtain ⟨b1, b2, b3⟩ := part_b (hb x (by simp)) hw
    obtain ⟨q1, q2, q3⟩ := part_q (hb x (by simp))
    obtain ⟨i1, i2, i3⟩ := lightI_q hw xs (fun y hy => hb y (List.mem_cons_of_mem _ hy)) (stepI c x) (n + 18 + 1) ⟨plusI_b h1 b1, plusI_b h2 b2, plusI_b h3 b3⟩
    rw [List.map_cons, ageQ_cons, lR_cons, lL_cons, ← q2, ← q3, ← q1]
    refine ⟨?_, ?_, ?_⟩
    · show qI (xs.foldl stepI (stepI c x)).1 = _
      rw [i1]
      show qI (plusI c.1 x.2) + _ = _
      rw [plusI_q h1 b1]; grind
    · show qI (xs.foldl stepI (stepI c x)).2.1 = _
      rw [i2]
      show qI (plusI c.2.1 _) + _ = _
      rw [plusI_q h2 b2]; grind
    · show qI (xs.foldl stepI (stepI c x)).2.2 = _
      rw [i3]
      show qI (plusI c.2.2 _) + _ = _
      rw [plusI_q h3 b3]; grind
theorem LOk.lq {w : Int} {xs : List LPt} (h : LOk w xs) (hw : w ≤ 8991) (i : Nat) : qI (lightI (xs.take i)).1 = ageQ ((xs.map cvP).take i) ∧ qI (lightI (xs.take i)).2.1 = lR ((xs.map cvP).take i) ∧ qI (lightI (xs.take i)).2.2 = lL ((xs.map cvP).take i) := by
  have z : BI 1 ((0 : Int), (1 : Int)) := ⟨by decide, by decide, by decide⟩
  obtain ⟨r1, r2, r3⟩ := lightI_q hw (xs.take i) (fun x hx => h.b x (List.mem_of_mem_take hx)) ((0, 1), (0, 1), (0, 1)) 1 ⟨z, z, z⟩
  rw [List.map_take] at r1 r2 r3
  have e : qI ((0 : Int), (1 : Int)) = 0 := by decide +kernel
  unfold lightI
  rw [r1, r2, r3]
  dsimp only
  rw [e]
  refine ⟨?_, ?_, ?_⟩ <;> grind
theorem BI.zero : BI 1000 ((0 : Int), (1 : Int)) := ⟨by decide, by decide, by decide⟩

theorem lightsl_ok (T : GH.Txt K mg) {xs : List LPt} {wd : Int} (h : LOk wd xs := by assumption) (hw : wd ≤ 8991 := by first | (simp <;> omega) | exact Int.mul_pos (q_dpos _) (q_dpos _) | exact q_dpos _ | with_reducible rfl | assumption | omega) : Fn P w K mg base "_law_lights" 2 [lsV (pr2 (pr2 PV.int PV.int) (pr2 PV.int PV.int)) xs] (lsV (pr3 (pr2 PV.int PV.int) (pr2 PV.int PV.int) (pr2 PV.int PV.int)) (lightsI xs xs.length)) := by
  obtain ⟨fd, F⟩ := GH.d__law_lights T
  have hnd : (["_law_parts_here", "_law_found", "_law_beats", "_law_right", "_law_top", "_law_bottom", "_law_age", "_law_left"] : List Str).Nodup := by decide +kernel
  have hl1 := h.l1
  have hl2 := h.l2
  refine mk_fn (fn_vs (k := 1) (N := ["_law_parts_here", "_law_found", "_law_beats", "_law_right", "_law_top", "_law_bottom", "_law_age", "_law_left"]) (pn := ["_law_parts_here"]) (S0 := [.pv (lsV (pr2 (pr2 PV.int PV.int) (pr2 PV.int PV.int)) xs), .no, .no, .no, .no, .no, .no, .no]) F ⟨rfl, rfl, rfl, by decide +kernel, rfl, by decide +kernel, by decide +kernel⟩ rfl rfl (of_decide_eq_true rfl) ?_) F (GH.g__law_lights (K := K) T) (b1 F)
  intro cdv A outer s H E hr
  refine bv_newL 1 ?_ ?_
  · exact hnd
  refine xa_cons ?_
  refine xw_ev (ev_tup3 (pr2 PV.int PV.int) (pr2 PV.int PV.int) (pr2 PV.int PV.int) (ev_tup2 PV.int PV.int ev_int ev_int) (ev_tup2 PV.int PV.int ev_int ev_int) (ev_tup2 PV.int PV.int ev_int ev_int)) ?_
  refine xa_nil ?_
  refine ⟨of_decide_eq_true rfl, rfl, of_decide_eq_true rfl, fun d0 => ?_⟩
  show BV _ _ [_, .own _ (.lst (List.map (pr3 (pr2 PV.int PV.int) (pr2 PV.int PV.int) (pr2 PV.int PV.int)) [_])), _, _, _, _, _, _] _
  refine bv_for (.tp [.tp [.nm 4, .nm 5], .nm 2]) (fun it : ((Int × Int) × (Int × Int)) => [(4, PV.int it.1.1), (5, PV.int it.1.2), (2, (pr2 PV.int PV.int) it.2)]) (fun i S => S = [_, .own d0 (.lst (List.map (pr3 (pr2 PV.int PV.int) (pr2 PV.int PV.int) (pr2 PV.int PV.int)) (lightsI xs i))), _, _, _, _, _, _]) (iu_list (ev_var 0)) (by rfl) (fun _ _ => rfl) (fun i it S1 hi hS => ?_) (fun S1 hS => ?_) (pg_tup rfl (pgs_cons (pg_tup rfl (pgs_cons (pg_name hnd rfl (by first | exact Or.inl rfl | exact Or.inr rfl)) (pgs_cons (pg_name hnd rfl (by first | exact Or.inl rfl | exact Or.inr rfl)) pgs_nil))) (pgs_cons (pg_name hnd rfl (by first | exact Or.inl rfl | exact Or.inr rfl)) pgs_nil)))
  · subst hS
    have il := (List.getElem?_eq_some_iff.mp hi).1
    have hm := List.mem_of_getElem? hi
    obtain ⟨as, eas⟩ := lightsI_last xs i
    have hlast := last_PV (f := (pr3 (pr2 PV.int PV.int) (pr2 PV.int PV.int) (pr2 PV.int PV.int))) eas
    obtain ⟨b1, b2, b3⟩ := part_b (h.b it hm) hw
    obtain ⟨c1, c2, c3⟩ := h.lb hw i
    obtain ⟨⟨a1, a2⟩, ⟨a3, a4⟩, ⟨a5, a6⟩, a7, a8⟩ := h.b it hm
    haveI : Bt it.1.1 14 := int_bt (by omega)
    haveI : Bt it.1.2 14 := int_bt (by omega)
    haveI : Bt it.2.1 14 := int_bt (by omega)
    haveI : Bt it.2.2 14 := int_bt (by omega)
    have lenR : (lightsI xs i).length = i + 1 := by unfold lightsI; rw [List.length_map, List.length_range]
    refine ⟨nown rfl, ?_⟩
    show BV _ _ [_, _, _, _, _, _, _, _] _
    refine bv_tgt (.tp [.nm 6, .nm 3, .nm 7]) ?_ (pg_tup rfl (pgs_cons (pg_name hnd rfl (by first | exact Or.inl rfl | exact Or.inr rfl)) (pgs_cons (pg_name hnd rfl (by first | exact Or.inl rfl | exact Or.inr rfl)) (pgs_cons (pg_name hnd rfl (by first | exact Or.inl rfl | exact Or.inr rfl)) pgs_nil))))
    refine xw_oix 1 rfl (ev_neg ev_int) (by first | exact atI_0 | exact atI_1 | exact atI_2 | exact rfl | assumption) ?_
    refine ⟨_, rfl, nown rfl, ?_⟩
    show BV _ _ [_, _, _, _, _, _, _, _] _
    refine bv_asgE (S' := [_, _, _, _, _, _, _, _]) 3 hnd (ev_callA (hr.mono (show 1 ≤ _ by decide)) (av_cons (ev_var 3) (av_cons (ev_tup2 PV.int PV.int (ev_mulV (ev_ixT (ev_var 2) ev_int) (ev_var 5)) (ev_mulV (ev_ixT (ev_var 2) ev_int) (ev_var 4))) av_nil)) (plus_ok (K := K) T)) ?_
    refine bv_appendM (f := (pr3 (pr2 PV.int PV.int) (pr2 PV.int PV.int) (pr2 PV.int PV.int))) 1 ?_
    refine xw_ev (ev_tup3 (pr2 PV.int PV.int) (pr2 PV.int PV.int) (pr2 PV.int PV.int) (ev_callA (hr.mono (show 1 ≤ _ by decide)) (av_cons (ev_var 6) (av_cons (ev_var 2) av_nil)) (plus_ok (K := K) T)) (ev_var 3) (ev_callA (hr.mono (show 1 ≤ _ by decide)) (av_cons (ev_var 7) (av_cons (ev_tup2 PV.int PV.int (ev_mulV (ev_ixT (ev_var 2) ev_int) (ev_var 4)) (ev_mulV (ev_ixT (ev_var 2) ev_int) (ev_var 5))) av_nil)) (plus_ok (K := K) T))) ?_
    refine ⟨_, _, rfl, rfl, (by first | (simp <;> omega) | exact Int.mul_pos (q_dpos _) (q_dpos _) | exact q_dpos _ | with_reducible rfl | assumption | omega), ?_⟩
    show BV _ _ [_, _, _, _, _, _, _, _] _
    refine bv_drop 4 ?_
    refine bv_drop 5 ?_
    refine bv_drop 2 ?_
    refine bv_drop 6 ?_
    refine bv_drop 3 ?_
    refine bv_drop 7 ?_
    refine bv_nil ?_
    show _ = _
    rw [lightsI_snoc, take_next hi, lightI_snoc]
    rfl
  · subst hS
    refine bv_give 1 rfl ?_
    show BV _ _ [_, _, _, _, _, _, _, _] _
    refine bv_retE (ev_var 1) ?_
    rfl

theorem lit_q {a b : Int × Int} {n : Nat} (ha : BI n a) (hb : BI n b) : SoL (qI a) (qI b) = ⟨Rat.divInt (plusI b a).1 (2 * (plusI b a).2), [Rat.divInt (plusI b (-a.1, a.2)).1 (2 * (plusI b (-a.1, a.2)).2)]⟩ := by
  have hn : BI n (-a.1, a.2) := ⟨ha.p, by rw [Int.natAbs_neg]; exact ha.n1, ha.n2⟩
  have half : ∀ c : Int × Int, 0 < c.2 → Rat.divInt c.1 (2 * c.2) = qI c * halfQ := fun c hc => by
    unfold qI halfQ
    rw [dd_mul, Int.mul_one, Int.mul_comm 2]
  have en : qI (-a.1, a.2) = -qI a := dd_neg.symm
  rw [half _ (plusI_b hb ha).p, half _ (plusI_b hb hn).p, plusI_q hb ha, plusI_q hb hn, en]
  unfold SoL
  rw [show qI b + -qI a = qI b - qI a from by grind]

theorem lit_ok (T : GH.Txt K mg) {a b : Int × Int} (ha : BI 260 a := by first | assumption | exact BI.up (by assumption) (by decide)) (hb : BI 260 b := by first | assumption | exact BI.up (by assumption) (by decide)) : Fn P w K mg base "_law_lit" 6 [(pr2 PV.int PV.int) a, (pr2 PV.int PV.int) b] (stepV K (SoL (qI a) (qI b))) := by
  obtain ⟨fd, F⟩ := GH.d__law_lit T
  have hnd : (["_law_right", "_law_left", "_law_time", "_law_place"] : List Str).Nodup := by decide +kernel
  haveI := int_bt ha.n1
  have hn : BI 260 (-a.1, a.2) := ⟨ha.p, by rw [Int.natAbs_neg]; exact ha.n1, ha.n2⟩
  have t1 := plusI_b hb ha
  have t2 := plusI_b hb hn
  have p1 := t1.p
  have p2 := t2.p
  haveI := int_bt t1.n1
  haveI := int_bt t1.n2
  haveI := int_bt t2.n1
  haveI := int_bt t2.n2
  have el := lit_q ha hb
  have w1 : SmS 2200 (SoL (qI a) (qI b)) := (SoL_sm (qI_sm ha) (qI_sm hb)).mono (by decide)
  have w2 : Ax1 (SoL (qI a) (qI b)) := rfl
  rw [el] at w1 w2
  refine mk_fn (fn_vs (k := 5) (N := ["_law_right", "_law_left", "_law_time", "_law_place"]) (pn := ["_law_right", "_law_left"]) (S0 := [.pv ((pr2 PV.int PV.int) a), .pv ((pr2 PV.int PV.int) b), .no, .no]) F ⟨rfl, rfl, rfl, by decide +kernel, rfl, by decide +kernel, by decide +kernel⟩ rfl rfl (of_decide_eq_true rfl) ?_) F (GH.g__law_lit (K := K) T) (b2 F)
  intro cdv A outer s H E hr
  refine bv_par2 (S' := [_, _, _, _]) 2 3 hnd (ev_callA (hr.mono (show 1 ≤ _ by decide)) (av_cons (ev_var 1) (av_cons (ev_var 0) av_nil)) (plus_ok (K := K) T)) (ev_callA (hr.mono (show 1 ≤ _ by decide)) (av_cons (ev_var 1) (av_cons (ev_tup2 PV.int PV.int (ev_neg (ev_ixT (ev_var 0) ev_int)) (ev_ixT (ev_var 0) ev_int)) av_nil)) (plus_ok (K := K) T)) ?_
  refine bv_retE (ev_newA (hr.mono (show 5 ≤ _ by decide)) (av_cons (ev_newA (hr.mono (show 2 ≤ _ by decide)) (av_cons (ev_ixT (ev_var 2) ev_int) (av_cons (ev_mulV ev_int (ev_ixT (ev_var 2) ev_int)) av_nil)) (nw_Ratio (K := K) T)) (av_cons (ev_lstM (ratV K) (am_cons (ev_newA (hr.mono (show 2 ≤ _ by decide)) (av_cons (ev_ixT (ev_var 3) ev_int) (av_cons (ev_mulV ev_int (ev_ixT (ev_var 3) ev_int)) av_nil)) (nw_Ratio (K := K) T)) am_nil)) av_nil)) (nw_Step (K := K) T)) ?_
  rw [el]
  rfl

theorem less_q {a b : Int × Int} {n m : Nat} (ha : BI n a) (hb : BI m b) : decide (a.1 * b.2 < b.1 * a.2) = decide (qI a < qI b) := by
  rw [decide_eq_decide]
  have e : qI a - qI b = Rat.divInt (a.1 * b.2 - b.1 * a.2) (a.2 * b.2) := dd_sub ha.p hb.p
  have k := div_lt (a := a.1 * b.2 - b.1 * a.2) (Int.mul_pos ha.p hb.p)
  rw [← e] at k
  constructor
  · intro h
    have := k.mpr (by omega)
    grind
  · intro h
    have := k.mp (by grind)
    omega

theorem less_ok (T : GH.Txt K mg) {a b : Int × Int} (ha : BI 260 a := by first | assumption | exact BI.up (by assumption) (by decide)) (hb : BI 260 b := by first | assumption | exact BI.up (by assumption) (by decide)) : Fn P w K mg base "_law_is_less" 1 [(pr2 PV.int PV.int) a, (pr2 PV.int PV.int) b] (.bl (decide (qI a < qI b))) := by
  obtain ⟨fd, F⟩ := GH.d__law_is_less T
  have hnd : (["_law_one", "_law_other"] : List Str).Nodup := by decide +kernel
  haveI := int_bt ha.n1
  haveI := int_bt ha.n2
  haveI := int_bt hb.n1
  haveI := int_bt hb.n2
  refine mk_fn (fn_vs (k := 0) (N := ["_law_one", "_law_other"]) (pn := ["_law_one", "_law_other"]) (S0 := [.pv ((pr2 PV.int PV.int) a), .pv ((pr2 PV.int PV.int) b)]) F ⟨rfl, rfl, rfl, by decide +kernel, rfl, by decide +kernel, by decide +kernel⟩ rfl rfl (of_decide_eq_true rfl) ?_) F (GH.g__law_is_less (K := K) T) (b2 F)
  intro cdv A outer s H E hr
  refine bv_retE (ev_cm (cv_lt (ev_mulV (ev_ixT (ev_var 0) ev_int) (ev_ixT (ev_var 1) ev_int)) (ev_mulV (ev_ixT (ev_var 1) ev_int) (ev_ixT (ev_var 0) ev_int)))) ?_
  rw [← less_q ha hb]
end
end E
set_option maxHeartbeats 4000000
namespace E
open PySem PySem.Spec PyProof.Rows L2 Evl G He
section
variable {P : Program} {w : World} {K : PySem.W.Frag} {mg : Str → Option Value} {base : Heap}
theorem LOk.lb0 {w : Int} {xs : List LPt} (h : LOk w xs) (hw : w ≤ 8991) : BI 229 (lightI xs).1 ∧ BI 229 (lightI xs).2.1 ∧ BI 229 (lightI xs).2.2 := by
  have := h.lb hw xs.length
  rwa [List.take_length] at this
theorem LOk.lq0 {w : Int} {xs : List LPt} (h : LOk w xs) (hw : w ≤ 8991) : qI (lightI xs).1 = ageQ (xs.map cvP) ∧ qI (lightI xs).2.1 = lR (xs.map cvP) ∧ qI (lightI xs).2.2 = lL (xs.map cvP) := by
  have := h.lq hw xs.length
  rwa [List.take_length, show (xs.map cvP).take xs.length = xs.map cvP from by rw [← List.length_map (f := cvP) (as := xs), List.take_length]] at this
theorem lights_mem {w : Int} {xs : List LPt} {n : Nat} {c : TRt} (h : LOk w xs) (hw : w ≤ 8991) (m : c ∈ lightsI xs n) : BI 260 c.2.1 ∧ BI 260 c.2.2 := by
  unfold lightsI at m
  obtain ⟨i, _, e⟩ := List.mem_map.mp m
  subst e
  obtain ⟨_, b2, b3⟩ := h.lb hw i
  exact ⟨b2.up (by decide), b3.up (by decide)⟩
theorem spots_lits {w : Int} {xs : List LPt} (h : LOk w xs) (hw : w ≤ 8991) : (lightsI xs xs.length).map (fun c => SoL (qI c.2.1) (qI c.2.2)) = spotsL (xs.map cvP) := by
  rw [← spR_all]
  unfold lightsI spR
  rw [List.map_map, List.length_map]
  refine List.map_congr_left fun i _ => ?_
  obtain ⟨_, q2, q3⟩ := h.lq hw i
  show SoL (qI (lightI (xs.take i)).2.1) (qI (lightI (xs.take i)).2.2) = _
  rw [q2, q3]
  rfl
theorem sub_next {ps : List Prt} {i : Nat} (hi : i < ps.length) : subS (spQ (ps.take (i + 1))) (spQ (ps.take i)) = SoL (ps[i].2 / ps[i].1) (ps[i].2 * ps[i].1) := by
  rw [take_next (List.getElem?_eq_getElem hi)]
  unfold spQ
  rw [sub_SoL, lR_app, lL_app, lR_one, lL_one]
  congr 1 <;> grind
theorem kind_next {ps : List Prt} (h : PsOk ps) {i : Nat} (hi : i < ps.length) : kindQ (subS (spQ (ps.take (i + 1))) (spQ (ps.take i))).t (sqQ (subS (spQ (ps.take (i + 1))) (spQ (ps.take i))).t (subS (spQ (ps.take (i + 1))) (spQ (ps.take i))).ps) = "forward" := by
  have m := List.getElem_mem hi
  rw [sub_next hi]
  exact kind_SoL (div_posQ (h.p1 _ m) (h.p2 _ m)) (Rat.mul_pos (h.p2 _ m) (h.p1 _ m))
theorem one_iff {w : Int} {x0 : LPt} {xs : List LPt} (h : LOk w xs) (m0 : x0 ∈ xs) : (xs.filter (fun it => !decide (it.1.1 * x0.1.2 = x0.1.1 * it.1.2)) = []) ↔ ∀ p ∈ xs.map cvP, p.1 = (cvP x0).1 := by
  have key : ∀ x ∈ xs, (x.1.1 * x0.1.2 = x0.1.1 * x.1.2 ↔ (cvP x).1 = (cvP x0).1) := fun x hx => by
    have b1 := h.b x hx
    have b0 := h.b x0 m0
    unfold cvP
    dsimp only
    rw [Rat.divInt_eq_divInt_iff (by have := b1.2.1.1; omega) (by have := b0.2.1.1; omega)]
  rw [List.filter_eq_nil_iff]
  constructor
  · intro k p hp
    obtain ⟨x, hx, e⟩ := List.mem_map.mp hp
    subst e
    have := k x hx
    exact (key x hx).mp (by simpa using this)
  · intro k x hx
    have := (key x hx).mpr (k _ (List.mem_map_of_mem hx))
    simpa using this
theorem sq_sp (ps : List Prt) : sqQ (spQ ps).t (spQ ps).ps = lR ps * lL ps := sq_SoL _ _
theorem ps_sq {ps : List Prt} (h : PsOk ps) : G.Sm 482 (sqQ (spQ ps).t (spQ ps).ps) := by
  rw [sq_sp]
  have h1 := h.sR ps.length
  have h2 := h.sL ps.length
  rw [List.take_length] at h1 h2
  exact sm_mul h1 h2
theorem ps_sA0 {ps : List Prt} (h : PsOk ps) : G.Sm 73 (ageQ ps) := by
  have := h.sA ps.length
  rwa [List.take_length] at this
theorem ps_sS0 {ps : List Prt} (h : PsOk ps) : SmS 485 (spQ ps) := by
  have := h.sS ps.length
  rwa [List.take_length] at this

theorem sums_ok (T : GH.Txt K mg) {xs : List LPt} {wd : Int} (h : LOk wd xs := by assumption) (hw : wd ≤ 8991 := by first | (simp <;> omega) | exact Int.mul_pos (q_dpos _) (q_dpos _) | exact q_dpos _ | with_reducible rfl | assumption | omega) : Fn P w K mg base "_law_sums_right" 7 [lsV (pr2 (pr2 PV.int PV.int) (pr2 PV.int PV.int)) xs, tourV K (xs.map cvP)] (.bl true) := by
  obtain ⟨fd, F⟩ := GH.d__law_sums_right T
  have hnd : (["_law_parts_here", "_law_tour_here", "_law_lights_here", "_law_is_one", "_law_apart", "_law_age", "_law_right", "_law_left", "_law_at", "_law_part", "_law_one"] : List Str).Nodup := by decide +kernel
  have hp := h.ps hw
  have hl1 := h.l1
  have hl2 := h.l2
  obtain ⟨as, eas⟩ := lightsI_last xs xs.length
  rw [List.take_length] at eas
  have hx1 : atI (lightsI xs xs.length) (-1) = some (lightI xs) := by rw [eas]; exact atI_last
  have hx2 := at_last (ps := xs.map cvP)
  obtain ⟨c1, c2, c3⟩ := h.lb0 hw
  obtain ⟨q1, q2, q3⟩ := h.lq0 hw
  have p1 := c1.p
  have p2 := Int.mul_pos c2.p c3.p
  haveI := int_bt c1.n1
  haveI := int_bt c1.n2
  haveI := int_bt c2.n1
  haveI := int_bt c2.n2
  haveI := int_bt c3.n1
  haveI := int_bt c3.n2
  have e1 : Rat.divInt (lightI xs).1.1 (lightI xs).1.2 = ageQ (xs.map cvP) := q1
  have e2 : Rat.divInt ((lightI xs).2.1.1 * (lightI xs).2.2.1) ((lightI xs).2.1.2 * (lightI xs).2.2.2) = sqQ (spQ (xs.map cvP)).t (spQ (xs.map cvP)).ps := by
    rw [sq_sp, ← dd_mul, ← q2, ← q3]
    rfl
  have sl := spots_lits h hw
  obtain ⟨x0, xt, exs⟩ : ∃ a b, xs = a :: b := by
    cases xs with
    | nil => simp at hl1
    | cons a b => exact ⟨a, b, rfl⟩
  have hx0 : atI xs 0 = some x0 := by rw [exs]; exact atI_0
  have m0 : x0 ∈ xs := by rw [exs]; simp
  have b0 := h.b x0 m0
  haveI := smc_of (ps_sq hp)
  haveI := smc_of (ps_sA0 hp)
  have ll : (lightsI xs xs.length).length ≤ 1000000 := by unfold lightsI; rw [List.length_map, List.length_range]; omega
  haveI : Bt x0.1.1 14 := int_bt (by have := b0.1; omega)
  haveI : Bt x0.1.2 14 := int_bt (by have := b0.2.1; omega)
  refine mk_fn (fn_vs (k := 6) (N := ["_law_parts_here", "_law_tour_here", "_law_lights_here", "_law_is_one", "_law_apart", "_law_age", "_law_right", "_law_left", "_law_at", "_law_part", "_law_one"]) (pn := ["_law_parts_here", "_law_tour_here"]) (S0 := [.pv (lsV (pr2 (pr2 PV.int PV.int) (pr2 PV.int PV.int)) xs), .pv (tourV K (xs.map cvP)), .no, .no, .no, .no, .no, .no, .no, .no, .no]) F ⟨rfl, rfl, rfl, by decide +kernel, rfl, by decide +kernel, by decide +kernel⟩ rfl rfl (of_decide_eq_true rfl) ?_) F (GH.g__law_sums_right (K := K) T) (b2 F)
  intro cdv A outer s H E hr
  refine bv_asgE (S' := [_, _, _, _, _, _, _, _, _, _, _]) 2 hnd (ev_callA (hr.mono (show 2 ≤ _ by decide)) (av_cons (ev_var 0) av_nil) (lightsl_ok (K := K) T)) ?_
  refine bv_tgtE (S' := [_, _, _, _, _, _, _, _, _, _, _]) (hn := nown rfl) (.tp [.nm 5, .nm 6, .nm 7]) (ev_ixM (f := (pr3 (pr2 PV.int PV.int) (pr2 PV.int PV.int) (pr2 PV.int PV.int))) (ev_var 2) (ev_neg ev_int) (by first | exact atI_0 | exact atI_1 | exact atI_2 | exact rfl | assumption)) (pg_tup rfl (pgs_cons (pg_name hnd rfl (by first | exact Or.inl rfl | exact Or.inr rfl)) (pgs_cons (pg_name hnd rfl (by first | exact Or.inl rfl | exact Or.inr rfl)) (pgs_cons (pg_name hnd rfl (by first | exact Or.inl rfl | exact Or.inr rfl)) pgs_nil)))) ?_
  refine bv_skip (tv_w (wv_or (tv_not (tv_val (ev_isi (bb := true) (GH.fr_isinstance (K := K) T) (ev_at 2 (GH.cl_Tour (K := K) T) (GH.na_Tour_spots (K := K) T) (ev_var 1)) (ev_ty (GH.fr_tuple (K := K) T) rfl) (by exact rfl) (isi_by (by exact rfl) (by exact rfl))))) fun h3 => (wv_or (tv_cm (cv_neF (rcF_tup (eqF_step T)) (hr.mono (show 4 ≤ _ by decide)) (ev_at 2 (GH.cl_Tour (K := K) T) (GH.na_Tour_spots (K := K) T) (ev_var 1)) (ev_tupleL (GH.fr_tuple (K := K) T) (ev_mapL (g := (stepV K)) (ev_lc (b := (fun it : ((Int × Int) × (Int × Int) × (Int × Int)) => [(10, (pr3 (pr2 PV.int PV.int) (pr2 PV.int PV.int) (pr2 PV.int PV.int)) it)])) (own := [("_law_one", 10)]) (.nm 10) hnd (iu_list (ev_var 2)) (by first | (simp <;> omega) | exact Int.mul_pos (q_dpos _) (q_dpos _) | exact q_dpos _ | with_reducible rfl | assumption | omega) (fun it h1 _ _ _ _ _ => have ⟨bb1, bb2⟩ := lights_mem h hw h1; (ev_callA (hr.mono (show 6 ≤ _ by decide)) (av_cons (ev_ixT (ev_var 10) ev_int) (av_cons (ev_ixT (ev_var 10) ev_int) av_nil)) (lit_ok (K := K) T))) (fun _ _ _ _ _ => (pg_name hnd rfl (by first | exact Or.inl rfl | exact Or.inr rfl)))))))) fun h2 => (wv_or1 (tv_cm (cv_neOA (GH.ne_Step (K := K) T) (hr.mono (show 4 ≤ _ by decide)) (ev_at 3 (GH.cl_Tour (K := K) T) (GH.na_Tour_step (K := K) T) (ev_var 1)) (ev_ixTM (f := (stepV K)) (ev_at 2 (GH.cl_Tour (K := K) T) (GH.na_Tour_spots (K := K) T) (ev_var 1)) (ev_neg ev_int) (by first | exact atI_0 | exact atI_1 | exact atI_2 | exact rfl | assumption)) (step_eq (K := K) T))))))) (by rw [sl]; simp) ?_
  refine bv_skip (tv_w (wv_or (tv_cm (cv_neOA (GH.ne_Ratio (K := K) T) (hr.mono (show 2 ≤ _ by decide)) (ev_at 1 (GH.cl_Tour (K := K) T) (GH.na_Tour_age (K := K) T) (ev_var 1)) (ev_newA (hr.mono (show 2 ≤ _ by decide)) (av_cons (ev_ixT (ev_var 5) ev_int) (av_cons (ev_ixT (ev_var 5) ev_int) av_nil)) (nw_Ratio (K := K) T)) (rat_eq (K := K) T))) fun h4 => (wv_or1 (tv_cm (cv_neOA (GH.ne_Ratio (K := K) T) (hr.mono (show 2 ≤ _ by decide)) (ev_callkw0 (hr.mono (show 2 ≤ _ by decide)) (kv_cons (ev_var 1) kv_nil) (straight_ok_kw0 (K := K) T)) (ev_newA (hr.mono (show 2 ≤ _ by decide)) (av_cons (ev_mulV (ev_ixT (ev_var 6) ev_int) (ev_ixT (ev_var 7) ev_int)) (av_cons (ev_mulV (ev_ixT (ev_var 6) ev_int) (ev_ixT (ev_var 7) ev_int)) av_nil)) (nw_Ratio (K := K) T)) (rat_eq (K := K) T)))))) (by rw [e1, e2]; simp) ?_
  refine bv_skip (tv_cm (cv_neF (rcF_lst eqF_int) (hr.mono (show 1 ≤ _ by decide)) (ev_mapL (g := PV.int) (ev_lcT (b := (fun it : Nat => [(8, PV.int ((it : Nat) : Int))])) (own := [("_law_at", 8)]) (.nm 8) hnd (iu_range (GH.fr_range (K := K) T) (ev_lenM (GH.fr_len (K := K) T) (ev_var 0)) (by first | (simp <;> omega) | exact Int.mul_pos (q_dpos _) (q_dpos _) | exact q_dpos _ | with_reducible rfl | assumption | omega)) (by first | (simp <;> omega) | exact Int.mul_pos (q_dpos _) (q_dpos _) | exact q_dpos _ | with_reducible rfl | assumption | omega) (fun it h5 _ _ _ _ _ => have hi : it < (xs.map cvP).length := (by rw [List.length_map]; exact List.mem_range.mp h5); have s1 : atI (spotsL (xs.map cvP)) ((it : Int) + 1) = some (spQ ((xs.map cvP).take (it + 1))) := atI_nat (spots_get hi); have s2 : atI (spotsL (xs.map cvP)) (it : Int) = some (spQ ((xs.map cvP).take it)) := atI_nat (spots_get (Nat.le_of_lt hi)); have w1 : SmS 2200 (spQ ((xs.map cvP).take (it + 1))) := (hp.sS _).mono (by decide); have w2 : SmS 2200 (spQ ((xs.map cvP).take it)) := (hp.sS _).mono (by decide); have w3 : Ax1 (spQ ((xs.map cvP).take (it + 1))) := rfl; have w4 : Ax1 (spQ ((xs.map cvP).take it)) := rfl; have w5 : (spQ ((xs.map cvP).take (it + 1))).ps.length = (spQ ((xs.map cvP).take it)).ps.length := rfl; have w6 : SmS 2200 (subS (spQ ((xs.map cvP).take (it + 1))) (spQ ((xs.map cvP).take it))) := (smS_sub (hp.sS _) (hp.sS _)).mono (by decide); (tv_cm (cv_neS (ev_at 6 (GH.cl_Step (K := K) T) (GH.na_Step_kind (K := K) T) (ev_opA (hr.mono (show 6 ≤ _ by decide)) (GH.sf_Step (K := K) T) (ev_ixTM (f := (stepV K)) (ev_at 2 (GH.cl_Tour (K := K) T) (GH.na_Tour_spots (K := K) T) (ev_var 1)) (ev_add (ev_var 8) ev_int) (by first | exact atI_0 | exact atI_1 | exact atI_2 | exact rfl | assumption)) (ev_ixTM (f := (stepV K)) (ev_at 2 (GH.cl_Tour (K := K) T) (GH.na_Tour_spots (K := K) T) (ev_var 1)) (ev_var 8) (by first | exact atI_0 | exact atI_1 | exact atI_2 | exact rfl | assumption)) (step_sub (K := K) T))) ev_str))) (fun it h5 hq _ _ _ _ _ => have hi : it < (xs.map cvP).length := (by rw [List.length_map]; exact List.mem_range.mp h5); have s1 : atI (spotsL (xs.map cvP)) ((it : Int) + 1) = some (spQ ((xs.map cvP).take (it + 1))) := atI_nat (spots_get hi); have s2 : atI (spotsL (xs.map cvP)) (it : Int) = some (spQ ((xs.map cvP).take it)) := atI_nat (spots_get (Nat.le_of_lt hi)); have w1 : SmS 2200 (spQ ((xs.map cvP).take (it + 1))) := (hp.sS _).mono (by decide); have w2 : SmS 2200 (spQ ((xs.map cvP).take it)) := (hp.sS _).mono (by decide); have w3 : Ax1 (spQ ((xs.map cvP).take (it + 1))) := rfl; have w4 : Ax1 (spQ ((xs.map cvP).take it)) := rfl; have w5 : (spQ ((xs.map cvP).take (it + 1))).ps.length = (spQ ((xs.map cvP).take it)).ps.length := rfl; have w6 : SmS 2200 (subS (spQ ((xs.map cvP).take (it + 1))) (spQ ((xs.map cvP).take it))) := (smS_sub (hp.sS _) (hp.sS _)).mono (by decide); (ev_var 8)) (fun _ _ _ _ _ => (pg_name hnd rfl (by first | exact Or.inl rfl | exact Or.inr rfl))))) (ev_lstM PV.int am_nil))) (by simp only [Bool.not_eq_false', decide_eq_true_eq, List.map_eq_nil_iff, List.filter_eq_nil_iff]; intro it hit; rw [kind_next hp (by rw [List.length_map]; exact List.mem_range.mp hit)]; simp) ?_
  refine bv_asgE (S' := [_, _, _, _, _, _, _, _, _, _, _]) 3 hnd (ev_cm (cv_eqF (rcF_lst (rcF_pr2 (EqF.mono (m := 1) (rcF_pr2 (EqF.mono (m := 0) eqF_int (by decide)) (EqF.mono (m := 0) eqF_int (by decide))).eqF (by decide)) (EqF.mono (m := 1) (rcF_pr2 (EqF.mono (m := 0) eqF_int (by decide)) (EqF.mono (m := 0) eqF_int (by decide))).eqF (by decide))).eqF) (hr.mono (show 3 ≤ _ by decide)) (ev_mapL (g := (pr2 (pr2 PV.int PV.int) (pr2 PV.int PV.int))) (ev_lcT (b := (fun it : ((Int × Int) × (Int × Int)) => [(9, (pr2 (pr2 PV.int PV.int) (pr2 PV.int PV.int)) it)])) (own := [("_law_part", 9)]) (.nm 9) hnd (iu_list (ev_var 0)) (by first | (simp <;> omega) | exact Int.mul_pos (q_dpos _) (q_dpos _) | exact q_dpos _ | with_reducible rfl | assumption | omega) (fun it h6 _ _ _ _ _ => have bx := h.b it h6; haveI : Bt it.1.1 14 := int_bt (by have := bx.1; omega); haveI : Bt it.1.2 14 := int_bt (by have := bx.2.1; omega); (tv_cm (cv_neI (ev_mulV (ev_ixT (ev_ixT (ev_var 9) ev_int) ev_int) (ev_ixT (ev_ixT (ev_ixM (f := (pr2 (pr2 PV.int PV.int) (pr2 PV.int PV.int))) (ev_var 0) ev_int (by first | exact atI_0 | exact atI_1 | exact atI_2 | exact rfl | assumption)) ev_int) ev_int)) (ev_mulV (ev_ixT (ev_ixT (ev_ixM (f := (pr2 (pr2 PV.int PV.int) (pr2 PV.int PV.int))) (ev_var 0) ev_int (by first | exact atI_0 | exact atI_1 | exact atI_2 | exact rfl | assumption)) ev_int) ev_int) (ev_ixT (ev_ixT (ev_var 9) ev_int) ev_int))))) (fun it h6 hq _ _ _ _ _ => have bx := h.b it h6; haveI : Bt it.1.1 14 := int_bt (by have := bx.1; omega); haveI : Bt it.1.2 14 := int_bt (by have := bx.2.1; omega); (ev_var 9)) (fun _ _ _ _ _ => (pg_name hnd rfl (by first | exact Or.inl rfl | exact Or.inr rfl))))) (ev_lstM (pr2 (pr2 PV.int PV.int) (pr2 PV.int PV.int)) am_nil))) ?_
  refine bv_asgE (S' := [_, _, _, _, _, _, _, _, _, _, _]) 4 hnd (ev_opA (hr.mono (show 3 ≤ _ by decide)) (GH.sf_Ratio (K := K) T) (ev_callA (hr.mono (show 2 ≤ _ by decide)) (av_cons (ev_var 1) av_nil) (straight_ok (K := K) T)) (ev_opA (hr.mono (show 3 ≤ _ by decide)) (GH.sf_Ratio (K := K) T) (ev_at 1 (GH.cl_Tour (K := K) T) (GH.na_Tour_age (K := K) T) (ev_var 1)) (ev_at 1 (GH.cl_Tour (K := K) T) (GH.na_Tour_age (K := K) T) (ev_var 1)) (rat_mul (K := K) T)) (rat_sub (K := K) T)) ?_
  refine bv_retE (ev_cm (cv_eqI (ev_at 2 (GH.cl_Ratio (K := K) T) (GH.na_Ratio_sign (K := K) T) (ev_var 4)) (ev_ifM PV.int (tv_val (ev_var 3)) (fun h7 => ev_int) (fun h7 => ev_int)))) ?_
  have eps : xs.map cvP = cvP x0 :: xt.map cvP := by rw [exs]; rfl
  have hh : ∀ q ∈ cvP x0 :: xt.map cvP, 0 < q.1 ∧ 0 < q.2 := fun q hq => by rw [← eps] at hq; exact ⟨hp.p1 q hq, hp.p2 q hq⟩
  have sg := apart_sign hh
  rw [← eps] at sg
  have oi := one_iff h m0
  rw [sq_sp]
  show PV.bl (decide ((aQ (xs.map cvP)).num.sign = _)) = PV.bl true
  rw [sg]
  congr 1
  rw [decide_eq_true_eq]
  by_cases z : ∀ q ∈ xs.map cvP, q.1 = (cvP x0).1
  · rw [if_pos z, if_pos (by simpa using oi.mpr z)]
  · rw [if_neg z, if_neg (by intro y; exact z (oi.mp (by simpa using y)))]
end
end E
set_option maxHeartbeats 4000000
namespace E
open PySem PySem.Spec PyProof.Rows L2 Evl G He
section
variable {P : Program} {w : World} {K : PySem.W.Frag} {mg : Str → Option Value} {base : Heap}
theorem conv_rev (xs : List LPt) : xs.reverse.map cvP = (xs.map cvP).reverse := List.map_reverse
theorem LOk.rev {w : Int} {xs : List LPt} (h : LOk w xs) : LOk w xs.reverse := ⟨by rw [List.length_reverse]; exact h.l1, by rw [List.length_reverse]; exact h.l2, fun x hx => h.b x (List.mem_reverse.mp hx)⟩
theorem LOk.app {w : Int} {xs ys : List LPt} (h : LOk w xs) (g : LOk w ys) (hl : xs.length + ys.length ≤ 12) : LOk w (xs ++ ys) := ⟨by rw [List.length_append]; have := h.l1; omega, by rw [List.length_append]; exact hl, fun x hx => (List.mem_append.mp hx).elim (h.b x) (g.b x)⟩
def scI (m k : Int) (x : LPt) : LPt := ((x.1.1 * m, x.1.2 * k), x.2)
theorem LOk.scale {xs : List LPt} {m k : Int} (h : LOk 999 xs) (m1 : 1 ≤ m) (m2 : m ≤ 9) (k1 : 1 ≤ k) (k2 : k ≤ 9) : LOk 8991 (xs.map (scI m k)) := by
  refine ⟨by rw [List.length_map]; exact h.l1, by rw [List.length_map]; exact h.l2, fun y hy => ?_⟩
  obtain ⟨x, hx, e⟩ := List.mem_map.mp hy
  subst e
  obtain ⟨⟨a1, a2⟩, ⟨a3, a4⟩, a5⟩ := h.b x hx
  have u1 : x.1.1 * m ≤ 999 * 9 := Int.mul_le_mul a2 m2 (by omega) (by decide)
  have u2 : x.1.2 * k ≤ 999 * 9 := Int.mul_le_mul a4 k2 (by omega) (by decide)
  have v1 : 0 < x.1.1 * m := Int.mul_pos (by omega) (by omega)
  have v2 : 0 < x.1.2 * k := Int.mul_pos (by omega) (by omega)
  exact ⟨⟨by show 1 ≤ x.1.1 * m; omega, by show x.1.1 * m ≤ 8991; omega⟩, ⟨by show 1 ≤ x.1.2 * k; omega, by show x.1.2 * k ≤ 8991; omega⟩, a5⟩
theorem conv_scale (xs : List LPt) (m k : Int) : (xs.map (scI m k)).map cvP = (xs.map cvP).map (scaleP (Rat.divInt m k)) := by
  rw [List.map_map, List.map_map]
  refine List.map_congr_left fun x _ => ?_
  show (Rat.divInt (x.1.1 * m) (x.1.2 * k), (cvP x).2) = (Rat.divInt x.1.1 x.1.2 * Rat.divInt m k, (cvP x).2)
  rw [dd_mul]
theorem inv_mk {m k : Int} : (Rat.divInt m k)⁻¹ = Rat.divInt k m := Rat.inv_divInt m k

theorem kin_ok (T : GH.Txt K mg) {xs : List LPt} (h : LOk 999 xs := by assumption) (h7 : xs.length ≤ 7 := by first | (simp <;> omega) | exact Int.mul_pos (q_dpos _) (q_dpos _) | exact q_dpos _ | with_reducible rfl | assumption | omega) : Dr P w K mg base "_law_kin_right" 12 33 [lsV (pr2 (pr2 PV.int PV.int) (pr2 PV.int PV.int)) xs, tourV K (xs.map cvP)] (fun v => v = .bl true) := by
  obtain ⟨fd, F⟩ := GH.d__law_kin_right T
  have hnd : (["_law_pen_here", "_law_parts_here", "_law_tour_here", "_law_other", "_law_both", "_law_seen", "_law_back", "_law_more", "_law_k", "_law_m", "_law_ratio", "_law_beats"] : List Str).Nodup := by decide +kernel
  have hp := h.ps (by decide)
  have hl1 := h.l1
  have hr1 := h.rev
  have er1 : ageQ (xs.reverse.map cvP) = ageQ (xs.map cvP) := by rw [conv_rev, ageQ_rev]
  have er2 : spQ (xs.reverse.map cvP) = spQ (xs.map cvP) := by rw [conv_rev, spQ_rev]
  haveI := smc_of (ps_sA0 hp)
  have S1 := ps_sS0 hp
  have s1 : SmS 2200 (spQ (xs.map cvP)) := S1.mono (by decide)
  have s2 : Ax1 (spQ (xs.map cvP)) := rfl
  haveI := smc_of S1.1
  haveI := smc_of (S1.2 _ (by simp [spQ, SoL] : (lL (xs.map cvP) - lR (xs.map cvP)) * halfQ ∈ (spQ (xs.map cvP)).ps))
  refine mk_dr (k := 11) (N := ["_law_pen_here", "_law_parts_here", "_law_tour_here", "_law_other", "_law_both", "_law_seen", "_law_back", "_law_more", "_law_k", "_law_m", "_law_ratio", "_law_beats"]) (pn := ["_law_pen_here", "_law_parts_here", "_law_tour_here"]) F (GH.g__law_kin_right (K := K) T) ⟨rfl, rfl, rfl, by decide +kernel, rfl, by decide +kernel, by decide +kernel⟩ rfl (of_decide_eq_true rfl) (b3 F) ?_
  intro n hn pa cdv A outer s H E hr
  show BV _ _ [.own pa (.pen n), .pv (lsV (pr2 (pr2 PV.int PV.int) (pr2 PV.int PV.int)) xs), .pv (tourV K (xs.map cvP)), .no, .no, .no, .no, .no, .no, .no, .no, .no] _
  refine bv_par2X 6 7 hnd ?_
  refine xa_cons ?_
  refine xw_ev (ev_callA (hr.mono (show 11 ≤ _ by decide)) (av_cons (ev_revM (ev_var 1)) av_nil) (tour_ok (K := K) T)) ?_
  refine xa_cons ?_
  refine xw_draw (k := 4) (c := 31) 0 (glf_of (GH.d__law_parts (K := K) T) (GH.g__law_parts (K := K) T)) (hr.mono (show 4 ≤ _ by decide)) ?_
  refine xa_cons ?_
  refine xw_ev ev_int ?_
  refine xa_nil ?_
  refine ⟨_, _, rfl, by omega, parts_ok (K := K) T, ?_⟩
  rintro _ S2 e2 ⟨xs1, rfl, xs1a, xs1b, xs1c⟩
  replace e2 : [_, _, _, _, _, _, _, _, _, _, _, _] = S2 := e2
  subst e2
  have h1 : LOk 999 xs1 := ⟨xs1a, by omega, xs1c⟩
  have hp1 := h1.ps (by decide)
  have hb : LOk 999 (xs ++ xs1) := h.app h1 (by omega)
  have hpb : PsOk (xs.map cvP ++ xs1.map cvP) := by
    have := hb.ps (by decide)
    rwa [List.map_append] at this
  haveI := smc_of (ps_sA0 hp1)
  have T1 := ps_sS0 hp1
  have t1 : SmS 2200 (spQ (xs1.map cvP)) := T1.mono (by decide)
  have t2 : Ax1 (spQ (xs1.map cvP)) := rfl
  have t3 : (spQ (xs.map cvP)).ps.length = (spQ (xs1.map cvP)).ps.length := rfl
  have t4 : SmS 2200 (addS (spQ (xs.map cvP)) (spQ (xs1.map cvP))) := (smS_add S1 T1).mono (by decide)
  refine xa_nil ?_
  refine ⟨_, _, rfl, rfl, rfl, ?_⟩
  show BV _ _ [_, _, _, _, _, _, _, _, _, _, _, _] _
  refine bv_skip (tv_w (wv_or (tv_cm (cv_neF (rcF_pr2 (EqF.mono (m := 3) (eqF_rat T) (by decide)) (EqF.mono (m := 3) (eqF_step T) (by decide))) (hr.mono (show 4 ≤ _ by decide)) (ev_tup2 (ratV K) (stepV K) (ev_at 1 (GH.cl_Tour (K := K) T) (GH.na_Tour_age (K := K) T) (ev_var 6)) (ev_at 3 (GH.cl_Tour (K := K) T) (GH.na_Tour_step (K := K) T) (ev_var 6))) (ev_tup2 (ratV K) (stepV K) (ev_at 1 (GH.cl_Tour (K := K) T) (GH.na_Tour_age (K := K) T) (ev_var 2)) (ev_at 3 (GH.cl_Tour (K := K) T) (GH.na_Tour_step (K := K) T) (ev_var 2))))) fun h1 => (wv_or1 (tv_cm (cv_neB (ev_cm (cv_eqOA (hr.mono (show 4 ≤ _ by decide)) (ev_var 6) (ev_var 2) (tour_eq (K := K) T))) (ev_cm (cv_eqF (rcF_tup (rcF_pr2 (EqF.mono (m := 1) (eqF_rat T) (by decide)) (EqF.mono (m := 1) (eqF_rat T) (by decide))).eqF) (hr.mono (show 3 ≤ _ by decide)) (ev_at 0 (GH.cl_Tour (K := K) T) (GH.na_Tour_parts (K := K) T) (ev_var 6)) (ev_at 0 (GH.cl_Tour (K := K) T) (GH.na_Tour_parts (K := K) T) (ev_var 2))))))))) (by rw [er1, er2, conv_rev]; simp) ?_
  refine bv_asgE (S' := [_, _, _, _, _, _, _, _, _, _, _, _]) 3 hnd (ev_callA (hr.mono (show 11 ≤ _ by decide)) (av_cons (ev_var 7) av_nil) (tour_ok (K := K) T)) ?_
  refine bv_asgE (S' := [_, _, _, _, _, _, _, _, _, _, _, _]) 4 hnd (ev_methkw (GH.cl_Tour (K := K) T) (hr.mono (show 11 ≤ _ by decide)) (ev_var 2) (kv_cons (ev_var 3) kv_nil) (joined_ok_kw0 (K := K) T)) ?_
  refine bv_skip (tv_w (wv_or (tv_cm (cv_neOA (GH.ne_Tour (K := K) T) (hr.mono (show 5 ≤ _ by decide)) (ev_var 4) (ev_callA (hr.mono (show 11 ≤ _ by decide)) (av_cons (ev_cat (ev_var 1) (ev_var 7)) av_nil) (tour_ok (K := K) T)) (tour_eq (K := K) T))) fun h3 => (wv_or (tv_cm (cv_neOA (GH.ne_Ratio (K := K) T) (hr.mono (show 2 ≤ _ by decide)) (ev_at 1 (GH.cl_Tour (K := K) T) (GH.na_Tour_age (K := K) T) (ev_var 4)) (ev_opA (hr.mono (show 3 ≤ _ by decide)) (GH.sf_Ratio (K := K) T) (ev_at 1 (GH.cl_Tour (K := K) T) (GH.na_Tour_age (K := K) T) (ev_var 2)) (ev_at 1 (GH.cl_Tour (K := K) T) (GH.na_Tour_age (K := K) T) (ev_var 3)) (rat_add (K := K) T)) (rat_eq (K := K) T))) fun h2 => (wv_or1 (tv_cm (cv_neOA (GH.ne_Step (K := K) T) (hr.mono (show 4 ≤ _ by decide)) (ev_at 3 (GH.cl_Tour (K := K) T) (GH.na_Tour_step (K := K) T) (ev_var 4)) (ev_opA (hr.mono (show 6 ≤ _ by decide)) (GH.sf_Step (K := K) T) (ev_at 3 (GH.cl_Tour (K := K) T) (GH.na_Tour_step (K := K) T) (ev_var 2)) (ev_at 3 (GH.cl_Tour (K := K) T) (GH.na_Tour_step (K := K) T) (ev_var 3)) (step_add (K := K) T)) (step_eq (K := K) T))))))) (by rw [List.map_append, ageQ_app, spQ_app]; simp) ?_
  refine bv_tgt (.tp [.nm 8, .nm 9]) ?_ (pg_tup rfl (pgs_cons (pg_name hnd rfl (by first | exact Or.inl rfl | exact Or.inr rfl)) (pgs_cons (pg_name hnd rfl (by first | exact Or.inl rfl | exact Or.inr rfl)) pgs_nil)))
  refine xw_tup ?_
  refine xa_cons ?_
  refine xw_add ?_
  refine xw_ev ev_int ?_
  refine ⟨_, rfl, ?_⟩
  refine xw_draw (k := 2) (c := 1) 0 (glf_of (GH.d__law_draw (K := K) T) (GH.g__law_draw (K := K) T)) (hr.mono (show 2 ≤ _ by decide)) ?_
  refine xa_cons ?_
  refine xw_ev ev_int ?_
  refine xa_nil ?_
  refine ⟨_, _, rfl, by omega, draw_ok (K := K) T, ?_⟩
  rintro _ S2 e2 ⟨d2, rfl, d2a, d2b⟩
  replace e2 : [_, _, _, _, _, _, _, _, _, _, _, _] = S2 := e2
  subst e2
  refine ⟨_, rfl, ?_⟩
  refine xa_cons ?_
  refine xw_add ?_
  refine xw_ev ev_int ?_
  refine ⟨_, rfl, ?_⟩
  refine xw_draw (k := 2) (c := 1) 0 (glf_of (GH.d__law_draw (K := K) T) (GH.g__law_draw (K := K) T)) (hr.mono (show 2 ≤ _ by decide)) ?_
  refine xa_cons ?_
  refine xw_ev ev_int ?_
  refine xa_nil ?_
  refine ⟨_, _, rfl, by omega, draw_ok (K := K) T, ?_⟩
  rintro _ S2 e2 ⟨d3, rfl, d3a, d3b⟩
  replace e2 : [_, _, _, _, _, _, _, _, _, _, _, _] = S2 := e2
  subst e2
  have hs := h.scale (m := 1 + d3) (k := 1 + d2) (by omega) (by omega) (by omega) (by omega)
  have hps := hs.ps (by decide)
  have U1 := ps_sS0 hps
  haveI := smc_of U1.1
  have c0 : 0 < Rat.divInt (1 + d3) (1 + d2) := (div_gt (by omega)).mpr (by omega)
  have ec := conv_scale xs (1 + d3) (1 + d2)
  have f1 : ageQ ((xs.map (scI (1 + d3) (1 + d2))).map cvP) = ageQ (xs.map cvP) := by rw [ec, ageQ_scale]
  have f2 : lR ((xs.map (scI (1 + d3) (1 + d2))).map cvP) = lR (xs.map cvP) * (Rat.divInt (1 + d3) (1 + d2))⁻¹ := by rw [ec, lR_scale c0 hp.p1]
  have f3 : lL ((xs.map (scI (1 + d3) (1 + d2))).map cvP) = lL (xs.map cvP) * Rat.divInt (1 + d3) (1 + d2) := by rw [ec, lL_scale]
  have f4 : sqQ (spQ ((xs.map (scI (1 + d3) (1 + d2))).map cvP)).t (spQ ((xs.map (scI (1 + d3) (1 + d2))).map cvP)).ps = sqQ (spQ (xs.map cvP)).t (spQ (xs.map cvP)).ps := by
    rw [sq_sp, sq_sp, f2, f3]
    have := Rat.mul_inv_cancel (Rat.divInt (1 + d3) (1 + d2)) (by grind)
    grind
  have p2 : 0 < 1 + d2 := by omega
  have p3 : 0 < 1 + d3 := by omega
  haveI : Bt (1 + d2) 14 := int_bt (by omega)
  haveI : Bt (1 + d3) 14 := int_bt (by omega)
  haveI := smc_of (sm_div p3 (Bt.lt (i := 1 + d2) (n := 14)) (Bt.lt (i := 1 + d3) (n := 14)))
  refine ⟨_, rfl, ?_⟩
  refine xa_nil ?_
  refine ⟨of_decide_eq_true rfl, ?_⟩
  refine ⟨_, rfl, nown rfl, ?_⟩
  show BV _ _ [_, _, _, _, _, _, _, _, _, _, _, _] _
  refine bv_asgE (S' := [_, _, _, _, _, _, _, _, _, _, _, _]) 5 hnd (ev_callA (hr.mono (show 11 ≤ _ by decide)) (av_cons (ev_mapL (g := (pr2 (pr2 PV.int PV.int) (pr2 PV.int PV.int))) (ev_lc (b := (fun it : ((Int × Int) × (Int × Int)) => [(10, (pr2 PV.int PV.int) it.1), (11, (pr2 PV.int PV.int) it.2)])) (own := [("_law_ratio", 10), ("_law_beats", 11)]) (.tp [.nm 10, .nm 11]) hnd (iu_list (ev_var 1)) (by first | (simp <;> omega) | exact Int.mul_pos (q_dpos _) (q_dpos _) | exact q_dpos _ | with_reducible rfl | assumption | omega) (fun it h4 _ _ _ _ _ => have bx := h.b it h4; haveI : Bt it.1.1 14 := int_bt (by have := bx.1; omega); haveI : Bt it.1.2 14 := int_bt (by have := bx.2.1; omega); (ev_tup2 (pr2 PV.int PV.int) (pr2 PV.int PV.int) (ev_tup2 PV.int PV.int (ev_mulV (ev_ixT (ev_var 10) ev_int) (ev_var 9)) (ev_mulV (ev_ixT (ev_var 10) ev_int) (ev_var 8))) (ev_var 11))) (fun _ _ _ _ _ => (pg_tup rfl (pgs_cons (pg_name hnd rfl (by first | exact Or.inl rfl | exact Or.inr rfl)) (pgs_cons (pg_name hnd rfl (by first | exact Or.inl rfl | exact Or.inr rfl)) pgs_nil)))))) av_nil) (tour_ok (K := K) T (xs := xs.map (scI (1 + d3) (1 + d2))) (h := by exact hs) (hw := by decide))) ?_
  refine bv_skip (tv_w (wv_or (tv_cm (cv_neOA (GH.ne_Ratio (K := K) T) (hr.mono (show 2 ≤ _ by decide)) (ev_at 1 (GH.cl_Tour (K := K) T) (GH.na_Tour_age (K := K) T) (ev_var 5)) (ev_at 1 (GH.cl_Tour (K := K) T) (GH.na_Tour_age (K := K) T) (ev_var 2)) (rat_eq (K := K) T))) fun h5 => (wv_or1 (tv_cm (cv_neOA (GH.ne_Ratio (K := K) T) (hr.mono (show 2 ≤ _ by decide)) (ev_callA (hr.mono (show 2 ≤ _ by decide)) (av_cons (ev_var 5) av_nil) (straight_ok (K := K) T)) (ev_callA (hr.mono (show 2 ≤ _ by decide)) (av_cons (ev_var 2) av_nil) (straight_ok (K := K) T)) (rat_eq (K := K) T)))))) (by rw [f1, f4]; simp) ?_
  haveI := smc_of (U1.2 _ (by simp [spQ, SoL] : (lL ((xs.map (scI (1 + d3) (1 + d2))).map cvP) - lR ((xs.map (scI (1 + d3) (1 + d2))).map cvP)) * halfQ ∈ (spQ ((xs.map (scI (1 + d3) (1 + d2))).map cvP)).ps))
  refine bv_more 0 rfl (m := n + 33) (by omega) ?_
  show BV _ _ [_, _, _, _, _, _, _, _, _, _, _, _] _
  refine bv_retE (ev_cm (cv_eqOA (hr.mono (show 1 ≤ _ by decide)) (ev_opA (hr.mono (show 3 ≤ _ by decide)) (GH.sf_Ratio (K := K) T) (ev_at 0 (GH.cl_Step (K := K) T) (GH.na_Step_time (K := K) T) (ev_at 3 (GH.cl_Tour (K := K) T) (GH.na_Tour_step (K := K) T) (ev_var 5))) (ev_ixTM (f := (ratV K)) (ev_at 1 (GH.cl_Step (K := K) T) (GH.na_Step_place (K := K) T) (ev_at 3 (GH.cl_Tour (K := K) T) (GH.na_Tour_step (K := K) T) (ev_var 5))) ev_int (by first | exact atI_0 | exact atI_1 | exact atI_2 | exact rfl | assumption)) (rat_sub (K := K) T)) (ev_opA (hr.mono (show 3 ≤ _ by decide)) (GH.sf_Ratio (K := K) T) (ev_opA (hr.mono (show 3 ≤ _ by decide)) (GH.sf_Ratio (K := K) T) (ev_at 0 (GH.cl_Step (K := K) T) (GH.na_Step_time (K := K) T) (ev_at 3 (GH.cl_Tour (K := K) T) (GH.na_Tour_step (K := K) T) (ev_var 2))) (ev_ixTM (f := (ratV K)) (ev_at 1 (GH.cl_Step (K := K) T) (GH.na_Step_place (K := K) T) (ev_at 3 (GH.cl_Tour (K := K) T) (GH.na_Tour_step (K := K) T) (ev_var 2))) ev_int (by first | exact atI_0 | exact atI_1 | exact atI_2 | exact rfl | assumption)) (rat_sub (K := K) T)) (ev_newA (hr.mono (show 2 ≤ _ by decide)) (av_cons (ev_var 8) (av_cons (ev_var 9) av_nil)) (nw_Ratio (K := K) T)) (rat_mul (K := K) T)) (rat_eq (K := K) T))) ⟨rfl, ?_⟩
  show PV.bl (decide ((lL _ + lR _) * halfQ - (lL _ - lR _) * halfQ = ((lL _ + lR _) * halfQ - (lL _ - lR _) * halfQ) * _)) = PV.bl true
  rw [right_SoL, right_SoL, f2, inv_mk]
  simp
end
end E
set_option maxHeartbeats 4000000
namespace E
open PySem PySem.Spec PyProof.Rows L2 Evl G He
section
variable {P : Program} {w : World} {K : PySem.W.Frag} {mg : Str → Option Value} {base : Heap}
theorem ages_step {xs : List LPt} (h : LOk 999 xs) {j : Nat} (hj : j < xs.length) {s : Int} (s0 : 0 ≤ s) (s6 : s ≤ 6) :
    BI 8 (xs[j].2.1 * s, xs[j].2.2 * 6) ∧ BI 18 (xs[j].2.1 * s * xs[j].1.2, xs[j].2.2 * 6 * xs[j].1.1) ∧ BI 18 (xs[j].2.1 * s * xs[j].1.1, xs[j].2.2 * 6 * xs[j].1.2) ∧
    0 ≤ qI (plusI (lightI (xs.take j)).1 (xs[j].2.1 * s, xs[j].2.2 * 6)) ∧ qI (plusI (lightI (xs.take j)).1 (xs[j].2.1 * s, xs[j].2.2 * 6)) ≤ ageQ (xs.map cvP) ∧
    curve (xs.map cvP) (qI (plusI (lightI (xs.take j)).1 (xs[j].2.1 * s, xs[j].2.2 * 6))) = (qI (plusI (lightI (xs.take j)).2.1 (xs[j].2.1 * s * xs[j].1.2, xs[j].2.2 * 6 * xs[j].1.1)), qI (plusI (lightI (xs.take j)).2.2 (xs[j].2.1 * s * xs[j].1.1, xs[j].2.2 * 6 * xs[j].1.2))) := by
  have hp := h.ps (by decide)
  have m := List.getElem_mem hj
  obtain ⟨⟨a1, a2⟩, ⟨a3, a4⟩, ⟨a5, a6⟩, a7, a8⟩ := h.b _ m
  obtain ⟨c1, c2, c3⟩ := h.lb (by decide) j
  obtain ⟨q1, q2, q3⟩ := h.lq (by decide) j
  have e8 : (2 : Nat) ^ 8 = 256 := by decide
  have e18 : (2 : Nat) ^ 18 = 262144 := by decide
  have u0 : 0 ≤ xs[j].2.1 * s := Int.mul_nonneg (by omega) s0
  have u1 : xs[j].2.1 * s ≤ 20 * 6 := Int.mul_le_mul a6 s6 s0 (by decide)
  have v1 : xs[j].2.1 * s * xs[j].1.2 ≤ 120 * 999 := Int.mul_le_mul u1 a4 (by omega) (by decide)
  have v2 : xs[j].2.2 * 6 * xs[j].1.1 ≤ 36 * 999 := Int.mul_le_mul (by omega) a2 (by omega) (by decide)
  have v3 : xs[j].2.1 * s * xs[j].1.1 ≤ 120 * 999 := Int.mul_le_mul u1 a2 (by omega) (by decide)
  have v4 : xs[j].2.2 * 6 * xs[j].1.2 ≤ 36 * 999 := Int.mul_le_mul (by omega) a4 (by omega) (by decide)
  have w1 : 0 ≤ xs[j].2.1 * s * xs[j].1.2 := Int.mul_nonneg u0 (by omega)
  have w2 : 0 < xs[j].2.2 * 6 * xs[j].1.1 := Int.mul_pos (by omega) (by omega)
  have w3 : 0 ≤ xs[j].2.1 * s * xs[j].1.1 := Int.mul_nonneg u0 (by omega)
  have w4 : 0 < xs[j].2.2 * 6 * xs[j].1.2 := Int.mul_pos (by omega) (by omega)
  have b1 : BI 8 (xs[j].2.1 * s, xs[j].2.2 * 6) := ⟨by dsimp only; omega, by dsimp only; omega, by dsimp only; omega⟩
  have b2 : BI 18 (xs[j].2.1 * s * xs[j].1.2, xs[j].2.2 * 6 * xs[j].1.1) := ⟨w2, by dsimp only; omega, by dsimp only; omega⟩
  have b3 : BI 18 (xs[j].2.1 * s * xs[j].1.1, xs[j].2.2 * 6 * xs[j].1.2) := ⟨w4, by dsimp only; omega, by dsimp only; omega⟩
  have hj2 : j < (xs.map cvP).length := by rw [List.length_map]; exact hj
  have ej : (xs.map cvP)[j] = cvP xs[j] := by rw [List.getElem_map]
  have eb : qI (xs[j].2.1 * s, xs[j].2.2 * 6) = (cvP xs[j]).2 * Rat.divInt s 6 := dd_mul.symm
  have r0 : 0 < (cvP xs[j]).1 := hp.p1 _ (List.mem_map_of_mem m)
  have p0 : 0 < (cvP xs[j]).2 := hp.p2 _ (List.mem_map_of_mem m)
  have k0 : 0 ≤ Rat.divInt s 6 := (Rat.divInt_nonneg_iff_of_pos_right (by decide)).mpr s0
  have k1 : Rat.divInt s 6 ≤ 1 := by
    have := (Rat.divInt_nonneg_iff_of_pos_right (a := 6 - s) (b := 6) (by decide)).mpr (by omega)
    rw [← dd_subS (by decide), show Rat.divInt 6 6 = 1 from by decide +kernel] at this
    grind
  have x0 : 0 ≤ (cvP xs[j]).2 * Rat.divInt s 6 := Rat.mul_nonneg (Rat.le_of_lt p0) k0
  have x1 : (cvP xs[j]).2 * Rat.divInt s 6 ≤ (cvP xs[j]).2 := by
    have := Rat.mul_nonneg (a := (cvP xs[j]).2) (b := 1 - Rat.divInt s 6) (Rat.le_of_lt p0) (by grind)
    grind
  have hh : ∀ p ∈ xs.map cvP, 0 < p.1 ∧ 0 < p.2 := fun p hp' => ⟨hp.p1 p hp', hp.p2 p hp'⟩
  have cv := curve_at (xs.map cvP) j ((cvP xs[j]).2 * Rat.divInt s 6) hj2 hh x0 (by rw [ej]; exact x1)
  have ea : qI (plusI (lightI (xs.take j)).1 (xs[j].2.1 * s, xs[j].2.2 * 6)) = ageQ ((xs.map cvP).take j) + (cvP xs[j]).2 * Rat.divInt s 6 := by rw [plusI_q c1 b1, q1, eb]
  have sp : ageQ (xs.map cvP) = ageQ ((xs.map cvP).take j) + (cvP xs[j]).2 + ageQ ((xs.map cvP).drop (j + 1)) := by
    conv => lhs; rw [← List.take_append_drop (j + 1) (xs.map cvP), take_next (List.getElem?_eq_getElem hj2)]
    rw [ageQ_app, ageQ_app, ageQ_one, ej]
  have n1 : 0 ≤ ageQ ((xs.map cvP).take j) := ageQ_nn fun p hq => (hh p (List.mem_of_mem_take hq)).2
  have n2 : 0 ≤ ageQ ((xs.map cvP).drop (j + 1)) := ageQ_nn fun p hq => (hh p (List.mem_of_mem_drop hq)).2
  refine ⟨b1, b2, b3, by rw [ea]; grind, by rw [ea, sp]; grind, ?_⟩
  rw [ea, cv, plusI_q c2 b2, plusI_q c3 b3, q2, q3, ej]
  have er : qI (xs[j].2.1 * s * xs[j].1.2, xs[j].2.2 * 6 * xs[j].1.1) = (cvP xs[j]).2 * Rat.divInt s 6 / (cvP xs[j]).1 := by
    show Rat.divInt (xs[j].2.1 * s * xs[j].1.2) (xs[j].2.2 * 6 * xs[j].1.1) = Rat.divInt xs[j].2.1 xs[j].2.2 * Rat.divInt s 6 / Rat.divInt xs[j].1.1 xs[j].1.2
    rw [Rat.div_def, Rat.inv_divInt, dd_mul, dd_mul]
  have el : qI (xs[j].2.1 * s * xs[j].1.1, xs[j].2.2 * 6 * xs[j].1.2) = (cvP xs[j]).2 * Rat.divInt s 6 * (cvP xs[j]).1 := by
    show Rat.divInt (xs[j].2.1 * s * xs[j].1.1) (xs[j].2.2 * 6 * xs[j].1.2) = Rat.divInt xs[j].2.1 xs[j].2.2 * Rat.divInt s 6 * Rat.divInt xs[j].1.1 xs[j].1.2
    rw [dd_mul, dd_mul]
  rw [er, el]
theorem lightsI_get {xs : List LPt} {n j : Nat} (h : j ≤ n) : (lightsI xs n)[j]? = some (lightI (xs.take j)) := by
  unfold lightsI
  rw [List.getElem?_map, List.getElem?_range (by omega)]
  rfl

theorem ages_ok (T : GH.Txt K mg) {xs : List LPt} (h : LOk 999 xs := by assumption) : Dr P w K mg base "_law_ages_right" 9 6 [lsV (pr2 (pr2 PV.int PV.int) (pr2 PV.int PV.int)) xs, tourV K (xs.map cvP)] (fun v => v = .bl true) := by
  obtain ⟨fd, F⟩ := GH.d__law_ages_right T
  have hnd : (["_law_pen_here", "_law_parts_here", "_law_tour_here", "_law_lights_here", "_law_turn", "_law_some", "_law_right", "_law_left", "_law_age", "_law_at", "_law_share", "_law_ratio", "_law_beats"] : List Str).Nodup := by decide +kernel
  have hp := h.ps (by decide)
  have hl1 := h.l1
  have hl2 := h.l2
  have n0 : 0 ≤ ageQ (xs.map cvP) := ageQ_nn hp.p2
  have n1 : ((0 : Int) : Rat) ≤ ageQ (xs.map cvP) := n0
  have n2 : ageQ (xs.map cvP) ≤ ageQ (xs.map cvP) := Rat.le_refl
  haveI := smc_of (ps_sA0 hp)
  refine mk_dr (k := 8) (N := ["_law_pen_here", "_law_parts_here", "_law_tour_here", "_law_lights_here", "_law_turn", "_law_some", "_law_right", "_law_left", "_law_age", "_law_at", "_law_share", "_law_ratio", "_law_beats"]) (pn := ["_law_pen_here", "_law_parts_here", "_law_tour_here"]) F (GH.g__law_ages_right (K := K) T) ⟨rfl, rfl, rfl, by decide +kernel, rfl, by decide +kernel, by decide +kernel⟩ rfl (of_decide_eq_true rfl) (b3 F) ?_
  intro n hn pa cdv A outer s H E hr
  show BV _ _ [.own pa (.pen n), .pv (lsV (pr2 (pr2 PV.int PV.int) (pr2 PV.int PV.int)) xs), .pv (tourV K (xs.map cvP)), .no, .no, .no, .no, .no, .no, .no, .no, .no, .no] _
  refine bv_asgE (S' := [_, _, _, _, _, _, _, _, _, _, _, _, _]) 3 hnd (ev_callA (hr.mono (show 2 ≤ _ by decide)) (av_cons (ev_var 1) av_nil) (lightsl_ok (K := K) T)) ?_
  refine bv_for (.nm 4) (fun it : Nat => [(4, PV.int ((it : Nat) : Int))]) (fun i S => S = [.own _ (.pen (n + i * 2)), _, _, _, _, _, _, _, _, _, _, _, _]) (iu_rangeE (n := 3) (GH.fr_range (K := K) T) ev_int (by first | (simp <;> omega) | exact Int.mul_pos (q_dpos _) (q_dpos _) | exact q_dpos _ | with_reducible rfl | assumption | omega) (by first | (simp <;> omega) | exact Int.mul_pos (q_dpos _) (q_dpos _) | exact q_dpos _ | with_reducible rfl | assumption | omega)) (by exact rfl) (fun _ _ => rfl) (fun i it S1 hi hS => ?_) (fun S1 hS => ?_) (pg_name hnd rfl (by first | exact Or.inl rfl | exact Or.inr rfl))
  · subst hS
    have il := (List.getElem?_eq_some_iff.mp hi).1
    rw [List.length_range] at il
    refine ⟨nown rfl, ?_⟩
    show BV _ _ [_, _, _, _, _, _, _, _, _, _, _, _, _] _
    refine bv_par2X 9 10 hnd ?_
    refine xa_cons ?_
    refine xw_draw (k := 2) (c := 1) 0 (glf_of (GH.d__law_draw (K := K) T) (GH.g__law_draw (K := K) T)) (hr.mono (show 2 ≤ _ by decide)) ?_
    refine xa_cons ?_
    refine xw_ev (ev_lenM (GH.fr_len (K := K) T) (ev_var 1)) ?_
    refine xa_nil ?_
    refine ⟨_, _, rfl, by omega, draw_ok (K := K) T, ?_⟩
    rintro _ S2 e2 ⟨d1, rfl, d1a, d1b⟩
    replace e2 : [_, _, _, _, _, _, _, _, _, _, _, _, _] = S2 := e2
    subst e2
    obtain ⟨j, rfl⟩ : ∃ j : Nat, d1 = (j : Int) := ⟨d1.toNat, by omega⟩
    have hj : j < xs.length := by omega
    refine xa_cons ?_
    refine xw_tup ?_
    refine xa_cons ?_
    refine xw_draw (k := 2) (c := 1) 0 (glf_of (GH.d__law_draw (K := K) T) (GH.g__law_draw (K := K) T)) (hr.mono (show 2 ≤ _ by decide)) ?_
    refine xa_cons ?_
    refine xw_ev ev_int ?_
    refine xa_nil ?_
    refine ⟨_, _, rfl, by omega, draw_ok (K := K) T, ?_⟩
    rintro _ S2 e2 ⟨d2, rfl, d2a, d2b⟩
    replace e2 : [_, _, _, _, _, _, _, _, _, _, _, _, _] = S2 := e2
    subst e2
    refine xa_cons ?_
    refine xw_ev ev_int ?_
    refine xa_nil ?_
    refine ⟨of_decide_eq_true rfl, ?_⟩
    refine xa_nil ?_
    refine ⟨_, _, rfl, rfl, rfl, ?_⟩
    show BV _ _ [_, _, _, _, _, _, _, _, _, _, _, _, _] _
    have hx1 : atI xs (j : Int) = some xs[j] := atI_nat (List.getElem?_eq_getElem hj)
    have hx2 : atI (lightsI xs xs.length) (j : Int) = some (lightI (xs.take j)) := atI_nat (lightsI_get (Nat.le_of_lt hj))
    refine bv_tgtE (S' := [_, _, _, _, _, _, _, _, _, _, _, _, _]) (hn := nown rfl) (.tp [.tp [.nm 11, .nm 12], .tp [.nm 8, .nm 6, .nm 7]]) (ev_tup2 (pr2 (pr2 PV.int PV.int) (pr2 PV.int PV.int)) (pr3 (pr2 PV.int PV.int) (pr2 PV.int PV.int) (pr2 PV.int PV.int)) (ev_ixM (f := (pr2 (pr2 PV.int PV.int) (pr2 PV.int PV.int))) (ev_var 1) (ev_var 9) (by first | exact atI_0 | exact atI_1 | exact atI_2 | exact rfl | assumption)) (ev_ixM (f := (pr3 (pr2 PV.int PV.int) (pr2 PV.int PV.int) (pr2 PV.int PV.int))) (ev_var 3) (ev_var 9) (by first | exact atI_0 | exact atI_1 | exact atI_2 | exact rfl | assumption))) (pg_tup rfl (pgs_cons (pg_tup rfl (pgs_cons (pg_name hnd rfl (by first | exact Or.inl rfl | exact Or.inr rfl)) (pgs_cons (pg_name hnd rfl (by first | exact Or.inl rfl | exact Or.inr rfl)) pgs_nil))) (pgs_cons (pg_tup rfl (pgs_cons (pg_name hnd rfl (by first | exact Or.inl rfl | exact Or.inr rfl)) (pgs_cons (pg_name hnd rfl (by first | exact Or.inl rfl | exact Or.inr rfl)) (pgs_cons (pg_name hnd rfl (by first | exact Or.inl rfl | exact Or.inr rfl)) pgs_nil)))) pgs_nil))) ?_
    obtain ⟨f1, f2, f3, f4, f5, f6⟩ := ages_step h hj (s := d2) (by omega) (by omega)
    obtain ⟨⟨a1, a2⟩, ⟨a3, a4⟩, ⟨a5, a6⟩, a7, a8⟩ := h.b _ (List.getElem_mem hj)
    haveI : Bt xs[j].1.1 14 := int_bt (by omega)
    haveI : Bt xs[j].1.2 14 := int_bt (by omega)
    haveI : Bt xs[j].2.1 14 := int_bt (by omega)
    haveI : Bt xs[j].2.2 14 := int_bt (by omega)
    haveI : Bt d2 14 := int_bt (by omega)
    obtain ⟨c1, c2, c3⟩ := h.lb (by decide) j
    have g1 := plusI_b c1 f1
    have g2 := (plusI_b c2 f2).up (show _ ≤ 260 by decide)
    have g3 := (plusI_b c3 f3).up (show _ ≤ 260 by decide)
    have p1 := g1.p
    haveI := int_bt g1.n1
    haveI := int_bt g1.n2
    haveI : SmC 240 (Rat.divInt (plusI (lightI (xs.take j)).1 (xs[j].2.1 * d2, xs[j].2.2 * 6)).1 (plusI (lightI (xs.take j)).1 (xs[j].2.1 * d2, xs[j].2.2 * 6)).2) := ⟨(qI_sm g1).mono (by decide)⟩
    refine bv_asgE (S' := [_, _, _, _, _, _, _, _, _, _, _, _, _]) 5 hnd (ev_tup2 PV.int PV.int (ev_mulV (ev_ixT (ev_var 12) ev_int) (ev_ixT (ev_var 10) ev_int)) (ev_mulV (ev_ixT (ev_var 12) ev_int) (ev_ixT (ev_var 10) ev_int))) ?_
    refine bv_asgE (S' := [_, _, _, _, _, _, _, _, _, _, _, _, _]) 6 hnd (ev_callA (hr.mono (show 1 ≤ _ by decide)) (av_cons (ev_var 6) (av_cons (ev_tup2 PV.int PV.int (ev_mulV (ev_ixT (ev_var 5) ev_int) (ev_ixT (ev_var 11) ev_int)) (ev_mulV (ev_ixT (ev_var 5) ev_int) (ev_ixT (ev_var 11) ev_int))) av_nil)) (plus_ok (K := K) T)) ?_
    refine bv_asgE (S' := [_, _, _, _, _, _, _, _, _, _, _, _, _]) 7 hnd (ev_callA (hr.mono (show 1 ≤ _ by decide)) (av_cons (ev_var 7) (av_cons (ev_tup2 PV.int PV.int (ev_mulV (ev_ixT (ev_var 5) ev_int) (ev_ixT (ev_var 11) ev_int)) (ev_mulV (ev_ixT (ev_var 5) ev_int) (ev_ixT (ev_var 11) ev_int))) av_nil)) (plus_ok (K := K) T)) ?_
    refine bv_asgE (S' := [_, _, _, _, _, _, _, _, _, _, _, _, _]) 8 hnd (ev_callA (hr.mono (show 1 ≤ _ by decide)) (av_cons (ev_var 8) (av_cons (ev_var 5) av_nil)) (plus_ok (K := K) T)) ?_
    refine bv_skip (tv_cm (cv_neOA (GH.ne_Step (K := K) T) (hr.mono (show 4 ≤ _ by decide)) (ev_callkw0 (hr.mono (show 8 ≤ _ by decide)) (kv_cons (ev_newA (hr.mono (show 2 ≤ _ by decide)) (av_cons (ev_ixT (ev_var 8) ev_int) (av_cons (ev_ixT (ev_var 8) ev_int) av_nil)) (nw_Ratio (K := K) T)) (kv_cons (ev_var 2) kv_nil)) (spot_at_r_kw0 (K := K) T)) (ev_callA (hr.mono (show 6 ≤ _ by decide)) (av_cons (ev_var 6) (av_cons (ev_var 7) av_nil)) (lit_ok (K := K) T)) (step_eq (K := K) T))) (by rw [show curve (xs.map cvP) (Rat.divInt (plusI (lightI (xs.take j)).1 (xs[j].2.1 * d2, xs[j].2.2 * 6)).1 (plusI (lightI (xs.take j)).1 (xs[j].2.1 * d2, xs[j].2.2 * 6)).2) = _ from f6]; simp) ?_
    refine bv_drop 4 ?_
    refine bv_drop 9 ?_
    refine bv_drop 10 ?_
    refine bv_drop 11 ?_
    refine bv_drop 12 ?_
    refine bv_drop 8 ?_
    refine bv_drop 6 ?_
    refine bv_drop 7 ?_
    refine bv_drop 5 ?_
    refine bv_more 0 rfl (m := n + (i + 1) * 2) (by omega) ?_
    refine bv_nil ?_
    rfl
  · subst hS
    refine bv_more 0 rfl (m := n + 6) (by simp) ?_
    show BV _ _ [_, _, _, _, _, _, _, _, _, _, _, _, _] _
    refine bv_more 0 rfl (m := n + 6) (by omega) ?_
    show BV _ _ [_, _, _, _, _, _, _, _, _, _, _, _, _] _
    refine bv_retE (ev_and (ev_cm (cv_eqOA (hr.mono (show 3 ≤ _ by decide)) (ev_callA (hr.mono (show 8 ≤ _ by decide)) (av_cons (ev_var 2) (av_cons ev_int av_nil)) (spot_at_0 (K := K) T)) (EV.as (ev_newA (hr.mono (show 6 ≤ _ by decide)) (av_cons ev_int (av_cons (ev_lstM PV.int (am_cons ev_int am_nil)) av_nil)) (nw_StepI (K := K) T)) (show _ = stepV K ⟨((0 : Int) : Rat), [((0 : Int) : Rat)]⟩ from rfl)) (step_eq (K := K) T))) fun h1 => (ev_one (ev_cm (cv_eqOA (hr.mono (show 3 ≤ _ by decide)) (ev_callA (hr.mono (show 8 ≤ _ by decide)) (av_cons (ev_var 2) (av_cons (ev_at 1 (GH.cl_Tour (K := K) T) (GH.na_Tour_age (K := K) T) (ev_var 2)) av_nil)) (spot_at_r (K := K) T)) (ev_at 3 (GH.cl_Tour (K := K) T) (GH.na_Tour_step (K := K) T) (ev_var 2)) (step_eq (K := K) T))))) ⟨rfl, ?_⟩
    have e0 : SoL (curve (xs.map cvP) ((0 : Int) : Rat)).1 (curve (xs.map cvP) ((0 : Int) : Rat)).2 = ⟨((0 : Int) : Rat), [((0 : Int) : Rat)]⟩ := by
      show SoL (curve (xs.map cvP) 0).1 (curve (xs.map cvP) 0).2 = _
      rw [curve_0 hp]
      exact spQ_nil
    have e1 : SoL (curve (xs.map cvP) (ageQ (xs.map cvP))).1 (curve (xs.map cvP) (ageQ (xs.map cvP))).2 = spQ (xs.map cvP) := by
      rw [curve_all hp]
      rfl
    rw [e0, e1]
    simp
end
end E
set_option maxHeartbeats 4000000
/-! E28: != of an own instance and an int. -/
namespace E
open PySem PySem.Spec PyProof.Rows L2 Evl G He
section
variable {X : Cx} {ρ : Rho} {a b : Expr} {C : Addr} {k : Nat} {ks : List Str} {ps : List PV} {i : Int} {bb : Bool} {sp : Sp}
def rNeI (C : Addr) (sp : Sp) : R2 := fun x y H Q => ∃ a dx fs i, x = .ref a ∧ y = .int i ∧ H a = some (.ins C dx fs) ∧ sp [x, y] H (fun v H' => ∃ r, v = .bl r ∧ Q (.bl (!r)) H') E0
theorem op_neOI (N : NeO X.K C) (D : OCal X.prog X.w X.K X.mg X.base C "__eq__" k sp) (hr : Room (k + 1) X.A) (hn : PySem.W.notFirst X.K C (.type "int") = true) : OpR X (compareOp .NotEq) (rNeI C sp) := by
  intro pins s σ H x y v u Q I rx ry ⟨a, dx, fs, i, h1, h2, h3, h5⟩
  obtain ⟨f, fd, ps, F, hs, hf, hb⟩ := D.ex
  subst h1 h2
  cases rx
  obtain ⟨t, ry⟩ := ry
  subst ry
  obtain ⟨mA, J, _⟩ := ins_get I.hok h3
  obtain ⟨od, J, _⟩ := J.look
  obtain ⟨m, hF⟩ := I.fr
  show wpAny _ _ (richCompare .NotEq _ _) _ _ _
  have sb : Sub X k X.A.in1 := L2.Sub.in1 ⟨hr, rfl⟩
  refine PySem.W.gne_K (tb := .type "int") sb.room.units0 hF I.ok.mod.kin J (PySem.W.Looks.of_pure rfl) hn N.ne N.ob hs hf ?_
  refine thn (call_own (vs := [.ref a, .int i]) (us := [.ref a, .int i t]) F hb sb I (.cons rfl (.cons ⟨t, rfl⟩ .nil)) h5) fun w s1 ⟨v, H1, I1, r1, r, q1, q2⟩ => ?_
  subst q1
  cases (show w = _ from r1)
  exact ⟨r, rfl, .bl (!r), H1, I1, rfl, q2⟩
theorem cv_neOIA (N : NeO X.K C) (hr : Room (k + 1) X.A) (hn : PySem.W.notFirst X.K C (.type "int") = true) (ha : EV X a ρ (.ins C ks ps)) (hb : EV X b ρ (.int i)) (D : Op X.prog X.w X.K X.mg X.base C "__eq__" k [.ins C ks ps, .int i] (.bl bb)) : CV X .NotEq a b ρ (!bb) := fun σ H l h =>
  cg_of (op_neOI N D.ex hr hn) (ha σ H l h) (hb σ H l h) fun v w H1 _ hv hw Q q => by
    obtain ⟨a, dx, vs, h1, h2, _⟩ := id hv
    exact ⟨a, dx, _, i, h1, hw, h2, ⟨v, _, rfl, hv, w, _, rfl, hw, rfl⟩, fun z H' e hz => ⟨bb, hz, q H' e⟩⟩
end
end E
set_option maxHeartbeats 4000000
namespace E
open PySem PySem.Spec PyProof.Rows L2 Evl G He
section
variable {P : Program} {w : World} {K : PySem.W.Frag} {mg : Str → Option Value} {base : Heap}
theorem curve_form : ∀ (ps : List Prt) (a : Rat), 0 < ps.length → a ≤ ageQ ps → ∃ (j : Nat) (hj : j < ps.length), curve ps a = (lR (ps.take j) + (a - ageQ (ps.take j)) / ps[j].1, lL (ps.take j) + (a - ageQ (ps.take j)) * ps[j].1)
  | [], _, h, _ => absurd h (by simp)
  | p :: ps, a, _, h1 => by
    by_cases z : p.2 < a
    · have hl : 0 < ps.length := by
        cases ps with
        | nil => exfalso; rw [ageQ_cons] at h1; have : ageQ [] = 0 := rfl; grind
        | cons q qs => simp
      obtain ⟨j, hj, e⟩ := curve_form ps (a - p.2) hl (by rw [ageQ_cons] at h1; grind)
      refine ⟨j + 1, by simpa using hj, ?_⟩
      unfold curve
      rw [if_pos z, e]
      show (p.2 / p.1 + (lR (ps.take j) + (a - p.2 - ageQ (ps.take j)) / ps[j].1), p.2 * p.1 + (lL (ps.take j) + (a - p.2 - ageQ (ps.take j)) * ps[j].1)) = (p.2 / p.1 + lR (ps.take j) + (a - (p.2 + ageQ (ps.take j))) / ps[j].1, p.2 * p.1 + lL (ps.take j) + (a - (p.2 + ageQ (ps.take j))) * ps[j].1)
      rw [show a - (p.2 + ageQ (ps.take j)) = a - p.2 - ageQ (ps.take j) from by grind]
      ext <;> dsimp only <;> grind
    · refine ⟨0, by simp, ?_⟩
      unfold curve
      rw [if_neg z]
      show (a / p.1, a * p.1) = (0 + (a - 0) / p.1, 0 + (a - 0) * p.1)
      rw [show a - 0 = a from by grind]
      ext <;> dsimp only <;> grind
theorem curve_smA {ps : List Prt} {a : Rat} (h : PsOk ps) (ha : G.Sm 600 a) (h1 : a ≤ ageQ ps) : G.Sm 930 (curve ps a).1 ∧ G.Sm 930 (curve ps a).2 := by
  obtain ⟨j, hj, e⟩ := curve_form ps a (by have := h.l1; omega) h1
  have m := List.getElem_mem hj
  rw [e]
  have s := sm_sub ha (h.sA j)
  exact ⟨(sm_add (h.sR j) (sm_quot s (h.s1 _ m) (h.p1 _ m))).mono (by decide), (sm_add (h.sL j) (sm_mul s (h.s1 _ m))).mono (by decide)⟩
theorem qI_le {n : Nat} {a : Int × Int} (h : BI n a) : qI a ≤ 0 ↔ a.1 ≤ 0 := by
  have := div_gt (a := a.1) h.p
  unfold qI
  constructor
  · intro k
    have : ¬ 0 < a.1 := fun y => by have := this.mpr y; grind
    omega
  · intro k
    have : ¬ 0 < Rat.divInt a.1 a.2 := fun y => by have := this.mp y; omega
    grind
theorem lights_memA {w : Int} {xs : List LPt} {n : Nat} {c : TRt} (h : LOk w xs) (hw : w ≤ 8991) (m : c ∈ lightsI xs n) : BI 260 c.2.1 ∧ BI 260 c.2.2 := lights_mem h hw m
theorem far_b {d f b : Int} (f1 : 12 ≤ f) (f2 : f ≤ 900) (d0 : 0 ≤ d) (d1 : d < f) (b0 : 0 ≤ b) (b1 : b < 6) : BI 260 (d - f / 6, 1 + b) := by
  have e : BI 12 (d - f / 6, 1 + b) := ⟨by dsimp only; omega, by dsimp only; omega, by dsimp only; omega⟩
  exact e.up (by decide)

theorem fin_news {c1 c2 R L : Rat} (kR : R ≤ c1) (kL : L ≤ c2) (ko : c1 = R ∨ c2 = L) : (decide (c1 < R) || (decide (c2 < L) || (!decide (c1 = R) && !decide (c2 = L)))) = false := by
  rw [decide_eq_false (show ¬ c1 < R by grind), decide_eq_false (show ¬ c2 < L by grind)]
  rcases ko with e | e
  · rw [decide_eq_true e]; rfl
  · rw [decide_eq_true e]; simp

theorem newsr_ok (T : GH.Txt K mg) {xs : List LPt} (h : LOk 999 xs := by assumption) : Dr P w K mg base "_law_news_right" 9 28 [lsV (pr2 (pr2 PV.int PV.int) (pr2 PV.int PV.int)) xs, tourV K (xs.map cvP)] (fun v => v = .bl true) := by
  obtain ⟨fd, F⟩ := GH.d__law_news_right T
  have hnd : (["_law_pen_here", "_law_parts_here", "_law_tour_here", "_law_end", "_law_turn", "_law_spot", "_law_found", "_law_here", "_law_far", "_law_bottom", "_law_right", "_law_left", "_law_there", "_law_due", "_law_ratio", "_law_beats"] : List Str).Nodup := by decide +kernel
  have hp := h.ps (by decide)
  have hl1 := h.l1
  have hl2 := h.l2
  have hh : ∀ p ∈ xs.map cvP, 0 < p.1 ∧ 0 < p.2 := fun p hp' => ⟨hp.p1 p hp', hp.p2 p hp'⟩
  obtain ⟨as, eas⟩ := lightsI_last xs xs.length
  rw [List.take_length] at eas
  have hx1 : atI (lightsI xs xs.length) (-1) = some (lightI xs) := by rw [eas]; exact atI_last
  obtain ⟨c1, c2, c3⟩ := h.lb0 (by decide)
  obtain ⟨q1, q2, q3⟩ := h.lq0 (by decide)
  have lln : (lightsI xs xs.length).length = xs.length + 1 := by unfold lightsI; rw [List.length_map, List.length_range]
  refine mk_dr (k := 8) (N := ["_law_pen_here", "_law_parts_here", "_law_tour_here", "_law_end", "_law_turn", "_law_spot", "_law_found", "_law_here", "_law_far", "_law_bottom", "_law_right", "_law_left", "_law_there", "_law_due", "_law_ratio", "_law_beats"]) (pn := ["_law_pen_here", "_law_parts_here", "_law_tour_here"]) F (GH.g__law_news_right (K := K) T) ⟨rfl, rfl, rfl, by decide +kernel, rfl, by decide +kernel, by decide +kernel⟩ rfl (of_decide_eq_true rfl) (b3 F) ?_
  intro n hn pa cdv A outer s H E hr
  show BV _ _ [.own pa (.pen n), .pv (lsV (pr2 (pr2 PV.int PV.int) (pr2 PV.int PV.int)) xs), .pv (tourV K (xs.map cvP)), .no, .no, .no, .no, .no, .no, .no, .no, .no, .no, .no, .no, .no] _
  refine bv_asgE (S' := [_, _, _, _, _, _, _, _, _, _, _, _, _, _, _, _]) 3 hnd (ev_ixM (f := (pr3 (pr2 PV.int PV.int) (pr2 PV.int PV.int) (pr2 PV.int PV.int))) (ev_callA (hr.mono (show 2 ≤ _ by decide)) (av_cons (ev_var 1) av_nil) (lightsl_ok (K := K) T)) (ev_neg ev_int) (by first | exact atI_0 | exact atI_1 | exact atI_2 | exact rfl | assumption)) ?_
  refine bv_for (.nm 4) (fun it : Nat => [(4, PV.int ((it : Nat) : Int))]) (fun i S => S = [.own _ (.pen (n + i * 7)), _, _, _, _, _, _, _, _, _, _, _, _, _, _, _]) (iu_rangeE (n := 4) (GH.fr_range (K := K) T) ev_int (by first | (simp <;> omega) | exact Int.mul_pos (q_dpos _) (q_dpos _) | exact q_dpos _ | with_reducible rfl | assumption | omega) (by first | (simp <;> omega) | exact Int.mul_pos (q_dpos _) (q_dpos _) | exact q_dpos _ | with_reducible rfl | assumption | omega)) (by exact rfl) (fun _ _ => rfl) (fun i it S1 hi hS => ?_) (fun S1 hS => ?_) (pg_name hnd rfl (by first | exact Or.inl rfl | exact Or.inr rfl))
  · subst hS
    have il := (List.getElem?_eq_some_iff.mp hi).1
    rw [List.length_range] at il
    refine ⟨nown rfl, ?_⟩
    show BV _ _ [_, _, _, _, _, _, _, _, _, _, _, _, _, _, _, _] _
    refine bv_par2X 8 9 hnd ?_
    refine xa_cons ?_
    refine xw_draw (k := 3) (c := 1) 0 (glf_of (GH.d__law_pick (K := K) T) (GH.g__law_pick (K := K) T)) (hr.mono (show 3 ≤ _ by decide)) ?_
    refine xa_cons ?_
    refine xw_ev (ev_lstM PV.int (am_cons ev_int (am_cons ev_int (am_cons ev_int am_nil)))) ?_
    refine xa_nil ?_
    refine ⟨_, _, rfl, by omega, pick_ok (K := K) T, ?_⟩
    rintro _ S2 e2 ⟨y1, y1m, rfl⟩
    replace e2 : [_, _, _, _, _, _, _, _, _, _, _, _, _, _, _, _] = S2 := e2
    subst e2
    have f1 : 12 ≤ y1 ∧ y1 ≤ 900 := by simp only [List.mem_cons, List.not_mem_nil, or_false] at y1m; omega
    refine xa_cons ?_
    refine xw_add ?_
    refine xw_ev ev_int ?_
    refine ⟨_, rfl, ?_⟩
    refine xw_draw (k := 2) (c := 1) 0 (glf_of (GH.d__law_draw (K := K) T) (GH.g__law_draw (K := K) T)) (hr.mono (show 2 ≤ _ by decide)) ?_
    refine xa_cons ?_
    refine xw_ev ev_int ?_
    refine xa_nil ?_
    refine ⟨_, _, rfl, by omega, draw_ok (K := K) T, ?_⟩
    rintro _ S2 e2 ⟨d2, rfl, d2a, d2b⟩
    replace e2 : [_, _, _, _, _, _, _, _, _, _, _, _, _, _, _, _] = S2 := e2
    subst e2
    refine ⟨_, rfl, ?_⟩
    refine xa_nil ?_
    refine ⟨_, _, rfl, rfl, rfl, ?_⟩
    show BV _ _ [_, _, _, _, _, _, _, _, _, _, _, _, _, _, _, _] _
    refine bv_par2X 10 11 hnd ?_
    refine xa_cons ?_
    refine xw_tup ?_
    refine xa_cons ?_
    refine xw_sub ?_
    refine xw_draw (k := 2) (c := 1) 0 (glf_of (GH.d__law_draw (K := K) T) (GH.g__law_draw (K := K) T)) (hr.mono (show 2 ≤ _ by decide)) ?_
    refine xa_cons ?_
    refine xw_ev (ev_var 8) ?_
    refine xa_nil ?_
    refine ⟨_, _, rfl, by omega, draw_ok (K := K) T, ?_⟩
    rintro _ S2 e2 ⟨d3, rfl, d3a, d3b⟩
    replace e2 : [_, _, _, _, _, _, _, _, _, _, _, _, _, _, _, _] = S2 := e2
    subst e2
    refine ⟨_, rfl, ?_⟩
    refine xw_ev (ev_fdivV (ev_var 8) ev_int) ?_
    refine ⟨_, rfl, ?_⟩
    refine xa_cons ?_
    refine xw_ev (ev_var 9) ?_
    refine xa_nil ?_
    refine ⟨of_decide_eq_true rfl, ?_⟩
    refine xa_cons ?_
    refine xw_tup ?_
    refine xa_cons ?_
    refine xw_sub ?_
    refine xw_draw (k := 2) (c := 1) 0 (glf_of (GH.d__law_draw (K := K) T) (GH.g__law_draw (K := K) T)) (hr.mono (show 2 ≤ _ by decide)) ?_
    refine xa_cons ?_
    refine xw_ev (ev_var 8) ?_
    refine xa_nil ?_
    refine ⟨_, _, rfl, by omega, draw_ok (K := K) T, ?_⟩
    rintro _ S2 e2 ⟨d4, rfl, d4a, d4b⟩
    replace e2 : [_, _, _, _, _, _, _, _, _, _, _, _, _, _, _, _] = S2 := e2
    subst e2
    have bF1 := far_b f1.1 f1.2 d3a d3b d2a d2b
    have bF2 := far_b f1.1 f1.2 d4a d4b d2a d2b
    refine ⟨_, rfl, ?_⟩
    refine xw_ev (ev_fdivV (ev_var 8) ev_int) ?_
    refine ⟨_, rfl, ?_⟩
    refine xa_cons ?_
    refine xw_ev (ev_var 9) ?_
    refine xa_nil ?_
    refine ⟨of_decide_eq_true rfl, ?_⟩
    refine xa_nil ?_
    refine ⟨_, _, rfl, rfl, rfl, ?_⟩
    show BV _ _ [_, _, _, _, _, _, _, _, _, _, _, _, _, _, _, _] _
    show BV _ _ [_, _, _, _, _, _, _, _, _, _, .pv ((pr2 PV.int PV.int) (d3 - y1 / 6, 1 + d2)), .pv ((pr2 PV.int PV.int) (d4 - y1 / 6, 1 + d2)), _, _, _, _] _
    refine bv_asg 5 hnd ?_
    refine xw_draw (k := 3) (c := 1) 0 (glf_of (GH.d__law_pick (K := K) T) (GH.g__law_pick (K := K) T)) (hr.mono (show 3 ≤ _ by decide)) ?_
    refine xa_cons ?_
    refine xw_ev (ev_callA (hr.mono (show 2 ≤ _ by decide)) (av_cons (ev_var 1) av_nil) (lightsl_ok (K := K) T)) ?_
    refine xa_nil ?_
    refine ⟨_, _, rfl, by omega, pick_ok (K := K) T, ?_⟩
    rintro _ S2 e2 ⟨y5, y5m, rfl⟩
    replace e2 : [_, _, _, _, _, _, _, _, _, _, _, _, _, _, _, _] = S2 := e2
    subst e2
    obtain ⟨bs1, bs2⟩ := lights_memA h (by decide) y5m
    refine ⟨rfl, ?_⟩
    show BV _ _ [_, _, _, _, _, _, _, _, _, _, _, _, _, _, _, _] _
    refine bv_ifE (tv_w (wv_and (tv_cm (cv_lt (ev_lenM (GH.fr_len (K := K) T) (ev_var 1)) ev_int)) fun h2 => (wv_and1 (tv_cm (cv_lt (ev_max (GH.fr_max (K := K) T) (ev_mapL (g := PV.int) (ev_lc (b := (fun it : ((Int × Int) × (Int × Int)) => [(14, (pr2 PV.int PV.int) it.1), (15, (pr2 PV.int PV.int) it.2)])) (own := [("_law_ratio", 14), ("_law_beats", 15)]) (.tp [.nm 14, .nm 15]) hnd (iu_list (ev_var 1)) (by first | (simp <;> omega) | exact Int.mul_pos (q_dpos _) (q_dpos _) | exact q_dpos _ | with_reducible rfl | assumption | omega) (fun it h1 _ _ _ _ _ => have bx := h.b it h1; haveI : Bt it.1.1 14 := int_bt (by have := bx.1; omega); haveI : Bt it.1.2 14 := int_bt (by have := bx.2.1; omega); (ev_add (ev_ixT (ev_var 14) ev_int) (ev_ixT (ev_var 14) ev_int))) (fun _ _ _ _ _ => (pg_tup rfl (pgs_cons (pg_name hnd rfl (by first | exact Or.inl rfl | exact Or.inr rfl)) (pgs_cons (pg_name hnd rfl (by first | exact Or.inl rfl | exact Or.inr rfl)) pgs_nil))))))) ev_int))))) (fun h3 => ?_) (fun h3 => ?_)
    · refine bv_par2X 10 11 hnd ?_
      refine xa_cons ?_
      refine xw_draw (k := 3) (c := 1) 0 (glf_of (GH.d__law_pick (K := K) T) (GH.g__law_pick (K := K) T)) (hr.mono (show 3 ≤ _ by decide)) ?_
      refine xa_cons ?_
      refine xw_ev (ev_lstM (pr2 PV.int PV.int) (am_cons (ev_ixT (ev_var 5) ev_int) (am_cons (ev_var 10) am_nil))) ?_
      refine xa_nil ?_
      refine ⟨_, _, rfl, by omega, pick_ok (K := K) T, ?_⟩
      rintro _ S2 e2 ⟨y6, y6m, rfl⟩
      replace e2 : [_, _, _, _, _, _, _, _, _, _, _, _, _, _, _, _] = S2 := e2
      subst e2
      have b6 : BI 260 y6 := by
        rcases List.mem_cons.mp y6m with e | k
        · rw [e]; exact bs1
        · rw [List.mem_singleton.mp k]; exact bF1
      clear y6m
      obtain ⟨RR, hRR⟩ : ∃ RR, RR = y6 := ⟨_, rfl⟩
      subst hRR
      have bR := b6
      refine xa_cons ?_
      refine xw_draw (k := 3) (c := 1) 0 (glf_of (GH.d__law_pick (K := K) T) (GH.g__law_pick (K := K) T)) (hr.mono (show 3 ≤ _ by decide)) ?_
      refine xa_cons ?_
      refine xw_ev (ev_lstM (pr2 PV.int PV.int) (am_cons (ev_ixT (ev_var 5) ev_int) (am_cons (ev_var 11) am_nil))) ?_
      refine xa_nil ?_
      refine ⟨_, _, rfl, by omega, pick_ok (K := K) T, ?_⟩
      rintro _ S2 e2 ⟨y7, y7m, rfl⟩
      replace e2 : [_, _, _, _, _, _, _, _, _, _, _, _, _, _, _, _] = S2 := e2
      subst e2
      have b7 : BI 260 y7 := by
        rcases List.mem_cons.mp y7m with e | k
        · rw [e]; exact bs2
        · rw [List.mem_singleton.mp k]; exact bF2
      clear y7m
      obtain ⟨LL, hLL⟩ : ∃ LL, LL = y7 := ⟨_, rfl⟩
      subst hLL
      have bL := b7
      have hRdone := True.intro
      refine xa_nil ?_
      refine ⟨_, _, rfl, rfl, rfl, ?_⟩
      show BV _ _ [_, _, _, _, _, _, _, _, _, _, _, _, _, _, _, _] _
      refine bv_nil ?_
      show BV _ _ [_, _, _, _, _, _, _, _, _, _, _, _, _, _, _, _] _
      first | have _ := hRdone | (show BV _ _ [_, _, _, _, _, _, _, _, _, _, .pv ((pr2 PV.int PV.int) (d3 - y1 / 6, 1 + d2)), .pv ((pr2 PV.int PV.int) (d4 - y1 / 6, 1 + d2)), _, _, _, _] _; obtain ⟨RR, eR⟩ : ∃ RR : Int × Int, (d3 - y1 / 6, 1 + d2) = RR := ⟨_, rfl⟩; obtain ⟨LL, eL⟩ : ∃ LL : Int × Int, (d4 - y1 / 6, 1 + d2) = LL := ⟨_, rfl⟩; rw [eR, eL]; have bR : BI 260 RR := eR ▸ bF1; have bL : BI 260 LL := eL ▸ bF2; have hRdone := True.intro)
      haveI := smc_of (qI_sm bR); haveI := smc_of (qI_sm bL); rcases e1 : ageF (-1) (xs.map cvP) (qI RR) with _ | z1 <;> rcases e2 : ageF 1 (xs.map cvP) (qI LL) with _ | z2
      · first | have _ := hRdone | (show BV _ _ [_, _, _, _, _, _, _, _, _, _, .pv ((pr2 PV.int PV.int) (d3 - y1 / 6, 1 + d2)), .pv ((pr2 PV.int PV.int) (d4 - y1 / 6, 1 + d2)), _, _, _, _] _; obtain ⟨RR, eR⟩ : ∃ RR : Int × Int, (d3 - y1 / 6, 1 + d2) = RR := ⟨_, rfl⟩; obtain ⟨LL, eL⟩ : ∃ LL : Int × Int, (d4 - y1 / 6, 1 + d2) = LL := ⟨_, rfl⟩; rw [eR, eL]; have bR : BI 260 RR := eR ▸ bF1; have bL : BI 260 LL := eL ▸ bF2; have hRdone := True.intro)
        refine bv_asgE (S' := [_, _, _, _, _, _, _, _, _, _, _, _, _, _, _, _]) 6 hnd (ev_callkw0 (hr.mono (show 7 ≤ _ by decide)) (kv_cons (ev_callA (hr.mono (show 6 ≤ _ by decide)) (av_cons (ev_var 10) (av_cons (ev_var 11) av_nil)) (lit_ok (K := K) T)) (kv_cons (ev_var 2) kv_nil)) (news_nn_kw0 (K := K) T)) ?_
        refine bv_take (tv_w (wv_or (tv_val (ev_callA (hr.mono (show 1 ≤ _ by decide)) (av_cons (ev_ixT (ev_var 3) ev_int) (av_cons (ev_var 10) av_nil)) (less_ok (K := K) T))) fun h4 => (wv_or1 (tv_val (ev_callA (hr.mono (show 1 ≤ _ by decide)) (av_cons (ev_ixT (ev_var 3) ev_int) (av_cons (ev_var 11) av_nil)) (less_ok (K := K) T)))))) (by rw [q2, q3, decide_eq_true (show lR (xs.map cvP) < qI RR from (ageF_none (sd := -1) hh).mp e1)]; rfl) ?_
        refine bv_skip (tv_cm (cv_notN (ev_var 6))) (by first | rfl | (exact by first | (apply decide_eq_false; omega) | with_reducible rfl | (simp <;> omega) | (simp_all; done))) ?_
        refine bv_drop 4 ?_
        refine bv_drop 8 ?_
        refine bv_drop 9 ?_
        refine bv_drop 10 ?_
        refine bv_drop 11 ?_
        refine bv_drop 5 ?_
        refine bv_drop 6 ?_
        refine bv_drop 12 ?_
        refine bv_drop 13 ?_
        refine bv_drop 7 ?_
        refine bv_more 0 rfl (m := n + (i + 1) * 7) (by omega) ?_
        refine bv_cont ?_
        rfl
      · first | have _ := hRdone | (show BV _ _ [_, _, _, _, _, _, _, _, _, _, .pv ((pr2 PV.int PV.int) (d3 - y1 / 6, 1 + d2)), .pv ((pr2 PV.int PV.int) (d4 - y1 / 6, 1 + d2)), _, _, _, _] _; obtain ⟨RR, eR⟩ : ∃ RR : Int × Int, (d3 - y1 / 6, 1 + d2) = RR := ⟨_, rfl⟩; obtain ⟨LL, eL⟩ : ∃ LL : Int × Int, (d4 - y1 / 6, 1 + d2) = LL := ⟨_, rfl⟩; rw [eR, eL]; have bR : BI 260 RR := eR ▸ bF1; have bL : BI 260 LL := eL ▸ bF2; have hRdone := True.intro)
        refine bv_asgE (S' := [_, _, _, _, _, _, _, _, _, _, _, _, _, _, _, _]) 6 hnd (ev_callkw0 (hr.mono (show 7 ≤ _ by decide)) (kv_cons (ev_callA (hr.mono (show 6 ≤ _ by decide)) (av_cons (ev_var 10) (av_cons (ev_var 11) av_nil)) (lit_ok (K := K) T)) (kv_cons (ev_var 2) kv_nil)) (news_ns_kw0 (K := K) T)) ?_
        refine bv_take (tv_w (wv_or (tv_val (ev_callA (hr.mono (show 1 ≤ _ by decide)) (av_cons (ev_ixT (ev_var 3) ev_int) (av_cons (ev_var 10) av_nil)) (less_ok (K := K) T))) fun h5 => (wv_or1 (tv_val (ev_callA (hr.mono (show 1 ≤ _ by decide)) (av_cons (ev_ixT (ev_var 3) ev_int) (av_cons (ev_var 11) av_nil)) (less_ok (K := K) T)))))) (by rw [q2, q3, decide_eq_true (show lR (xs.map cvP) < qI RR from (ageF_none (sd := -1) hh).mp e1)]; rfl) ?_
        refine bv_skip (tv_cm (cv_notN (ev_var 6))) (by first | rfl | (exact by first | (apply decide_eq_false; omega) | with_reducible rfl | (simp <;> omega) | (simp_all; done))) ?_
        refine bv_drop 4 ?_
        refine bv_drop 8 ?_
        refine bv_drop 9 ?_
        refine bv_drop 10 ?_
        refine bv_drop 11 ?_
        refine bv_drop 5 ?_
        refine bv_drop 6 ?_
        refine bv_drop 12 ?_
        refine bv_drop 13 ?_
        refine bv_drop 7 ?_
        refine bv_more 0 rfl (m := n + (i + 1) * 7) (by omega) ?_
        refine bv_cont ?_
        rfl
      · first | have _ := hRdone | (show BV _ _ [_, _, _, _, _, _, _, _, _, _, .pv ((pr2 PV.int PV.int) (d3 - y1 / 6, 1 + d2)), .pv ((pr2 PV.int PV.int) (d4 - y1 / 6, 1 + d2)), _, _, _, _] _; obtain ⟨RR, eR⟩ : ∃ RR : Int × Int, (d3 - y1 / 6, 1 + d2) = RR := ⟨_, rfl⟩; obtain ⟨LL, eL⟩ : ∃ LL : Int × Int, (d4 - y1 / 6, 1 + d2) = LL := ⟨_, rfl⟩; rw [eR, eL]; have bR : BI 260 RR := eR ▸ bF1; have bL : BI 260 LL := eL ▸ bF2; have hRdone := True.intro)
        refine bv_asgE (S' := [_, _, _, _, _, _, _, _, _, _, _, _, _, _, _, _]) 6 hnd (ev_callkw0 (hr.mono (show 7 ≤ _ by decide)) (kv_cons (ev_callA (hr.mono (show 6 ≤ _ by decide)) (av_cons (ev_var 10) (av_cons (ev_var 11) av_nil)) (lit_ok (K := K) T)) (kv_cons (ev_var 2) kv_nil)) (news_sn_kw0 (K := K) T)) ?_
        refine bv_take (tv_w (wv_or (tv_val (ev_callA (hr.mono (show 1 ≤ _ by decide)) (av_cons (ev_ixT (ev_var 3) ev_int) (av_cons (ev_var 10) av_nil)) (less_ok (K := K) T))) fun h6 => (wv_or1 (tv_val (ev_callA (hr.mono (show 1 ≤ _ by decide)) (av_cons (ev_ixT (ev_var 3) ev_int) (av_cons (ev_var 11) av_nil)) (less_ok (K := K) T)))))) (by rw [q2, q3, decide_eq_true (show lL (xs.map cvP) < qI LL from (ageF_none (sd := 1) hh).mp e2), Bool.or_true]) ?_
        refine bv_skip (tv_cm (cv_notN (ev_var 6))) (by first | rfl | (exact by first | (apply decide_eq_false; omega) | with_reducible rfl | (simp <;> omega) | (simp_all; done))) ?_
        refine bv_drop 4 ?_
        refine bv_drop 8 ?_
        refine bv_drop 9 ?_
        refine bv_drop 10 ?_
        refine bv_drop 11 ?_
        refine bv_drop 5 ?_
        refine bv_drop 6 ?_
        refine bv_drop 12 ?_
        refine bv_drop 13 ?_
        refine bv_drop 7 ?_
        refine bv_more 0 rfl (m := n + (i + 1) * 7) (by omega) ?_
        refine bv_cont ?_
        rfl
      · first | have _ := hRdone | (show BV _ _ [_, _, _, _, _, _, _, _, _, _, .pv ((pr2 PV.int PV.int) (d3 - y1 / 6, 1 + d2)), .pv ((pr2 PV.int PV.int) (d4 - y1 / 6, 1 + d2)), _, _, _, _] _; obtain ⟨RR, eR⟩ : ∃ RR : Int × Int, (d3 - y1 / 6, 1 + d2) = RR := ⟨_, rfl⟩; obtain ⟨LL, eL⟩ : ∃ LL : Int × Int, (d4 - y1 / 6, 1 + d2) = LL := ⟨_, rfl⟩; rw [eR, eL]; have bR : BI 260 RR := eR ▸ bF1; have bL : BI 260 LL := eL ▸ bF2; have hRdone := True.intro)
        refine bv_asgE (S' := [_, _, _, _, _, _, _, _, _, _, _, _, _, _, _, _]) 6 hnd (ev_callkw0 (hr.mono (show 7 ≤ _ by decide)) (kv_cons (ev_callA (hr.mono (show 6 ≤ _ by decide)) (av_cons (ev_var 10) (av_cons (ev_var 11) av_nil)) (lit_ok (K := K) T)) (kv_cons (ev_var 2) kv_nil)) (news_ss_kw0 (K := K) T)) ?_
        obtain ⟨k1, k2, k3, k4, k5, k6, k7⟩ := news_ok hp (qI_sm bR) (qI_sm bL) e1 e2
        haveI := smc_of k3
        haveI := int_bt bR.n2
        haveI := int_bt bL.n2
        have pR := bR.p
        have pL := bL.p
        refine bv_skip (tv_w (wv_or (tv_val (ev_callA (hr.mono (show 1 ≤ _ by decide)) (av_cons (ev_ixT (ev_var 3) ev_int) (av_cons (ev_var 10) av_nil)) (less_ok (K := K) T))) fun h7 => (wv_or1 (tv_val (ev_callA (hr.mono (show 1 ≤ _ by decide)) (av_cons (ev_ixT (ev_var 3) ev_int) (av_cons (ev_var 11) av_nil)) (less_ok (K := K) T)))))) (by rw [q2, q3, decide_eq_false (show ¬ lR (xs.map cvP) < qI RR from fun k => by rw [(ageF_none (sd := -1) hh).mpr k] at e1; cases e1), decide_eq_false (show ¬ lL (xs.map cvP) < qI LL from fun k => by rw [(ageF_none (sd := 1) hh).mpr k] at e2; cases e2)]; rfl) ?_
        refine bv_skip (tv_w (wv_or (tv_cm (cv_isN (ev_var 6))) fun h9 => (wv_or (tv_not (tv_val (ev_isi (bb := true) (GH.fr_isinstance (K := K) T) (ev_var 6) (ev_cls (GH.g_Ratio (K := K) T)) (by exact rfl) (isi_self (GH.isi_Ratio (K := K) T))))) fun h8 => (wv_or1 (tv_cm (cv_lt (ev_at 2 (GH.cl_Ratio (K := K) T) (GH.na_Ratio_sign (K := K) T) (ev_var 6)) ev_int)))))) (by rw [sgn_lt, decide_eq_false (show ¬ maxR z1 z2 < 0 by grind)]; rfl) ?_
        refine bv_ifE (tv_w (wv_and (tv_cm (cv_le (ev_ixT (ev_var 10) ev_int) ev_int)) fun h10 => (wv_and1 (tv_cm (cv_le (ev_ixT (ev_var 11) ev_int) ev_int))))) (fun hz => ?_) (fun hz => ?_)
        · refine bv_skip (tv_cm (cv_neOIA (GH.ne_Ratio (K := K) T) (hr.mono (show 3 ≤ _ by decide)) (GH.nf_Ratio (K := K) T) (ev_var 6) ev_int (rat_eqi (K := K) T))) (by rw [k4 ((qI_le bR).mpr (by simp only [Bool.and_eq_true, decide_eq_true_eq] at hz; exact hz.1)) ((qI_le bL).mpr (by simp only [Bool.and_eq_true, decide_eq_true_eq] at hz; exact hz.2))]; rfl) ?_
          refine bv_drop 4 ?_
          refine bv_drop 8 ?_
          refine bv_drop 9 ?_
          refine bv_drop 10 ?_
          refine bv_drop 11 ?_
          refine bv_drop 5 ?_
          refine bv_drop 6 ?_
          refine bv_drop 12 ?_
          refine bv_drop 13 ?_
          refine bv_drop 7 ?_
          refine bv_more 0 rfl (m := n + (i + 1) * 7) (by omega) ?_
          refine bv_cont ?_
          rfl
        · refine bv_nil ?_
          show BV _ _ [_, _, _, _, _, _, _, _, _, _, _, _, _, _, _, _] _
          obtain ⟨cs1, cs2⟩ := curve_smA hp k3 k2
          haveI := smc_of cs1
          haveI := smc_of cs2
          haveI := smc_of (qI_sm bR)
          haveI := smc_of (qI_sm bL)
          haveI : SmC 260 (Rat.divInt RR.1 RR.2) := ⟨qI_sm bR⟩
          haveI : SmC 260 (Rat.divInt LL.1 LL.2) := ⟨qI_sm bL⟩
          have SS := SoL_sm cs1 cs2
          haveI := smc_of SS.1
          haveI := smc_of (SS.2 _ (by simp [SoL] : ((curve (xs.map cvP) (maxR z1 z2)).2 - (curve (xs.map cvP) (maxR z1 z2)).1) * halfQ ∈ (SoL (curve (xs.map cvP) (maxR z1 z2)).1 (curve (xs.map cvP) (maxR z1 z2)).2).ps))
          have g1 : (SoL (curve (xs.map cvP) (maxR z1 z2)).1 (curve (xs.map cvP) (maxR z1 z2)).2).t - ((curve (xs.map cvP) (maxR z1 z2)).2 - (curve (xs.map cvP) (maxR z1 z2)).1) * halfQ = (curve (xs.map cvP) (maxR z1 z2)).1 := right_SoL _ _
          have g2 : (SoL (curve (xs.map cvP) (maxR z1 z2)).1 (curve (xs.map cvP) (maxR z1 z2)).2).t + ((curve (xs.map cvP) (maxR z1 z2)).2 - (curve (xs.map cvP) (maxR z1 z2)).1) * halfQ = (curve (xs.map cvP) (maxR z1 z2)).2 := left_SoL _ _
          have nz : ¬ (qI RR ≤ 0 ∧ qI LL ≤ 0) := fun k => by
            have k8 := (qI_le bR).mp k.1
            have k9 := (qI_le bL).mp k.2
            simp only [Bool.and_eq_false_iff, decide_eq_false_iff_not] at hz
            omega
          have ko := k7 nz
          have kR : qI RR ≤ (curve (xs.map cvP) (maxR z1 z2)).1 := k5
          have kL : qI LL ≤ (curve (xs.map cvP) (maxR z1 z2)).2 := k6
          refine bv_par2 (S' := [_, _, _, _, _, _, _, _, _, _, _, _, _, _, _, _]) 12 13 hnd (ev_callA (hr.mono (show 8 ≤ _ by decide)) (av_cons (ev_var 2) (av_cons (ev_var 6) av_nil)) (spot_at_r (K := K) T)) (ev_tup2 (ratV K) (ratV K) (ev_newA (hr.mono (show 2 ≤ _ by decide)) (av_cons (ev_ixT (ev_var 10) ev_int) (av_cons (ev_ixT (ev_var 10) ev_int) av_nil)) (nw_Ratio (K := K) T)) (ev_newA (hr.mono (show 2 ≤ _ by decide)) (av_cons (ev_ixT (ev_var 11) ev_int) (av_cons (ev_ixT (ev_var 11) ev_int) av_nil)) (nw_Ratio (K := K) T))) ?_
          refine bv_asgE (S' := [_, _, _, _, _, _, _, _, _, _, _, _, _, _, _, _]) 7 hnd (ev_tup2 (ratV K) (ratV K) (ev_opA (hr.mono (show 3 ≤ _ by decide)) (GH.sf_Ratio (K := K) T) (ev_at 0 (GH.cl_Step (K := K) T) (GH.na_Step_time (K := K) T) (ev_var 12)) (ev_ixTM (f := (ratV K)) (ev_at 1 (GH.cl_Step (K := K) T) (GH.na_Step_place (K := K) T) (ev_var 12)) ev_int (by first | exact atI_0 | exact atI_1 | exact atI_2 | exact rfl | assumption)) (rat_sub (K := K) T)) (ev_opA (hr.mono (show 3 ≤ _ by decide)) (GH.sf_Ratio (K := K) T) (ev_at 0 (GH.cl_Step (K := K) T) (GH.na_Step_time (K := K) T) (ev_var 12)) (ev_ixTM (f := (ratV K)) (ev_at 1 (GH.cl_Step (K := K) T) (GH.na_Step_place (K := K) T) (ev_var 12)) ev_int (by first | exact atI_0 | exact atI_1 | exact atI_2 | exact rfl | assumption)) (rat_add (K := K) T))) ?_
          refine bv_skip (tv_w (wv_or (tv_val (ev_methA (GH.cl_Ratio (K := K) T) (hr.mono (show 2 ≤ _ by decide)) (ev_ixT (ev_var 7) ev_int) (av_cons (ev_ixT (ev_var 13) ev_int) av_nil) (rat_below (K := K) T))) fun h13 => (wv_or (tv_val (ev_methA (GH.cl_Ratio (K := K) T) (hr.mono (show 2 ≤ _ by decide)) (ev_ixT (ev_var 7) ev_int) (av_cons (ev_ixT (ev_var 13) ev_int) av_nil) (rat_below (K := K) T))) fun h12 => (wv_or1 (tv_w (wv_and (tv_cm (cv_neOA (GH.ne_Ratio (K := K) T) (hr.mono (show 2 ≤ _ by decide)) (ev_ixT (ev_var 7) ev_int) (ev_ixT (ev_var 13) ev_int) (rat_eq (K := K) T))) fun h11 => (wv_and1 (tv_cm (cv_neOA (GH.ne_Ratio (K := K) T) (hr.mono (show 2 ≤ _ by decide)) (ev_ixT (ev_var 7) ev_int) (ev_ixT (ev_var 13) ev_int) (rat_eq (K := K) T)))))))))) (by rw [g1, g2]; exact fin_news kR kL ko) ?_
          refine bv_drop 4 ?_
          refine bv_drop 8 ?_
          refine bv_drop 9 ?_
          refine bv_drop 10 ?_
          refine bv_drop 11 ?_
          refine bv_drop 5 ?_
          refine bv_drop 6 ?_
          refine bv_drop 12 ?_
          refine bv_drop 13 ?_
          refine bv_drop 7 ?_
          refine bv_more 0 rfl (m := n + (i + 1) * 7) (by omega) ?_
          refine bv_nil ?_
          rfl
    · refine bv_nil ?_
      show BV _ _ [_, _, _, _, _, _, _, _, _, _, _, _, _, _, _, _] _
      first | have _ := hRdone | (show BV _ _ [_, _, _, _, _, _, _, _, _, _, .pv ((pr2 PV.int PV.int) (d3 - y1 / 6, 1 + d2)), .pv ((pr2 PV.int PV.int) (d4 - y1 / 6, 1 + d2)), _, _, _, _] _; obtain ⟨RR, eR⟩ : ∃ RR : Int × Int, (d3 - y1 / 6, 1 + d2) = RR := ⟨_, rfl⟩; obtain ⟨LL, eL⟩ : ∃ LL : Int × Int, (d4 - y1 / 6, 1 + d2) = LL := ⟨_, rfl⟩; rw [eR, eL]; have bR : BI 260 RR := eR ▸ bF1; have bL : BI 260 LL := eL ▸ bF2; have hRdone := True.intro)
      haveI := smc_of (qI_sm bR); haveI := smc_of (qI_sm bL); rcases e1 : ageF (-1) (xs.map cvP) (qI RR) with _ | z1 <;> rcases e2 : ageF 1 (xs.map cvP) (qI LL) with _ | z2
      · first | have _ := hRdone | (show BV _ _ [_, _, _, _, _, _, _, _, _, _, .pv ((pr2 PV.int PV.int) (d3 - y1 / 6, 1 + d2)), .pv ((pr2 PV.int PV.int) (d4 - y1 / 6, 1 + d2)), _, _, _, _] _; obtain ⟨RR, eR⟩ : ∃ RR : Int × Int, (d3 - y1 / 6, 1 + d2) = RR := ⟨_, rfl⟩; obtain ⟨LL, eL⟩ : ∃ LL : Int × Int, (d4 - y1 / 6, 1 + d2) = LL := ⟨_, rfl⟩; rw [eR, eL]; have bR : BI 260 RR := eR ▸ bF1; have bL : BI 260 LL := eL ▸ bF2; have hRdone := True.intro)
        refine bv_asgE (S' := [_, _, _, _, _, _, _, _, _, _, _, _, _, _, _, _]) 6 hnd (ev_callkw0 (hr.mono (show 7 ≤ _ by decide)) (kv_cons (ev_callA (hr.mono (show 6 ≤ _ by decide)) (av_cons (ev_var 10) (av_cons (ev_var 11) av_nil)) (lit_ok (K := K) T)) (kv_cons (ev_var 2) kv_nil)) (news_nn_kw0 (K := K) T)) ?_
        refine bv_take (tv_w (wv_or (tv_val (ev_callA (hr.mono (show 1 ≤ _ by decide)) (av_cons (ev_ixT (ev_var 3) ev_int) (av_cons (ev_var 10) av_nil)) (less_ok (K := K) T))) fun h14 => (wv_or1 (tv_val (ev_callA (hr.mono (show 1 ≤ _ by decide)) (av_cons (ev_ixT (ev_var 3) ev_int) (av_cons (ev_var 11) av_nil)) (less_ok (K := K) T)))))) (by rw [q2, q3, decide_eq_true (show lR (xs.map cvP) < qI RR from (ageF_none (sd := -1) hh).mp e1)]; rfl) ?_
        refine bv_skip (tv_cm (cv_notN (ev_var 6))) (by first | rfl | (exact by first | (apply decide_eq_false; omega) | with_reducible rfl | (simp <;> omega) | (simp_all; done))) ?_
        refine bv_drop 4 ?_
        refine bv_drop 8 ?_
        refine bv_drop 9 ?_
        refine bv_drop 10 ?_
        refine bv_drop 11 ?_
        refine bv_drop 5 ?_
        refine bv_drop 6 ?_
        refine bv_drop 12 ?_
        refine bv_drop 13 ?_
        refine bv_drop 7 ?_
        refine bv_more 0 rfl (m := n + (i + 1) * 7) (by omega) ?_
        refine bv_cont ?_
        rfl
      · first | have _ := hRdone | (show BV _ _ [_, _, _, _, _, _, _, _, _, _, .pv ((pr2 PV.int PV.int) (d3 - y1 / 6, 1 + d2)), .pv ((pr2 PV.int PV.int) (d4 - y1 / 6, 1 + d2)), _, _, _, _] _; obtain ⟨RR, eR⟩ : ∃ RR : Int × Int, (d3 - y1 / 6, 1 + d2) = RR := ⟨_, rfl⟩; obtain ⟨LL, eL⟩ : ∃ LL : Int × Int, (d4 - y1 / 6, 1 + d2) = LL := ⟨_, rfl⟩; rw [eR, eL]; have bR : BI 260 RR := eR ▸ bF1; have bL : BI 260 LL := eL ▸ bF2; have hRdone := True.intro)
        refine bv_asgE (S' := [_, _, _, _, _, _, _, _, _, _, _, _, _, _, _, _]) 6 hnd (ev_callkw0 (hr.mono (show 7 ≤ _ by decide)) (kv_cons (ev_callA (hr.mono (show 6 ≤ _ by decide)) (av_cons (ev_var 10) (av_cons (ev_var 11) av_nil)) (lit_ok (K := K) T)) (kv_cons (ev_var 2) kv_nil)) (news_ns_kw0 (K := K) T)) ?_
        refine bv_take (tv_w (wv_or (tv_val (ev_callA (hr.mono (show 1 ≤ _ by decide)) (av_cons (ev_ixT (ev_var 3) ev_int) (av_cons (ev_var 10) av_nil)) (less_ok (K := K) T))) fun h15 => (wv_or1 (tv_val (ev_callA (hr.mono (show 1 ≤ _ by decide)) (av_cons (ev_ixT (ev_var 3) ev_int) (av_cons (ev_var 11) av_nil)) (less_ok (K := K) T)))))) (by rw [q2, q3, decide_eq_true (show lR (xs.map cvP) < qI RR from (ageF_none (sd := -1) hh).mp e1)]; rfl) ?_
        refine bv_skip (tv_cm (cv_notN (ev_var 6))) (by first | rfl | (exact by first | (apply decide_eq_false; omega) | with_reducible rfl | (simp <;> omega) | (simp_all; done))) ?_
        refine bv_drop 4 ?_
        refine bv_drop 8 ?_
        refine bv_drop 9 ?_
        refine bv_drop 10 ?_
        refine bv_drop 11 ?_
        refine bv_drop 5 ?_
        refine bv_drop 6 ?_
        refine bv_drop 12 ?_
        refine bv_drop 13 ?_
        refine bv_drop 7 ?_
        refine bv_more 0 rfl (m := n + (i + 1) * 7) (by omega) ?_
        refine bv_cont ?_
        rfl
      · first | have _ := hRdone | (show BV _ _ [_, _, _, _, _, _, _, _, _, _, .pv ((pr2 PV.int PV.int) (d3 - y1 / 6, 1 + d2)), .pv ((pr2 PV.int PV.int) (d4 - y1 / 6, 1 + d2)), _, _, _, _] _; obtain ⟨RR, eR⟩ : ∃ RR : Int × Int, (d3 - y1 / 6, 1 + d2) = RR := ⟨_, rfl⟩; obtain ⟨LL, eL⟩ : ∃ LL : Int × Int, (d4 - y1 / 6, 1 + d2) = LL := ⟨_, rfl⟩; rw [eR, eL]; have bR : BI 260 RR := eR ▸ bF1; have bL : BI 260 LL := eL ▸ bF2; have hRdone := True.intro)
        refine bv_asgE (S' := [_, _, _, _, _, _, _, _, _, _, _, _, _, _, _, _]) 6 hnd (ev_callkw0 (hr.mono (show 7 ≤ _ by decide)) (kv_cons (ev_callA (hr.mono (show 6 ≤ _ by decide)) (av_cons (ev_var 10) (av_cons (ev_var 11) av_nil)) (lit_ok (K := K) T)) (kv_cons (ev_var 2) kv_nil)) (news_sn_kw0 (K := K) T)) ?_
        refine bv_take (tv_w (wv_or (tv_val (ev_callA (hr.mono (show 1 ≤ _ by decide)) (av_cons (ev_ixT (ev_var 3) ev_int) (av_cons (ev_var 10) av_nil)) (less_ok (K := K) T))) fun h16 => (wv_or1 (tv_val (ev_callA (hr.mono (show 1 ≤ _ by decide)) (av_cons (ev_ixT (ev_var 3) ev_int) (av_cons (ev_var 11) av_nil)) (less_ok (K := K) T)))))) (by rw [q2, q3, decide_eq_true (show lL (xs.map cvP) < qI LL from (ageF_none (sd := 1) hh).mp e2), Bool.or_true]) ?_
        refine bv_skip (tv_cm (cv_notN (ev_var 6))) (by first | rfl | (exact by first | (apply decide_eq_false; omega) | with_reducible rfl | (simp <;> omega) | (simp_all; done))) ?_
        refine bv_drop 4 ?_
        refine bv_drop 8 ?_
        refine bv_drop 9 ?_
        refine bv_drop 10 ?_
        refine bv_drop 11 ?_
        refine bv_drop 5 ?_
        refine bv_drop 6 ?_
        refine bv_drop 12 ?_
        refine bv_drop 13 ?_
        refine bv_drop 7 ?_
        refine bv_more 0 rfl (m := n + (i + 1) * 7) (by omega) ?_
        refine bv_cont ?_
        rfl
      · first | have _ := hRdone | (show BV _ _ [_, _, _, _, _, _, _, _, _, _, .pv ((pr2 PV.int PV.int) (d3 - y1 / 6, 1 + d2)), .pv ((pr2 PV.int PV.int) (d4 - y1 / 6, 1 + d2)), _, _, _, _] _; obtain ⟨RR, eR⟩ : ∃ RR : Int × Int, (d3 - y1 / 6, 1 + d2) = RR := ⟨_, rfl⟩; obtain ⟨LL, eL⟩ : ∃ LL : Int × Int, (d4 - y1 / 6, 1 + d2) = LL := ⟨_, rfl⟩; rw [eR, eL]; have bR : BI 260 RR := eR ▸ bF1; have bL : BI 260 LL := eL ▸ bF2; have hRdone := True.intro)
        refine bv_asgE (S' := [_, _, _, _, _, _, _, _, _, _, _, _, _, _, _, _]) 6 hnd (ev_callkw0 (hr.mono (show 7 ≤ _ by decide)) (kv_cons (ev_callA (hr.mono (show 6 ≤ _ by decide)) (av_cons (ev_var 10) (av_cons (ev_var 11) av_nil)) (lit_ok (K := K) T)) (kv_cons (ev_var 2) kv_nil)) (news_ss_kw0 (K := K) T)) ?_
        obtain ⟨k1, k2, k3, k4, k5, k6, k7⟩ := news_ok hp (qI_sm bR) (qI_sm bL) e1 e2
        haveI := smc_of k3
        haveI := int_bt bR.n2
        haveI := int_bt bL.n2
        have pR := bR.p
        have pL := bL.p
        refine bv_skip (tv_w (wv_or (tv_val (ev_callA (hr.mono (show 1 ≤ _ by decide)) (av_cons (ev_ixT (ev_var 3) ev_int) (av_cons (ev_var 10) av_nil)) (less_ok (K := K) T))) fun h17 => (wv_or1 (tv_val (ev_callA (hr.mono (show 1 ≤ _ by decide)) (av_cons (ev_ixT (ev_var 3) ev_int) (av_cons (ev_var 11) av_nil)) (less_ok (K := K) T)))))) (by rw [q2, q3, decide_eq_false (show ¬ lR (xs.map cvP) < qI RR from fun k => by rw [(ageF_none (sd := -1) hh).mpr k] at e1; cases e1), decide_eq_false (show ¬ lL (xs.map cvP) < qI LL from fun k => by rw [(ageF_none (sd := 1) hh).mpr k] at e2; cases e2)]; rfl) ?_
        refine bv_skip (tv_w (wv_or (tv_cm (cv_isN (ev_var 6))) fun h19 => (wv_or (tv_not (tv_val (ev_isi (bb := true) (GH.fr_isinstance (K := K) T) (ev_var 6) (ev_cls (GH.g_Ratio (K := K) T)) (by exact rfl) (isi_self (GH.isi_Ratio (K := K) T))))) fun h18 => (wv_or1 (tv_cm (cv_lt (ev_at 2 (GH.cl_Ratio (K := K) T) (GH.na_Ratio_sign (K := K) T) (ev_var 6)) ev_int)))))) (by rw [sgn_lt, decide_eq_false (show ¬ maxR z1 z2 < 0 by grind)]; rfl) ?_
        refine bv_ifE (tv_w (wv_and (tv_cm (cv_le (ev_ixT (ev_var 10) ev_int) ev_int)) fun h20 => (wv_and1 (tv_cm (cv_le (ev_ixT (ev_var 11) ev_int) ev_int))))) (fun hz => ?_) (fun hz => ?_)
        · refine bv_skip (tv_cm (cv_neOIA (GH.ne_Ratio (K := K) T) (hr.mono (show 3 ≤ _ by decide)) (GH.nf_Ratio (K := K) T) (ev_var 6) ev_int (rat_eqi (K := K) T))) (by rw [k4 ((qI_le bR).mpr (by simp only [Bool.and_eq_true, decide_eq_true_eq] at hz; exact hz.1)) ((qI_le bL).mpr (by simp only [Bool.and_eq_true, decide_eq_true_eq] at hz; exact hz.2))]; rfl) ?_
          refine bv_drop 4 ?_
          refine bv_drop 8 ?_
          refine bv_drop 9 ?_
          refine bv_drop 10 ?_
          refine bv_drop 11 ?_
          refine bv_drop 5 ?_
          refine bv_drop 6 ?_
          refine bv_drop 12 ?_
          refine bv_drop 13 ?_
          refine bv_drop 7 ?_
          refine bv_more 0 rfl (m := n + (i + 1) * 7) (by omega) ?_
          refine bv_cont ?_
          rfl
        · refine bv_nil ?_
          show BV _ _ [_, _, _, _, _, _, _, _, _, _, _, _, _, _, _, _] _
          obtain ⟨cs1, cs2⟩ := curve_smA hp k3 k2
          haveI := smc_of cs1
          haveI := smc_of cs2
          haveI := smc_of (qI_sm bR)
          haveI := smc_of (qI_sm bL)
          haveI : SmC 260 (Rat.divInt RR.1 RR.2) := ⟨qI_sm bR⟩
          haveI : SmC 260 (Rat.divInt LL.1 LL.2) := ⟨qI_sm bL⟩
          have SS := SoL_sm cs1 cs2
          haveI := smc_of SS.1
          haveI := smc_of (SS.2 _ (by simp [SoL] : ((curve (xs.map cvP) (maxR z1 z2)).2 - (curve (xs.map cvP) (maxR z1 z2)).1) * halfQ ∈ (SoL (curve (xs.map cvP) (maxR z1 z2)).1 (curve (xs.map cvP) (maxR z1 z2)).2).ps))
          have g1 : (SoL (curve (xs.map cvP) (maxR z1 z2)).1 (curve (xs.map cvP) (maxR z1 z2)).2).t - ((curve (xs.map cvP) (maxR z1 z2)).2 - (curve (xs.map cvP) (maxR z1 z2)).1) * halfQ = (curve (xs.map cvP) (maxR z1 z2)).1 := right_SoL _ _
          have g2 : (SoL (curve (xs.map cvP) (maxR z1 z2)).1 (curve (xs.map cvP) (maxR z1 z2)).2).t + ((curve (xs.map cvP) (maxR z1 z2)).2 - (curve (xs.map cvP) (maxR z1 z2)).1) * halfQ = (curve (xs.map cvP) (maxR z1 z2)).2 := left_SoL _ _
          have nz : ¬ (qI RR ≤ 0 ∧ qI LL ≤ 0) := fun k => by
            have k8 := (qI_le bR).mp k.1
            have k9 := (qI_le bL).mp k.2
            simp only [Bool.and_eq_false_iff, decide_eq_false_iff_not] at hz
            omega
          have ko := k7 nz
          have kR : qI RR ≤ (curve (xs.map cvP) (maxR z1 z2)).1 := k5
          have kL : qI LL ≤ (curve (xs.map cvP) (maxR z1 z2)).2 := k6
          refine bv_par2 (S' := [_, _, _, _, _, _, _, _, _, _, _, _, _, _, _, _]) 12 13 hnd (ev_callA (hr.mono (show 8 ≤ _ by decide)) (av_cons (ev_var 2) (av_cons (ev_var 6) av_nil)) (spot_at_r (K := K) T)) (ev_tup2 (ratV K) (ratV K) (ev_newA (hr.mono (show 2 ≤ _ by decide)) (av_cons (ev_ixT (ev_var 10) ev_int) (av_cons (ev_ixT (ev_var 10) ev_int) av_nil)) (nw_Ratio (K := K) T)) (ev_newA (hr.mono (show 2 ≤ _ by decide)) (av_cons (ev_ixT (ev_var 11) ev_int) (av_cons (ev_ixT (ev_var 11) ev_int) av_nil)) (nw_Ratio (K := K) T))) ?_
          refine bv_asgE (S' := [_, _, _, _, _, _, _, _, _, _, _, _, _, _, _, _]) 7 hnd (ev_tup2 (ratV K) (ratV K) (ev_opA (hr.mono (show 3 ≤ _ by decide)) (GH.sf_Ratio (K := K) T) (ev_at 0 (GH.cl_Step (K := K) T) (GH.na_Step_time (K := K) T) (ev_var 12)) (ev_ixTM (f := (ratV K)) (ev_at 1 (GH.cl_Step (K := K) T) (GH.na_Step_place (K := K) T) (ev_var 12)) ev_int (by first | exact atI_0 | exact atI_1 | exact atI_2 | exact rfl | assumption)) (rat_sub (K := K) T)) (ev_opA (hr.mono (show 3 ≤ _ by decide)) (GH.sf_Ratio (K := K) T) (ev_at 0 (GH.cl_Step (K := K) T) (GH.na_Step_time (K := K) T) (ev_var 12)) (ev_ixTM (f := (ratV K)) (ev_at 1 (GH.cl_Step (K := K) T) (GH.na_Step_place (K := K) T) (ev_var 12)) ev_int (by first | exact atI_0 | exact atI_1 | exact atI_2 | exact rfl | assumption)) (rat_add (K := K) T))) ?_
          refine bv_skip (tv_w (wv_or (tv_val (ev_methA (GH.cl_Ratio (K := K) T) (hr.mono (show 2 ≤ _ by decide)) (ev_ixT (ev_var 7) ev_int) (av_cons (ev_ixT (ev_var 13) ev_int) av_nil) (rat_below (K := K) T))) fun h23 => (wv_or (tv_val (ev_methA (GH.cl_Ratio (K := K) T) (hr.mono (show 2 ≤ _ by decide)) (ev_ixT (ev_var 7) ev_int) (av_cons (ev_ixT (ev_var 13) ev_int) av_nil) (rat_below (K := K) T))) fun h22 => (wv_or1 (tv_w (wv_and (tv_cm (cv_neOA (GH.ne_Ratio (K := K) T) (hr.mono (show 2 ≤ _ by decide)) (ev_ixT (ev_var 7) ev_int) (ev_ixT (ev_var 13) ev_int) (rat_eq (K := K) T))) fun h21 => (wv_and1 (tv_cm (cv_neOA (GH.ne_Ratio (K := K) T) (hr.mono (show 2 ≤ _ by decide)) (ev_ixT (ev_var 7) ev_int) (ev_ixT (ev_var 13) ev_int) (rat_eq (K := K) T)))))))))) (by rw [g1, g2]; exact fin_news kR kL ko) ?_
          refine bv_drop 4 ?_
          refine bv_drop 8 ?_
          refine bv_drop 9 ?_
          refine bv_drop 10 ?_
          refine bv_drop 11 ?_
          refine bv_drop 5 ?_
          refine bv_drop 6 ?_
          refine bv_drop 12 ?_
          refine bv_drop 13 ?_
          refine bv_drop 7 ?_
          refine bv_more 0 rfl (m := n + (i + 1) * 7) (by omega) ?_
          refine bv_nil ?_
          rfl
  · subst hS
    refine bv_more 0 rfl (m := n + 28) (by simp) ?_
    show BV _ _ [_, _, _, _, _, _, _, _, _, _, _, _, _, _, _, _] _
    refine bv_more 0 rfl (m := n + 28) (by omega) ?_
    show BV _ _ [_, _, _, _, _, _, _, _, _, _, _, _, _, _, _, _] _
    refine bv_retE ev_bl ⟨rfl, ?_⟩
    rfl
end
end E
set_option maxHeartbeats 4000000
namespace E
open PySem PySem.Spec PyProof.Rows L2 Evl G He
section
variable {P : Program} {w : World} {K : PySem.W.Frag} {mg : Str → Option Value} {base : Heap}
theorem law_ok (T : GH.Txt K mg) {f : Addr} {fd : FuncData} (F : G.FnP K "law" "law" (G.top 73) [] f fd) : FnOk P w K mg base CX0 13 f fd ["_law_script"] (SpLaw K) := by
  have hnd : (["_law_script", "_law_pen_here", "_law_parts_here", "_law_tour_here"] : List Str).Nodup := by decide +kernel
  refine fn_law (k := 12) (N := ["_law_script", "_law_pen_here", "_law_parts_here", "_law_tour_here"]) (m := 62) (rest := (defBody (G.top 73)).tail) F ⟨rfl, rfl, rfl, by decide +kernel, rfl, by decide +kernel, by decide +kernel⟩ (of_decide_eq_true rfl) (by decide) (fun cdv A outer s H E D v ns hr hz hv k2 => ?_) fun p cdv A outer s H E hr => ?_
  · exact b_asg (P := LstOf [IsL IsI (ns.take 62), IsI 0, IsI 0]) 1 hnd (eg_callP (⟨ns, hz⟩ : {ns : List Int // ns.length ≤ 63}) (pen_ok (P := P) (w := w) (base := base) T) (hr.mono (by decide)) (ag_cons (P := SqW K ns) (eg_var 0 rfl hv) ag_nil)) k2
  show BV _ _ [.no, .own p (.pen 0), .no, .no] _
  refine bv_asg 2 hnd ?_
  refine xw_draw (k := 4) (c := 31) 1 (glf_of (GH.d__law_parts (K := K) T) (GH.g__law_parts (K := K) T)) (hr.mono (show 4 ≤ _ by decide)) ?_
  refine xa_cons ?_
  refine xw_ev ev_int ?_
  refine xa_nil ?_
  refine ⟨_, _, rfl, by omega, parts_ok (K := K) T, ?_⟩
  rintro _ S2 e2 ⟨xs1, rfl, xs1a, xs1b, xs1c⟩
  replace e2 : [_, _, _, _] = S2 := e2
  subst e2
  have h1 : LOk 999 xs1 := ⟨xs1a, by omega, xs1c⟩
  have h7 : xs1.length ≤ 7 := by omega
  refine ⟨rfl, ?_⟩
  show BV _ _ [_, _, _, _] _
  refine bv_asgE (S' := [_, _, _, _]) 3 hnd (ev_callA (hr.mono (show 11 ≤ _ by decide)) (av_cons (ev_var 2) av_nil) (tour_ok (K := K) T)) ?_
  refine bv_if ?_
  refine xt_h ?_
  refine xh_or ?_
  refine xt_tv (tv_not (tv_val (ev_callA (hr.mono (show 7 ≤ _ by decide)) (av_cons (ev_var 2) (av_cons (ev_var 3) av_nil)) (sums_ok (K := K) T)))) ?_
  refine iteF (by first | (apply decide_eq_false; omega) | with_reducible rfl | (simp <;> omega) | (simp_all; done)) ?_
  refine xh_or1 ?_
  refine xt_not ?_
  refine xt_val ?_
  refine xw_draw (k := 12) (c := 33) 1 (glf_of (GH.d__law_kin_right (K := K) T) (GH.g__law_kin_right (K := K) T)) (hr.mono (show 12 ≤ _ by decide)) ?_
  refine xa_cons ?_
  refine xw_ev (ev_var 2) ?_
  refine xa_cons ?_
  refine xw_ev (ev_var 3) ?_
  refine xa_nil ?_
  refine ⟨_, _, rfl, by omega, kin_ok (K := K) T, ?_⟩
  rintro _ S2 e2 rfl
  replace e2 : [_, _, _, _] = S2 := e2
  subst e2
  refine ⟨_, rfl, ?_⟩
  refine iteF (by first | (apply decide_eq_false; omega) | with_reducible rfl | (simp <;> omega) | (simp_all; done)) ?_
  refine bv_nil ?_
  show BV _ _ [_, _, _, _] _
  refine bv_ret ?_
  refine xw_andT ?_
  refine xw_draw (k := 9) (c := 6) 1 (glf_of (GH.d__law_ages_right (K := K) T) (GH.g__law_ages_right (K := K) T)) (hr.mono (show 9 ≤ _ by decide)) ?_
  refine xa_cons ?_
  refine xw_ev (ev_var 2) ?_
  refine xa_cons ?_
  refine xw_ev (ev_var 3) ?_
  refine xa_nil ?_
  refine ⟨_, _, rfl, by omega, ages_ok (K := K) T, ?_⟩
  rintro _ S2 e2 rfl
  replace e2 : [_, _, _, _] = S2 := e2
  subst e2
  refine ⟨rfl, ?_⟩
  refine xw_and1 ?_
  refine xw_draw (k := 9) (c := 28) 1 (glf_of (GH.d__law_news_right (K := K) T) (GH.g__law_news_right (K := K) T)) (hr.mono (show 9 ≤ _ by decide)) ?_
  refine xa_cons ?_
  refine xw_ev (ev_var 2) ?_
  refine xa_cons ?_
  refine xw_ev (ev_var 3) ?_
  refine xa_nil ?_
  refine ⟨_, _, rfl, by omega, newsr_ok (K := K) T, ?_⟩
  rintro _ S2 e2 rfl
  replace e2 : [_, _, _, _] = S2 := e2
  subst e2
  rfl
end
end E
set_option maxHeartbeats 4000000
namespace GH
open PySem PySem.Spec PyProof.Rows L2 He
theorem facts {P : Program} {w : World} {K : PySem.W.Frag} {h : Heap} {mg : Str → Option Value} {f : Addr} (X : K.In h) (Gn : h.Ns mainGlobals mg) (hfa : mg ("law" : Str) = some (.ref f)) (c : SaysE fa fn K) :
    ∃ fd : FuncData, (∀ (s : Shared) (v : Value), BindsTo s fd ⟨[v], []⟩ [("_law_script", v)]) ∧ ∀ base : Heap, K.In base → base.Ns mainGlobals mg → FnOk P w K mg base CX0 40 f fd ["_law_script"] (E.SpLaw K) := by
  have T : Txt K mg := ⟨c, h, X, Gn⟩
  cases hfa.symm.trans (g_law T)
  obtain ⟨fd, F⟩ := d_law T
  exact ⟨fd, fun s v => (L2.FunD.bindsA (ps := ["_law_script"]) F fun _ _ _ _ _ _ us hl => match us, hl with | [_], _ => rfl) s [v] rfl, fun base _ _ => (E.law_ok T F).mono (by decide)⟩
end GH
set_option maxHeartbeats 0
open PySem PySem.W PySem.Calls PyProof.Rows
set_option maxRecDepth 100000 in
set_option maxHeartbeats 0 in
theorem PySem.Challenge.cw_whosefirst_k92_ages_of_tours_holds : PySem.Challenge.rw_whosefirst_k92_ages_of_tours.Holds := by
  w_on; o_law
  refine HandSHeadRun.head_imp (r := OpenLaw.row PySem.Challenge.rw_whosefirst_k92_ages_of_tours) (q := view (OpenLaw.row PySem.Challenge.rw_whosefirst_k92_ages_of_tours).prog [0, 73]) (H := GH.hk) (ob := GH.ob) (M := 20000) (loose := GH.loose) (d := HandSHeadRun.topDef (OpenLaw.row PySem.Challenge.rw_whosefirst_k92_ages_of_tours).prog 73) (kwd := []) GH.ob_eq
    GH.run (by kernel_rfl) (by kernel_rfl) (by kernel_rfl) (by rfl) (by first | assumption | decide +kernel) (by decide +kernel) ⟨rfl, rfl, rfl, rfl, rfl, by decide +kernel⟩ ?hw ?hc
  case hw => w_witness2
  case hc =>
    refine L2.walk_ofE (l := PySem.Challenge.rw_whosefirst_k92_ages_of_tours) (n := 63) (k := 40) (x := "_law_script") (CX := L2.CX0) rfl (by decide) (by kernel_rfl) ⟨rfl, by decide, by decide⟩ ?F (fun _ _ _ _ z => z)
    intro w mg fa h Y G0 hmg0
    obtain ⟨K, KX, c⟩ := Y
    have hmg : mg ("law" : PySem.Str) = some (.ref fa) := by
      have e : (HandSHeadRun.topDef (OpenLaw.row PySem.Challenge.rw_whosefirst_k92_ages_of_tours).prog 73).name = ("law" : PySem.Str) := by kernel_rfl
      rw [← e]
      exact hmg0
    obtain ⟨fd, hb, hF⟩ := GH.facts (P := (PySem.Challenge.rw_whosefirst_k92_ages_of_tours).prog) (w := w) KX G0 hmg c
    exact ⟨K, fd, E.SpLaw K, KX, hb, fun H a ns hl _ hS => ⟨a, ns, rfl, hl, hS, fun _ => rfl⟩, hF⟩
