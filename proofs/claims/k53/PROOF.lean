import PyProof.Rows.All
import Wide.All
import OpenK.AllK
import Wide.FinOn
import HandS.ForMost
import HandS.ForExc
import HandS.Wide
import HandS.Head0
import HandS.Head1
import HandS.Head2
import HandS.HeadEnd
import HandS.HeadHook1
import HandS.HeadHook2
import HandS.HeadHook4
import HandS.ExcField
import HandS.ExcInit
import HandS.IsInst
import HandS.Zip
import HandS.Flow
import HandS.TryMany
import HandS.Star
import HandS.Text
import HandS.StrMore
import HandS.FStr
import HandS.Lambda
import HandS.Property
import PyProof.InstNe
import HandS.OwnEq
import HandS.ClsMeth
import HandS.Records
import KE.KCallOwn
import HandS.Style
import HandS.NoneIn
import HandS.TupMul
import HandS.TupAny
import HandS.TupSets
import HandS.Deep
import HandS.SortRule
import HandS.NamedTupSort
import KE.DataMinMax
import KE.SortData
import KE.DataFind
import KE.DataAny
import HandS.WideBits
import HandS.More
import HandS.SortKw
import KE.DataMinKey
import HandS.SortInts
import HandS.Defaults
import HandS.EndTab
import KE.KDflt
import HandS.TupLe
import PyProof.Rows.Range3
import PyProof.Conv_bool
import KE.GoesNew
import KE.SortKeyHeap
import HandS.ExcValue
import HandS.Strs
import HandS.ReplaceLit
import HandS.ReplaceDef
import HandS.Iter
import KE.GoesEnum
import HandS.List
import PySem.Challenge.RW_grainmeet_k53_whole_shortened_code
set_option Elab.async false
set_option linter.all false
set_option maxRecDepth 100000
set_option maxHeartbeats 2000000
namespace HF
open PySem PySem.Spec PyProof.Rows L2
def frK {α : Type} : PySem.W.Frag → (PySem.W.Frag → α) → α
  | [], k => k []
  | (a, o) :: r, k => match o with
    | ⟨c, d, dt, sl⟩ => frK r fun r => k ((a, ⟨c, d, dt, sl⟩) :: r)
theorem frK_eq {α : Type} : ∀ (K : PySem.W.Frag) (k : PySem.W.Frag → α), frK K k = k K
  | [], _ => rfl
  | (a, ⟨c, d, dt, sl⟩) :: r, k => frK_eq r _
def al (g : Addr → Option Obj) (n : Nat) : PySem.W.Frag := He.frG g (List.range n)
structure Pd where
  ad : PySem.W.Frag → Addr
  nm : Str
  ql : Str
  st : Stmt
abbrev Fv : Type := (Str × Str × Addr) × (Arguments × Scope × FuncBody) × (List (Str × Addr) × Value × Addr)
def fkey (fd : FuncData) : Fv := ((fd.name, fd.qualname, fd.globals), (fd.params, fd.scope, fd.body), (fd.closure, fd.defaults, fd.builtins))
def fnO (K : PySem.W.Frag) (a : Addr) : Option FuncData := (K.lookup a).bind fun o => (match o.data with
  | .func fd => some fd
  | _ => none)
def fv (K : PySem.W.Frag) (a : Addr) : Option Fv := (fnO K a).map fkey
def Pd.val (d : Pd) : Option Fv := some ((d.nm, d.ql, mainGlobals), (defArgs d.st, defScope d.st, .stmts (defBody d.st)), ([], .none, builtinsNs))
def ob (bs : List (PySem.W.Frag → Bool)) (ps : List Pd) (K : PySem.W.Frag) : Bool × List (Option Fv) := (bs.all fun b => b K, ps.map fun d => fv K (d.ad K))
def vl (ps : List Pd) : Bool × List (Option Fv) := (true, ps.map Pd.val)
def Says (bs : List (PySem.W.Frag → Bool)) (ps : List Pd) (K : PySem.W.Frag) : Prop := ob bs ps K = vl ps
def fnc (a : Addr) (q : Str) (K : PySem.W.Frag) : Bool := PySem.W.keepIn K (.ref a) && (fnO K a).any fun fd => PySem.W.codeIn K fd.code q
def ga (x : Str) (K : PySem.W.Frag) : Addr := He.ga K x
def ma (c m : Str) (K : PySem.W.Frag) : Addr := He.ma K (He.ga K c) m
def hd1 (o : Option (List Value)) : Addr := match o with
  | some (.ref g :: _) => g
  | _ => 0
def pga (c m : Str) (K : PySem.W.Frag) : Addr := hd1 (PySem.W.recIn K (ma c m K) "property")
def isHd (o : Option (List Value)) (g : Addr) : Bool := match o with
  | some (.ref a :: _) => decide (a = g)
  | _ => false
def fEq (a : PySem.W.Frag → Option (Option Value)) (b : PySem.W.Frag → Option (Option Value)) (K : PySem.W.Frag) : Bool := He.eqO (a K) (b K)
def fCls (x : Str) (K : PySem.W.Frag) : Bool := He.eqO (PySem.W.nsIn K mainGlobals x) (some (some (.ref (ga x K)))) && (PySem.W.plainGet K (ga x K) Str.empty && (PySem.W.hasDictIn K (ga x K) && (PySem.W.plainOver K (ga x K) && (He.eqO (PySem.W.findIn K (.ref (ga x K)) "__setattr__") (some (some (.builtin "object.__setattr__"))) && (PySem.W.selfFirst K (ga x K) && (decide (PySem.W.mroIn K (ga x K) (.type "object") = some true) && (PySem.W.makesIn K (ga x K) && PySem.W.keepIn K (.ref (ga x K)))))))))
def fFn (x : Str) (K : PySem.W.Frag) : Bool := He.eqO (PySem.W.nsIn K mainGlobals x) (some (some (.ref (ga x K)))) && fnc (ga x K) x K
def fMeth (c m q : Str) (K : PySem.W.Frag) : Bool := He.eqO (PySem.W.findIn K (.ref (ga c K)) m) (some (some (.ref (ma c m K)))) && (PySem.W.isFn K (.ref (ma c m K)) && fnc (ma c m K) q K)
def fProp (c m q : Str) (K : PySem.W.Frag) : Bool := He.eqO (PySem.W.findIn K (.ref (ga c K)) m) (some (some (.ref (ma c m K)))) && (He.eqO (PySem.W.specialIn K (.ref (ma c m K)) "__get__") (some (some (.builtin "property.__get__"))) && (decide (PySem.W.takesIn K (.ref (ma c m K)) = some true) && (isHd (PySem.W.recIn K (ma c m K) "property") (pga c m K) && fnc (pga c m K) q K)))
def fNe (c : Str) (K : PySem.W.Frag) : Bool := He.eqO (PySem.W.findIn K (.ref (ga c K)) "__ne__") (some (some (.builtin "object.__ne__")))
def fNo (c f : Str) (K : PySem.W.Frag) : Bool := He.eqO (PySem.W.findIn K (.ref (ga c K)) f) (some none)
def fCl (c : Str) (K : PySem.W.Frag) : Bool := He.eqO (PySem.W.findIn K (.ref (ga c K)) "__class__") (some (some (.builtin "object.__class__")))
def fHn (K : PySem.W.Frag) : Bool := He.eqO (PySem.W.specialIn K (.builtin "object.__class__") "__get__") (some (some (.builtin "getset_descriptor.__get__")))
def fHt (K : PySem.W.Frag) : Bool := decide (PySem.W.takesIn K (.builtin "object.__class__") = some true)
def fFree (x : Str) (K : PySem.W.Frag) : Bool := He.eqO (PySem.W.nsIn K mainGlobals x) (some none)
def isInt (i : Int) : Option (Option Value) → Bool
  | some (some (.int k _)) => k == i
  | _ => false
def fInt (x : Str) (i : Int) (K : PySem.W.Frag) : Bool := isInt i (PySem.W.nsIn K mainGlobals x)
def lawC (K : PySem.W.Frag) : Addr := match fnO K (ga "law" K) with
  | some fd => (match fd.code with
    | .ref c => c
    | _ => 0)
  | none => 0
def lawT (K : PySem.W.Frag) : Addr := He.tabOf K (lawC K)
def tabB (g : Addr → Option Obj) (K : PySem.W.Frag) : Bool := PySem.W.codeHdIn K (lawC K) (lawT K) && (match g (lawT K) with
  | some o => He.emptyTab o
  | none => false)
structure TbIn (hp : Heap) (K : PySem.W.Frag) : Prop where
  hd : PySem.W.codeHdIn K (lawC K) (lawT K) = true
  out : K.lookup (lawT K) = none
  emp : hp.get? (lawT K) = some { cls := .none, data := .fields #[] }
def isBl (o : Option PySem.W.CFound) (b : String) : Bool := match o with
  | some (.val (.builtin a)) => decide (a = b)
  | _ => false
def obG (bs : List (PySem.W.Frag → Bool)) (ps : List Pd) (g : Addr → Option Obj) (as : List Addr) : (Bool × List (Option Fv)) × Bool := frK (He.frT g as) fun K => (ob bs ps K, tabB g K)
def hookF (bs : List (PySem.W.Frag → Bool)) (ps : List Pd) (as : List Addr) : PySem.W.Hook where
  α := (Bool × List (Option Fv)) × Bool
  obs := fun s => obG bs ps s.heap.get? as
  val := fun _ => (vl ps, true)
  says := fun _ hp => ∃ K : PySem.W.Frag, K.In hp ∧ Says bs ps K ∧ TbIn hp K
  of := fun _ s seen => by
    have seen : obG bs ps s.heap.get? as = (vl ps, true) := seen
    unfold obG at seen
    rw [frK_eq] at seen
    have e1 := congrArg (fun z : (Bool × List (Option Fv)) × Bool => z.1) seen
    have e2 : tabB s.heap.get? _ = true := congrArg (fun z : (Bool × List (Option Fv)) × Bool => z.2) seen
    refine ⟨He.frT s.heap.get? as, He.frT_in, e1, ?_⟩
    unfold tabB at e2
    obtain ⟨h1, h2⟩ := He.ba e2
    split at h2
    · rename_i o q
      exact ⟨h1, He.frT_none q h2, by rw [q, He.emptyTab_eq h2]⟩
    · cases h2
  keeps := by
    rintro u hp hp' ⟨K, inK, said, t⟩ kept
    exact ⟨K, inK.keeps kept, said, ⟨t.hd, t.out, kept _ _ t.emp⟩⟩
def obFF (bs : List (PySem.W.Frag → Bool)) (ps : List Pd) (as : List Addr) (s : PySem.W.SharedT) : (Bool × List (Option Fv)) × Bool := obG bs ps (HandSHeadRun.getT s) as
theorem obF_eq (bs : List (PySem.W.Frag → Bool)) (ps : List Pd) (as : List Addr) (s : PySem.W.SharedT) : obFF bs ps as s = (hookF bs ps as).obs s.abs := by
  have e : HandSHeadRun.getT s = s.abs.heap.get? := funext (HandSHeadRun.getT_eq s)
  show obG bs ps (HandSHeadRun.getT s) as = obG bs ps s.abs.heap.get? as
  rw [e]
end HF
set_option Elab.async false
set_option linter.all false
set_option maxRecDepth 100000
namespace HF
open PySem PySem.Spec PyProof.Rows L2
end HF
set_option Elab.async false
set_option linter.all false
namespace G
open PySem PySem.Spec
def refsLE : List Value → Bool
  | .ref _ :: r => refsLE r
  | [.type a, .type b, .type c, .type d] => a == "LookupError" && b == "Exception" && c == "BaseException" && d == "object"
  | _ => false
end G
namespace HF
open PySem PySem.Spec PyProof.Rows L2
def fLe (K : PySem.W.Frag) : Bool := isBl (PySem.W.findCls K (.type "LookupError") (.type "type") "__init__") "LookupError.__init__"
end HF
set_option Elab.async false
set_option linter.all false
set_option maxRecDepth 100000
namespace D
open PySem PySem.Spec PyProof.Rows L2
def top (i : Nat) : Stmt := PySem.Challenge.pw_grainmeet_k53_whole_shortened_code.main.body.getD i (.Pass ⟨0, 0, 0, 0⟩)
abbrev s_is_number : Stmt := top 12
theorem sc_is_number : FnScope ["value"] ["value"] (defScope s_is_number) := ⟨rfl, rfl, rfl, by decide +kernel, rfl, by decide +kernel, by decide +kernel⟩
abbrev s_common : Stmt := top 13
theorem sc_common : FnScope ["one", "other", "greater", "lesser"] ["one", "other"] (defScope s_common) := ⟨rfl, rfl, rfl, by decide +kernel, rfl, by decide +kernel, by decide +kernel⟩
abbrev s_Four_init : Stmt := inClass (top 19) 0
theorem sc_Four_init : FnScope ["self", "halves"] ["self", "halves"] (defScope s_Four_init) := ⟨rfl, rfl, rfl, by decide +kernel, rfl, by decide +kernel, by decide +kernel⟩
abbrev s_Four_halves : Stmt := inClass (top 19) 4
theorem sc_Four_halves : FnScope ["self"] ["self"] (defScope s_Four_halves) := ⟨rfl, rfl, rfl, by decide +kernel, rfl, by decide +kernel, by decide +kernel⟩
abbrev s_Four_mirrored : Stmt := inClass (top 19) 6
theorem sc_Four_mirrored : FnScope ["self", "a", "b", "c", "d"] ["self"] (defScope s_Four_mirrored) := ⟨rfl, rfl, rfl, by decide +kernel, rfl, by decide +kernel, by decide +kernel⟩
abbrev s_Four_content : Stmt := inClass (top 19) 7
theorem sc_Four_content : FnScope ["self", "a", "b", "c", "d", "shared", "half"] ["self"] (defScope s_Four_content) := ⟨rfl, rfl, rfl, by decide +kernel, rfl, by decide +kernel, by decide +kernel⟩
abbrev s_Four_divided : Stmt := inClass (top 19) 9
theorem sc_Four_divided : FnScope ["self", "number", "a", "b", "c", "d"] ["self", "number"] (defScope s_Four_divided) := ⟨rfl, rfl, rfl, by decide +kernel, rfl, by decide +kernel, by decide +kernel⟩
abbrev s_Four_mul : Stmt := inClass (top 19) 12
theorem sc_Four_mul : FnScope ["self", "other", "a", "b", "c", "d", "e", "f", "g", "h"] ["self", "other"] (defScope s_Four_mul) := ⟨rfl, rfl, rfl, by decide +kernel, rfl, by decide +kernel, by decide +kernel⟩
abbrev s_Four_neg : Stmt := inClass (top 19) 13
theorem sc_Four_neg : FnScope ["self", "a", "b", "c", "d"] ["self"] (defScope s_Four_neg) := ⟨rfl, rfl, rfl, by decide +kernel, rfl, by decide +kernel, by decide +kernel⟩
abbrev s_Four_bool : Stmt := inClass (top 19) 14
theorem sc_Four_bool : FnScope ["self"] ["self"] (defScope s_Four_bool) := ⟨rfl, rfl, rfl, by decide +kernel, rfl, by decide +kernel, by decide +kernel⟩
abbrev s_Four_eq : Stmt := inClass (top 19) 15
theorem sc_Four_eq : FnScope ["self", "other"] ["self", "other"] (defScope s_Four_eq) := ⟨rfl, rfl, rfl, by decide +kernel, rfl, by decide +kernel, by decide +kernel⟩
abbrev s_are_halves : Stmt := top 20
theorem sc_are_halves : FnScope ["values", "value"] ["values"] (defScope s_are_halves) := ⟨rfl, rfl, rfl, by decide +kernel, rfl, by decide +kernel, by decide +kernel⟩
abbrev s_Turn_init : Stmt := inClass (top 30) 0
theorem sc_Turn_init : FnScope ["self", "four"] ["self", "four"] (defScope s_Turn_init) := ⟨rfl, rfl, rfl, by decide +kernel, rfl, by decide +kernel, by decide +kernel⟩
abbrev s_Turn_four : Stmt := inClass (top 30) 4
theorem sc_Turn_four : FnScope ["self"] ["self"] (defScope s_Turn_four) := ⟨rfl, rfl, rfl, by decide +kernel, rfl, by decide +kernel, by decide +kernel⟩
abbrev s_Turn_mul : Stmt := inClass (top 30) 10
theorem sc_Turn_mul : FnScope ["self", "other"] ["self", "other"] (defScope s_Turn_mul) := ⟨rfl, rfl, rfl, by decide +kernel, rfl, by decide +kernel, by decide +kernel⟩
abbrev s_Turn_neg : Stmt := inClass (top 30) 11
theorem sc_Turn_neg : FnScope ["self"] ["self"] (defScope s_Turn_neg) := ⟨rfl, rfl, rfl, by decide +kernel, rfl, by decide +kernel, by decide +kernel⟩
abbrev s_Turn_eq : Stmt := inClass (top 30) 12
theorem sc_Turn_eq : FnScope ["self", "other"] ["self", "other"] (defScope s_Turn_eq) := ⟨rfl, rfl, rfl, by decide +kernel, rfl, by decide +kernel, by decide +kernel⟩
abbrev s_turn_with : Stmt := top 31
theorem sc_turn_with : FnScope ["halves"] ["halves"] (defScope s_turn_with) := ⟨rfl, rfl, rfl, by decide +kernel, rfl, by decide +kernel, by decide +kernel⟩
abbrev s_lead_of : Stmt := top 32
theorem sc_lead_of : FnScope ["four", "lead"] ["four"] (defScope s_lead_of) := ⟨rfl, rfl, rfl, by decide +kernel, rfl, by decide +kernel, by decide +kernel⟩
abbrev s_named_turn : Stmt := top 34
theorem sc_named_turn : FnScope ["name", "turns"] ["name", "turns"] (defScope s_named_turn) := ⟨rfl, rfl, rfl, by decide +kernel, rfl, by decide +kernel, by decide +kernel⟩
abbrev s_run : Stmt := top 36
theorem sc_run : FnScope ["code", "turns", "stack", "instruction", "kind", "second", "first"] ["code", "turns"] (defScope s_run) := ⟨rfl, rfl, rfl, by decide +kernel, rfl, by decide +kernel, by decide +kernel⟩
abbrev s_last_of : Stmt := top 37
theorem sc_last_of : FnScope ["stack"] ["stack"] (defScope s_last_of) := ⟨rfl, rfl, rfl, by decide +kernel, rfl, by decide +kernel, by decide +kernel⟩
abbrev s_shortened : Stmt := top 38
theorem sc_shortened : FnScope ["code", "short", "instruction", "many", "folded"] ["code"] (defScope s_shortened) := ⟨rfl, rfl, rfl, by decide +kernel, rfl, by decide +kernel, by decide +kernel⟩
abbrev s_foldable : Stmt := top 39
theorem sc_foldable : FnScope ["code", "kinds", "instruction"] ["code"] (defScope s_foldable) := ⟨rfl, rfl, rfl, by decide +kernel, rfl, by decide +kernel, by decide +kernel⟩
abbrev s_folding : Stmt := top 40
theorem sc_folding : FnScope ["place", "turn"] ["place"] (defScope s_folding) := ⟨rfl, rfl, rfl, by decide +kernel, rfl, by decide +kernel, by decide +kernel⟩
abbrev s_L_feed : Stmt := top 42
theorem sc_L_feed : FnScope ["_law_script", "_law_cells", "_law_mark", "_law_cell"] ["_law_script"] (defScope s_L_feed) := ⟨rfl, rfl, rfl, by decide +kernel, rfl, by decide +kernel, by decide +kernel⟩
abbrev s_L_take : Stmt := top 43
theorem sc_L_take : FnScope ["_law_feed_here", "_law_many", "_law_cell", "_law_mixed", "_law_found"] ["_law_feed_here", "_law_many"] (defScope s_L_take) := ⟨rfl, rfl, rfl, by decide +kernel, rfl, by decide +kernel, by decide +kernel⟩
abbrev s_L_pick : Stmt := top 44
theorem sc_L_pick : FnScope ["_law_feed_here", "_law_things"] ["_law_feed_here", "_law_things"] (defScope s_L_pick) := ⟨rfl, rfl, rfl, by decide +kernel, rfl, by decide +kernel, by decide +kernel⟩
abbrev s_L_same : Stmt := top 45
theorem sc_L_same : FnScope ["_law_found", "_law_due", "_law_one", "_law_other"] ["_law_found", "_law_due"] (defScope s_L_same) := ⟨rfl, rfl, rfl, by decide +kernel, rfl, by decide +kernel, by decide +kernel⟩
abbrev s_L_halves : Stmt := top 46
theorem sc_L_halves : FnScope ["_law_feed_here", "_law_most", "_law_odd", "_law_row", "_law_k"] ["_law_feed_here", "_law_most"] (defScope s_L_halves) := ⟨rfl, rfl, rfl, by decide +kernel, rfl, by decide +kernel, by decide +kernel⟩
abbrev s_L_gcd : Stmt := top 47
theorem sc_L_gcd : FnScope ["_law_one", "_law_other"] ["_law_one", "_law_other"] (defScope s_L_gcd) := ⟨rfl, rfl, rfl, by decide +kernel, rfl, by decide +kernel, by decide +kernel⟩
abbrev s_L_gcd_of : Stmt := top 48
theorem sc_L_gcd_of : FnScope ["_law_row", "_law_found", "_law_one"] ["_law_row"] (defScope s_L_gcd_of) := ⟨rfl, rfl, rfl, by decide +kernel, rfl, by decide +kernel, by decide +kernel⟩
abbrev s_L_times : Stmt := top 49
theorem sc_L_times : FnScope ["_law_one", "_law_other", "_law_a", "_law_b", "_law_c", "_law_d", "_law_x", "_law_y", "_law_z", "_law_w", "_law_first", "_law_second", "_law_third"] ["_law_one", "_law_other"] (defScope s_L_times) := ⟨rfl, rfl, rfl, by decide +kernel, rfl, by decide +kernel, by decide +kernel⟩
abbrev s_L_back : Stmt := top 50
theorem sc_L_back : FnScope ["_law_halves_here"] ["_law_halves_here"] (defScope s_L_back) := ⟨rfl, rfl, rfl, by decide +kernel, rfl, by decide +kernel, by decide +kernel⟩
abbrev s_L_content : Stmt := top 51
theorem sc_L_content : FnScope ["_law_halves_here", "_law_both", "_law_odd", "_law_one"] ["_law_halves_here"] (defScope s_L_content) := ⟨rfl, rfl, rfl, by decide +kernel, rfl, by decide +kernel, by decide +kernel⟩
abbrev s_L_lowest : Stmt := top 52
theorem sc_L_lowest : FnScope ["_law_halves_here", "_law_both", "_law_row", "_law_first", "_law_one"] ["_law_halves_here"] (defScope s_L_lowest) := ⟨rfl, rfl, rfl, by decide +kernel, rfl, by decide +kernel, by decide +kernel⟩
abbrev s_L_four : Stmt := top 53
theorem sc_L_four : FnScope ["_law_halves_here", "_law_a", "_law_b", "_law_c", "_law_d"] ["_law_halves_here"] (defScope s_L_four) := ⟨rfl, rfl, rfl, by decide +kernel, rfl, by decide +kernel, by decide +kernel⟩
abbrev s_L_turn : Stmt := top 54
theorem sc_L_turn : FnScope ["_law_halves_here"] ["_law_halves_here"] (defScope s_L_turn) := ⟨rfl, rfl, rfl, by decide +kernel, rfl, by decide +kernel, by decide +kernel⟩
abbrev s_L_tree : Stmt := top 55
theorem sc_L_tree : FnScope ["_law_feed_here", "_law_names", "_law_level", "_law_kind", "_law_one"] ["_law_feed_here", "_law_names", "_law_level"] (defScope s_L_tree) := ⟨rfl, rfl, rfl, by decide +kernel, rfl, by decide +kernel, by decide +kernel⟩
abbrev s_L_tree_four : Stmt := top 56
theorem sc_L_tree_four : FnScope ["_law_tree_here", "_law_fours", "_law_one"] ["_law_tree_here", "_law_fours"] (defScope s_L_tree_four) := ⟨rfl, rfl, rfl, by decide +kernel, rfl, by decide +kernel, by decide +kernel⟩
abbrev s_L_tree_code : Stmt := top 57
theorem sc_L_tree_code : FnScope ["_law_tree_here"] ["_law_tree_here"] (defScope s_L_tree_code) := ⟨rfl, rfl, rfl, by decide +kernel, rfl, by decide +kernel, by decide +kernel⟩
abbrev s_L_fold : Stmt := top 58
theorem sc_L_fold : FnScope ["_law_code", "_law_at", "_law_before", "_law_first"] ["_law_code"] (defScope s_L_fold) := ⟨rfl, rfl, rfl, by decide +kernel, rfl, by decide +kernel, by decide +kernel⟩
abbrev s_law : Stmt := top 59
theorem sc_law : FnScope ["_law_script", "_law_feed_here", "_law_turn_here", "_law_fours", "_law_turns", "_law_tree_here", "_law_code", "_law_due", "_law_k", "_law_handed", "_law_found"] ["_law_script"] (defScope s_law) := ⟨rfl, rfl, rfl, by decide +kernel, rfl, by decide +kernel, by decide +kernel⟩
end D
set_option Elab.async false
set_option linter.all false
set_option maxRecDepth 100000
namespace HF
open PySem PySem.Spec PyProof.Rows L2
end HF
set_option Elab.async false
set_option linter.all false
set_option maxRecDepth 100000
namespace HF
open PySem PySem.Spec PyProof.Rows L2
def tupN : Option Obj → Bool
  | some ⟨.type t, none, _, _⟩ => decide (t = "tuple")
  | _ => false
end HF
set_option Elab.async false
set_option linter.all false
namespace G
open PySem PySem.Spec
def refsIE : List Value → Bool
  | .ref _ :: r => refsIE r
  | [.type a, .type b, .type c, .type d, .type e] => a == "IndexError" && b == "LookupError" && c == "Exception" && d == "BaseException" && e == "object"
  | _ => false
end G
namespace HF
open PySem PySem.Spec PyProof.Rows L2
end HF
set_option Elab.async false
set_option linter.all false
set_option maxRecDepth 100000
namespace HF
open PySem PySem.W HandSHeadRun
end HF
set_option Elab.async false
set_option linter.all false
set_option maxRecDepth 100000
set_option maxHeartbeats 2000000
namespace HFx
open PySem PySem.Spec PyProof.Rows L2
def bs : List (PySem.W.Frag → Bool) := [HF.fCls "Four", HF.fCls "Turn", HF.fFn "law", HF.fProp "Turn" "four" "Turn.four", HF.fProp "Four" "halves" "Four.halves", HF.fFn "is_number", HF.fFn "are_halves", HF.fMeth "Four" "__init__" "Four.__init__", HF.fMeth "Four" "__neg__" "Four.__neg__", HF.fFn "common", HF.fMeth "Four" "content" "Four.content", HF.fMeth "Four" "divided" "Four.divided", HF.fFn "lead_of", HF.fMeth "Four" "__bool__" "Four.__bool__", HF.fMeth "Turn" "__init__" "Turn.__init__", HF.fFn "turn_with", HF.fFn "named_turn", HF.fFn "last_of", HF.fMeth "Four" "mirrored" "Four.mirrored", HF.fMeth "Turn" "__neg__" "Turn.__neg__", HF.fMeth "Four" "__mul__" "Four.__mul__", HF.fMeth "Turn" "__mul__" "Turn.__mul__", HF.fFn "run", HF.fFn "folding", HF.fFn "foldable", HF.fFn "shortened", HF.fMeth "Four" "__eq__" "Four.__eq__", HF.fMeth "Turn" "__eq__" "Turn.__eq__", HF.fFn "_law_gcd", HF.fFn "_law_gcd_of", HF.fFn "_law_content", HF.fFn "_law_lowest", HF.fFn "_law_times", HF.fFn "_law_back", HF.fFn "_law_tree_four", HF.fFn "_law_same", HF.fFn "_law_fold", HF.fFn "_law_tree_code", HF.fFn "_law_take", HF.fFn "_law_halves", HF.fFn "_law_pick", HF.fFn "_law_tree", HF.fFn "_law_four", HF.fFn "_law_turn", HF.fFn "_law_feed", HF.fNe "Four", HF.fNo "Four" "doubled", HF.fNe "Turn", HF.fNo "Turn" "lead", HF.fCl "Four", HF.fCl "Turn", HF.fHn, HF.fHt, HF.fFree "abs", HF.fFree "all", HF.fFree "any", HF.fFree "bool", HF.fFree "int", HF.fFree "isinstance", HF.fFree "len", HF.fFree "list", HF.fFree "range", HF.fFree "str", HF.fFree "sum", HF.fFree "tuple", HF.fFree "zip"]
def ps : List HF.Pd := [⟨HF.ga "law", "law", "law", D.s_law⟩, ⟨HF.pga "Turn" "four", "four", "Turn.four", D.s_Turn_four⟩, ⟨HF.pga "Four" "halves", "halves", "Four.halves", D.s_Four_halves⟩, ⟨HF.ga "is_number", "is_number", "is_number", D.s_is_number⟩, ⟨HF.ga "are_halves", "are_halves", "are_halves", D.s_are_halves⟩, ⟨HF.ma "Four" "__init__", "__init__", "Four.__init__", D.s_Four_init⟩, ⟨HF.ma "Four" "__neg__", "__neg__", "Four.__neg__", D.s_Four_neg⟩, ⟨HF.ga "common", "common", "common", D.s_common⟩, ⟨HF.ma "Four" "content", "content", "Four.content", D.s_Four_content⟩, ⟨HF.ma "Four" "divided", "divided", "Four.divided", D.s_Four_divided⟩, ⟨HF.ga "lead_of", "lead_of", "lead_of", D.s_lead_of⟩, ⟨HF.ma "Four" "__bool__", "__bool__", "Four.__bool__", D.s_Four_bool⟩, ⟨HF.ma "Turn" "__init__", "__init__", "Turn.__init__", D.s_Turn_init⟩, ⟨HF.ga "turn_with", "turn_with", "turn_with", D.s_turn_with⟩, ⟨HF.ga "named_turn", "named_turn", "named_turn", D.s_named_turn⟩, ⟨HF.ga "last_of", "last_of", "last_of", D.s_last_of⟩, ⟨HF.ma "Four" "mirrored", "mirrored", "Four.mirrored", D.s_Four_mirrored⟩, ⟨HF.ma "Turn" "__neg__", "__neg__", "Turn.__neg__", D.s_Turn_neg⟩, ⟨HF.ma "Four" "__mul__", "__mul__", "Four.__mul__", D.s_Four_mul⟩, ⟨HF.ma "Turn" "__mul__", "__mul__", "Turn.__mul__", D.s_Turn_mul⟩, ⟨HF.ga "run", "run", "run", D.s_run⟩, ⟨HF.ga "folding", "folding", "folding", D.s_folding⟩, ⟨HF.ga "foldable", "foldable", "foldable", D.s_foldable⟩, ⟨HF.ga "shortened", "shortened", "shortened", D.s_shortened⟩, ⟨HF.ma "Four" "__eq__", "__eq__", "Four.__eq__", D.s_Four_eq⟩, ⟨HF.ma "Turn" "__eq__", "__eq__", "Turn.__eq__", D.s_Turn_eq⟩, ⟨HF.ga "_law_gcd", "_law_gcd", "_law_gcd", D.s_L_gcd⟩, ⟨HF.ga "_law_gcd_of", "_law_gcd_of", "_law_gcd_of", D.s_L_gcd_of⟩, ⟨HF.ga "_law_content", "_law_content", "_law_content", D.s_L_content⟩, ⟨HF.ga "_law_lowest", "_law_lowest", "_law_lowest", D.s_L_lowest⟩, ⟨HF.ga "_law_times", "_law_times", "_law_times", D.s_L_times⟩, ⟨HF.ga "_law_back", "_law_back", "_law_back", D.s_L_back⟩, ⟨HF.ga "_law_tree_four", "_law_tree_four", "_law_tree_four", D.s_L_tree_four⟩, ⟨HF.ga "_law_same", "_law_same", "_law_same", D.s_L_same⟩, ⟨HF.ga "_law_fold", "_law_fold", "_law_fold", D.s_L_fold⟩, ⟨HF.ga "_law_tree_code", "_law_tree_code", "_law_tree_code", D.s_L_tree_code⟩, ⟨HF.ga "_law_take", "_law_take", "_law_take", D.s_L_take⟩, ⟨HF.ga "_law_halves", "_law_halves", "_law_halves", D.s_L_halves⟩, ⟨HF.ga "_law_pick", "_law_pick", "_law_pick", D.s_L_pick⟩, ⟨HF.ga "_law_tree", "_law_tree", "_law_tree", D.s_L_tree⟩, ⟨HF.ga "_law_four", "_law_four", "_law_four", D.s_L_four⟩, ⟨HF.ga "_law_turn", "_law_turn", "_law_turn", D.s_L_turn⟩, ⟨HF.ga "_law_feed", "_law_feed", "_law_feed", D.s_L_feed⟩]
abbrev R : PySem.W.OpenRow := PySem.W.OpenLaw.row PySem.Challenge.rw_grainmeet_k53_whole_shortened_code
def loose : List Str := ("_wall" : Str) :: ("GrainError" : Str) :: ("Missing" : Str) :: ("InvalidFour" : Str) :: ("InvalidNumber" : Str) :: ("ParseError" : Str) :: ("UnknownName" : Str) :: ("NothingLeft" : Str) :: ("PIECE_DIGITS" : Str) :: ("PIECE" : Str) :: ("is_number" : Str) :: ("common" : Str) :: ("digits_of" : Str) :: ("are_digits" : Str) :: ("number_with" : Str) :: ("LETTERS" : Str) :: ("Four" : Str) :: ("are_halves" : Str) :: ("part_text" : Str) :: ("amount_text" : Str) :: ("halves_told" : Str) :: ("terms_of" : Str) :: ("half_told" : Str) :: ("dotted" : Str) :: ("common_of" : Str) :: ("Turn" : Str) :: ("turn_with" : Str) :: ("lead_of" : Str) :: ("named_turn" : Str) :: ("run" : Str) :: ("last_of" : Str) :: ("shortened" : Str) :: ("foldable" : Str) :: ("folding" : Str) :: ("_law_feed" : Str) :: ("_law_take" : Str) :: ("_law_pick" : Str) :: ("_law_same" : Str) :: ("_law_halves" : Str) :: ("_law_gcd" : Str) :: ("_law_gcd_of" : Str) :: ("_law_times" : Str) :: ("_law_back" : Str) :: ("_law_content" : Str) :: ("_law_lowest" : Str) :: ("_law_four" : Str) :: ("_law_turn" : Str) :: ("_law_tree" : Str) :: ("_law_tree_four" : Str) :: ("_law_tree_code" : Str) :: ("_law_fold" : Str) :: []
def as : List Addr := [0, 1, 2, 3, 4, 5, 6, 7, 8, 9, 10, 33, 34, 35, 37, 38, 53, 54, 55, 57, 58, 162, 163, 164, 169, 170, 171, 205, 206, 207, 242, 243, 244, 245, 258, 259, 260, 263, 264, 265, 275, 276, 277, 296, 297, 298, 303, 304, 305, 310, 311, 312, 317, 318, 319, 328, 329, 336, 337, 338, 395, 396, 397, 432, 433, 434, 435, 472, 473, 474, 479, 480, 481, 486, 487, 488, 497, 498, 507, 508, 509, 514, 515, 516, 521, 522, 523, 528, 529, 530, 535, 536, 537, 542, 543, 544, 547, 548, 549, 554, 555, 556, 561, 562, 563, 568, 569, 570, 575, 576, 577, 580, 581, 582, 587, 588, 589, 594, 595, 596, 601, 602, 603, 608, 609, 610, 615, 616, 617, 620, 621, 622, 625, 626, 627, 632, 633, 634, 639, 640, 641, 646, 647, 648, 653, 654, 655, 660, 661, 662, 667, 668, 669, 674, 675, 676]
theorem run (w : World) : HandSHeadRun.RunEq R (PySem.W.view R.prog [59]) (HF.hookF bs ps as) (HF.obFF bs ps as) 20000 loose w := by
  intro os
  kernel_rfl
end HFx
set_option Elab.async false
set_option linter.all false
set_option maxRecDepth 100000
namespace G
open PySem PySem.Spec PyProof.Rows L2
section
variable {X : Cx} {k : Nat} {C f : Addr} {fd : FuncData} {ps : List Str} {sp : Sp}
end
end G
set_option Elab.async false
set_option linter.all false
set_option maxRecDepth 100000
namespace G
open PySem PySem.W PySem.Spec PyProof.Rows
section
variable {prog : Program} {w : World} {A : Around} {E : Value → Shared → Prop} {s : Shared} {K : Frag} {x C L f : Addr} {h₀ : Heap} {m : Str → Option Value} {ox : Obj} {od : Option Obj} {b : Value}
theorem ifBoundB_K {M : Model} {name : Str} {id T : String} {args : List Value} {Q : Option Value → Shared → Prop} (S : Slot T name id) (X : K.In s.heap) (I : InstAt s.heap x ox C od) (hs : findIn K (.ref C) name = some (some (.builtin id)))
    (h : wpAny M A (call (.builtin id) (.ref x :: args)) (fun v => Q (some v)) E s) : wpAny M A (callSpecialIfBound? (.ref x) name args) Q E s := by
  simp only [callSpecialIfBound?, bindSpecialIfBound?]
  refine wpAny_holding (wpAny_bind (wpAny_bind (wpAny_bind (I.type.here ((looks_findIn X hs).here ?_)))))
  simp only [S.bind]
  refine wpAny_bind (wpAny_askSetting (wpAny_ite ?_))
  have fin : wpAny M A (call (.builtin id) ([.ref x] ++ args) >>= fun v => pure (some v)) Q E s := wpAny_bind (wpAny_mono h (fun v s' h' => wpAny_pure h') fun _ _ h' => h')
  split
  · exact wpAny_bind (wpAny_pure (wpAny_pure fin))
  · exact wpAny_tryCatch (wpAny_bind (wpAny_pure (wpAny_pure fin)))
theorem objNe_K {Q : Fin → Shared → Prop} (X : K.In s.heap) (I : InstAt s.heap x ox C od) (hs : findIn K (.ref C) "__eq__" = some (some (.ref f))) (hf : isFn K (.ref f) = true) (hu : A.units < cLine)
    (h : wpAny (model prog w) A (call (.ref f) [.ref x, b]) (fun v s' => ∃ r, v = .bool r ∧ Q (.done (.ret (.bool (!r)))) s') E s) : wpAny (model prog w) A (Builtin.«object.__ne__» ⟨[.ref x, b], []⟩) Q E s := by
  unfold Builtin.«object.__ne__»
  repeat (first
    | with_reducible refine wpAny_cRoomFor hu ?_
    | (refine wpAny_bind (m := callSpecialIfBound? (.ref x) (Str.ofString "__eq__") [b])
        (ifBound_K X I hs hf (wpAny_mono h (fun r s' hr => by
          obtain ⟨r, rfl, hq⟩ := hr
          repeat (first | exact hq | exact wpAny_pure hq | exact wpAny_truthy_bool hq | (refine wpAny_bind (m := truthy (.bool _)) (wpAny_truthy_bool ?_)) | wp_step)) fun _ _ e => e)))
    | wp_step)
theorem ne_K {Q : Value → Shared → Prop} (hu : A.units + 1 < cLine) (FR : Fr h₀ L s.heap m) (X₀ : K.In h₀) (I : InstAt s.heap x ox C od) (hb : Looks (model prog w) s.heap (typeOf b) (.ref C)) (hm : mroIn K C (.type "object") = some true)
    (hne : findIn K (.ref C) "__ne__" = some (some (.builtin "object.__ne__"))) (hs : findIn K (.ref C) "__eq__" = some (some (.ref f))) (hf : isFn K (.ref f) = true)
    (h : wpAny (model prog w) A.in1 (call (.ref f) [.ref x, b]) (fun v s' => ∃ r, v = .bool r ∧ Q (.bool (!r)) s') E s) : wpAny (model prog w) A (richCompare .NotEq (.ref x) b) Q E s := by
  have X := X₀.keeps FR.keep
  have hin : Looks (model prog w) s.heap (isInstance (.ref x) (.type "object")) true := I.type.andThen (looks_mroIn X hm)
  have S := F.cmp_object.ne
  have one : wpAny (model prog w) A (tryCompare (.ref x) "__ne__" b) (fun r s' => ∃ v, r = some v ∧ Q v s') E s := by
    unfold tryCompare
    refine wpAny_bind (ifBoundB_K S X I hne (wpAny_call (codeAny_call_builtin S.plain F.cmpEntry_ne (check_slot F.cmpKind_ne F.cmpSplit_ne hin (F.cmpArgs_ne _ _) ?_))))
    refine objNe_K X I hs hf hu (wpAny_mono h (fun v s' hv => ?_) fun _ _ e => e)
    obtain ⟨r, rfl, hq⟩ := hv
    exact ⟨r, rfl, wpAny_pure ⟨_, rfl, hq⟩⟩
  unfold richCompare
  simp only [oneThing_ref]
  refine wpAny_holding (wpAny_bind (wpAny_cRoomFor (Nat.lt_of_succ_lt hu) ?_))
  refine wpAny_bind (I.type.here (wpAny_bind (hb.here ?_)))
  rw [cmpInfo_NotEq]
  dsimp only
  rw [show (Value.ref C != Value.ref C) = false from by simp]
  simp only [Bool.false_eq_true, if_false]
  refine wpAny_bind (wpAny_pure ?_)
  simp only [Bool.false_eq_true, if_false]
  refine wpAny_bind (wpAny_mono one (fun r s' z => ?_) fun _ _ e => e)
  obtain ⟨v, rfl, hq⟩ := z
  exact wpAny_pure hq
end
end G
namespace G
open PySem PySem.Spec PyProof.Rows L2
section
variable {X : Cx} {k : Nat} {C f : Addr} {fd : FuncData} {ps : List Str} {sp : Sp}
end
end G
set_option Elab.async false
set_option linter.all false
set_option maxRecDepth 100000
namespace G
open PySem PySem.Spec PyProof.Rows L2 ClX
structure SMet (K : PySem.W.Frag) (C : Addr) (mc : Value) (m : Str) (p g : Addr) : Prop where
  rd : PySem.W.readsIn K C mc = true
  ty : PySem.W.typeIn K (.ref C) = some mc
  ga : PySem.W.specialIn K (.ref C) "__getattribute__" = some (some (.builtin "type.__getattribute__"))
  at_ : PySem.W.findCls K (.ref C) mc m = some (.get (.builtin "staticmethod.__get__") (.ref p) .none (.ref C))
  rc : ∃ rest, PySem.W.recIn K p "staticmethod" = some (.ref g :: rest)
  kp : PySem.W.keepIn K (.ref g) = true
section
variable {X : Cx} {k : Nat} {C p g : Addr} {mc : Value} {m : Str} {fd : FuncData} {ps : List Str} {sp : Sp} {o e : Expr} {es : List Expr} {ta : TE} {t : TA} {apos pos : Pos} {pl : Sem Bool}
end
structure MethOk (P : Program) (w : World) (K : PySem.W.Frag) (mg : Str → Option Value) (base : Heap) (C : Addr) (m : Str) (k : Nat) (ps : List Str) (sp : Sp) : Prop where
  ex : ∃ (f : Addr) (fd : FuncData), FnOk P w K mg base CX0 k f fd ps sp ∧ Meth K C m f ∧ Binds K fd ps []
structure PropOk (P : Program) (w : World) (K : PySem.W.Frag) (mg : Str → Option Value) (base : Heap) (C : Addr) (m : Str) (k : Nat) (ps : List Str) (sp : Sp) : Prop where
  ex : ∃ (p g : Addr) (fd : FuncData), FnOk P w K mg base CX0 k g fd ps sp ∧ PropOf K C m p g ∧ Binds K fd ps []
structure StatOk (P : Program) (w : World) (K : PySem.W.Frag) (mg : Str → Option Value) (base : Heap) (C : Addr) (m : Str) (k : Nat) (ps : List Str) (sp : Sp) : Prop where
  ex : ∃ (mc : Value) (p g : Addr) (fd : FuncData), FnOk P w K mg base CX0 k g fd ps sp ∧ SMet K C mc m p g ∧ Binds K fd ps []
structure ClsFacts (K : PySem.W.Frag) (mg : Str → Option Value) (x : Str) (C : Addr) : Prop where
  cl : Cls K C
  mgC : mg x = some (.ref C)
  sf : PySem.W.selfFirst K C = true
  mr : PySem.W.mroIn K C (.type "object") = some true
section
variable {X : Cx} {k : Nat} {C : Addr} {x m : Str} {ps : List Str} {sp : Sp} {o e : Expr} {es : List Expr} {ta : TE} {t : TA} {apos pos : Pos} {pl : Sem Bool}
end
end G
set_option Elab.async false
set_option linter.all false
set_option maxRecDepth 100000
namespace G
open PySem PySem.SeqAt
open AutoSeq1 (wpAny_loadPart')
open MeetsSeq MeetsSeq2 MeetsSeq3 SeqRoads2
section
variable {prog : Program} {w : World} {A : Around} {R : Result → Shared → Prop}
end
end G
namespace G
open PySem PySem.Spec PyProof.Rows L2
end G
set_option Elab.async false
set_option linter.all false
set_option maxRecDepth 100000
namespace G
open PySem PySem.Spec PySem.Calls PyProof.Rows L2
section
variable {X : Cx} {k : Nat} {C : Addr} {ps : List Str} {sp : Sp}
theorem inst_of {pins : List (Addr × Obj)} {σ : L2.St} {H : Hp} {s : Shared} {a dx : Addr} {fs : List (Str × V)} (I : Inv X pins σ H s) (h : H a = some (.ins C dx fs)) : ∃ ox od, PySem.W.InstAt s.heap a ox C od ∧ ox.data = .plain := by
  obtain ⟨m, J, _⟩ := ins_get I.hok h
  obtain ⟨od, J, _⟩ := J.look
  exact ⟨_, _, J, rfl⟩
end
end G
set_option Elab.async false
set_option linter.all false
set_option maxRecDepth 100000
namespace D
open PySem PySem.Spec PyProof.Rows L2
structure Lm where
  q : Str
  d : Bool
  o : Addr → Addr → Addr → HO
inductive Dt where
  | non | bl (b : Bool) | int (i : Int) | str (x : Str)
  | lst (l : List Dt) | tup (l : List Dt)
  | obj (C : Addr) (ns : List Str) (l : List Dt)
  | dic (ks : List Key) (l : List Dt)
  | val (v : V)
  | scr (ns : List Int)
  | lam (L : Lm)
def KTup (K : PySem.W.Frag) (a : Addr) (xs : List V) : Prop := ∃ (o : Obj) (its : Array Value) (n : Nat), K.lookup a = some o ∧ o.cls = .type "tuple" ∧ o.data = .seq its n ∧ its.size ≤ sizeLine ∧ Vals xs its.toList
section
variable (K : PySem.W.Frag) (S : Addr → Prop) (H : Hp)
mutual
def Rep : Dt → V → Prop
  | .non, v => v = .non
  | .bl b, v => v = .bl b
  | .int i, v => v = .int i
  | .str x, v => v = .str x
  | .lst l, v => ∃ a vs, v = .ref a ∧ H a = some (.lst vs) ∧ S a ∧ Reps l vs
  | .tup l, v => ∃ a vs, v = .ref a ∧ ((H a = some (.tup vs) ∧ S a) ∨ KTup K a vs) ∧ Reps l vs
  | .obj C ns l, v => ∃ a dx vs, v = .ref a ∧ H a = some (.ins C dx (ns.zip vs)) ∧ S a ∧ Reps l vs ∧ ns.length = l.length
  | .dic ks l, v => ∃ a vs, v = .ref a ∧ H a = some (.dK (ks.zip vs)) ∧ S a ∧ Reps l vs ∧ ks.length = l.length
  | .val u, v => v = u
  | .scr ns, v => ∃ a, v = .ref a ∧ ((S a ∧ (∃ o, H a = some o) ∧ SqL K H a (ns.map V.int)) ∨ ∀ H', SqL K H' a (ns.map V.int))
  | .lam L, v => ∃ f c t, v = .ref f ∧ (H f = some (L.o f c t) ∧ S f) ∧ (H c = some (LamX.CodeO c L.q) ∧ S c) ∧ (L.d = true → H t = some (.tup [.int 0]) ∧ S t)
def Reps : List Dt → List V → Prop
  | [], vs => vs = []
  | d :: l, vs => ∃ v r, vs = v :: r ∧ Rep d v ∧ Reps l r
end
end
inductive Ow where
  | lst (l : List Dt) | dic (ks : List Key) (l : List Dt) | ins (C : Addr) (ns : List Str) (l : List Dt)
  /-- the table of code objects at P, each of the name q -/
  | tab (P : Addr) (q : Str)
def Ow.frz : Ow → Dt
  | .lst l => .lst l
  | .dic ks l => .dic ks l
  | .ins C ns l => .obj C ns l
  | .tab P _ => .val (.ref P)
structure Xc where
  C : Addr
  ns : List Str
  l : List Dt
inductive En where
  | emp | dat (d : Dt) | own (w : Ow) | exc (a d : Addr) (x : Xc)
inductive Res where
  | dat (d : Dt) | new (w : Ow) | ref (i : Nat)
section
variable (K : PySem.W.Frag) (S : Addr → Prop) (H : Hp)
def RepO : Ow → Addr → Prop
  | .lst l, p => ∃ vs, H p = some (.lst vs) ∧ Reps K S H l vs
  | .dic ks l, p => ∃ vs, H p = some (.dK (ks.zip vs)) ∧ Reps K S H l vs ∧ ks.length = l.length
  | .ins C ns l, p => ∃ dx vs, H p = some (.ins C dx (ns.zip vs)) ∧ Reps K S H l vs ∧ ns.length = l.length
  | .tab P q, p => p = P ∧ ∃ ps : Array Value, H P = some (.tbl ps) ∧ TriplesOk ps.toList ∧ ∀ (pos : Pos) (cv : Value), codeAmong pos ps.toList = some cv → ∃ c, cv = .ref c ∧ H c = some (LamX.CodeO c q) ∧ S c
end
def RepX (K : PySem.W.Frag) (S : Addr → Prop) (H : Hp) (x : Xc) (d : Addr) : Prop := ∃ vs, H d = some (.xd (x.ns.zip vs)) ∧ S d ∧ Reps K S H x.l vs ∧ x.ns.length = x.l.length
structure Ct where
  H0 : Hp
  S0 : Addr → Prop
  P : Nat → Option Addr
def OwnA (ρ : List En) (σ : L2.St) (a : Addr) : Prop := ∃ (i : Nat) (w : Ow), ρ[i]? = some (.own w) ∧ σ[i]? = some (some (.ref a))
structure Ok (K : PySem.W.Frag) (c : Ct) (ρ : List En) (σ : L2.St) (H : Hp) (S : Addr → Prop) : Prop where
  len : ρ.length = σ.length
  dat : ∀ (i : Nat) (d : Dt), ρ[i]? = some (.dat d) → ∃ v, σ[i]? = some (some v) ∧ Rep K S H d v
  own : ∀ (i : Nat) (w : Ow), ρ[i]? = some (.own w) → ∃ p, σ[i]? = some (some (.ref p)) ∧ RepO K S H w p ∧ ¬ S p ∧ (∀ q, c.P i = some q → p = q) ∧ (c.P i = none → c.H0 p = none)
  exc : ∀ (i : Nat) (a d : Addr) (x : Xc), ρ[i]? = some (.exc a d x) → σ[i]? = some (some (.ref a)) ∧ RepX K S H x d
  inj : ∀ (i j : Nat) (w w' : Ow) (p : Addr), ρ[i]? = some (.own w) → ρ[j]? = some (.own w') → σ[i]? = some (some (.ref p)) → σ[j]? = some (some (.ref p)) → i = j
  trk : ∀ i q, c.P i = some q → ∃ o, H q = some o
  fr : ∀ a o, c.H0 a = some o → (∀ i, c.P i ≠ some a) → H a = some o
  st : ∀ a, S a → ∃ o, H a = some o
  s0 : ∀ a, c.S0 a → S a
  s1 : ∀ a, S a → c.S0 a ∨ c.H0 a = none ∨ ∃ i, c.P i = some a
structure Step (K : PySem.W.Frag) (c : Ct) (σ : L2.St) (ρ : List En) (H : Hp) (S : Addr → Prop) (ρ' : List En) (H' : Hp) (S' : Addr → Prop) : Prop where
  ok : Ok K c ρ' σ H' S'
  fr : ∀ a o, H a = some o → ¬ OwnA ρ σ a → H' a = some o
  tr : ∀ a o, H a = some o → ∃ o', H' a = some o'
  s0 : ∀ a, S a → S' a
  s1 : ∀ a, S' a → S a ∨ H a = none ∨ OwnA ρ σ a
  ow : ∀ a, OwnA ρ' σ a → OwnA ρ σ a
def RepR (K : PySem.W.Frag) (σ : L2.St) (H H' : Hp) (S' : Addr → Prop) : Res → V → Prop
  | .dat d, v => Rep K S' H' d v
  | .new w, v => ∃ p, v = .ref p ∧ H p = none ∧ ¬ S' p ∧ RepO K S' H' w p
  | .ref i, v => σ[i]? = some (some v)
theorem SqL_at {K : PySem.W.Frag} {H H' : Hp} {a : Addr} {xs : List V} (e : H a = H' a) (h : SqL K H a xs) : SqL K H' a xs := by
  unfold SqL Rd at *
  rw [← e]
  exact h
section
variable {K : PySem.W.Frag} {S S' : Addr → Prop} {H H' : Hp}
mutual
theorem Rep.mono (h : ∀ a o, S a → H a = some o → S' a ∧ H' a = some o) : ∀ (d : Dt) (v : V), Rep K S H d v → Rep K S' H' d v
  | .non, _, e => e
  | .bl _, _, e => e
  | .int _, _, e => e
  | .str _, _, e => e
  | .lst l, _, ⟨a, vs, e, ha, sa, r⟩ => ⟨a, vs, e, (h _ _ sa ha).2, (h _ _ sa ha).1, Reps.mono h l vs r⟩
  | .tup l, _, ⟨a, vs, e, ha, r⟩ => ⟨a, vs, e, ha.imp (fun q => ⟨(h _ _ q.2 q.1).2, (h _ _ q.2 q.1).1⟩) id, Reps.mono h l vs r⟩
  | .obj C ns l, _, ⟨a, dx, vs, e, ha, sa, r, n⟩ => ⟨a, dx, vs, e, (h _ _ sa ha).2, (h _ _ sa ha).1, Reps.mono h l vs r, n⟩
  | .dic ks l, _, ⟨a, vs, e, ha, sa, r, n⟩ => ⟨a, vs, e, (h _ _ sa ha).2, (h _ _ sa ha).1, Reps.mono h l vs r, n⟩
  | .val _, _, e => e
  | .scr ns, _, ⟨a, e, q⟩ => ⟨a, e, q.imp (fun ⟨sa, ⟨o, ho⟩, sq⟩ => ⟨(h _ _ sa ho).1, ⟨o, (h _ _ sa ho).2⟩, SqL_at (ho.trans (h _ _ sa ho).2.symm) sq⟩) id⟩
  | .lam L, _, ⟨f, c, z, e, ⟨e1, s1⟩, ⟨e2, s2⟩, e3⟩ => ⟨f, c, z, e, (h _ _ s1 e1).symm, (h _ _ s2 e2).symm, fun q => (h _ _ (e3 q).2 (e3 q).1).symm⟩
theorem Reps.mono (h : ∀ a o, S a → H a = some o → S' a ∧ H' a = some o) : ∀ (l : List Dt) (vs : List V), Reps K S H l vs → Reps K S' H' l vs
  | [], _, e => e
  | d :: l, _, ⟨v, r, e, h1, h2⟩ => ⟨v, r, e, Rep.mono h d v h1, Reps.mono h l r h2⟩
end
theorem RepO.mono {w : Ow} {p : Addr} (h : ∀ a o, S a → H a = some o → S' a ∧ H' a = some o) (hp : H' p = H p) (r : RepO K S H w p) : RepO K S' H' w p := by
  cases w with
  | lst l => obtain ⟨vs, e, r⟩ := r; exact ⟨vs, hp.trans e, Reps.mono h _ _ r⟩
  | dic ks l => obtain ⟨vs, e, r, n⟩ := r; exact ⟨vs, hp.trans e, Reps.mono h _ _ r, n⟩
  | ins C ns l => obtain ⟨dx, vs, e, r, n⟩ := r; exact ⟨dx, vs, hp.trans e, Reps.mono h _ _ r, n⟩
  | tab P q =>
    obtain ⟨rfl, ps, e, t, z⟩ := r
    refine ⟨rfl, ps, hp.trans e, t, fun pos cv u => ?_⟩
    obtain ⟨c, e1, e2, e3⟩ := z pos cv u
    exact ⟨c, e1, (h _ _ e3 e2).2, (h _ _ e3 e2).1⟩
theorem RepX.mono {x : Xc} {d : Addr} (h : ∀ a o, S a → H a = some o → S' a ∧ H' a = some o) (r : RepX K S H x d) : RepX K S' H' x d := by
  obtain ⟨vs, e, s, r, n⟩ := r
  exact ⟨vs, (h _ _ s e).2, (h _ _ s e).1, Reps.mono h _ _ r, n⟩
theorem RepO.trk {w : Ow} {p : Addr} (r : RepO K S H w p) : ∃ o, H p = some o := by
  cases w with
  | lst l => obtain ⟨vs, e, r⟩ := r; exact ⟨_, e⟩
  | dic ks l => obtain ⟨vs, e, r, n⟩ := r; exact ⟨_, e⟩
  | ins C ns l => obtain ⟨dx, vs, e, r, n⟩ := r; exact ⟨_, e⟩
  | tab P q => obtain ⟨rfl, ps, e, _⟩ := r; exact ⟨_, e⟩
theorem RepO.frz {w : Ow} {p : Addr} (r : RepO K S H w p) : Rep K (fun a => S a ∨ a = p) H w.frz (.ref p) := by
  have m : ∀ a o, S a → H a = some o → (S a ∨ a = p) ∧ H a = some o := fun a o s e => ⟨.inl s, e⟩
  cases w with
  | lst l => obtain ⟨vs, e, r⟩ := r; exact ⟨p, vs, rfl, e, .inr rfl, Reps.mono m _ _ r⟩
  | dic ks l => obtain ⟨vs, e, r, n⟩ := r; exact ⟨p, vs, rfl, e, .inr rfl, Reps.mono m _ _ r, n⟩
  | ins C ns l => obtain ⟨dx, vs, e, r, n⟩ := r; exact ⟨p, dx, vs, rfl, e, .inr rfl, Reps.mono m _ _ r, n⟩
  | tab P q => obtain ⟨rfl, _⟩ := r; rfl
theorem Reps.length : ∀ {l : List Dt} {vs : List V}, Reps K S H l vs → vs.length = l.length
  | [], _, e => by rw [e]; rfl
  | d :: l, _, ⟨v, r, e, h1, h2⟩ => by rw [e, List.length_cons, List.length_cons, Reps.length h2]
theorem Reps.get : ∀ {l : List Dt} {vs : List V} {i : Nat} {d : Dt}, Reps K S H l vs → l[i]? = some d → ∃ v, vs[i]? = some v ∧ Rep K S H d v
  | [], _, _, _, _, e => by simp at e
  | d :: l, _, 0, _, ⟨v, r, e, h1, h2⟩, q => by simp at q; subst q; exact ⟨v, by rw [e]; rfl, h1⟩
  | d :: l, _, i + 1, _, ⟨v, r, e, h1, h2⟩, q => by
    obtain ⟨v', q1, q2⟩ := Reps.get h2 (by simpa using q)
    exact ⟨v', by rw [e]; simpa using q1, q2⟩
theorem Reps.append : ∀ {l m : List Dt} {vs us : List V}, Reps K S H l vs → Reps K S H m us → Reps K S H (l ++ m) (vs ++ us)
  | [], _, _, _, e, q => by rw [e]; exact q
  | d :: l, _, _, _, ⟨v, r, e, h1, h2⟩, q => by rw [e]; exact ⟨v, _, rfl, h1, Reps.append h2 q⟩
theorem Reps.set {d : Dt} {v : V} (h : Rep K S H d v) : ∀ {l : List Dt} {vs : List V} (i : Nat), Reps K S H l vs → Reps K S H (l.set i d) (vs.set i v)
  | [], _, i, e => by rw [e]; cases i <;> rfl
  | _ :: l, _, 0, ⟨v', r, e, h1, h2⟩ => by rw [e]; exact ⟨_, _, rfl, h, h2⟩
  | _ :: l, _, i + 1, ⟨v', r, e, h1, h2⟩ => by rw [e]; exact ⟨_, _, rfl, h1, Reps.set h i h2⟩
theorem Reps.take : ∀ {l : List Dt} {vs : List V} (n : Nat), Reps K S H l vs → Reps K S H (l.take n) (vs.take n)
  | _, _, 0, _ => rfl
  | [], _, n + 1, e => by rw [e]; rfl
  | d :: l, _, n + 1, ⟨v, r, e, h1, h2⟩ => by rw [e]; exact ⟨v, _, rfl, h1, Reps.take n h2⟩
theorem Reps.drop : ∀ {l : List Dt} {vs : List V} (n : Nat), Reps K S H l vs → Reps K S H (l.drop n) (vs.drop n)
  | _, _, 0, e => e
  | [], _, n + 1, e => by rw [e]; rfl
  | d :: l, _, n + 1, ⟨v, r, e, h1, h2⟩ => by rw [e]; exact Reps.drop n h2
theorem Reps.ints : ∀ {ns : List Int} {vs : List V}, Reps K S H (ns.map .int) vs ↔ vs = ns.map V.int
  | [], _ => Iff.rfl
  | n :: ns, vs => by
    constructor
    · rintro ⟨v, r, e, h1, h2⟩
      rw [e, Reps.ints.mp h2, show v = .int n from h1]; rfl
    · intro e
      exact ⟨_, _, e, rfl, Reps.ints.mpr rfl⟩
theorem Reps.bls : ∀ {ns : List Bool} {vs : List V}, Reps K S H (ns.map .bl) vs ↔ vs = ns.map V.bl
  | [], _ => Iff.rfl
  | n :: ns, vs => by
    constructor
    · rintro ⟨v, r, e, h1, h2⟩
      rw [e, Reps.bls.mp h2, show v = .bl n from h1]; rfl
    · intro e
      exact ⟨_, _, e, rfl, Reps.bls.mpr rfl⟩
theorem Rep.tupT {l : List Dt} {v : V} (h : Rep K S H (.tup l) v) : ∃ a vs, v = .ref a ∧ SqT K H a vs ∧ Reps K S H l vs := by
  obtain ⟨a, vs, e, h, r⟩ := h
  exact ⟨a, vs, e, h.elim (fun q => .inl (.inl q.1)) .inr, r⟩
end
section
variable {K : PySem.W.Frag} {c : Ct} {σ : L2.St} {ρ ρ' ρ2 : List En} {H H' H2 : Hp} {S S' S2 : Addr → Prop}
theorem Ok.nown (k : Ok K c ρ σ H S) {a : Addr} (s : S a) : ¬ OwnA ρ σ a := by
  rintro ⟨i, w, h1, h2⟩
  obtain ⟨p, e, _, n, _⟩ := k.own i w h1
  rw [e] at h2; cases h2
  exact n s
theorem Ok.otrk (k : Ok K c ρ σ H S) {a : Addr} (h : OwnA ρ σ a) : ∃ o, H a = some o := by
  obtain ⟨i, w, h1, h2⟩ := h
  obtain ⟨p, e, r, _⟩ := k.own i w h1
  rw [e] at h2; cases h2
  exact r.trk
theorem Step.refl (k : Ok K c ρ σ H S) : Step K c σ ρ H S ρ H S := ⟨k, fun _ _ e _ => e, fun _ o e => ⟨o, e⟩, fun _ s => s, fun _ s => .inl s, fun _ o => o⟩
theorem Step.trans (a : Step K c σ ρ H S ρ' H' S') (b : Step K c σ ρ' H' S' ρ2 H2 S2) : Step K c σ ρ H S ρ2 H2 S2 := by
  refine ⟨b.ok, fun x o e n => b.fr x o (a.fr x o e n) fun q => n (a.ow _ q), fun x o e => (a.tr x o e).elim fun o' e' => b.tr x o' e', fun x s => b.s0 _ (a.s0 _ s), fun x s => ?_, fun x o => a.ow _ (b.ow _ o)⟩
  rcases b.s1 x s with s | s | s
  · exact a.s1 _ s
  · by_cases h : OwnA ρ σ x
    · exact .inr (.inr h)
    · cases e : H x with
      | none => exact .inr (.inl rfl)
      | some o => rw [a.fr x o e h] at s; cases s
  · exact .inr (.inr (a.ow _ s))
theorem Step.car (a : Step K c σ ρ H S ρ' H' S') (k : Ok K c ρ σ H S) : ∀ x o, S x → H x = some o → S' x ∧ H' x = some o := fun x o s e => ⟨a.s0 _ s, a.fr _ _ e (k.nown s)⟩
theorem Step.rep {d : Dt} {v : V} (a : Step K c σ ρ H S ρ' H' S') (k : Ok K c ρ σ H S) (h : Rep K S H d v) : Rep K S' H' d v := Rep.mono (a.car k) _ _ h
theorem Step.reps {d : List Dt} {v : List V} (a : Step K c σ ρ H S ρ' H' S') (k : Ok K c ρ σ H S) (h : Reps K S H d v) : Reps K S' H' d v := Reps.mono (a.car k) _ _ h
theorem Step.gone (a : Step K c σ ρ H S ρ' H' S') {x : Addr} (h : H' x = none) : H x = none := by
  cases e : H x with
  | none => rfl
  | some o => obtain ⟨o', q⟩ := a.tr x o e; rw [q] at h; cases h
theorem RepR.held {r : Res} {v : V} {H0 : Hp} (a : Step K c σ ρ H S ρ' H' S') (k : Ok K c ρ σ H S) (h : RepR K σ H0 H S r v) (hn : ∀ x, H0 x = none → ¬ OwnA ρ σ x) : RepR K σ H0 H' S' r v := by
  cases r with
  | dat d => exact a.rep k h
  | ref i => exact h
  | new w =>
    obtain ⟨p, e, h0, n, r⟩ := h
    obtain ⟨o, q⟩ := r.trk
    have q' := a.fr p o q (hn p h0)
    refine ⟨p, e, h0, fun s => ?_, r.mono (a.car k) (q'.trans q.symm)⟩
    rcases a.s1 p s with s | s | s
    · exact n s
    · rw [q] at s; cases s
    · exact hn p h0 s
end
end D
set_option Elab.async false
set_option linter.all false
set_option maxRecDepth 100000
namespace D
open PySem PySem.Spec PyProof.Rows L2
section
variable {K : PySem.W.Frag} {c : Ct} {σ : L2.St} {ρ ρ' ρ2 : List En} {H H' H2 : Hp} {S S' S2 : Addr → Prop}
theorem set_some {α : Type} {l : List α} {i j : Nat} {x y : α} (h : (l.set i x)[j]? = some y) : (i = j ∧ x = y ∧ j < l.length) ∨ (i ≠ j ∧ l[j]? = some y) := by
  by_cases e : i = j
  · subst e
    by_cases q : i < l.length
    · rw [List.getElem?_set_self q] at h; exact .inl ⟨rfl, Option.some.inj h, q⟩
    · rw [List.getElem?_eq_none (by simpa using q)] at h; cases h
  · rw [List.getElem?_set_ne e] at h; exact .inr ⟨e, h⟩
theorem Ok.put (k : Ok K c ρ σ H S) {i : Nat} {e : En} {o : Option V} (he : ∀ w, e ≠ .own w) (h1 : ∀ d, e = .dat d → ∃ v, o = some v ∧ Rep K S H d v) (h2 : ∀ a d x, e = .exc a d x → o = some (.ref a) ∧ RepX K S H x d) : Ok K c (ρ.set i e) (σ.set i o) H S := by
  refine ⟨by simpa using k.len, fun j d q => ?_, fun j w q => ?_, fun j a d x q => ?_, fun j j' w w' p q q' r r' => ?_, k.trk, k.fr, k.st, k.s0, k.s1⟩
  · rcases set_some q with ⟨e1, e2, l⟩ | ⟨n, q⟩
    · subst e1
      obtain ⟨v, e3, r⟩ := h1 d e2
      exact ⟨v, by rw [List.getElem?_set_self (by rw [← k.len]; exact l), e3], r⟩
    · rw [List.getElem?_set_ne n]; exact k.dat j d q
  · rcases set_some q with ⟨e1, e2, l⟩ | ⟨n, q⟩
    · exact absurd e2 (he w)
    · rw [List.getElem?_set_ne n]; exact k.own j w q
  · rcases set_some q with ⟨e1, e2, l⟩ | ⟨n, q⟩
    · subst e1
      obtain ⟨e3, r⟩ := h2 a d x e2
      exact ⟨by rw [List.getElem?_set_self (by rw [← k.len]; exact l), e3], r⟩
    · rw [List.getElem?_set_ne n]; exact k.exc j a d x q
  · rcases set_some q with ⟨e1, e2, l⟩ | ⟨n, q⟩
    · exact absurd e2 (he w)
    · rcases set_some q' with ⟨e1, e2, l⟩ | ⟨n', q'⟩
      · exact absurd e2 (he w')
      · rw [List.getElem?_set_ne n] at r; rw [List.getElem?_set_ne n'] at r'
        exact k.inj j j' w w' p q q' r r'
theorem Ok.putD (k : Ok K c ρ σ H S) {i : Nat} {d : Dt} {v : V} (h : Rep K S H d v) : Ok K c (ρ.set i (.dat d)) (σ.set i (some v)) H S := by
  refine k.put (fun w q => by cases q) (fun d' q => ?_) (fun a d x q => by cases q)
  cases q
  exact ⟨v, rfl, h⟩
theorem Ok.wipe (k : Ok K c ρ σ H S) {i : Nat} : Ok K c (ρ.set i .emp) (σ.set i none) H S := k.put (fun w q => by cases q) (fun d' q => by cases q) (fun a d x q => by cases q)
theorem Ok.putO (k : Ok K c ρ σ H S) {i : Nat} {w : Ow} {p : Addr} (hP : c.P i = none) (h : RepO K S H w p) (hs : ¬ S p) (h0 : c.H0 p = none) (hn : ¬ OwnA ρ σ p) : Ok K c (ρ.set i (.own w)) (σ.set i (some (.ref p))) H S := by
  refine ⟨by simpa using k.len, fun j d q => ?_, fun j w' q => ?_, fun j a d x q => ?_, fun j j' w1 w2 p' q q' r r' => ?_, k.trk, k.fr, k.st, k.s0, k.s1⟩
  · rcases set_some q with ⟨e1, e2, l⟩ | ⟨n, q⟩
    · cases e2
    · rw [List.getElem?_set_ne n]; exact k.dat j d q
  · rcases set_some q with ⟨e1, e2, l⟩ | ⟨n, q⟩
    · cases e2
      subst e1
      exact ⟨p, List.getElem?_set_self (by rw [← k.len]; exact l), h, hs, fun q e => (by rw [hP] at e; cases e), fun _ => h0⟩
    · rw [List.getElem?_set_ne n]; exact k.own j w' q
  · rcases set_some q with ⟨e1, e2, l⟩ | ⟨n, q⟩
    · cases e2
    · rw [List.getElem?_set_ne n]; exact k.exc j a d x q
  · have one : ∀ {m : Nat} {wm : Ow}, i ≠ m → ρ[m]? = some (.own wm) → σ[m]? = some (some (.ref p')) → p' ≠ p := fun {m wm} _ q r e => hn ⟨m, wm, q, by rw [e] at r; exact r⟩
    rcases set_some q with ⟨e1, e2, l⟩ | ⟨n, q⟩
    · subst e1
      rw [List.getElem?_set_self (by rw [← k.len]; exact l)] at r
      rcases set_some q' with ⟨e1, _, _⟩ | ⟨n', q'⟩
      · exact e1
      · rw [List.getElem?_set_ne n'] at r'
        cases r
        exact absurd rfl (one n' q' r')
    · rw [List.getElem?_set_ne n] at r
      rcases set_some q' with ⟨e1, e2, l⟩ | ⟨n', q'⟩
      · subst e1
        rw [List.getElem?_set_self (by rw [← k.len]; exact l)] at r'
        cases r'
        exact absurd rfl (one n q r)
      · rw [List.getElem?_set_ne n'] at r'
        exact k.inj j j' w1 w2 p' q q' r r'
theorem Ok.over (k : Ok K c ρ σ H S) (m : ∀ a o, S a → H a = some o → S' a ∧ H' a = some o) (ho : ∀ a, OwnA ρ σ a → H' a = H a ∧ ¬ S' a) (tr : ∀ a o, H a = some o → ∃ o', H' a = some o') (fr : ∀ a o, c.H0 a = some o → (∀ i, c.P i ≠ some a) → H a = some o → H' a = some o)
    (st : ∀ a, S' a → ∃ o, H' a = some o) (s0 : ∀ a, S a → S' a) (s1 : ∀ a, S' a → S a ∨ c.H0 a = none ∨ ∃ i, c.P i = some a) : Ok K c ρ σ H' S' := by
  refine ⟨k.len, fun i d q => ?_, fun i w q => ?_, fun i a d x q => ?_, k.inj, fun i q e => ?_, fun a o e n => fr a o e n (k.fr a o e n), st, fun a s => s0 _ (k.s0 a s), fun a s => ?_⟩
  · obtain ⟨v, e, r⟩ := k.dat i d q
    exact ⟨v, e, Rep.mono m _ _ r⟩
  · obtain ⟨p, e, r, n, h1, h2⟩ := k.own i w q
    have h := ho p ⟨i, w, q, e⟩
    exact ⟨p, e, r.mono m h.1, h.2, h1, h2⟩
  · obtain ⟨e, r⟩ := k.exc i a d x q
    exact ⟨e, r.mono m⟩
  · obtain ⟨o, h⟩ := k.trk i q e
    exact tr _ _ h
  · rcases s1 a s with s | s | s
    · exact k.s1 a s
    · exact .inr (.inl s)
    · exact .inr (.inr s)
theorem Ok.free0 (k : Ok K c ρ σ H S) {p : Addr} (h : H p = none) : c.H0 p = none := by
  cases e : c.H0 p with
  | none => rfl
  | some o =>
    by_cases q : ∃ i, c.P i = some p
    · obtain ⟨i, q⟩ := q
      obtain ⟨o, z⟩ := k.trk i p q
      rw [z] at h; cases h
    · rw [k.fr p o e fun i z => q ⟨i, z⟩] at h; cases h
theorem Ok.nown0 (k : Ok K c ρ σ H S) {p : Addr} (h : H p = none) : ¬ OwnA ρ σ p := fun q => by
  obtain ⟨o, e⟩ := k.otrk q
  rw [e] at h; cases h
theorem Step.lay (k : Ok K c ρ σ H S) {p : Addr} {o : HO} (h : H p = none) : Step K c σ ρ H S ρ (upd H p o) S := by
  have up : ∀ a x, H a = some x → upd H p o a = some x := fun a x e => by rw [upd_ne (ne_of_none e h)]; exact e
  refine ⟨k.over (fun a x s e => ⟨s, up a x e⟩) (fun a q => ?_) (fun a x e => ⟨x, up a x e⟩) (fun a x _ _ e => up a x e) (fun a s => (k.st a s).elim fun x e => ⟨x, up a x e⟩) (fun a s => s) (fun a s => .inl s), fun a x e _ => up a x e, fun a x e => ⟨x, up a x e⟩, fun _ s => s, fun _ s => .inl s, fun _ q => q⟩
  obtain ⟨x, e⟩ := k.otrk q
  exact ⟨(up a x e).trans e.symm, fun s => k.nown s q⟩
theorem Step.cold (k : Ok K c ρ σ H S) {p : Addr} (hn : ¬ OwnA ρ σ p) (h0 : c.H0 p = none) (hp : ∃ o, H p = some o) : Ok K c ρ σ H (fun a => S a ∨ a = p) := by
  refine k.over (fun a x s e => ⟨.inl s, e⟩) (fun a q => ⟨rfl, ?_⟩) (fun a x e => ⟨x, e⟩) (fun a x _ _ e => e) (fun a s => s.elim (k.st a) fun e => by rw [e]; exact hp) (fun a s => .inl s) (fun a s => ?_)
  · rintro (s | s)
    · exact k.nown s q
    · subst s; exact hn q
  · rcases s with s | s
    · exact .inl s
    · subst s; exact .inr (.inl h0)
theorem Step.layF (k : Ok K c ρ σ H S) {p : Addr} {o : HO} (h : H p = none) : Step K c σ ρ H S ρ (upd H p o) (fun a => S a ∨ a = p) := by
  have a := Step.lay (o := o) k h
  refine ⟨Step.cold a.ok (k.nown0 h) (k.free0 h) ⟨_, upd_same⟩, a.fr, a.tr, fun _ s => .inl s, fun x s => ?_, a.ow⟩
  rcases s with s | s
  · exact .inl s
  · subst s; exact .inr (.inl h)
theorem Ok.icy (k : Ok K c ρ σ H S) {i : Nat} {w : Ow} {p : Addr} (hi : ρ[i]? = some (.own w)) (hp : σ[i]? = some (some (.ref p))) : Step K c σ ρ H S (ρ.set i (.dat w.frz)) H (fun a => S a ∨ a = p) := by
  obtain ⟨p', e, r, ns, h1, h2⟩ := k.own i w hi
  rw [hp] at e; cases e
  have li : i < ρ.length := (List.getElem?_eq_some_iff.mp hi).1
  have m : ∀ a o, S a → H a = some o → (S a ∨ a = p) ∧ H a = some o := fun a o s e => ⟨.inl s, e⟩
  have ow : ∀ a, OwnA (ρ.set i (.dat w.frz)) σ a → OwnA ρ σ a ∧ a ≠ p := by
    rintro a ⟨j, w', q, r'⟩
    rcases set_some q with ⟨_, q, _⟩ | ⟨n, q⟩
    · cases q
    · refine ⟨⟨j, w', q, r'⟩, fun e => ?_⟩
      subst e
      exact n (k.inj i j w w' a hi q hp r')
  refine ⟨⟨by simpa using k.len, fun j d q => ?_, fun j w' q => ?_, fun j a d x q => ?_, fun j j' w1 w2 p' q q' z z' => ?_, k.trk, k.fr, fun a s => s.elim (k.st a) (fun e => by rw [e]; exact r.trk), fun a s => .inl (k.s0 a s), fun a s => ?_⟩, fun a o e _ => e, fun a o e => ⟨o, e⟩, fun a s => .inl s, fun a s => ?_, fun a q => (ow a q).1⟩
  · rcases set_some q with ⟨e1, e2, l⟩ | ⟨n, q⟩
    · cases e2
      subst e1
      exact ⟨_, hp, r.frz⟩
    · obtain ⟨v, e, r⟩ := k.dat j d q
      exact ⟨v, e, Rep.mono m _ _ r⟩
  · rcases set_some q with ⟨e1, e2, l⟩ | ⟨n, q⟩
    · cases e2
    · obtain ⟨p', e, r, n', h⟩ := k.own j w' q
      refine ⟨p', e, r.mono m rfl, ?_, h⟩
      rintro (s | s)
      · exact n' s
      · subst s
        exact n (k.inj i j w w' p' hi q hp e)
  · rcases set_some q with ⟨e1, e2, l⟩ | ⟨n, q⟩
    · cases e2
    · obtain ⟨e, r⟩ := k.exc j a d x q
      exact ⟨e, r.mono m⟩
  · rcases set_some q with ⟨e1, e2, l⟩ | ⟨n, q⟩
    · cases e2
    · rcases set_some q' with ⟨e1, e2, l⟩ | ⟨n', q'⟩
      · cases e2
      · exact k.inj j j' w1 w2 p' q q' z z'
  · rcases s with s | s
    · exact k.s1 a s
    · subst s
      cases e : c.P i with
      | none => exact .inr (.inl (h2 e))
      | some q => rw [h1 q e]; exact .inr (.inr ⟨i, e⟩)
  · rcases s with s | s
    · exact .inl s
    · subst s; exact .inr (.inr ⟨i, w, hi, hp⟩)
theorem Ok.warm (k : Ok K c ρ σ H S) {i : Nat} {w w' : Ow} {p : Addr} {o : HO} (hi : ρ[i]? = some (.own w)) (hp : σ[i]? = some (some (.ref p))) (hw : RepO K S (upd H p o) w' p) : Step K c σ ρ H S (ρ.set i (.own w')) (upd H p o) S := by
  obtain ⟨p', e, r, ns, h1, h2⟩ := k.own i w hi
  rw [hp] at e; cases e
  have li : i < ρ.length := (List.getElem?_eq_some_iff.mp hi).1
  have m : ∀ a x, S a → H a = some x → S a ∧ upd H p o a = some x := fun a x s e => ⟨s, (upd_ne (fun z : a = p => ns (by rw [← z]; exact s))).trans e⟩
  have tr : ∀ a x, H a = some x → ∃ x', upd H p o a = some x' := fun a x e => by
    by_cases z : a = p
    · subst z; exact ⟨_, upd_same⟩
    · exact ⟨x, by rw [upd_ne z]; exact e⟩
  refine ⟨⟨by simpa using k.len, fun j d q => ?_, fun j w2 q => ?_, fun j a d x q => ?_, fun j j' w1 w2 p' q q' z z' => ?_, fun j q e => ?_, fun a x e n => ?_, fun a s => (k.st a s).elim fun x e => tr a x e, k.s0, k.s1⟩, fun a x e n => ?_, tr, fun a s => s, fun a s => .inl s, fun a q => ?_⟩
  · rcases set_some q with ⟨e1, e2, l⟩ | ⟨n, q⟩
    · cases e2
    · obtain ⟨v, e, r⟩ := k.dat j d q
      exact ⟨v, e, Rep.mono m _ _ r⟩
  · rcases set_some q with ⟨e1, e2, l⟩ | ⟨n, q⟩
    · cases e2
      subst e1
      exact ⟨p, hp, hw, ns, h1, h2⟩
    · obtain ⟨p', e, r, n', h⟩ := k.own j w2 q
      have ne : p' ≠ p := fun z => by subst z; exact n (k.inj i j w w2 p' hi q hp e)
      exact ⟨p', e, r.mono m (upd_ne ne), n', h⟩
  · rcases set_some q with ⟨e1, e2, l⟩ | ⟨n, q⟩
    · cases e2
    · obtain ⟨e, r⟩ := k.exc j a d x q
      exact ⟨e, r.mono m⟩
  · have f : ∀ {j : Nat} {w1 : Ow}, (ρ.set i (.own w'))[j]? = some (.own w1) → ∃ w3, ρ[j]? = some (.own w3) := fun {j w1} q => by
      rcases set_some q with ⟨e1, _, _⟩ | ⟨n, q⟩
      · subst e1; exact ⟨w, hi⟩
      · exact ⟨w1, q⟩
    obtain ⟨w3, q⟩ := f q
    obtain ⟨w4, q'⟩ := f q'
    exact k.inj j j' w3 w4 p' q q' z z'
  · obtain ⟨x, z⟩ := k.trk j q e
    exact tr _ _ z
  · have z : a ≠ p := fun z => by
      subst z
      cases e1 : c.P i with
      | none => rw [h2 e1] at e; cases e
      | some q => exact n i (by rw [e1, ← h1 q e1])
    rw [upd_ne z]; exact k.fr a x e n
  · have z : a ≠ p := fun z => by subst z; exact n ⟨i, w, hi, hp⟩
    rw [upd_ne z]; exact e
  · obtain ⟨j, w1, q, r'⟩ := q
    rcases set_some q with ⟨e1, _, _⟩ | ⟨n, q⟩
    · subst e1; exact ⟨_, w, hi, r'⟩
    · exact ⟨j, w1, q, r'⟩
end
def kD (Q : Dt → List En → Prop) : Res → List En → Prop
  | .dat d, ρ => Q d ρ
  | .new w, ρ => Q w.frz ρ
  | .ref i, ρ => match ρ[i]? with
    | some (.own w) => Q w.frz (ρ.set i (.dat w.frz))
    | some (.dat d) => Q d ρ
    | _ => False
def kP (Q : Dt → List En → Prop) : Res → List En → Prop
  | .dat d, ρ => Q d ρ
  | .new w, ρ => Q w.frz ρ
  | .ref i, ρ => match ρ[i]? with
    | some (.own w) => Q w.frz ρ
    | some (.dat d) => Q d ρ
    | _ => False
def RepP (K : PySem.W.Frag) (S : Addr → Prop) (H : Hp) (d : Dt) (v : V) : Prop := Rep K S H d v ∨ ∃ p w, v = .ref p ∧ d = w.frz ∧ RepO K S H w p
section
variable {K : PySem.W.Frag} {c : Ct} {σ : L2.St} {ρ ρ' : List En} {H H' : Hp} {S S' : Addr → Prop} {r : Res} {v : V}
theorem kD_ok {Q : VK} {R : Dt → List En → Prop} (k : Ok K c ρ σ H S) (a : Step K c σ ρ H S ρ' H' S') (h : RepR K σ H H' S' r v) (hR : ∀ d ρ2 v H2 S2, R d ρ2 → Step K c σ ρ H S ρ2 H2 S2 → Rep K S2 H2 d v → Q v H2) (q : kD R r ρ') : Q v H' := by
  cases r with
  | dat d => exact hR _ _ v H' S' q a h
  | new w =>
    obtain ⟨p, rfl, h0, n, r⟩ := h
    have no : ¬ OwnA ρ' σ p := fun z => k.nown0 h0 (a.ow _ z)
    refine hR _ _ _ H' (fun a => S' a ∨ a = p) q ⟨Step.cold a.ok no (k.free0 h0) r.trk, a.fr, a.tr, fun x s => .inl (a.s0 x s), fun x s => ?_, a.ow⟩ r.frz
    rcases s with s | s
    · exact a.s1 x s
    · subst s; exact .inr (.inl h0)
  | ref i =>
    have h : σ[i]? = some (some v) := h
    have q : (match ρ'[i]? with | some (.own w) => R w.frz (ρ'.set i (.dat w.frz)) | some (.dat d) => R d ρ' | _ => False) := q
    cases e : ρ'[i]? with
    | none => rw [e] at q; exact q.elim
    | some en =>
      rw [e] at q
      cases en with
      | emp => exact q.elim
      | exc _ _ _ => exact q.elim
      | dat d =>
        obtain ⟨v', e1, r⟩ := a.ok.dat i d e
        rw [h] at e1; cases e1
        exact hR _ _ v H' S' q a r
      | own w =>
        obtain ⟨p, e1, r, _⟩ := a.ok.own i w e
        rw [h] at e1; cases e1
        exact hR _ _ _ H' _ q (a.trans (a.ok.icy e h)) r.frz
theorem kP_ok {Q : VK} {R : Dt → List En → Prop} (k : Ok K c ρ σ H S) (a : Step K c σ ρ H S ρ' H' S') (h : RepR K σ H H' S' r v) (hR : ∀ d ρ2 v H2 S2, R d ρ2 → Step K c σ ρ H S ρ2 H2 S2 → RepP K S2 H2 d v → Q v H2) (q : kP R r ρ') : Q v H' := by
  cases r with
  | dat d => exact hR _ _ v H' S' q a (.inl h)
  | new w =>
    obtain ⟨p, rfl, h0, n, r⟩ := h
    exact hR _ _ _ H' S' q a (.inr ⟨p, w, rfl, rfl, r⟩)
  | ref i =>
    have h : σ[i]? = some (some v) := h
    have q : (match ρ'[i]? with | some (.own w) => R w.frz ρ' | some (.dat d) => R d ρ' | _ => False) := q
    cases e : ρ'[i]? with
    | none => rw [e] at q; exact q.elim
    | some en =>
      rw [e] at q
      cases en with
      | emp => exact q.elim
      | exc _ _ _ => exact q.elim
      | dat d =>
        obtain ⟨v', e1, r⟩ := a.ok.dat i d e
        rw [h] at e1; cases e1
        exact hR _ _ v H' S' q a (.inl r)
      | own w =>
        obtain ⟨p, e1, r, _⟩ := a.ok.own i w e
        rw [h] at e1; cases e1
        exact hR _ _ _ H' S' q a (.inr ⟨p, w, rfl, rfl, r⟩)
end
abbrev WDt := Xc → List En → Prop
abbrev TED := WDt → List En → (Res → List En → Prop) → Prop
def RelW (K : PySem.W.Frag) (c : Ct) (W : WX) (WD : WDt) : Prop := ∀ ρ σ H S (x : Xc) d, Ok K c ρ σ H S → RepX K S H x d → WD x ρ → W (.ref x.C) (some d) σ H
def SndE (K : PySem.W.Frag) (c : Ct) (W : WX) (t0 : TE) (t : TED) : Prop := ∀ WD ρ σ H S (Q : VK) (R : Res → List En → Prop), RelW K c W WD → Ok K c ρ σ H S → (∀ r ρ' v H' S', R r ρ' → Step K c σ ρ H S ρ' H' S' → RepR K σ H H' S' r v → Q v H') → t WD ρ R → t0 σ H Q
structure PED (X : Cx) (c : Ct) (W : WX) (e : Expr) (t0 : TE) (t : TED) : Prop where
  pe : PE X e t0
  sn : SndE X.K c W t0 t
abbrev TDD := WDt → List En → (Dt → List En → Prop) → Prop
def toD (t : TED) : TDD := fun WD ρ Q => t WD ρ (kD Q)
def toP (t : TED) : TDD := fun WD ρ Q => t WD ρ (kP Q)
section
variable {K : PySem.W.Frag} {c : Ct} {W : WX} {t0 : TE} {t : TED} {WD : WDt} {ρ : List En} {σ : L2.St} {H : Hp} {S : Addr → Prop} {Q : VK} {R : Dt → List En → Prop}
theorem SndE.dat (h : SndE K c W t0 t) (hW : RelW K c W WD) (k : Ok K c ρ σ H S) (hR : ∀ d ρ' v H' S', R d ρ' → Step K c σ ρ H S ρ' H' S' → Rep K S' H' d v → Q v H') (q : toD t WD ρ R) : t0 σ H Q :=
  h WD ρ σ H S Q _ hW k (fun _ _ _ _ _ q' a rr => kD_ok k a rr hR q') q
theorem SndE.pk (h : SndE K c W t0 t) (hW : RelW K c W WD) (k : Ok K c ρ σ H S) (hR : ∀ d ρ' v H' S', R d ρ' → Step K c σ ρ H S ρ' H' S' → RepP K S' H' d v → Q v H') (q : toP t WD ρ R) : t0 σ H Q :=
  h WD ρ σ H S Q _ hW k (fun _ _ _ _ _ q' a rr => kP_ok k a rr hR q') q
end
end D
set_option Elab.async false
set_option linter.all false
set_option maxRecDepth 100000
namespace D
open PySem PySem.Spec PyProof.Rows L2
def Lay (H : Hp) (S : Addr → Prop) (H' : Hp) (S' : Addr → Prop) : Prop := (∀ a o, H a = some o → H' a = some o) ∧ (∀ a, S a → S' a) ∧ ∀ a, S' a → S a ∨ (H a = none ∧ ∃ o, H' a = some o)
theorem Lay.refl {H : Hp} {S : Addr → Prop} : Lay H S H S := ⟨fun _ _ e => e, fun _ s => s, fun _ s => .inl s⟩
theorem Lay.new {H : Hp} {S : Addr → Prop} {p : Addr} {o : HO} (h : H p = none) : Lay H S (upd H p o) S := ⟨fun a x e => by rw [upd_ne (ne_of_none e h)]; exact e, fun _ s => s, fun _ s => .inl s⟩
theorem Lay.newF {H : Hp} {S : Addr → Prop} {p : Addr} {o : HO} (h : H p = none) : Lay H S (upd H p o) (fun a => S a ∨ a = p) :=
  ⟨fun a x e => by rw [upd_ne (ne_of_none e h)]; exact e, fun _ s => .inl s, fun a s => s.imp id fun e => by rw [e]; exact ⟨h, _, upd_same⟩⟩
theorem Lay.trans {H H1 H2 : Hp} {S S1 S2 : Addr → Prop} (l : Lay H S H1 S1) (m : Lay H1 S1 H2 S2) : Lay H S H2 S2 := by
  refine ⟨fun a o e => m.1 a o (l.1 a o e), fun a s => m.2.1 a (l.2.1 a s), fun a s => ?_⟩
  rcases m.2.2 a s with s | ⟨s, z⟩
  · exact (l.2.2 a s).imp id fun z => ⟨z.1, z.2.elim fun o e => ⟨o, m.1 a o e⟩⟩
  · cases e : H a with
    | none => exact .inr ⟨rfl, z⟩
    | some o => rw [l.1 a o e] at s; cases s
section
variable {K : PySem.W.Frag} {c : Ct} {σ : L2.St} {ρ ρ' : List En} {H H' : Hp} {S S' : Addr → Prop} {r : Res} {v : V}
theorem Step.ofLay (k : Ok K c ρ σ H S) (l : Lay H S H' S') : Step K c σ ρ H S ρ H' S' := by
  obtain ⟨l1, l2, l3⟩ := l
  refine ⟨k.over (fun a x s e => ⟨l2 a s, l1 a x e⟩) (fun a q => ?_) (fun a x e => ⟨x, l1 a x e⟩) (fun a x _ _ e => l1 a x e) (fun a s => (l3 a s).elim (fun s => (k.st a s).elim fun x e => ⟨x, l1 a x e⟩) fun z => z.2) l2 (fun a s => ?_), fun a x e _ => l1 a x e, fun a x e => ⟨x, l1 a x e⟩, l2, fun a s => (l3 a s).imp id fun z => .inl z.1, fun _ q => q⟩
  · obtain ⟨x, e⟩ := k.otrk q
    refine ⟨(l1 a x e).trans e.symm, fun s => ?_⟩
    rcases l3 a s with s | s
    · exact k.nown s q
    · rw [e] at s; cases s.1
  · exact (l3 a s).imp id fun e => .inl (k.free0 e.1)
theorem Lay.rep {d : Dt} {v : V} (l : Lay H S H' S') (h : Rep K S H d v) : Rep K S' H' d v := Rep.mono (fun a o s e => ⟨l.2.1 a s, l.1 a o e⟩) _ _ h
theorem Lay.reps {d : List Dt} {v : List V} (l : Lay H S H' S') (h : Reps K S H d v) : Reps K S' H' d v := Reps.mono (fun a o s e => ⟨l.2.1 a s, l.1 a o e⟩) _ _ h
end
def pk : Res → List En → Option Dt
  | .dat d, _ => some d
  | .new w, _ => some w.frz
  | .ref i, ρ => match ρ[i]? with
    | some (.own w) => some w.frz
    | some (.dat d) => some d
    | _ => none
section
variable {K : PySem.W.Frag} {c : Ct} {σ : L2.St} {ρ ρ' : List En} {H0 H H' : Hp} {S S' : Addr → Prop} {r : Res} {v : V} {d : Dt}
theorem pk_ok (k : Ok K c ρ σ H S) (h : RepR K σ H0 H S r v) (e : pk r ρ = some d) : RepP K S H d v := by
  cases r with
  | dat d' => cases e; exact .inl h
  | new w =>
    cases e
    obtain ⟨p, rfl, _, _, r⟩ := h
    exact .inr ⟨p, w, rfl, rfl, r⟩
  | ref i =>
    have h : σ[i]? = some (some v) := h
    have e : (match ρ[i]? with | some (.own w) => some w.frz | some (.dat d) => some d | _ => none) = some d := e
    cases q : ρ[i]? with
    | none => rw [q] at e; cases e
    | some en =>
      rw [q] at e
      cases en with
      | emp => cases e
      | exc _ _ _ => cases e
      | dat d' =>
        cases e
        obtain ⟨v', e1, r⟩ := k.dat i d q
        rw [h] at e1; cases e1
        exact .inl r
      | own w =>
        cases e
        obtain ⟨p, e1, r, _⟩ := k.own i w q
        rw [h] at e1; cases e1
        exact .inr ⟨p, w, rfl, rfl, r⟩
theorem RepP.lst {l : List Dt} (h : RepP K S H (.lst l) v) : ∃ a vs, v = .ref a ∧ H a = some (.lst vs) ∧ Reps K S H l vs := by
  rcases h with ⟨a, vs, e, h, _, r⟩ | ⟨p, w, e, e2, r⟩
  · exact ⟨a, vs, e, h, r⟩
  · cases w with
    | lst l' => cases e2; obtain ⟨vs, h, r⟩ := r; exact ⟨p, vs, e, h, r⟩
    | _ => cases e2
theorem RepP.tup {l : List Dt} (h : RepP K S H (.tup l) v) : ∃ a vs, v = .ref a ∧ SqT K H a vs ∧ Reps K S H l vs := by
  rcases h with h | ⟨p, w, e, e2, r⟩
  · exact h.tupT
  · cases w <;> cases e2
theorem RepP.obj {C : Addr} {ns : List Str} {l : List Dt} (h : RepP K S H (.obj C ns l) v) : ∃ a dx vs, v = .ref a ∧ H a = some (.ins C dx (ns.zip vs)) ∧ Reps K S H l vs ∧ ns.length = l.length := by
  rcases h with ⟨a, dx, vs, e, h, _, r, n⟩ | ⟨p, w, e, e2, r⟩
  · exact ⟨a, dx, vs, e, h, r, n⟩
  · cases w with
    | ins C' ns' l' => cases e2; obtain ⟨dx, vs, h, r, n⟩ := r; exact ⟨p, dx, vs, e, h, r, n⟩
    | _ => cases e2
theorem RepP.dic {ks : List Key} {l : List Dt} (h : RepP K S H (.dic ks l) v) : ∃ a vs, v = .ref a ∧ H a = some (.dK (ks.zip vs)) ∧ Reps K S H l vs ∧ ks.length = l.length := by
  rcases h with ⟨a, vs, e, h, _, r, n⟩ | ⟨p, w, e, e2, r⟩
  · exact ⟨a, vs, e, h, r, n⟩
  · cases w with
    | dic ks' l' => cases e2; obtain ⟨vs, h, r, n⟩ := r; exact ⟨p, vs, e, h, r, n⟩
    | _ => cases e2
theorem RepP.int {i : Int} (h : RepP K S H (.int i) v) : v = .int i := by
  rcases h with h | ⟨p, w, e, e2, r⟩
  · exact h
  · cases w <;> cases e2
theorem RepP.bl {i : Bool} (h : RepP K S H (.bl i) v) : v = .bl i := by
  rcases h with h | ⟨p, w, e, e2, r⟩
  · exact h
  · cases w <;> cases e2
theorem RepP.str {i : Str} (h : RepP K S H (.str i) v) : v = .str i := by
  rcases h with h | ⟨p, w, e, e2, r⟩
  · exact h
  · cases w <;> cases e2
theorem RepP.non (h : RepP K S H .non v) : v = .non := by
  rcases h with h | ⟨p, w, e, e2, r⟩
  · exact h
  · cases w <;> cases e2
theorem RepP.val {u : V} (h : RepP K S H (.val u) v) : v = u := by
  rcases h with h | ⟨p, w, e, e2, r⟩
  · exact h
  · cases w with
    | tab P q => cases e2; obtain ⟨rfl, _⟩ := r; exact e
    | _ => cases e2
theorem RepP.up (l : Lay H S H' S') (h : RepP K S H d v) : RepP K S' H' d v := by
  rcases h with h | ⟨p, w, e, e2, r⟩
  · exact .inl (l.rep h)
  · obtain ⟨o, q⟩ := r.trk
    exact .inr ⟨p, w, e, e2, r.mono (fun a o s e => ⟨l.2.1 a s, l.1 a o e⟩) ((l.1 p o q).trans q.symm)⟩
theorem RepR.none0 (h : RepR K [] H0 H S r v) : RepR K σ H0 H S r v := by
  cases r with
  | dat d => exact h
  | new w => exact h
  | ref i => exact absurd (show ([] : L2.St)[i]? = some (some v) from h) (by simp)
end
abbrev F2 := Dt → Dt → (Res → Prop) → Prop
abbrev F1 := Dt → (Res → Prop) → Prop
abbrev FL := List Dt → (Res → Prop) → Prop
def Wsh (K : PySem.W.Frag) (H : Hp) (S : Addr → Prop) (Q : VK) (R : Res → Prop) : Prop := (∀ a, S a → ∃ o, H a = some o) ∧ ∀ res v H' S', R res → Lay H S H' S' → RepR K [] H H' S' res v → Q v H'
def OpD (K : PySem.W.Frag) (r : R2) (f : F2) : Prop := ∀ S H x y a b (Q : VK) (R : Res → Prop), RepP K S H a x → RepP K S H b y → Wsh K H S Q R → f a b R → r x y H Q
def UnD (K : PySem.W.Frag) (r : V → Hp → VK → Prop) (f : F1) : Prop := ∀ S H x a (Q : VK) (R : Res → Prop), RepP K S H a x → Wsh K H S Q R → f a R → r x H Q
def pk2 (k : Dt → Dt → Prop) (r1 r2 : Res) (ρ : List En) : Prop := match pk r1 ρ, pk r2 ρ with
  | some a, some b => k a b
  | _, _ => False
def dOp (f : F2) (ta tb : TED) : TED := fun WD ρ R => ta WD ρ fun r1 ρ1 => tb WD ρ1 fun r2 ρ2 => pk2 (fun a b => f a b fun r => R r ρ2) r1 r2 ρ2
def dUn (f : F1) (ta : TED) : TED := fun WD ρ R => ta WD ρ (kP fun d ρ1 => f d fun r => R r ρ1)
theorem pk2_elim {k : Dt → Dt → Prop} {r1 r2 : Res} {ρ : List En} (h : pk2 k r1 r2 ρ) : ∃ a b, pk r1 ρ = some a ∧ pk r2 ρ = some b ∧ k a b := by
  unfold pk2 at h
  cases e1 : pk r1 ρ with
  | none => rw [e1] at h; exact h.elim
  | some a =>
    cases e2 : pk r2 ρ with
    | none => rw [e1, e2] at h; exact h.elim
    | some b => rw [e1, e2] at h; exact ⟨a, b, rfl, rfl, h⟩
section
variable {K : PySem.W.Frag} {c : Ct} {W : WX} {X : Cx}
theorem snd_op {r : R2} {f : F2} {ta0 tb0 : TE} {ta tb : TED} (ho : OpD K r f) (ha : SndE K c W ta0 ta) (hb : SndE K c W tb0 tb) : SndE K c W (tOp r ta0 tb0) (dOp f ta tb) := by
  intro WD ρ σ H S Q R hW k hR h
  refine ha WD ρ σ H S _ _ hW k (fun r1 ρ1 v1 H1 S1 h a rr => ?_) h
  refine hb WD ρ1 σ H1 S1 _ _ hW a.ok (fun r2 ρ2 v2 H2 S2 h a2 rr2 => ?_) h
  obtain ⟨d1, d2, e1, e2, h⟩ := pk2_elim h
  have rr1 := rr.held a2 a.ok (fun x hx q => k.nown0 hx (a.ow _ q))
  refine ho S2 H2 v1 v2 d1 d2 Q _ (pk_ok a2.ok rr1 e1) (pk_ok a2.ok rr2 e2) ⟨a2.ok.st, fun res v H' S' q l rp => ?_⟩ h
  have a3 := (a.trans a2).trans (Step.ofLay a2.ok l)
  refine hR res ρ2 v H' S' q a3 ?_
  cases res with
  | dat d => exact rp
  | ref i => exact rp.none0
  | new w =>
    obtain ⟨p, e, h0, n, ro⟩ := rp
    exact ⟨p, e, (a.trans a2).gone h0, n, ro⟩
theorem snd_un {r : V → Hp → VK → Prop} {f : F1} {ta0 : TE} {ta : TED} (ho : UnD K r f) (ha : SndE K c W ta0 ta) : SndE K c W (tUn r ta0) (dUn f ta) := by
  intro WD ρ σ H S Q R hW k hR h
  refine ha.pk hW k (fun d ρ1 v1 H1 S1 h a rr => ?_) h
  refine ho S1 H1 v1 d Q _ rr ⟨a.ok.st, fun res v H' S' q l rp => ?_⟩ h
  refine hR res ρ1 v H' S' q (a.trans (Step.ofLay a.ok l)) ?_
  cases res with
  | dat d => exact rp
  | ref i => exact rp.none0
  | new w =>
    obtain ⟨p, e, h0, n, ro⟩ := rp
    exact ⟨p, e, a.gone h0, n, ro⟩
variable {a b e : Expr} {pos : Pos} {ta0 tb0 : TE} {ta tb : TED}
theorem ed_op {op : Operator} {r : R2} {f : F2} (ho : OpR X (binaryOp op) r) (hd : OpD X.K r f) (ha : PED X c W a ta0 ta) (hb : PED X c W b tb0 tb) : PED X c W (.BinOp a op b pos) (tOp r ta0 tb0) (dOp f ta tb) := ⟨pe_op ho ha.pe hb.pe, snd_op hd ha.sn hb.sn⟩
theorem ed_cmp {op : CmpOp} {r : R2} {f : F2} (ho : OpR X (compareOp op) r) (hd : OpD X.K r f) (ha : PED X c W a ta0 ta) (hb : PED X c W b tb0 tb) (hm : behindInMarks op b = false) : PED X c W (.Compare a [op] [b] pos) (tOp r ta0 tb0) (dOp f ta tb) := ⟨pe_cmpR ho ha.pe hb.pe hm, snd_op hd ha.sn hb.sn⟩
theorem ed_un {op : UnaryOp} {r : V → Hp → VK → Prop} {f : F1} (ho : UnR X (unaryOp op) r) (hd : UnD X.K r f) (ha : PED X c W a ta0 ta) : PED X c W (.UnaryOp op a pos) (tUn r ta0) (dUn f ta) := ⟨pe_un ho ha.pe, snd_un hd ha.sn⟩
theorem ed_ix {r : R2} {f : F2} (ho : IxR X r) (hd : OpD X.K r f) (ha : PED X c W a ta0 ta) (hb : PED X c W b tb0 tb) (hs : PlainIx b) : PED X c W (.Subscript a b pos) (tOp r ta0 tb0) (dOp f ta tb) := ⟨pe_ix ho ha.pe hb.pe hs, snd_op hd ha.sn hb.sn⟩
def dV (i : Nat) : TED := fun _ ρ R => match ρ[i]? with
  | some (.dat d) => R (.dat d) ρ
  | some (.own _) => R (.ref i) ρ
  | _ => False
def dC (d : Dt) : TED := fun _ ρ R => R (.dat d) ρ
theorem snd_var (i : Nat) : SndE K c W (tVar i) (dV i) := by
  intro WD ρ σ H S Q R hW k hR h
  unfold dV at h
  cases e : ρ[i]? with
  | none => rw [e] at h; exact h.elim
  | some en =>
    rw [e] at h
    cases en with
    | emp => exact h.elim
    | exc _ _ _ => exact h.elim
    | dat d =>
      obtain ⟨v, e1, r⟩ := k.dat i d e
      exact ⟨v, e1, hR _ _ v H S h (.refl k) r⟩
    | own w =>
      obtain ⟨p, e1, r⟩ := k.own i w e
      exact ⟨_, e1, hR _ _ _ H S h (.refl k) e1⟩
theorem dv (i : Nat) {x : Str} (hN : X.N[i]? = some x := by rfl) (hv : Vis X.env.scope x := by first | exact Or.inl rfl | exact Or.inr (Or.inl rfl) | exact Or.inr (Or.inr rfl)) (hd : (x == ("__debug__" : Str)) = false := by decide)
    (hcd : (x == ("__classdict__" : Str)) = false := by decide) : PED X c W (.Name x pos) (tVar i) (dV i) := ⟨pe_var hN hv hd hcd, snd_var i⟩
theorem snd_c {v : V} {d : Dt} (h : ∀ S H, Rep K S H d v) : SndE K c W (tC v) (dC d) := by
  intro WD ρ σ H S Q R hW k hR q
  exact hR _ _ _ H S q (.refl k) (h S H)
theorem ed_int {i j} : PED X c W (.Constant (.int i) j pos) (tC (.int i)) (dC (.int i)) := ⟨pe_int, snd_c fun _ _ => rfl⟩
theorem ed_bl {b j} : PED X c W (.Constant (.bool b) j pos) (tC (.bl b)) (dC (.bl b)) := ⟨pe_bl, snd_c fun _ _ => rfl⟩
theorem ed_non {j} : PED X c W (.Constant .none j pos) (tC .non) (dC .non) := ⟨pe_non, snd_c fun _ _ => rfl⟩
theorem ed_str {x j} : PED X c W (.Constant (.str x) j pos) (tC (.str x)) (dC (.str x)) := ⟨pe_str, snd_c fun _ _ => rfl⟩
theorem ed_glob {x : Str} {v : V} {u : Value} {d : Dt} (hm : X.mg x = some u) (r : RelV v u) (hd : ∀ S H, Rep X.K S H d v) (hg : Gl X x := by rfl) (hb : (x == ("__debug__" : Str)) = false := by decide) : PED X c W (.Name x pos) (tC v) (dC d) := ⟨pe_glob hg hm r hb, snd_c hd⟩
theorem ed_bltn {x : Str} {v : V} {u : Value} (hm : X.mg x = none) (hv : bootBuiltins x = some u) (r : RelV v u) (hg : Gl X x := by rfl) (hn : x ≠ "__name__" := by decide) (hd : (x == ("__debug__" : Str)) = false := by decide) : PED X c W (.Name x pos) (tC v) (dC (.val v)) := ⟨pe_bltn hg hm hv r hn hd, snd_c fun _ _ => rfl⟩
abbrev TTD := WDt → List En → (Bool → List En → Prop) → Prop
def SndT (K : PySem.W.Frag) (c : Ct) (W : WX) (t0 : TT) (t : TTD) : Prop := ∀ WD ρ σ H S (Q : Bool → Hp → Prop) (R : Bool → List En → Prop), RelW K c W WD → Ok K c ρ σ H S → (∀ b ρ' H' S', R b ρ' → Step K c σ ρ H S ρ' H' S' → Q b H') → t WD ρ R → t0 σ H Q
structure PTD (X : Cx) (c : Ct) (W : WX) (e : Expr) (t0 : TT) (t : TTD) : Prop where
  pt : PT X e t0
  sn : SndT X.K c W t0 t
structure PWD (X : Cx) (c : Ct) (W : WX) (e : Expr) (t0 : TT) (t : TTD) : Prop where
  pw : PW X e t0
  sn : SndT X.K c W t0 t
def dTB (t : TED) : TTD := fun WD ρ R => t WD ρ (kP fun d ρ' => match d with | .bl b => R b ρ' | _ => False)
theorem snd_tb {t0 : TE} {t : TED} (h : SndE K c W t0 t) : SndT K c W (tB t0) (dTB t) := by
  intro WD ρ σ H S Q R hW k hR q
  refine h.pk hW k (fun d ρ1 v1 H1 S1 q a rr => ?_) q
  cases d with
  | bl b => exact ⟨b, rr.bl, hR _ _ _ S1 q a⟩
  | _ => exact q.elim
theorem td_val {t0 : TE} {t : TED} (h : PED X c W e t0 t) (he : ∀ whole, isTrue e X.env whole = (do let v ← whole; standAt e.pos; holding [v] (truthy v)) := by intro _; rfl) : PTD X c W e (tB t0) (dTB t) := ⟨pt_val h.pe he, snd_tb h.sn⟩
theorem td_cmp {op : CmpOp} {r : R2} {f : F2} (ho : OpR X (compareOp op) r) (hd : OpD X.K r f) (ha : PED X c W a ta0 ta) (hb : PED X c W b tb0 tb) (hm : behindInMarks op b = false) : PTD X c W (.Compare a [op] [b] pos) (tTest (tOp r ta0 tb0)) (dTB (dOp f ta tb)) := ⟨pt_cmpR ho ha.pe hb.pe hm, snd_tb (snd_op hd ha.sn hb.sn)⟩
variable {tA0 tB0 : TT} {tA tB' : TTD} {rest : List Expr}
def dAnd (t u : TTD) : TTD := fun WD ρ R => t WD ρ fun b ρ1 => if b = true then u WD ρ1 R else R false ρ1
def dOr (t u : TTD) : TTD := fun WD ρ R => t WD ρ fun b ρ1 => if b = true then R true ρ1 else u WD ρ1 R
def dNot (t : TTD) : TTD := fun WD ρ R => t WD ρ fun b ρ1 => R (!b) ρ1
theorem snd_and (ha : SndT K c W tA0 tA) (hb : SndT K c W tB0 tB') : SndT K c W (tAnd tA0 tB0) (dAnd tA tB') := by
  intro WD ρ σ H S Q R hW k hR q
  refine ha WD ρ σ H S _ _ hW k (fun b ρ1 H1 S1 q a => ?_) q
  cases b with
  | true => exact hb WD ρ1 σ H1 S1 _ _ hW a.ok (fun b ρ2 H2 S2 q a2 => hR _ _ _ _ q (a.trans a2)) q
  | false => exact hR _ _ _ _ q a
theorem snd_or (ha : SndT K c W tA0 tA) (hb : SndT K c W tB0 tB') : SndT K c W (tOr tA0 tB0) (dOr tA tB') := by
  intro WD ρ σ H S Q R hW k hR q
  refine ha WD ρ σ H S _ _ hW k (fun b ρ1 H1 S1 q a => ?_) q
  cases b with
  | false => exact hb WD ρ1 σ H1 S1 _ _ hW a.ok (fun b ρ2 H2 S2 q a2 => hR _ _ _ _ q (a.trans a2)) q
  | true => exact hR _ _ _ _ q a
theorem wd_and1 (ha : PTD X c W a tA0 tA) : PWD X c W (.BoolOp .And [a] pos) tA0 tA := ⟨pw_and1 ha.pt, ha.sn⟩
theorem wd_or1 (ha : PTD X c W a tA0 tA) : PWD X c W (.BoolOp .Or [a] pos) tA0 tA := ⟨pw_or1 ha.pt, ha.sn⟩
theorem wd_and (ha : PTD X c W a tA0 tA) (hb : PWD X c W (.BoolOp .And (b :: rest) pos) tB0 tB') : PWD X c W (.BoolOp .And (a :: b :: rest) pos) (tAnd tA0 tB0) (dAnd tA tB') := ⟨pw_and ha.pt hb.pw, snd_and ha.sn hb.sn⟩
theorem wd_or (ha : PTD X c W a tA0 tA) (hb : PWD X c W (.BoolOp .Or (b :: rest) pos) tB0 tB') : PWD X c W (.BoolOp .Or (a :: b :: rest) pos) (tOr tA0 tB0) (dOr tA tB') := ⟨pw_or ha.pt hb.pw, snd_or ha.sn hb.sn⟩
theorem PWD.td (h : PWD X c W e tA0 tA) : PTD X c W e tA0 tA := ⟨h.pw.pt, h.sn⟩
theorem td_not (ha : PTD X c W a tA0 tA) : PTD X c W (.UnaryOp .Not a pos) (tNot tA0) (dNot tA) := ⟨pt_not ha.pt, by
  intro WD ρ σ H S Q R hW k hR q
  exact ha.sn WD ρ σ H S _ _ hW k (fun b ρ1 H1 S1 q a => hR _ _ _ _ q a) q⟩
def dAndV (ta tb : TED) : TED := fun WD ρ R => dTB ta WD ρ fun b ρ1 => if b = true then tb WD ρ1 R else R (.dat (.bl false)) ρ1
def dOrV (ta tb : TED) : TED := fun WD ρ R => dTB ta WD ρ fun b ρ1 => if b = true then R (.dat (.bl true)) ρ1 else tb WD ρ1 R
def dNotV (ta : TED) : TED := fun WD ρ R => dTB ta WD ρ fun b ρ1 => R (.dat (.bl (!b))) ρ1
def dIf (tc : TTD) (ta tb : TED) : TED := fun WD ρ R => tc WD ρ fun b ρ1 => if b = true then ta WD ρ1 R else tb WD ρ1 R
theorem RepR.later {r : Res} {v : V} {σ : L2.St} {ρ ρ1 : List En} {H H1 H2 : Hp} {S S1 S2 : Addr → Prop} (a : Step K c σ ρ H S ρ1 H1 S1) (h : RepR K σ H1 H2 S2 r v) : RepR K σ H H2 S2 r v := by
  cases r with
  | dat d => exact h
  | ref i => exact h
  | new w => obtain ⟨p, e, h0, n, ro⟩ := h; exact ⟨p, e, a.gone h0, n, ro⟩
theorem ed_one {op} (h : PED X c W a ta0 ta) : PED X c W (.BoolOp op [a] pos) ta0 ta := ⟨pe_one h.pe, h.sn⟩
theorem ed_and (ha : PED X c W a ta0 ta) (hb : PED X c W (.BoolOp .And (b :: rest) pos) tb0 tb) : PED X c W (.BoolOp .And (a :: b :: rest) pos) (tAndV ta0 tb0) (dAndV ta tb) := ⟨pe_and ha.pe hb.pe, by
  intro WD ρ σ H S Q R hW k hR q
  refine snd_tb ha.sn WD ρ σ H S (fun c H1 => if c = true then tb0 σ H1 Q else Q (.bl false) H1) _ hW k (fun b ρ1 H1 S1 q a => ?_) q
  cases b with
  | true => exact hb.sn WD ρ1 σ H1 S1 _ _ hW a.ok (fun r ρ2 v H2 S2 q a2 rr => hR _ _ _ _ _ q (a.trans a2) (rr.later a)) q
  | false => exact hR _ _ _ _ S1 q a rfl⟩
theorem ed_not (ha : PED X c W a ta0 ta) : PED X c W (.UnaryOp .Not a pos) (tNotV ta0) (dNotV ta) := ⟨pe_not ha.pe, by
  intro WD ρ σ H S Q R hW k hR q
  exact snd_tb ha.sn WD ρ σ H S (fun c H1 => Q (.bl (!c)) H1) _ hW k (fun b ρ1 H1 S1 q a => hR (.dat (.bl (!b))) _ _ _ S1 q a rfl) q⟩
theorem ed_if {cc : Expr} (hc : PTD X c W cc tA0 tA) (ha : PED X c W a ta0 ta) (hb : PED X c W b tb0 tb) : PED X c W (.IfExp cc a b pos) (tIf tA0 ta0 tb0) (dIf tA ta tb) := ⟨pe_ifExp hc.pt ha.pe hb.pe, by
  intro WD ρ σ H S Q R hW k hR q
  refine hc.sn WD ρ σ H S _ _ hW k (fun b ρ1 H1 S1 q a => ?_) q
  cases b with
  | true => exact ha.sn WD ρ1 σ H1 S1 _ _ hW a.ok (fun r ρ2 v H2 S2 q a2 rr => hR _ _ _ _ _ q (a.trans a2) (rr.later a)) q
  | false => exact hb.sn WD ρ1 σ H1 S1 _ _ hW a.ok (fun r ρ2 v H2 S2 q a2 rr => hR _ _ _ _ _ q (a.trans a2) (rr.later a)) q⟩
end
end D
set_option Elab.async false
set_option linter.all false
set_option maxRecDepth 100000
namespace D
open PySem PySem.Spec PyProof.Rows L2
abbrev TAD := WDt → List En → (List Res → List En → Prop) → Prop
def RepRs (K : PySem.W.Frag) (σ : L2.St) (H H' : Hp) (S' : Addr → Prop) : List Res → List V → Prop
  | [], vs => vs = []
  | r :: l, vs => ∃ v us, vs = v :: us ∧ RepR K σ H H' S' r v ∧ RepRs K σ H H' S' l us ∧ ∀ w, r = .new w → ∀ (j : Nat) (w' : Ow), l[j]? = some (.new w') → us[j]? ≠ some v
def SndA (K : PySem.W.Frag) (c : Ct) (W : WX) (t0 : TA) (t : TAD) : Prop := ∀ WD ρ σ H S (Q : List V → Hp → Prop) (R : List Res → List En → Prop), RelW K c W WD → Ok K c ρ σ H S → (∀ rs ρ' vs H' S', R rs ρ' → Step K c σ ρ H S ρ' H' S' → RepRs K σ H H' S' rs vs → Q vs H') → t WD ρ R → t0 σ H Q
structure PAD (X : Cx) (c : Ct) (W : WX) (es : List Expr) (t0 : TA) (t : TAD) : Prop where
  pa : PA X es t0
  sn : SndA X.K c W t0 t
def dNil : TAD := fun _ ρ R => R [] ρ
def dCons (te : TED) (tr : TAD) : TAD := fun WD ρ R => te WD ρ fun r ρ1 => tr WD ρ1 fun rs ρ2 => R (r :: rs) ρ2
def kDs : List Res → List En → (List Dt → List En → Prop) → Prop
  | [], ρ, Q => Q [] ρ
  | r :: rs, ρ, Q => kD (fun d ρ1 => kDs rs ρ1 fun ds ρ2 => Q (d :: ds) ρ2) r ρ
def pks : List Res → List En → Option (List Dt)
  | [], _ => some []
  | r :: rs, ρ => match pk r ρ, pks rs ρ with
    | some d, some ds => some (d :: ds)
    | _, _ => none
def RepPs (K : PySem.W.Frag) (S : Addr → Prop) (H : Hp) : List Dt → List V → Prop
  | [], vs => vs = []
  | d :: l, vs => ∃ v us, vs = v :: us ∧ RepP K S H d v ∧ RepPs K S H l us
section
variable {K : PySem.W.Frag} {c : Ct} {W : WX} {X : Cx} {σ : L2.St} {ρ ρ1 ρ' : List En} {H H1 H2 H' : Hp} {S S1 S2 S' : Addr → Prop}
theorem RepRs.later {rs : List Res} {vs : List V} (a : Step K c σ ρ H S ρ1 H1 S1) (h : RepRs K σ H1 H2 S2 rs vs) : RepRs K σ H H2 S2 rs vs := by
  induction rs generalizing vs with
  | nil => exact h
  | cons r l ih => obtain ⟨v, us, e, h1, h2, h3⟩ := h; exact ⟨v, us, e, h1.later a, ih h2, h3⟩
theorem RepRs.get {rs : List Res} {vs : List V} {j : Nat} {r : Res} (h : RepRs K σ H1 H2 S2 rs vs) (hj : rs[j]? = some r) : ∃ v, vs[j]? = some v ∧ RepR K σ H1 H2 S2 r v := by
  induction rs generalizing vs j with
  | nil => simp at hj
  | cons r' l ih =>
    obtain ⟨u, us, e, h1, h2, h3⟩ := h
    subst e
    cases j with
    | zero => simp at hj; subst hj; exact ⟨u, rfl, h1⟩
    | succ j => obtain ⟨v, e, q⟩ := ih h2 (by simpa using hj); exact ⟨v, by simpa using e, q⟩
theorem ad_nil : PAD X c W [] tNil dNil := ⟨pa_nil, fun WD ρ σ H S Q R hW k hR q => hR _ _ _ H S q (.refl k) rfl⟩
theorem ad_cons {e : Expr} {es : List Expr} {te0 : TE} {te : TED} {tr0 : TA} {tr : TAD} (he : PED X c W e te0 te) (hr : PAD X c W es tr0 tr) (hs : starEach (e :: es) X.env = (false, eval e X.env) :: starEach es X.env := by rfl) : PAD X c W (e :: es) (tCons te0 tr0) (dCons te tr) := ⟨pa_cons he.pe hr.pa hs, by
  intro WD ρ σ H S Q R hW k hR q
  refine he.sn WD ρ σ H S _ _ hW k (fun r ρ1 v H1 S1 q a rr => ?_) q
  refine hr.sn WD ρ1 σ H1 S1 _ _ hW a.ok (fun rs ρ2 vs H2 S2 q a2 rrs => ?_) q
  refine hR _ _ _ _ _ q (a.trans a2) ⟨v, vs, rfl, rr.held a2 a.ok (fun x hx q => k.nown0 hx (a.ow _ q)), rrs.later a, fun w ew j w' hj hv => ?_⟩
  subst ew
  obtain ⟨p, e1, _, _, ro⟩ := rr
  obtain ⟨o, z⟩ := ro.trk
  obtain ⟨v', e2, p', e3, h0, _⟩ := rrs.get hj
  rw [hv] at e2; cases e2
  rw [e1] at e3; cases e3
  rw [z] at h0; cases h0⟩
theorem kDs_ok {Q : List V → Hp → Prop} {R : List Dt → List En → Prop} {rs : List Res} {vs : List V} (k : Ok K c ρ σ H S) (a : Step K c σ ρ H S ρ' H' S') (h : RepRs K σ H H' S' rs vs)
    (hR : ∀ ds ρ2 vs S2, R ds ρ2 → Step K c σ ρ H S ρ2 H' S2 → (∀ x, S' x → S2 x) → Reps K S2 H' ds vs → Q vs H') (q : kDs rs ρ' R) : Q vs H' := by
  induction rs generalizing vs ρ' S' Q R with
  | nil => exact hR [] ρ' vs S' q a (fun _ s => s) (by rw [show vs = [] from h]; rfl)
  | cons r l ih =>
    obtain ⟨v, us, rfl, h1, h2, h3⟩ := h
    have key : ∀ d ρ2 S2, kDs l ρ2 (fun ds ρ3 => R (d :: ds) ρ3) → Step K c σ ρ H S ρ2 H' S2 → (∀ x, S' x → S2 x) → RepRs K σ H H' S2 l us → Rep K S2 H' d v → Q (v :: us) H' := fun d ρ2 S2 q a2 ss h2' hd =>
      ih (Q := fun us' H'' => us' = us → Q (v :: us) H'') a2 h2' (fun ds ρ3 vs' S3 q3 a3 ss3 hds e => by
        subst e
        exact hR (d :: ds) ρ3 _ S3 q3 a3 (fun x s => ss3 x (ss x s)) ⟨v, _, rfl, Rep.mono (fun x o s e => ⟨ss3 x s, e⟩) _ _ hd, hds⟩) q rfl
    have upS : ∀ {rs : List Res} {us : List V} {p : Addr}, RepRs K σ H H' S' rs us → (∀ (j : Nat) (w' : Ow), rs[j]? = some (.new w') → us[j]? ≠ some (.ref p)) → RepRs K σ H H' (fun a => S' a ∨ a = p) rs us := by
      intro rs us p
      induction rs generalizing us with
      | nil => intro h _; exact h
      | cons r' l' ih' =>
        rintro ⟨v', us', e, g1, g2, g3⟩ hp
        subst e
        refine ⟨v', us', rfl, ?_, ih' g2 (fun j w' hj => by simpa using hp (j + 1) w' (by simpa using hj)), g3⟩
        cases r' with
        | dat d => exact Rep.mono (fun x o s e => ⟨.inl s, e⟩) _ _ g1
        | ref i => exact g1
        | new w =>
          obtain ⟨p', e1, h0, n, ro⟩ := g1
          refine ⟨p', e1, h0, ?_, ro.mono (fun x o s e => ⟨.inl s, e⟩) rfl⟩
          rintro (s | s)
          · exact n s
          · subst s; subst e1; exact hp 0 w rfl rfl
    cases r with
    | dat d => exact key d ρ' S' q a (fun _ s => s) h2 h1
    | new w =>
      obtain ⟨p, rfl, h0, n, ro⟩ := h1
      have no : ¬ OwnA ρ' σ p := fun z => k.nown0 h0 (a.ow _ z)
      refine key w.frz ρ' (fun a => S' a ∨ a = p) q ⟨Step.cold a.ok no (k.free0 h0) ro.trk, a.fr, a.tr, fun x s => .inl (a.s0 x s), fun x s => ?_, a.ow⟩ (fun _ s => .inl s) (upS h2 (h3 w rfl)) ro.frz
      rcases s with s | s
      · exact a.s1 x s
      · subst s; exact .inr (.inl h0)
    | ref i =>
      have h : σ[i]? = some (some v) := h1
      have q : (match ρ'[i]? with | some (.own w) => kDs l (ρ'.set i (.dat w.frz)) (fun ds ρ2 => R (w.frz :: ds) ρ2) | some (.dat d) => kDs l ρ' (fun ds ρ2 => R (d :: ds) ρ2) | _ => False) := q
      cases e : ρ'[i]? with
      | none => rw [e] at q; exact q.elim
      | some en =>
        rw [e] at q
        cases en with
        | emp => exact q.elim
        | exc _ _ _ => exact q.elim
        | dat d =>
          obtain ⟨v', e1, r⟩ := a.ok.dat i d e
          rw [h] at e1; cases e1
          exact key d ρ' S' q a (fun _ s => s) h2 r
        | own w =>
          obtain ⟨p, e1, r, _⟩ := a.ok.own i w e
          rw [h] at e1; cases e1
          refine key w.frz _ _ q (a.trans (a.ok.icy e h)) (fun _ s => .inl s) (upS h2 fun j w' hj hv => ?_) r.frz
          obtain ⟨v', e2, p', e3, h0, _⟩ := h2.get hj
          rw [hv] at e2; cases e2; cases e3
          exact k.nown0 h0 (a.ow _ ⟨i, w, e, h⟩)
theorem pks_ok {rs : List Res} {vs : List V} {ds : List Dt} (k : Ok K c ρ σ H' S') (h : RepRs K σ H H' S' rs vs) (e : pks rs ρ = some ds) : RepPs K S' H' ds vs := by
  induction rs generalizing vs ds with
  | nil => cases e; exact h
  | cons r l ih =>
    obtain ⟨v, us, rfl, h1, h2, h3⟩ := h
    unfold pks at e
    cases e1 : pk r ρ with
    | none => rw [e1] at e; cases e
    | some d =>
      cases e2 : pks l ρ with
      | none => rw [e1, e2] at e; cases e
      | some ds' =>
        rw [e1, e2] at e
        cases e
        exact ⟨v, us, rfl, pk_ok k h1 e1, ih h2 e2⟩
def dTup (t : TAD) : TED := fun WD ρ R => t WD ρ fun rs ρ1 => kDs rs ρ1 fun ds ρ2 => ds.length ≤ sizeLine ∧ R (.dat (.tup ds)) ρ2
def dLst (t : TAD) : TED := fun WD ρ R => t WD ρ fun rs ρ1 => kDs rs ρ1 fun ds ρ2 => ds.length ≤ sizeLine ∧ R (.new (.lst ds)) ρ2
theorem ed_tup {es : List Expr} {x1 : Nat} {pos : Pos} {t0 : TA} {t : TAD} (h : PAD X c W es t0 t) : PED X c W (.Tuple es x1 pos) (tTup t0) (dTup t) := ⟨pe_tup h.pa, by
  intro WD ρ σ H S Q R hW k hR q
  refine h.sn WD ρ σ H S _ _ hW k (fun rs ρ1 vs H1 S1 q a rr => ?_) q
  refine kDs_ok (Q := fun vs H1 => vs.length ≤ sizeLine ∧ ∀ p, H1 p = none → Q (.ref p) (upd H1 p (.tup vs))) k a rr (fun ds ρ2 vs S2 q a2 _ hds => ?_) q
  refine ⟨by rw [hds.length]; exact q.1, fun p hp => ?_⟩
  have l := Lay.newF (S := S2) (o := .tup vs) hp
  exact hR _ _ _ _ _ q.2 (a2.trans (Step.ofLay a2.ok l)) ⟨p, vs, rfl, .inl ⟨upd_same, .inr rfl⟩, l.reps hds⟩⟩
theorem ed_lst {es : List Expr} {pos : Pos} {t0 : TA} {t : TAD} (h : PAD X c W es t0 t) : PED X c W (.List es pos) (tLst t0) (dLst t) := ⟨pe_lst h.pa, by
  intro WD ρ σ H S Q R hW k hR q
  refine h.sn WD ρ σ H S _ _ hW k (fun rs ρ1 vs H1 S1 q a rr => ?_) q
  refine kDs_ok (Q := fun vs H1 => vs.length ≤ sizeLine ∧ ∀ p, H1 p = none → Q (.ref p) (upd H1 p (.lst vs))) k a rr (fun ds ρ2 vs S2 q a2 _ hds => ?_) q
  refine ⟨by rw [hds.length]; exact q.1, fun p hp => ?_⟩
  have l := Lay.new (S := S2) (o := .lst vs) hp
  refine hR _ _ _ _ _ q.2 (a2.trans (Step.ofLay a2.ok l)) ⟨p, rfl, a2.gone hp, fun s => ?_, vs, upd_same, l.reps hds⟩
  obtain ⟨o, z⟩ := a2.ok.st p s
  rw [hp] at z; cases z⟩
end
end D
set_option Elab.async false
set_option linter.all false
set_option maxRecDepth 100000
namespace D
open PySem PySem.Spec PyProof.Rows L2
abbrev SpD := List En → (Res → List En → Prop) → (Xc → List En → Prop) → Prop
def ctOf (ins : List En) (vs : List V) (H : Hp) (S : Addr → Prop) : Ct := ⟨H, S, fun i => match ins[i]?, vs[i]? with
  | some (.own _), some (.ref p) => some p
  | _, _ => none⟩
structure Aft (K : PySem.W.Frag) (c : Ct) (outs : List En) (H' : Hp) (S' : Addr → Prop) : Prop where
  fr : ∀ a o, c.H0 a = some o → (∀ i, c.P i ≠ some a) → H' a = some o
  tr : ∀ a o, c.H0 a = some o → ∃ o', H' a = some o'
  st : ∀ a, S' a → ∃ o, H' a = some o
  s0 : ∀ a, c.S0 a → S' a
  s1 : ∀ a, S' a → c.S0 a ∨ c.H0 a = none ∨ ∃ i, c.P i = some a
  out : ∀ (i : Nat) (w : Ow) (p : Addr), outs[i]? = some (.own w) → c.P i = some p → RepO K S' H' w p ∧ ¬ S' p
def RepC (K : PySem.W.Frag) (H H' : Hp) (S' : Addr → Prop) : Res → V → Prop
  | .dat d, v => Rep K S' H' d v
  | .new w, v => ∃ p, v = .ref p ∧ H p = none ∧ ¬ S' p ∧ RepO K S' H' w p
  | .ref _, _ => False
def toSp (K : PySem.W.Frag) (n : Nat) (sp : SpD) : Sp := fun vs H Q E => ∃ (ins : List En) (S : Addr → Prop) (R : Res → List En → Prop) (EX : Xc → List En → Prop), vs.length = n ∧ Ok K (ctOf ins vs H S) ins (vs.map some) H S ∧ sp ins R EX ∧
  (∀ r outs v H' S', R r outs → Aft K (ctOf ins vs H S) outs H' S' → RepC K H H' S' r v → Q v H') ∧ (∀ x outs d H' S', EX x outs → Aft K (ctOf ins vs H S) outs H' S' → RepX K S' H' x d → E (.ref x.C) (some d) H')
structure DefD (P : Program) (w : World) (K : PySem.W.Frag) (mg : Str → Option Value) (base : Heap) (x : Str) (k : Nat) (ps : List Str) (sp : SpD) : Prop where
  ex : ∃ (f : Addr) (fd : FuncData), FnOk P w K mg base (L2.CX P w) k f fd ps (toSp K ps.length sp) ∧ mg x = some (.ref f) ∧ PySem.W.keepIn K (.ref f) = true ∧ Binds K fd ps []
inductive Ar where
  | dat (d : Dt) | slot (i : Nat)
def kAr : List Bool → List Res → List En → (List Ar → List En → Prop) → Prop
  | true :: ms, .ref i :: rs, ρ, Q => kAr ms rs ρ fun as ρ2 => Q (.slot i :: as) ρ2
  | _ :: ms, r :: rs, ρ, Q => kD (fun d ρ1 => kAr ms rs ρ1 fun as ρ2 => Q (.dat d :: as) ρ2) r ρ
  | [], r :: rs, ρ, Q => kD (fun d ρ1 => kAr [] rs ρ1 fun as ρ2 => Q (.dat d :: as) ρ2) r ρ
  | _, [], ρ, Q => Q [] ρ
def insOf (ρ : List En) : List Ar → Option (List En)
  | [] => some []
  | .dat d :: as => (insOf ρ as).map fun l => .dat d :: l
  | .slot i :: as => match ρ[i]?, insOf ρ as with
    | some (.own w), some l => some (.own w :: l)
    | some (.dat d), some l => some (.dat d :: l)
    | _, _ => none
def slots : List Ar → List Nat
  | [] => []
  | .dat _ :: as => slots as
  | .slot i :: as => i :: slots as
def back : List Ar → List En → List En → List En
  | [], _, ρ => ρ
  | .dat _ :: as, _ :: outs, ρ => back as outs ρ
  | .slot i :: as, o :: outs, ρ => back as outs (match ρ[i]?, o with
    | some (.own _), .own w => ρ.set i (.own w)
    | some (.own _), _ => ρ.set i .emp
    | _, _ => ρ)
  | .dat _ :: as, [], ρ => back as [] ρ
  | .slot i :: as, [], ρ => back as [] (match ρ[i]? with
    | some (.own _) => ρ.set i .emp
    | _ => ρ)
def dCall (mask : List Bool) (sp : SpD) (ta : TAD) : TED := fun WD ρ R => ta WD ρ fun rs ρ1 => kAr mask rs ρ1 fun as ρ2 => match insOf ρ2 as with
  | some ins => (slots as).Nodup ∧ sp ins (fun r outs => R r (back as outs ρ2)) (fun x outs => WD x (back as outs ρ2))
  | none => False
def RepAr (K : PySem.W.Frag) (σ : L2.St) (S : Addr → Prop) (H : Hp) : List Ar → List V → Prop
  | [], vs => vs = []
  | .dat d :: as, vs => ∃ v us, vs = v :: us ∧ Rep K S H d v ∧ RepAr K σ S H as us
  | .slot i :: as, vs => ∃ v us, vs = v :: us ∧ σ[i]? = some (some v) ∧ RepAr K σ S H as us
section
variable {K : PySem.W.Frag} {c : Ct} {W : WX} {X : Cx} {σ : L2.St} {ρ ρ1 ρ' : List En} {H H1 H2 H' : Hp} {S S1 S2 S' : Addr → Prop}
theorem RepRs.frz {rs : List Res} {us : List V} {p : Addr} (h : RepRs K σ H H' S' rs us) (hp : ∀ (j : Nat) (w' : Ow), rs[j]? = some (.new w') → us[j]? ≠ some (.ref p)) : RepRs K σ H H' (fun a => S' a ∨ a = p) rs us := by
  induction rs generalizing us with
  | nil => exact h
  | cons r' l' ih' =>
    obtain ⟨v', us', e, g1, g2, g3⟩ := h
    subst e
    refine ⟨v', us', rfl, ?_, ih' g2 (fun j w' hj => by simpa using hp (j + 1) w' (by simpa using hj)), g3⟩
    cases r' with
    | dat d => exact Rep.mono (fun x o s e => ⟨.inl s, e⟩) _ _ g1
    | ref i => exact g1
    | new w =>
      obtain ⟨p', e1, h0, n, ro⟩ := g1
      refine ⟨p', e1, h0, ?_, ro.mono (fun x o s e => ⟨.inl s, e⟩) rfl⟩
      rintro (s | s)
      · exact n s
      · subst s; subst e1; exact hp 0 w rfl rfl
theorem kD_held {Q : Prop} {R : Dt → List En → Prop} {r : Res} {v : V} {l : List Res} {us : List V} (k : Ok K c ρ σ H S) (a : Step K c σ ρ H S ρ' H' S') (h1 : RepR K σ H H' S' r v) (h2 : RepRs K σ H H' S' l us) (h3 : ∀ w, r = .new w → ∀ (j : Nat) (w' : Ow), l[j]? = some (.new w') → us[j]? ≠ some v)
    (hR : ∀ d ρ2 S2, R d ρ2 → Step K c σ ρ H S ρ2 H' S2 → (∀ x, S' x → S2 x) → Rep K S2 H' d v → RepRs K σ H H' S2 l us → Q) (q : kD R r ρ') : Q := by
  cases r with
  | dat d => exact hR d ρ' S' q a (fun _ s => s) h1 h2
  | new w =>
    obtain ⟨p, rfl, h0, n, ro⟩ := h1
    have no : ¬ OwnA ρ' σ p := fun z => k.nown0 h0 (a.ow _ z)
    refine hR w.frz ρ' (fun a => S' a ∨ a = p) q ⟨Step.cold a.ok no (k.free0 h0) ro.trk, a.fr, a.tr, fun x s => .inl (a.s0 x s), fun x s => ?_, a.ow⟩ (fun _ s => .inl s) ro.frz (h2.frz (h3 w rfl))
    rcases s with s | s
    · exact a.s1 x s
    · subst s; exact .inr (.inl h0)
  | ref i =>
    have h : σ[i]? = some (some v) := h1
    have q : (match ρ'[i]? with | some (.own w) => R w.frz (ρ'.set i (.dat w.frz)) | some (.dat d) => R d ρ' | _ => False) := q
    cases e : ρ'[i]? with
    | none => rw [e] at q; exact q.elim
    | some en =>
      rw [e] at q
      cases en with
      | emp => exact q.elim
      | exc _ _ _ => exact q.elim
      | dat d =>
        obtain ⟨v', e1, r⟩ := a.ok.dat i d e
        rw [h] at e1; cases e1
        exact hR d ρ' S' q a (fun _ s => s) r h2
      | own w =>
        obtain ⟨p, e1, r, _⟩ := a.ok.own i w e
        rw [h] at e1; cases e1
        refine hR w.frz _ _ q (a.trans (a.ok.icy e h)) (fun _ s => .inl s) r.frz (h2.frz fun j w' hj hv => ?_)
        obtain ⟨v', e2, p', e3, h0, _⟩ := h2.get hj
        rw [hv] at e2; cases e2; cases e3
        exact k.nown0 h0 (a.ow _ ⟨i, w, e, h⟩)
theorem kAr_ok {Q : Prop} {R : List Ar → List En → Prop} {rs : List Res} {vs : List V} (mask : List Bool) (k : Ok K c ρ σ H S) (a : Step K c σ ρ H S ρ' H' S') (h : RepRs K σ H H' S' rs vs)
    (hR : ∀ as ρ2 S2, R as ρ2 → Step K c σ ρ H S ρ2 H' S2 → (∀ x, S' x → S2 x) → RepAr K σ S2 H' as vs → Q) (q : kAr mask rs ρ' R) : Q := by
  induction rs generalizing vs ρ' S' R mask with
  | nil =>
    have q : R [] ρ' := by
      cases mask with
      | nil => exact q
      | cons m ms => cases m <;> exact q
    exact hR [] ρ' S' q a (fun _ s => s) h
  | cons r l ih =>
    obtain ⟨v, us, rfl, h1, h2, h3⟩ := h
    have dat : ∀ ms, kD (fun d ρ1 => kAr ms l ρ1 fun as ρ2 => R (.dat d :: as) ρ2) r ρ' → Q := fun ms q =>
      kD_held k a h1 h2 h3 (fun d ρ2 S2 q a2 ss hd hl => ih ms a2 hl (fun as ρ3 S3 q3 a3 s3 har => hR (.dat d :: as) ρ3 S3 q3 a3 (fun x s => s3 x (ss x s)) ⟨v, us, rfl, Rep.mono (fun x o s e => ⟨s3 x s, e⟩) _ _ hd, har⟩) q) q
    cases mask with
    | nil => exact dat [] q
    | cons m ms =>
      cases m with
      | false => exact dat ms q
      | true =>
        cases r with
        | dat d => exact dat ms q
        | new w => exact dat ms q
        | ref i => exact ih ms a h2 (fun as ρ3 S3 q3 a3 s3 har => hR (.slot i :: as) ρ3 S3 q3 a3 s3 ⟨v, us, rfl, h1, har⟩) q
theorem insOf_get {as : List Ar} {ins : List En} (e : insOf ρ as = some ins) : ins.length = as.length ∧ ∀ (j : Nat) (en : En), ins[j]? = some en → (∃ d, as[j]? = some (.dat d) ∧ en = .dat d) ∨ ∃ i, as[j]? = some (.slot i) ∧ ρ[i]? = some en ∧ ((∃ w, en = .own w) ∨ ∃ d, en = .dat d) := by
  induction as generalizing ins with
  | nil => cases e; exact ⟨rfl, fun j en h => by simp at h⟩
  | cons a as ih =>
    cases a with
    | dat d =>
      unfold insOf at e
      cases e1 : insOf ρ as with
      | none => rw [e1] at e; cases e
      | some l =>
        rw [e1] at e; cases e
        obtain ⟨z, g⟩ := ih e1
        refine ⟨by simp [z], fun j en h => ?_⟩
        cases j with
        | zero => simp at h; exact .inl ⟨d, rfl, h.symm⟩
        | succ j => simpa using g j en (by simpa using h)
    | slot i =>
      unfold insOf at e
      cases e1 : insOf ρ as with
      | none =>
        rw [e1] at e
        cases e2 : ρ[i]? with
        | none => rw [e2] at e; cases e
        | some en0 => rw [e2] at e; cases en0 <;> cases e
      | some l =>
        obtain ⟨z, g⟩ := ih e1
        have done : ∀ en0, ρ[i]? = some en0 → ((∃ w, en0 = .own w) ∨ ∃ d, en0 = .dat d) → ins = en0 :: l → ins.length = (Ar.slot i :: as).length ∧ ∀ (j : Nat) (en : En), ins[j]? = some en → (∃ d, (Ar.slot i :: as)[j]? = some (.dat d) ∧ en = .dat d) ∨ ∃ i', (Ar.slot i :: as)[j]? = some (.slot i') ∧ ρ[i']? = some en ∧ ((∃ w, en = .own w) ∨ ∃ d, en = .dat d) := by
          intro en0 h0 hk hi
          subst hi
          refine ⟨by simp [z], fun j en h => ?_⟩
          cases j with
          | zero => simp at h; subst h; exact .inr ⟨i, rfl, h0, hk⟩
          | succ j => simpa using g j en (by simpa using h)
        rw [e1] at e
        cases e2 : ρ[i]? with
        | none => rw [e2] at e; cases e
        | some en0 =>
          rw [e2] at e
          cases en0 with
          | emp => cases e
          | exc _ _ _ => cases e
          | own w => cases e; exact done _ e2 (.inl ⟨w, rfl⟩) rfl
          | dat d => cases e; exact done _ e2 (.inr ⟨d, rfl⟩) rfl
theorem RepAr.get {as : List Ar} {vs : List V} (h : RepAr K σ S H as vs) : vs.length = as.length ∧ ∀ j : Nat, (∀ d, as[j]? = some (.dat d) → ∃ v, vs[j]? = some v ∧ Rep K S H d v) ∧ ∀ i, as[j]? = some (.slot i) → ∃ v, vs[j]? = some v ∧ σ[i]? = some (some v) := by
  induction as generalizing vs with
  | nil => rw [show vs = [] from h]; exact ⟨rfl, fun j => ⟨fun d h => by simp at h, fun i h => by simp at h⟩⟩
  | cons a as ih =>
    cases a with
    | dat d =>
      obtain ⟨v, us, rfl, hd, hr⟩ := h
      obtain ⟨z, g⟩ := ih hr
      refine ⟨by simp [z], fun j => ?_⟩
      cases j with
      | zero => exact ⟨fun d' e => by simp at e; subst e; exact ⟨v, rfl, hd⟩, fun i e => by simp at e⟩
      | succ j => simpa using g j
    | slot i =>
      obtain ⟨v, us, rfl, hd, hr⟩ := h
      obtain ⟨z, g⟩ := ih hr
      refine ⟨by simp [z], fun j => ?_⟩
      cases j with
      | zero => exact ⟨fun d' e => by simp at e, fun i' e => by simp at e; subst e; exact ⟨v, rfl, hd⟩⟩
      | succ j => simpa using g j
theorem slots_mem {i : Nat} : ∀ {as : List Ar} {j : Nat}, as[j]? = some (.slot i) → i ∈ slots as := by
  intro as
  induction as with
  | nil => intro j h; simp at h
  | cons a as ih =>
    intro j h
    cases j with
    | zero => simp at h; subst h; exact List.mem_cons_self
    | succ j =>
      have := ih (by simpa using h)
      cases a with
      | dat d => exact this
      | slot i' => exact List.mem_cons_of_mem _ this
theorem slots_get {as : List Ar} {j j' i : Nat} (hn : (slots as).Nodup) (h : as[j]? = some (.slot i)) (h' : as[j']? = some (.slot i)) : j = j' := by
  have mem : ∀ {as : List Ar} {j : Nat}, as[j]? = some (.slot i) → i ∈ slots as := slots_mem
  induction as generalizing j j' with
  | nil => simp at h
  | cons a as ih =>
    cases a with
    | dat d =>
      cases j with
      | zero => simp at h
      | succ j =>
        cases j' with
        | zero => simp at h'
        | succ j' => exact congrArg (· + 1) (ih hn (by simpa using h) (by simpa using h'))
    | slot i' =>
      have hn : i' ∉ slots as ∧ (slots as).Nodup := List.nodup_cons.mp hn
      cases j with
      | zero =>
        simp at h; subst h
        cases j' with
        | zero => rfl
        | succ j' => exact absurd (mem (by simpa using h')) hn.1
      | succ j =>
        cases j' with
        | zero => simp at h'; subst h'; exact absurd (mem (by simpa using h)) hn.1
        | succ j' => exact congrArg (· + 1) (ih hn.2 (by simpa using h) (by simpa using h'))
theorem ctP {ins : List En} {vs : List V} {i : Nat} {q : Addr} (h : (ctOf ins vs H S).P i = some q) : (∃ w, ins[i]? = some (.own w)) ∧ vs[i]? = some (.ref q) := by
  have h : (match ins[i]?, vs[i]? with | some (.own _), some (.ref p) => some p | _, _ => none) = some q := h
  cases e1 : ins[i]? with
  | none => rw [e1] at h; cases h
  | some en =>
    cases e2 : vs[i]? with
    | none => rw [e1, e2] at h; cases en <;> cases h
    | some v =>
      rw [e1, e2] at h
      cases en <;> cases v <;> cases h
      exact ⟨⟨_, rfl⟩, rfl⟩
theorem ctP' {ins : List En} {vs : List V} {i : Nat} {q : Addr} {w : Ow} (h1 : ins[i]? = some (.own w)) (h2 : vs[i]? = some (.ref q)) : (ctOf ins vs H S).P i = some q := by
  show (match ins[i]?, vs[i]? with | some (.own _), some (.ref p) => some p | _, _ => none) = some q
  rw [h1, h2]
theorem entry {as : List Ar} {ins : List En} {vs : List V} (k : Ok K c ρ σ H S) (e : insOf ρ as = some ins) (hn : (slots as).Nodup) (h : RepAr K σ S H as vs) : Ok K (ctOf ins vs H S) ins (vs.map some) H S := by
  obtain ⟨l1, g1⟩ := insOf_get e
  obtain ⟨l2, g2⟩ := h.get
  have at_ : ∀ (i : Nat) (v : V), vs[i]? = some v → (vs.map some)[i]? = some (some v) := fun i v e => by rw [List.getElem?_map, e]; rfl
  have own : ∀ (i : Nat) (w : Ow), ins[i]? = some (.own w) → ∃ s p, as[i]? = some (.slot s) ∧ ρ[s]? = some (.own w) ∧ σ[s]? = some (some (.ref p)) ∧ vs[i]? = some (.ref p) ∧ RepO K S H w p ∧ ¬ S p := fun i w q => by
    rcases g1 i _ q with ⟨d, _, z⟩ | ⟨s, z1, z2, _⟩
    · cases z
    · obtain ⟨v, z3, z4⟩ := (g2 i).2 s z1
      obtain ⟨p, z5, z6, z7, _⟩ := k.own s w z2
      rw [z4] at z5; cases z5
      exact ⟨s, p, z1, z2, z4, z3, z6, z7⟩
  refine ⟨by rw [l1, List.length_map, l2], fun i d q => ?_, fun i w q => ?_, fun i a d x q => ?_, fun i j w w' p q q' r r' => ?_, fun i q e => ?_, fun a o e _ => e, k.st, fun a s => s, fun a s => .inl s⟩
  · rcases g1 i _ q with ⟨d', z1, z⟩ | ⟨s, z1, z2, _⟩
    · cases z
      obtain ⟨v, z2, z3⟩ := (g2 i).1 d z1
      exact ⟨v, at_ i v z2, z3⟩
    · obtain ⟨v, z3, z4⟩ := (g2 i).2 s z1
      obtain ⟨v', z5, z6⟩ := k.dat s d z2
      rw [z4] at z5; cases z5
      exact ⟨v, at_ i v z3, z6⟩
  · obtain ⟨s, p, z1, z2, z3, z4, z5, z6⟩ := own i w q
    refine ⟨p, at_ i _ z4, z5, z6, fun q' e' => ?_, fun e' => ?_⟩
    · rw [ctP' q z4] at e'; exact Option.some.inj e'
    · rw [ctP' q z4] at e'; cases e'
  · rcases g1 i _ q with ⟨d', z1, z⟩ | ⟨s, z1, z2, z3⟩
    · cases z
    · rcases z3 with ⟨w, z3⟩ | ⟨d, z3⟩ <;> cases z3
  · obtain ⟨s, p1, z1, z2, z3, z4, _⟩ := own i w q
    obtain ⟨s', p2, y1, y2, y3, y4, _⟩ := own j w' q'
    rw [at_ i _ z4] at r; cases r
    rw [at_ j _ y4] at r'; cases r'
    have := k.inj s s' w w' _ z2 y2 z3 y3
    subst this
    exact slots_get hn z1 y1
  · obtain ⟨⟨w, h1⟩, h2⟩ := ctP e
    obtain ⟨s, p, z1, z2, z3, z4, z5, z6⟩ := own i w h1
    rw [h2] at z4; cases z4
    exact z5.trk
theorem back_len (as : List Ar) (outs ρ : List En) : (back as outs ρ).length = ρ.length := by
  induction as generalizing outs ρ with
  | nil => rfl
  | cons a as ih =>
    cases a with
    | dat d => cases outs <;> exact ih _ _
    | slot i =>
      cases outs with
      | nil =>
        refine (ih _ _).trans ?_
        split <;> simp
      | cons o outs =>
        refine (ih _ _).trans ?_
        split <;> simp
theorem back_get {as : List Ar} {outs ρ : List En} (hn : (slots as).Nodup) (s : Nat) :
    (s ∉ slots as ∧ (back as outs ρ)[s]? = ρ[s]?) ∨ ∃ j : Nat, as[j]? = some (.slot s) ∧ ((∃ w w', ρ[s]? = some (.own w) ∧ outs[j]? = some (.own w') ∧ (back as outs ρ)[s]? = some (.own w')) ∨ (∃ w, ρ[s]? = some (.own w) ∧ (back as outs ρ)[s]? = some .emp) ∨ ((∀ w, ρ[s]? ≠ some (.own w)) ∧ (back as outs ρ)[s]? = ρ[s]?)) := by
  induction as generalizing outs ρ with
  | nil => exact .inl ⟨by simp [slots], rfl⟩
  | cons a as ih =>
    cases a with
    | dat d =>
      have e : back (.dat d :: as) outs ρ = back as outs.tail ρ := by cases outs <;> rfl
      rw [e]
      rcases ih (outs := outs.tail) (ρ := ρ) hn with h | ⟨j, h, g⟩
      · exact .inl h
      · refine .inr ⟨j + 1, by simpa using h, ?_⟩
        rcases g with ⟨w, w', g1, g2, g3⟩ | g | g
        · exact .inl ⟨w, w', g1, by cases outs <;> simpa using g2, g3⟩
        · exact .inr (.inl g)
        · exact .inr (.inr g)
    | slot i =>
      have hn : i ∉ slots as ∧ (slots as).Nodup := List.nodup_cons.mp hn
      obtain ⟨ρ1, e, e1, e2⟩ : ∃ ρ1, back (.slot i :: as) outs ρ = back as outs.tail ρ1 ∧ (∀ s, s ≠ i → ρ1[s]? = ρ[s]?) ∧ ((∃ w w', ρ[i]? = some (.own w) ∧ outs[0]? = some (.own w') ∧ ρ1[i]? = some (.own w')) ∨ (∃ w, ρ[i]? = some (.own w) ∧ ρ1[i]? = some .emp) ∨ ((∀ w, ρ[i]? ≠ some (.own w)) ∧ ρ1[i]? = ρ[i]?)) := by
        by_cases ho : ∃ w, ρ[i]? = some (.own w)
        · obtain ⟨w, ho⟩ := ho
          have li : i < ρ.length := (List.getElem?_eq_some_iff.mp ho).1
          cases outs with
          | nil => exact ⟨ρ.set i .emp, by show back as [] (match ρ[i]? with | some (.own _) => ρ.set i .emp | _ => ρ) = _; rw [ho]; rfl, fun s h => List.getElem?_set_ne (Ne.symm h), .inr (.inl ⟨w, ho, List.getElem?_set_self li⟩)⟩
          | cons o outs =>
            cases o with
            | own w' => exact ⟨ρ.set i (.own w'), by show back as outs (match ρ[i]?, En.own w' with | some (.own _), .own w => ρ.set i (.own w) | some (.own _), _ => ρ.set i .emp | _, _ => ρ) = _; rw [ho]; rfl, fun s h => List.getElem?_set_ne (Ne.symm h), .inl ⟨w, w', ho, rfl, List.getElem?_set_self li⟩⟩
            | emp => exact ⟨ρ.set i .emp, by show back as outs (match ρ[i]?, En.emp with | some (.own _), .own w => ρ.set i (.own w) | some (.own _), _ => ρ.set i .emp | _, _ => ρ) = _; rw [ho]; rfl, fun s h => List.getElem?_set_ne (Ne.symm h), .inr (.inl ⟨w, ho, List.getElem?_set_self li⟩)⟩
            | dat d => exact ⟨ρ.set i .emp, by show back as outs (match ρ[i]?, En.dat d with | some (.own _), .own w => ρ.set i (.own w) | some (.own _), _ => ρ.set i .emp | _, _ => ρ) = _; rw [ho]; rfl, fun s h => List.getElem?_set_ne (Ne.symm h), .inr (.inl ⟨w, ho, List.getElem?_set_self li⟩)⟩
            | exc a b x => exact ⟨ρ.set i .emp, by show back as outs (match ρ[i]?, En.exc a b x with | some (.own _), .own w => ρ.set i (.own w) | some (.own _), _ => ρ.set i .emp | _, _ => ρ) = _; rw [ho]; rfl, fun s h => List.getElem?_set_ne (Ne.symm h), .inr (.inl ⟨w, ho, List.getElem?_set_self li⟩)⟩
        · have hq : ∀ w, ρ[i]? ≠ some (.own w) := fun w z => ho ⟨w, z⟩
          refine ⟨ρ, ?_, fun _ _ => rfl, .inr (.inr ⟨hq, rfl⟩)⟩
          cases outs with
          | nil =>
            show back as [] (match ρ[i]? with | some (.own _) => ρ.set i .emp | _ => ρ) = _
            split
            · rename_i w z; exact absurd z (hq w)
            · rfl
          | cons o outs =>
            show back as outs (match ρ[i]?, o with | some (.own _), .own w => ρ.set i (.own w) | some (.own _), _ => ρ.set i .emp | _, _ => ρ) = _
            split
            · rename_i w z; exact absurd z (hq _)
            · rename_i z _; exact absurd z (hq _)
            · rfl
      rw [e]
      by_cases hs : s = i
      · subst hs
        refine .inr ⟨0, rfl, ?_⟩
        have keep : (back as outs.tail ρ1)[s]? = ρ1[s]? := by
          rcases ih (outs := outs.tail) (ρ := ρ1) hn.2 with h | ⟨j, h, _⟩
          · exact h.2
          · exact absurd (slots_mem h) hn.1
        rw [keep]
        rcases e2 with ⟨w, w', g1, g2, g3⟩ | ⟨w, g1, g2⟩ | ⟨g1, g2⟩
        · exact .inl ⟨w, w', g1, g2, g3⟩
        · exact .inr (.inl ⟨w, g1, g2⟩)
        · exact .inr (.inr ⟨g1, g2⟩)
      · rcases ih (outs := outs.tail) (ρ := ρ1) hn.2 with h | ⟨j, h, g⟩
        · refine .inl ⟨fun z => ?_, h.2.trans (e1 s hs)⟩
          rcases List.mem_cons.mp z with z | z
          · exact hs z
          · exact h.1 z
        · refine .inr ⟨j + 1, by simpa using h, ?_⟩
          rw [e1 s hs] at g
          rcases g with ⟨w, w', g1, g2, g3⟩ | g | g
          · exact .inl ⟨w, w', g1, by cases outs <;> simpa using g2, g3⟩
          · exact .inr (.inl g)
          · exact .inr (.inr g)
theorem behind {as : List Ar} {ins outs : List En} {vs : List V} (k : Ok K c ρ σ H S) (e : insOf ρ as = some ins) (hn : (slots as).Nodup) (h : RepAr K σ S H as vs) (f : Aft K (ctOf ins vs H S) outs H' S') : Step K c σ ρ H S (back as outs ρ) H' S' := by
  obtain ⟨l1, g1⟩ := insOf_get e
  obtain ⟨l2, g2⟩ := h.get
  -- the places handed over are slots' own
  have own : ∀ (j : Nat) (p : Addr), (ctOf ins vs H S).P j = some p → ∃ s w, as[j]? = some (.slot s) ∧ ρ[s]? = some (.own w) ∧ σ[s]? = some (some (.ref p)) := fun j p q => by
    obtain ⟨⟨w, h1⟩, h2⟩ := ctP q
    rcases g1 j _ h1 with ⟨d, _, z⟩ | ⟨s, z1, z2, _⟩
    · cases z
    · obtain ⟨v, z3, z4⟩ := (g2 j).2 s z1
      rw [h2] at z3; cases z3
      exact ⟨s, w, z1, z2, z4⟩
  have handed : ∀ (s j : Nat) (w : Ow) (p : Addr), as[j]? = some (.slot s) → ρ[s]? = some (.own w) → σ[s]? = some (some (.ref p)) → (ctOf ins vs H S).P j = some p := fun s j w p z1 z2 z3 => by
    obtain ⟨v, z4, z5⟩ := (g2 j).2 s z1
    rw [z3] at z5; cases z5
    have lj : j < ins.length := by rw [l1]; exact (List.getElem?_eq_some_iff.mp z1).1
    have := g1 j ins[j] (List.getElem?_eq_getElem lj)
    rcases this with ⟨d, y1, y2⟩ | ⟨s', y1, y2, _⟩
    · rw [z1] at y1; cases y1
    · rw [z1] at y1; cases y1
      rw [z2] at y2
      exact ctP' (by rw [List.getElem?_eq_getElem lj, ← Option.some.inj y2]) z4
  have pOwn : ∀ (j : Nat) (p : Addr), (ctOf ins vs H S).P j = some p → OwnA ρ σ p := fun j p q => by
    obtain ⟨s, w, _, z2, z3⟩ := own j p q
    exact ⟨s, w, z2, z3⟩
  have fr : ∀ a o, H a = some o → ¬ OwnA ρ σ a → H' a = some o := fun a o e n => f.fr a o e fun i z => n (pOwn i a z)
  have m : ∀ a o, S a → H a = some o → S' a ∧ H' a = some o := fun a o s e => ⟨f.s0 a s, fr a o e (k.nown s)⟩
  have s1 : ∀ a, S' a → S a ∨ H a = none ∨ OwnA ρ σ a := fun a s => by
    rcases f.s1 a s with s | s | ⟨i, s⟩
    · exact .inl s
    · exact .inr (.inl s)
    · exact .inr (.inr (pOwn i a s))
  -- an own slot behind the call
  have ownB : ∀ (s : Nat) (w : Ow), (back as outs ρ)[s]? = some (.own w) → ∃ w0 p, ρ[s]? = some (.own w0) ∧ σ[s]? = some (some (.ref p)) ∧ RepO K S' H' w p ∧ ¬ S' p := fun s w q => by
    rcases back_get (outs := outs) (ρ := ρ) hn s with ⟨n, z⟩ | ⟨j, z1, z⟩
    · rw [z] at q
      obtain ⟨p, y1, y2, y3, _⟩ := k.own s w q
      have notP : ∀ j, (ctOf ins vs H S).P j ≠ some p := fun j y => by
        obtain ⟨s', w', x1, x2, x3⟩ := own j p y
        have := k.inj s s' w w' p q x2 y1 x3
        subst this
        exact n (slots_mem x1)
      obtain ⟨o, x⟩ := y2.trk
      refine ⟨w, p, q, y1, y2.mono m ((f.fr p o x notP).trans x.symm), fun s' => ?_⟩
      rcases f.s1 p s' with s' | s' | ⟨j, s'⟩
      · exact y3 s'
      · rw [show H p = none from s'] at x; cases x
      · exact notP j s'
    · rcases z with ⟨w0, w', y1, y2, y3⟩ | ⟨w0, y1, y3⟩ | ⟨y1, y3⟩
      · rw [y3] at q; cases q
        obtain ⟨p, x1, _⟩ := k.own s w0 y1
        have := f.out j w p y2 (handed s j w0 p z1 y1 x1)
        exact ⟨w0, p, y1, x1, this.1, this.2⟩
      · rw [y3] at q; cases q
      · rw [y3] at q; exact absurd q (y1 w)
  have othB : ∀ (s : Nat) (en : En), (back as outs ρ)[s]? = some en → (∀ w, en ≠ .own w) → en ≠ .emp → ρ[s]? = some en := fun s en q n1 n2 => by
    rcases back_get (outs := outs) (ρ := ρ) hn s with ⟨n, z⟩ | ⟨j, z1, z⟩
    · rw [z] at q; exact q
    · rcases z with ⟨w0, w', y1, y2, y3⟩ | ⟨w0, y1, y3⟩ | ⟨y1, y3⟩
      · rw [y3] at q; cases q; exact absurd rfl (n1 w')
      · rw [y3] at q; cases q; exact absurd rfl n2
      · rw [y3] at q; exact q
  refine ⟨⟨by rw [back_len]; exact k.len, fun i d q => ?_, fun i w q => ?_, fun i a d x q => ?_, fun i j w w' p q q' r r' => ?_, fun i q e => ?_, fun a o e n => ?_, f.st, fun a s => f.s0 a (k.s0 a s), fun a s => ?_⟩, fr, fun a o e => f.tr a o e, f.s0, s1, fun a q => ?_⟩
  · obtain ⟨v, y1, y2⟩ := k.dat i d (othB i _ q (fun w z => by cases z) (fun z => by cases z))
    exact ⟨v, y1, Rep.mono m _ _ y2⟩
  · obtain ⟨w0, p, y1, y2, y3, y4⟩ := ownB i w q
    obtain ⟨p', x1, _, _, x4, x5⟩ := k.own i w0 y1
    rw [y2] at x1; cases x1
    exact ⟨p, y2, y3, y4, x4, x5⟩
  · obtain ⟨y1, y2⟩ := k.exc i a d x (othB i _ q (fun w z => by cases z) (fun z => by cases z))
    exact ⟨y1, y2.mono m⟩
  · obtain ⟨w0, _, y1, _⟩ := ownB i w q
    obtain ⟨w1, _, y2, _⟩ := ownB j w' q'
    exact k.inj i j w0 w1 p y1 y2 r r'
  · obtain ⟨o, z⟩ := k.trk i q e
    exact f.tr q o z
  · have z := k.fr a o e n
    refine fr a o z fun y => ?_
    obtain ⟨i, w, y1, y2⟩ := y
    obtain ⟨p, x1, _, _, x4, x5⟩ := k.own i w y1
    rw [y2] at x1; cases x1
    cases e1 : c.P i with
    | none => rw [x5 e1] at e; cases e
    | some q => exact n i (by rw [e1, ← x4 q e1])
  · rcases s1 a s with s | s | s
    · exact k.s1 a s
    · exact .inr (.inl (k.free0 s))
    · obtain ⟨i, w, y1, y2⟩ := s
      obtain ⟨p, x1, _, _, x4, x5⟩ := k.own i w y1
      rw [y2] at x1; cases x1
      cases e1 : c.P i with
      | none => exact .inr (.inl (x5 e1))
      | some q => rw [x4 q e1]; exact .inr (.inr ⟨i, e1⟩)
  · obtain ⟨i, w, y1, y2⟩ := q
    obtain ⟨w0, p, z1, z2, _⟩ := ownB i w y1
    rw [y2] at z2
    exact ⟨i, w0, z1, y2⟩
theorem RepRs.len {rs : List Res} {vs : List V} (h : RepRs K σ H H' S' rs vs) : vs.length = rs.length := by
  induction rs generalizing vs with
  | nil => rw [show vs = [] from h]; rfl
  | cons r l ih => obtain ⟨v, us, e, _, h2, _⟩ := h; rw [e, List.length_cons, List.length_cons, ih h2]
theorem run_call {sp : SpD} {n : Nat} {mask : List Bool} {WD : WDt} {R : Res → List En → Prop} {Q : VK} {rs : List Res} {vs : List V} (hW : RelW K c W WD) (k : Ok K c ρ σ H S) (a : Step K c σ ρ H S ρ1 H1 S1) (rr : RepRs K σ H H1 S1 rs vs) (hl : rs.length = n)
    (hR : ∀ r ρ' v H' S', R r ρ' → Step K c σ ρ H S ρ' H' S' → RepR K σ H H' S' r v → Q v H')
    (q : kAr mask rs ρ1 fun as ρ2 => match insOf ρ2 as with | some ins => (slots as).Nodup ∧ sp ins (fun r outs => R r (back as outs ρ2)) (fun x outs => WD x (back as outs ρ2)) | none => False) : toSp K n sp vs H1 Q (WE W σ) := by
  refine kAr_ok mask k a rr (fun as ρ2 S2 q a2 _ har => ?_) q
  cases e : insOf ρ2 as with
  | none => rw [e] at q; exact q.elim
  | some ins =>
    rw [e] at q
    have lv : vs.length = n := rr.len.trans hl
    refine ⟨ins, S2, _, _, lv, entry a2.ok e q.1 har, q.2, fun r outs v H' S' q' f rc => ?_, fun x outs d H' S' q' f rx => ?_⟩
    · have a3 := a2.trans (behind a2.ok e q.1 har f)
      refine hR _ _ _ _ _ q' a3 ?_
      cases r with
      | dat d => exact rc
      | ref i => exact rc.elim
      | new w =>
        obtain ⟨p, e1, h0, n1, ro⟩ := rc
        exact ⟨p, e1, a2.gone h0, n1, ro⟩
    · exact hW _ σ H' S' x d (behind a2.ok e q.1 har f).ok rx q'
end
def tCallQ (sp : Sp) (W : WX) (t : TA) : TE := fun σ H Q => t σ H fun vs H1 => sp vs H1 Q (WE W σ)
end D
set_option Elab.async false
set_option linter.all false
set_option maxRecDepth 100000
namespace D
open PySem PySem.Spec PyProof.Rows L2
structure EndsD where
  nx : List En → Prop
  rt : Res → List En → Prop
  bk : List En → Prop := fun _ => False
  ct : List En → Prop := fun _ => False
abbrev TSD := WDt → EndsD → List En → Prop
def RepG (K : PySem.W.Frag) (c : Ct) (ρ : List En) (σ : L2.St) (H : Hp) (S : Addr → Prop) : Res → V → Prop
  | .dat d, v => Rep K S H d v
  | .new w, v => ∃ p, v = .ref p ∧ c.H0 p = none ∧ ¬ S p ∧ RepO K S H w p ∧ ¬ OwnA ρ σ p
  | .ref i, v => σ[i]? = some (some v)
def Keep (S : Addr → Prop) (H : Hp) (S' : Addr → Prop) (H' : Hp) : Prop := ∀ a o, S a → H a = some o → S' a ∧ H' a = some o
theorem Keep.refl {S : Addr → Prop} {H : Hp} : Keep S H S H := fun _ _ s e => ⟨s, e⟩
theorem Keep.trans {S S1 S2 : Addr → Prop} {H H1 H2 : Hp} (a : Keep S H S1 H1) (b : Keep S1 H1 S2 H2) : Keep S H S2 H2 := fun x o s e => b x o (a x o s e).1 (a x o s e).2
theorem Step.keep {K : PySem.W.Frag} {c : Ct} {σ : L2.St} {ρ ρ' : List En} {H H' : Hp} {S S' : Addr → Prop} (a : Step K c σ ρ H S ρ' H' S') (k : Ok K c ρ σ H S) : Keep S H S' H' := a.car k
structure RelE (K : PySem.W.Frag) (c : Ct) (S : Addr → Prop) (H : Hp) (D : Ends) (E : EndsD) : Prop where
  nx : ∀ ρ σ H' S', Ok K c ρ σ H' S' → Keep S H S' H' → E.nx ρ → D.nx σ H'
  rt : ∀ r ρ σ H' S' v, Ok K c ρ σ H' S' → RepG K c ρ σ H' S' r v → E.rt r ρ → D.rt v H'
  bk : ∀ ρ σ H' S', Ok K c ρ σ H' S' → Keep S H S' H' → E.bk ρ → D.bk σ H'
  ct : ∀ ρ σ H' S', Ok K c ρ σ H' S' → Keep S H S' H' → E.ct ρ → D.ct σ H'
theorem RelE.at {K : PySem.W.Frag} {c : Ct} {S S1 : Addr → Prop} {H H1 : Hp} {D : Ends} {E : EndsD} (h : RelE K c S H D E) (a : Keep S H S1 H1) : RelE K c S1 H1 D E :=
  ⟨fun ρ σ H' S' k p => h.nx ρ σ H' S' k (a.trans p), h.rt, fun ρ σ H' S' k p => h.bk ρ σ H' S' k (a.trans p), fun ρ σ H' S' k p => h.ct ρ σ H' S' k (a.trans p)⟩
def SndS (K : PySem.W.Frag) (c : Ct) (W : WX) (t0 : TS) (t : TSD) : Prop := ∀ WD D E ρ σ H S, RelW K c W WD → RelE K c S H D E → Ok K c ρ σ H S → t WD E ρ → t0 D σ H
structure PSD (X : Cx) (c : Ct) (W : WX) (st : Stmt) (t0 : TS) (t : TSD) : Prop where
  ps : PS X st t0
  sn : SndS X.K c W t0 t
structure PSsD (X : Cx) (c : Ct) (W : WX) (sts : List Stmt) (t0 : TS) (t : TSD) : Prop where
  pss : PSs X sts t0
  sn : SndS X.K c W t0 t
section
variable {K : PySem.W.Frag} {c : Ct} {W : WX} {X : Cx} {σ : L2.St} {ρ ρ1 ρ' : List En} {H H1 H2 H' : Hp} {S S1 S2 S' : Addr → Prop}
theorem RepR.g {r : Res} {v : V} (k : Ok K c ρ σ H S) (a : Step K c σ ρ H S ρ' H' S') (h : RepR K σ H H' S' r v) : RepG K c ρ' σ H' S' r v := by
  cases r with
  | dat d => exact h
  | ref i => exact h
  | new w =>
    obtain ⟨p, e, h0, n, ro⟩ := h
    exact ⟨p, e, k.free0 h0, n, ro, fun q => k.nown0 h0 (a.ow _ q)⟩
def gP (k : En → List En → Prop) : Res → List En → Prop
  | .dat d, ρ => k (.dat d) ρ
  | .new w, ρ => k (.own w) ρ
  | .ref i, ρ => match ρ[i]? with
    | some (.own w) => k (.dat w.frz) (ρ.set i (.dat w.frz))
    | some (.dat d) => k (.dat d) ρ
    | _ => False
def EnOk (K : PySem.W.Frag) (c : Ct) (ρ : List En) (σ : L2.St) (H : Hp) (S : Addr → Prop) : En → V → Prop
  | .dat d, v => Rep K S H d v
  | .own w, v => ∃ p, v = .ref p ∧ c.H0 p = none ∧ ¬ S p ∧ RepO K S H w p ∧ ¬ OwnA ρ σ p
  | _, _ => False
theorem Ok.putE (k : Ok K c ρ σ H S) {i : Nat} {e : En} {v : V} (h : EnOk K c ρ σ H S e v) (hP : c.P i = none) : Ok K c (ρ.set i e) (σ.set i (some v)) H S := by
  cases e with
  | dat d => exact k.putD h
  | own w => obtain ⟨p, rfl, h0, n, ro, no⟩ := h; exact k.putO hP ro n h0 no
  | emp => exact h.elim
  | exc _ _ _ => exact h.elim
theorem gP_ok {Q : Prop} {R : En → List En → Prop} {r : Res} {v : V} (k : Ok K c ρ σ H S) (h : RepG K c ρ σ H S r v) (hR : ∀ e ρ2 S2, R e ρ2 → Ok K c ρ2 σ H S2 → (∀ x, S x → S2 x) → EnOk K c ρ2 σ H S2 e v → Q) (q : gP R r ρ) : Q := by
  cases r with
  | dat d => exact hR _ _ S q k (fun _ s => s) h
  | new w => exact hR _ _ S q k (fun _ s => s) h
  | ref i =>
    have h : σ[i]? = some (some v) := h
    have q : (match ρ[i]? with | some (.own w) => R (.dat w.frz) (ρ.set i (.dat w.frz)) | some (.dat d) => R (.dat d) ρ | _ => False) := q
    cases e : ρ[i]? with
    | none => rw [e] at q; exact q.elim
    | some en =>
      rw [e] at q
      cases en with
      | emp => exact q.elim
      | exc _ _ _ => exact q.elim
      | dat d =>
        obtain ⟨v', e1, r⟩ := k.dat i d e
        rw [h] at e1; cases e1
        exact hR _ _ S q k (fun _ s => s) r
      | own w =>
        obtain ⟨p, e1, r, _⟩ := k.own i w e
        rw [h] at e1; cases e1
        exact hR _ _ _ q (k.icy e h).ok (fun _ s => .inl s) r.frz
abbrev TGD := WDt → Res → List En → (List En → Prop) → Prop
def SndG (K : PySem.W.Frag) (c : Ct) (W : WX) (g0 : TG) (g : TGD) : Prop := ∀ WD r ρ σ H S v (Q : L2.St → Hp → Prop) (R : List En → Prop), RelW K c W WD → Ok K c ρ σ H S → RepG K c ρ σ H S r v → (∀ ρ' σ' H' S', R ρ' → Ok K c ρ' σ' H' S' → Keep S H S' H' → Q σ' H') → g WD r ρ R → g0 v σ H Q
structure PGD (X : Cx) (c : Ct) (W : WX) (tg : Expr) (g0 : TG) (g : TGD) : Prop where
  pg : PG X tg g0
  sn : SndG X.K c W g0 g
def gN (i : Nat) : TGD := fun _ r ρ R => gP (fun e ρ' => R (ρ'.set i e)) r ρ
theorem gd_name {i : Nat} {x : Str} {pos : Pos} (hN : X.N.Nodup) (hi : X.N[i]? = some x) (hx : Loc X.env.scope x) (hP : c.P i = none) (hf : X.fn x = true ∨ X.env.scope.names.lookup x = some .local := by first | exact .inl rfl | exact .inr rfl | assumption) : PGD X c W (.Name x pos) (gName i) (gN i) :=
  ⟨pg_name hN hi hx hf, fun WD r ρ σ H S v Q R hW k h hR q => gP_ok k h (fun e ρ2 S2 q k2 s2 he => hR _ _ _ _ q (k2.putE he hP) fun a o s e => ⟨s2 a s, e⟩) q⟩
def gNF (i : Nat) : TGD := fun _ r ρ R => kD (fun d ρ' => R (ρ'.set i (.dat d))) r ρ
theorem kDg_ok {Q : Prop} {R : Dt → List En → Prop} {r : Res} {v : V} (k : Ok K c ρ σ H S) (h : RepG K c ρ σ H S r v) (hR : ∀ d ρ2 S2, R d ρ2 → Ok K c ρ2 σ H S2 → (∀ x, S x → S2 x) → Rep K S2 H d v → Q) (q : kD R r ρ) : Q := by
  cases r with
  | dat d => exact hR _ _ S q k (fun _ s => s) h
  | new w =>
    obtain ⟨p, rfl, h0, n, ro, no⟩ := h
    exact hR _ _ _ q (Step.cold k no h0 ro.trk) (fun _ s => .inl s) ro.frz
  | ref i =>
    have h : σ[i]? = some (some v) := h
    have q : (match ρ[i]? with | some (.own w) => R w.frz (ρ.set i (.dat w.frz)) | some (.dat d) => R d ρ | _ => False) := q
    cases e : ρ[i]? with
    | none => rw [e] at q; exact q.elim
    | some en =>
      rw [e] at q
      cases en with
      | emp => exact q.elim
      | exc _ _ _ => exact q.elim
      | dat d =>
        obtain ⟨v', e1, r⟩ := k.dat i d e
        rw [h] at e1; cases e1
        exact hR _ _ S q k (fun _ s => s) r
      | own w =>
        obtain ⟨p, e1, r, _⟩ := k.own i w e
        rw [h] at e1; cases e1
        exact hR _ _ _ q (k.icy e h).ok (fun _ s => .inl s) r.frz
abbrev TGsD := WDt → List Dt → List En → (List En → Prop) → Prop
def SndGs (K : PySem.W.Frag) (c : Ct) (W : WX) (g0 : TGs) (g : TGsD) : Prop := ∀ WD ds ρ σ H S vs (Q : L2.St → Hp → Prop) (R : List En → Prop), RelW K c W WD → Ok K c ρ σ H S → Reps K S H ds vs → (∀ ρ' σ' H' S', R ρ' → Ok K c ρ' σ' H' S' → Keep S H S' H' → Q σ' H') → g WD ds ρ R → g0 vs σ H Q
structure PGsD (X : Cx) (c : Ct) (W : WX) (ts : List Expr) (g0 : TGs) (g : TGsD) : Prop where
  pg : PGs X ts g0
  sn : SndGs X.K c W g0 g
def gNilD : TGsD := fun _ ds ρ R => match ds with
  | [] => R ρ
  | _ => False
def gConsD (i : Nat) (u : TGsD) : TGsD := fun WD ds ρ R => match ds with
  | d :: r => u WD r (ρ.set i (.dat d)) R
  | [] => False
theorem gs_nil : PGsD X c W [] gNil gNilD := ⟨pgs_nil, fun WD ds ρ σ H S vs Q R hW k h hR q => by
  cases ds with
  | nil => exact ⟨h, hR _ _ _ _ q k .refl⟩
  | cons _ _ => exact q.elim⟩
theorem gs_cons {i : Nat} {x : Str} {pos : Pos} {es : List Expr} {u0 : TGs} {u : TGsD} (hN : X.N.Nodup) (hi : X.N[i]? = some x) (hx : Loc X.env.scope x) (h2 : PGsD X c W es u0 u) (hf : X.fn x = true ∨ X.env.scope.names.lookup x = some .local := by first | exact .inl rfl | exact .inr rfl | assumption)
    (hs : (assignEach (.Name x pos :: es) X.env).map (·.2) = assign (.Name x pos) X.env :: (assignEach es X.env).map (·.2) := by rfl) : PGsD X c W (.Name x pos :: es) (gCons (gName i) u0) (gConsD i u) := ⟨pgs_cons (pg_name hN hi hx hf) h2.pg hs, fun WD ds ρ σ H S vs Q R hW k h hR q => by
  cases ds with
  | nil => exact q.elim
  | cons d r =>
    obtain ⟨v, us, rfl, hd, hr⟩ := h
    exact ⟨v, us, rfl, h2.sn WD r _ _ H S us Q R hW (k.putD hd) hr hR q⟩⟩
def gTupD (n : Nat) (u : TGsD) : TGD := fun WD r ρ R => kD (fun d ρ' => match d with
  | .tup l => l.length = n ∧ u WD l ρ' R
  | _ => False) r ρ
def gUnlD (n : Nat) (u : TGsD) : TGD := fun WD r ρ R => kD (fun d ρ' => match d with
  | .lst l => l.length = n ∧ u WD l ρ' R
  | _ => False) r ρ
theorem gd_tup {es : List Expr} {m n : Nat} {pos : Pos} {u0 : TGs} {u : TGsD} (hc : X.calm = true) (h : PGsD X c W es u0 u) (hn : (assignEach es X.env).length = n := by rfl) (hst : (assignEach es X.env).findIdx? (·.1) = none := by rfl) : PGD X c W (.Tuple es m pos) (gTup X.K n u0) (gTupD n u) :=
  ⟨pg_tup hc h.pg hn hst, fun WD r ρ σ H S v Q R hW k hr hR q => kDg_ok k hr (fun d ρ2 S2 q k2 s2 hd => by
    cases d with
    | tup l =>
      obtain ⟨a, vs, e, hq, hl⟩ := hd.tupT
      exact ⟨a, vs, e, hq, by rw [hl.length]; exact q.1, h.sn WD l ρ2 σ H S2 vs Q R hW k2 hl (fun ρ3 σ3 H3 S3 q k3 p => hR ρ3 σ3 H3 S3 q k3 fun a o s e => p a o (s2 a s) e) q.2⟩
    | _ => exact q.elim) q⟩
variable {st : Stmt} {sts rest : List Stmt} {t0 u0 : TS} {t u : TSD} {e : Expr} {te0 : TE} {te : TED} {pos : Pos}
def dNext : TSD := fun _ E ρ => E.nx ρ
def dSeq (t u : TSD) : TSD := fun WD E ρ => t WD { E with nx := u WD E } ρ
theorem ss_nil : PSsD X c W [] tNext dNext := ⟨pss_nil, fun WD D E ρ σ H S hW hE k q => hE.nx _ _ _ _ k .refl q⟩
theorem ss_one (h : PSD X c W st t0 t) : PSsD X c W [st] t0 t := ⟨pss_one h.ps, h.sn⟩
theorem ss_cons (h1 : PSD X c W st t0 t) (h2 : PSsD X c W rest u0 u) : PSsD X c W (st :: rest) (tSeq t0 u0) (dSeq t u) := ⟨pss_cons h1.ps h2.pss, fun WD D E ρ σ H S hW hE k q =>
  h1.sn WD { D with nx := u0 D } { E with nx := u WD E } ρ σ H S hW ⟨fun ρ σ H' S' k p q => h2.sn WD D E ρ σ H' S' hW (hE.at p) k q, hE.rt, hE.bk, hE.ct⟩ k q⟩
def dBreak : TSD := fun _ E ρ => E.bk ρ
def dCont : TSD := fun _ E ρ => E.ct ρ
def dDrop (te : TED) : TSD := fun WD E ρ => te WD ρ fun _ ρ' => E.nx ρ'
theorem sd_expr (he : PED X c W e te0 te) (hs : swapsWith e none pos.line X.env = pure false := by rfl) : PSD X c W (.Expr e pos) (tDrop te0) (dDrop te) := ⟨ps_expr he.pe hs, fun WD D E ρ σ H S hW hE k q =>
  he.sn WD ρ σ H S _ _ hW k (fun r ρ' v H' S' q a _ => hE.nx _ _ _ _ a.ok (a.keep k) q) q⟩
def dRet (te : TED) : TSD := fun WD E ρ => te WD ρ E.rt
theorem sd_ret (he : PED X c W e te0 te) : PSD X c W (.Return (some e) pos) (tRet te0) (dRet te) := ⟨ps_ret he.pe, fun WD D E ρ σ H S hW hE k q =>
  he.sn WD ρ σ H S _ _ hW k (fun r ρ' v H' S' q a rr => hE.rt _ _ _ _ _ _ a.ok (rr.g k a) q) q⟩
def dRetN : TSD := fun _ E ρ => E.rt (.dat .non) ρ
def dIfS (tc : TTD) (t u : TSD) : TSD := fun WD E ρ => tc WD ρ fun b ρ1 => if b = true then t WD E ρ1 else u WD E ρ1
theorem sd_if {cc : Expr} {a b : List Stmt} {tc0 : TT} {tc : TTD} (hc : PTD X c W cc tc0 tc) (ha : PSsD X c W a t0 t) (hb : PSsD X c W b u0 u) : PSD X c W (.If cc a b pos) (tIfS tc0 t0 u0) (dIfS tc t u) := ⟨ps_if hc.pt ha.pss hb.pss, fun WD D E ρ σ H S hW hE k q => by
  refine hc.sn WD ρ σ H S _ _ hW k (fun b ρ1 H1 S1 q a => ?_) q
  cases b with
  | true => exact ha.sn WD D E ρ1 σ H1 S1 hW (hE.at (a.keep k)) a.ok q
  | false => exact hb.sn WD D E ρ1 σ H1 S1 hW (hE.at (a.keep k)) a.ok q⟩
def dNever : TSD := fun _ _ _ => False
theorem sd_never : PSD X c W st tNever dNever := ⟨ps_never, fun WD D E ρ σ H S hW hE k q => q.elim⟩
def dAsg (te : TED) (g : TGD) : TSD := fun WD E ρ => te WD ρ fun r ρ' => g WD r ρ' E.nx
theorem snd_asg {g0 : TG} {g : TGD} (he : SndE K c W te0 te) (hg : SndG K c W g0 g) : SndS K c W (tAsg te0 g0) (dAsg te g) := fun WD D E ρ σ H S hW hE k q =>
  he WD ρ σ H S _ _ hW k (fun r ρ' v H' S' q a rr => hg WD r ρ' σ H' S' v _ _ hW a.ok (rr.g k a) (fun ρ2 σ2 H2 S2 q k2 p => hE.nx _ _ _ _ k2 ((a.keep k).trans p) q) q) q
theorem sd_set {i : Nat} {x : Str} {pos' : Pos} (hN : X.N.Nodup) (hi : X.N[i]? = some x) (hx : Loc X.env.scope x) (hP : c.P i = none) (he : PED X c W e te0 te) (hs : swapsWith e (some (.Name x pos')) pos.line X.env = pure false := by rfl) (hf : X.fn x = true ∨ X.env.scope.names.lookup x = some .local := by first | exact .inl rfl | exact .inr rfl | assumption) :
    PSD X c W (.Assign [.Name x pos'] e pos) (tAsg te0 (gName i)) (dAsg te (gN i)) := ⟨ps_set hN hi hx he.pe hs hf, snd_asg he.sn (gd_name (W := W) hN hi hx hP hf (pos := pos')).sn⟩
theorem sd_asg {tg : Expr} {g0 : TG} {g : TGD} (he : PED X c W e te0 te) (hg : PGD X c W tg g0 g) (hs : swapsWithSole [tg] e pos.line X.env = pure false := by rfl) (hw : swappedStores [tg] e X.env = pure none := by rfl)
    (h1 : (assignEach [tg] X.env).map (·.2) = [assign tg X.env] := by rfl) : PSD X c W (.Assign [tg] e pos) (tAsg te0 g0) (dAsg te g) := ⟨ps_asg he.pe hg.pg hs hw h1, snd_asg he.sn hg.sn⟩
def gPs : List Res → List En → (List En → List En → Prop) → Prop
  | [], ρ, k => k [] ρ
  | r :: rs, ρ, k => gP (fun e ρ1 => gPs rs ρ1 fun es ρ2 => k (e :: es) ρ2) r ρ
def putAll : List Nat → List En → List En → List En
  | i :: is, e :: es, ρ => putAll is es (ρ.set i e)
  | _, _, ρ => ρ
def putAllV : List Nat → List V → L2.St → L2.St
  | i :: is, v :: vs, σ => putAllV is vs (σ.set i (some v))
  | _, _, σ => σ
def dPar (is : List Nat) (ta : TAD) : TSD := fun WD E ρ => ta WD ρ fun rs ρ1 => rs.length = is.length ∧ gPs rs ρ1 fun es ρ2 => E.nx (putAll is es ρ2)
def EnsOk (K : PySem.W.Frag) (c : Ct) (ρ : List En) (σ : L2.St) (H : Hp) (S : Addr → Prop) : List En → List V → Prop
  | [], vs => vs = []
  | e :: es, vs => ∃ v us, vs = v :: us ∧ EnOk K c ρ σ H S e v ∧ EnsOk K c ρ σ H S es us ∧ ∀ w, e = .own w → ∀ (j : Nat) (w' : Ow), es[j]? = some (.own w') → us[j]? ≠ some v
theorem EnsOk.get {es : List En} {vs : List V} {j : Nat} {e : En} (h : EnsOk K c ρ σ H S es vs) (hj : es[j]? = some e) : ∃ v, vs[j]? = some v ∧ EnOk K c ρ σ H S e v := by
  induction es generalizing vs j with
  | nil => simp at hj
  | cons r' l ih =>
    obtain ⟨u, us, e, h1, h2, h3⟩ := h
    subst e
    cases j with
    | zero => simp at hj; subst hj; exact ⟨u, rfl, h1⟩
    | succ j => obtain ⟨v, e, q⟩ := ih h2 (by simpa using hj); exact ⟨v, by simpa using e, q⟩
theorem Ok.putAll {is : List Nat} {es : List En} {vs : List V} (k : Ok K c ρ σ H S) (hP : ∀ i ∈ is, c.P i = none) (h : EnsOk K c ρ σ H S es vs) : Ok K c (D.putAll is es ρ) (putAllV is vs σ) H S := by
  induction is generalizing es vs ρ σ with
  | nil => cases es <;> exact k
  | cons i is ih =>
    cases es with
    | nil => rw [show vs = [] from h]; exact k
    | cons e es =>
      obtain ⟨v, us, rfl, h1, h2, h3⟩ := h
      refine ih (k.putE h1 (hP i List.mem_cons_self)) (fun j hj => hP j (List.mem_cons_of_mem _ hj)) ?_
      clear ih
      have one : ∀ {en : En} {u : V}, EnOk K c ρ σ H S en u → (∀ w w', e = .own w → en = .own w' → u ≠ v) → EnOk K c (ρ.set i e) (σ.set i (some v)) H S en u := fun {en u} hu hne => by
        cases en with
        | dat d => exact hu
        | emp => exact hu
        | exc _ _ _ => exact hu
        | own w' =>
          obtain ⟨p, rfl, h0, n, ro, no⟩ := hu
          refine ⟨p, rfl, h0, n, ro, fun q => ?_⟩
          obtain ⟨j, w2, q1, q2⟩ := q
          rcases set_some q1 with ⟨e1, e2, l⟩ | ⟨n2, q1⟩
          · subst e1
            rw [List.getElem?_set_self (by rw [← k.len]; exact l)] at q2
            exact hne w2 w' e2 rfl (by cases q2; rfl)
          · rw [List.getElem?_set_ne n2] at q2
            exact no ⟨j, w2, q1, q2⟩
      induction es generalizing us with
      | nil => exact h2
      | cons e' es ih =>
        obtain ⟨u, us', rfl, g1, g2, g3⟩ := h2
        refine ⟨u, us', rfl, one g1 (fun w w' ew ew' eu => h3 w ew 0 w' (by rw [ew']; rfl) (by rw [eu]; rfl)), ih us' g2 (fun w ew j w' hj => by simpa using h3 w ew (j + 1) w' (by simpa using hj)), g3⟩
theorem gPs_ok {Q : Prop} {R : List En → List En → Prop} {rs : List Res} {vs : List V} (k : Ok K c ρ σ H S) (a : Step K c σ ρ H S ρ' H' S') (h : RepRs K σ H H' S' rs vs)
    (hR : ∀ es ρ2 S2, R es ρ2 → Step K c σ ρ H S ρ2 H' S2 → (∀ x, S' x → S2 x) → (∀ x, S2 x → S' x ∨ OwnA ρ σ x) → EnsOk K c ρ2 σ H' S2 es vs → (∀ (j : Nat) (w : Ow), es[j]? = some (.own w) → rs[j]? = some (.new w)) → Q) (q : gPs rs ρ' R) : Q := by
  induction rs generalizing vs ρ' S' R with
  | nil => exact hR [] ρ' S' q a (fun _ s => s) (fun _ s => .inl s) h (fun j w e => by simp at e)
  | cons r l ih =>
    obtain ⟨v, us, rfl, h1, h2, h3⟩ := h
    have dat : ∀ d ρ2 S2, (gPs l ρ2 fun es ρ3 => R (.dat d :: es) ρ3) → Step K c σ ρ H S ρ2 H' S2 → (∀ x, S' x → S2 x) → (∀ x, S2 x → S' x ∨ OwnA ρ σ x) → RepRs K σ H H' S2 l us → Rep K S2 H' d v → Q := fun d ρ2 S2 q a2 s2 s2' hl hd =>
      ih a2 hl (fun es ρ3 S3 q3 a3 s3 s3' h4 h5 => hR (.dat d :: es) ρ3 S3 q3 a3 (fun x s => s3 x (s2 x s)) (fun x s => (s3' x s).elim (s2' x) .inr) ⟨v, us, rfl, Rep.mono (fun x o s e => ⟨s3 x s, e⟩) _ _ hd, h4, fun w ew => by cases ew⟩ (fun j w e => by
        cases j with
        | zero => cases e
        | succ j => simpa using h5 j w (by simpa using e))) q
    cases r with
    | dat d => exact dat d ρ' S' q a (fun _ s => s) (fun _ s => .inl s) h2 h1
    | new w =>
      obtain ⟨p, rfl, h0, n, ro⟩ := h1
      refine ih a h2 (fun es ρ3 S3 q3 a3 s3 s3' h4 h5 => hR (.own w :: es) ρ3 S3 q3 a3 s3 s3' ⟨.ref p, us, rfl, ⟨p, rfl, k.free0 h0, fun s => ?_, ro.mono (fun x o s e => ⟨s3 x s, e⟩) rfl, fun z => k.nown0 h0 (a3.ow _ z)⟩, h4, fun w' ew j w2 hj => h3 w rfl j w2 (h5 j w2 hj)⟩ (fun j w' e => ?_)) q
      · exact (s3' p s).elim n (k.nown0 h0)
      · cases j with
        | zero => cases e; rfl
        | succ j => simpa using h5 j w' (by simpa using e)
    | ref i =>
      have h : σ[i]? = some (some v) := h1
      have q : (match ρ'[i]? with | some (.own w) => gPs l (ρ'.set i (.dat w.frz)) (fun es ρ2 => R (.dat w.frz :: es) ρ2) | some (.dat d) => gPs l ρ' (fun es ρ2 => R (.dat d :: es) ρ2) | _ => False) := q
      cases e : ρ'[i]? with
      | none => rw [e] at q; exact q.elim
      | some en =>
        rw [e] at q
        cases en with
        | emp => exact q.elim
        | exc _ _ _ => exact q.elim
        | dat d =>
          obtain ⟨v', e1, r⟩ := a.ok.dat i d e
          rw [h] at e1; cases e1
          exact dat d ρ' S' q a (fun _ s => s) (fun _ s => .inl s) h2 r
        | own w =>
          obtain ⟨p, e1, r, _⟩ := a.ok.own i w e
          rw [h] at e1; cases e1
          have oa : OwnA ρ σ p := a.ow _ ⟨i, w, e, h⟩
          refine dat w.frz _ _ q (a.trans (a.ok.icy e h)) (fun _ s => .inl s) (fun x s => s.imp id fun z => by rw [z]; exact oa) (h2.frz fun j w' hj hv => ?_) r.frz
          obtain ⟨v', e2, p', e3, h0, _⟩ := h2.get hj
          rw [hv] at e2; cases e2; cases e3
          exact k.nown0 h0 oa
theorem par_in {is : List Nat} {rs : List Res} {vs : List V} {WD : WDt} {D : Ends} {E : EndsD} (hP : ∀ i ∈ is, c.P i = none) (hE : RelE K c S H D E) (k : Ok K c ρ σ H S) (a : Step K c σ ρ H S ρ1 H1 S1) (rr : RepRs K σ H H1 S1 rs vs) (q : rs.length = is.length ∧ gPs rs ρ1 fun es ρ2 => E.nx (putAll is es ρ2)) : vs.length = is.length ∧ D.nx (putAllV is vs σ) H1 :=
  ⟨rr.len.trans q.1, gPs_ok k a rr (fun es ρ2 S2 q a2 _ _ he _ => hE.nx _ _ _ _ (a2.ok.putAll hP he) (a2.keep k) q) q.2⟩
theorem sd_par {i j : Nat} {x y : Str} {a b : Expr} {ta0 : TA} {ta : TAD} {px py pt : Pos} {kt k2 pt2} (hc : X.calm = true) (hN : X.N.Nodup) (hi : X.N[i]? = some x) (hj : X.N[j]? = some y) (hij : i ≠ j)
    (hx : X.env.scope.names.lookup x = some .local) (hy : X.env.scope.names.lookup y = some .local) (hP : ∀ m ∈ [i, j], c.P m = none) (ha : PAD X c W [a, b] ta0 ta)
    (hw : swappedStores [.Tuple [.Name x px, .Name y py] kt pt] (.Tuple [a, b] k2 pt2) X.env = pure (some [x, y]))
    (hs : swapsWithSole [.Tuple [.Name x px, .Name y py] kt pt] (.Tuple [a, b] k2 pt2) pos.line X.env = pure false := by rfl) :
    PSD X c W (.Assign [.Tuple [.Name x px, .Name y py] kt pt] (.Tuple [a, b] k2 pt2) pos) (tPar i j ta0) (dPar [i, j] ta) := ⟨ps_par hc hN hi hj hij hx hy ha.pa hw hs, fun WD D E ρ σ H S hW hE k q =>
  ha.sn WD ρ σ H S _ _ hW k (fun rs ρ1 vs H1 S1 q a rr => by
    obtain ⟨l, z⟩ := par_in (WD := WD) hP hE k a rr q
    match vs, l with
    | [v, w], _ => exact ⟨v, w, rfl, z⟩) q⟩
def dAug (i : Nat) (te : TED) (f : F2) : TSD := fun WD E ρ => match ρ[i]? with
  | some (.dat d) => te WD ρ fun r ρ1 => match pk r ρ1 with
    | some d2 => f d d2 fun r2 => gP (fun e ρ2 => E.nx (ρ2.set i e)) r2 ρ1
    | none => False
  | _ => False
def dWhile (tc : TTD) (tb : TSD) : TSD := fun WD E ρ => ∃ I : Nat → List En → Prop, (∃ m, I m ρ) ∧ ∀ m ρ, I m ρ → tc WD ρ fun b ρ1 => if b = true then tb WD { E with nx := fun ρ' => ∃ m', m' < m ∧ I m' ρ', ct := fun ρ' => ∃ m', m' < m ∧ I m' ρ', bk := E.nx } ρ1 else E.nx ρ1
theorem sd_while {cc : Expr} {body : List Stmt} {tc0 : TT} {tc : TTD} (hp : PassesOwn (model X.prog X.w) X.A X.env X.xe) (hc : PTD X c W cc tc0 tc) (hb : PSsD X c W body t0 t) : PSD X c W (.While cc body [] pos) (tWhile tc0 t0) (dWhile tc t) := ⟨ps_while hp hc.pt hb.pss, fun WD D E ρ σ H S hW hE k q => by
  obtain ⟨I, ⟨m, h0⟩, hs⟩ := q
  refine ⟨fun m σ' H' => ∃ ρ S', Ok X.K c ρ σ' H' S' ∧ Keep S H S' H' ∧ I m ρ, ⟨m, ρ, S, k, .refl, h0⟩, fun m σ H' ⟨ρ, S', k, kp, h⟩ => ?_⟩
  refine hc.sn WD ρ σ H' S' _ _ hW k (fun b ρ1 H1 S1 q a => ?_) (hs m ρ h)
  cases b with
  | false => exact hE.nx _ _ _ _ a.ok (kp.trans (a.keep k)) q
  | true =>
    refine ⟨fun σ' H' => ∃ m', m' < m ∧ ∃ ρ S', Ok X.K c ρ σ' H' S' ∧ Keep S H S' H' ∧ I m' ρ, fun σ' H' h => h, ?_⟩
    refine hb.sn WD _ { E with nx := fun ρ' => ∃ m', m' < m ∧ I m' ρ', ct := fun ρ' => ∃ m', m' < m ∧ I m' ρ', bk := E.nx } ρ1 σ H1 S1 hW ⟨fun ρ σ H2 S2 k2 p q => ?_, hE.rt, fun ρ σ H2 S2 k2 p q => hE.nx _ _ _ _ k2 ((kp.trans (a.keep k)).trans p) q, fun ρ σ H2 S2 k2 p q => ?_⟩ a.ok q
    · obtain ⟨m', l, q⟩ := q; exact ⟨m', l, ρ, S2, k2, (kp.trans (a.keep k)).trans p, q⟩
    · obtain ⟨m', l, q⟩ := q; exact ⟨m', l, ρ, S2, k2, (kp.trans (a.keep k)).trans p, q⟩⟩
structure ItD (K : PySem.W.Frag) (S0 : Addr → Prop) (H0 : Hp) (J : It) (ds : List Dt) : Prop where
  stop : ∀ (H : Hp) (S : Addr → Prop), Keep S0 H0 S H → J.stop ds.length H
  go : ∀ (i : Nat) (H : Hp) (S : Addr → Prop), i < ds.length → Keep S0 H0 S H → J.go i H
  yld : ∀ (i : Nat) (d : Dt) (H : Hp) (S : Addr → Prop) x H', ds[i]? = some d → Keep S0 H0 S H → J.yld i H x H' → ∃ S', Lay H S H' S' ∧ Rep K S' H' d x
abbrev TID := WDt → List En → (List Dt → List En → Prop) → Prop
def SndI (K : PySem.W.Frag) (c : Ct) (W : WX) (t0 : TI) (t : TID) : Prop := ∀ WD ρ σ H S (Q : It → Hp → Prop) (R : List Dt → List En → Prop), RelW K c W WD → Ok K c ρ σ H S → (∀ ds ρ' J H' S', R ds ρ' → Step K c σ ρ H S ρ' H' S' → ItD K S' H' J ds → Q J H') → t WD ρ R → t0 σ H Q
structure PID (X : Cx) (c : Ct) (W : WX) (tg iter : Expr) (t0 : TI) (t : TID) : Prop where
  pi : PI X tg iter t0
  sn : SndI X.K c W t0 t
def forD (g : TGD) (tb : TSD) (WD : WDt) (E : EndsD) : List Dt → List En → Prop
  | [], ρ => E.nx ρ
  | d :: ds, ρ => g WD (.dat d) ρ fun ρ1 => tb WD { E with nx := forD g tb WD E ds, ct := forD g tb WD E ds, bk := E.nx } ρ1
def dFor (ti : TID) (g : TGD) (tb : TSD) : TSD := fun WD E ρ => ti WD ρ fun ds ρ1 => forD g tb WD E ds ρ1
theorem Lay.keep {H H' : Hp} {S S' : Addr → Prop} (l : Lay H S H' S') : Keep S H S' H' := fun a o s e => ⟨l.2.1 a s, l.1 a o e⟩
theorem sd_for {tg iter : Expr} {body : List Stmt} {wi0 : TI} {wi : TID} {g0 : TG} {g : TGD} (hp : PassesOwn (model X.prog X.w) X.A X.env X.xe) (hc : X.calm = true) (hi : PID X c W tg iter wi0 wi) (hg : PGD X c W tg g0 g) (hb : PSsD X c W body t0 t)
    (hs : ∀ x, foldedSetIterable iter X.env x = pure x := by intro _; rfl) : PSD X c W (.For tg iter body [] pos) (tFor wi0 g0 t0) (dFor wi g t) := ⟨ps_for hp hc hi.pi hg.pg hb.pss hs, fun WD D E ρ σ H S hW hE k q => by
  refine hi.sn WD ρ σ H S _ _ hW k (fun ds ρ1 J H1 S1 q a it => ?_) q
  refine ⟨fun i m σ H => m = ds.length - i ∧ i ≤ ds.length ∧ ∃ ρ S, Ok X.K c ρ σ H S ∧ Keep S1 H1 S H ∧ forD g t WD E (ds.drop i) ρ, ⟨ds.length, by simp, Nat.zero_le _, ρ1, S1, a.ok, .refl, q⟩, ?_⟩
  rintro i m σ2 H2 ⟨rfl, li, ρ2, S2, k2, st, q⟩
  by_cases hlt : i < ds.length
  · refine .inr ⟨it.go i H2 S2 hlt st, fun σ' H' => i + 1 ≤ ds.length ∧ ∃ ρ S, Ok X.K c ρ σ' H' S ∧ Keep S1 H1 S H' ∧ forD g t WD E (ds.drop (i + 1)) ρ, fun σ' H' h => ⟨ds.length - (i + 1), by omega, rfl, h⟩, fun x H' y => ?_⟩
    rw [List.drop_eq_getElem_cons hlt] at q
    obtain ⟨S', l, rep⟩ := it.yld i ds[i] H2 S2 x H' (List.getElem?_eq_getElem hlt) st y
    have k3 := Step.ofLay k2 l
    refine hg.sn WD (.dat ds[i]) ρ2 σ2 H' S' x _ _ hW k3.ok rep (fun ρ4 σ4 H4 S4 q k4 p4 => ?_) q
    have st4 := (st.trans l.keep).trans p4
    refine hb.sn WD _ { E with nx := forD g t WD E (ds.drop (i + 1)), ct := forD g t WD E (ds.drop (i + 1)), bk := E.nx } ρ4 σ4 H4 S4 hW ⟨fun ρ5 σ5 H5 S5 k5 p5 q => ⟨hlt, ρ5, S5, k5, st4.trans p5, q⟩, hE.rt, fun ρ5 σ5 H5 S5 k5 p5 q => hE.nx _ _ _ _ k5 ((a.keep k).trans (st4.trans p5)) q, fun ρ5 σ5 H5 S5 k5 p5 q => ⟨hlt, ρ5, S5, k5, st4.trans p5, q⟩⟩ k4 q
  · have e : i = ds.length := by omega
    subst e
    rw [List.drop_length] at q
    exact .inl ⟨it.stop H2 S2 st, hE.nx _ _ _ _ k2 ((a.keep k).trans st) q⟩⟩
end
end D
set_option Elab.async false
set_option linter.all false
set_option maxRecDepth 100000
namespace D
open PySem PySem.Spec PyProof.Rows L2
section
variable {K : PySem.W.Frag} {c : Ct} {W : WX} {X : Cx} {σ σ2 : L2.St} {ρ ρ1 ρ' : List En} {H H1 H2 H' : Hp} {S S1 S2 S' : Addr → Prop} {e tg : Expr} {te0 : TE} {te : TED} {pos p : Pos}
theorem itr_ok (lo : Int) (n : Nat) : ItD K S H (Itr lo n) ((List.range n).map fun i => .int (lo + (i : Nat))) := by
  refine ⟨fun H S _ => by show n ≤ _; simp, fun i H S li _ => show i < n by simpa using li, fun i d H S x H' hi _ y => ?_⟩
  obtain ⟨eH, y⟩ := y
  subst eH y
  refine ⟨S, .refl, ?_⟩
  rw [List.getElem?_map] at hi
  cases e : (List.range n)[i]? with
  | none => rw [e] at hi; cases hi
  | some m =>
    rw [e] at hi; cases hi
    rw [List.getElem?_range (by
      have := (List.getElem?_eq_some_iff.mp e).1
      simpa using this)] at e
    cases e
    rfl
def dRng1 (ta : TAD) : TID := fun WD ρ R => ta WD ρ fun rs ρ1 => match pks rs ρ1 with
  | some [.int j] => -(2 ^ 62) ≤ j ∧ j < 2 ^ 62 ∧ R ((List.range j.toNat).map fun i => .int (0 + (i : Nat))) ρ1
  | _ => False
def dRng2 (ta : TAD) : TID := fun WD ρ R => ta WD ρ fun rs ρ1 => match pks rs ρ1 with
  | some [.int i, .int j] => (-(2 ^ 62) ≤ i ∧ i < 2 ^ 62 ∧ -(2 ^ 62) ≤ j ∧ j < 2 ^ 62) ∧ R ((List.range (j - i).toNat).map fun m => .int (i + (m : Nat))) ρ1
  | _ => False
theorem RepPs.ints : ∀ {ns : List Int} {vs : List V}, RepPs K S H (ns.map .int) vs → vs = ns.map V.int
  | [], _, e => e
  | n :: ns, _, ⟨v, us, e, h1, h2⟩ => by rw [e, h1.int, RepPs.ints h2]; rfl
theorem id_range1 {a : Expr} {ta0 : TA} {ta : TAD} (hm : X.mg "range" = none) (ha : PAD X c W [a] ta0 ta) (hg : Gl X "range" := by rfl) (hs : starEach [a] X.env = [(false, eval a X.env)] := by rfl) : PID X c W tg (.Call (.Name "range" p) [a] [] pos) (iRng1 ta0) (dRng1 ta) :=
  ⟨pi_range1 hg hm ha.pa hs, fun WD ρ σ H S Q R hW k hR q => by
  refine ha.sn WD ρ σ H S _ _ hW k (fun rs ρ1 vs H1 S1 q a rr => ?_) q
  split at q
  · rename_i j e
    have := RepPs.ints (ns := [j]) (pks_ok a.ok rr e)
    exact ⟨j, this, q.1, q.2.1, hR _ _ _ _ _ q.2.2 a (itr_ok 0 _)⟩
  · exact q.elim⟩
theorem id_range2 {a b : Expr} {ta0 : TA} {ta : TAD} (hm : X.mg "range" = none) (ha : PAD X c W [a, b] ta0 ta) (hg : Gl X "range" := by rfl) (hs : starEach [a, b] X.env = [(false, eval a X.env), (false, eval b X.env)] := by rfl) (hs2 : starEach [b] X.env = [(false, eval b X.env)] := by rfl) : PID X c W tg (.Call (.Name "range" p) [a, b] [] pos) (iRng2 ta0) (dRng2 ta) :=
  ⟨pi_range2 hg hm ha.pa hs hs2, fun WD ρ σ H S Q R hW k hR q => by
  refine ha.sn WD ρ σ H S _ _ hW k (fun rs ρ1 vs H1 S1 q a rr => ?_) q
  split at q
  · rename_i i j e
    have := RepPs.ints (ns := [i, j]) (pks_ok a.ok rr e)
    exact ⟨i, j, this, q.1, hR _ _ _ _ _ q.2 a (itr_ok i _)⟩
  · exact q.elim⟩
def wipeD (ρ : List En) : List Nat → List En
  | [] => ρ
  | v :: vs => (wipeD ρ vs).set v .emp
theorem wipeD_len (ρ : List En) : ∀ vs : List Nat, (wipeD ρ vs).length = ρ.length
  | [] => rfl
  | v :: vs => by unfold wipeD; rw [List.length_set, wipeD_len ρ vs]
theorem wipeD_get {i : Nat} {x : En} : ∀ {vs : List Nat}, (wipeD ρ vs)[i]? = some x → x = .emp ∨ (ρ[i]? = some x ∧ i ∉ vs)
  | [], h => .inr ⟨h, by simp⟩
  | v :: vs, h => by
    unfold wipeD at h
    rcases set_some h with ⟨_, e, _⟩ | ⟨n, h⟩
    · exact .inl e.symm
    · rcases wipeD_get h with h | ⟨h, m⟩
      · exact .inl h
      · exact .inr ⟨h, fun q => by rcases List.mem_cons.mp q with q | q; exact n q.symm; exact m q⟩
theorem wipeD_keep {i : Nat} : ∀ {vs : List Nat}, i ∉ vs → (wipeD ρ vs)[i]? = ρ[i]?
  | [], _ => rfl
  | v :: vs, h => by
    unfold wipeD
    rw [List.getElem?_set_ne (fun q => h (by rw [q]; exact List.mem_cons_self)), wipeD_keep fun q => h (List.mem_cons_of_mem _ q)]
theorem wipe_keep {i : Nat} : ∀ {vs : List Nat}, i ∉ vs → (L2.wipe σ vs)[i]? = σ[i]?
  | [], _ => rfl
  | v :: vs, h => by
    unfold L2.wipe
    rw [List.getElem?_set_ne (fun q => h (by rw [q]; exact List.mem_cons_self)), wipe_keep fun q => h (List.mem_cons_of_mem _ q)]
theorem Ok.slots (k : Ok K c ρ σ H S) (hl : σ2.length = σ.length) (h : ∀ (i : Nat) (x : En), ρ'[i]? = some x → x = .emp ∨ (ρ[i]? = some x ∧ σ2[i]? = σ[i]?)) (hr : ρ'.length = ρ.length) : Ok K c ρ' σ2 H S := by
  have f : ∀ (i : Nat) (x : En), ρ'[i]? = some x → x ≠ .emp → ρ[i]? = some x ∧ σ2[i]? = σ[i]? := fun i x q n => (h i x q).elim (fun z => absurd z n) id
  refine ⟨by rw [hr, hl]; exact k.len, fun i d q => ?_, fun i w q => ?_, fun i a d x q => ?_, fun i j w w' p q q' r r' => ?_, k.trk, k.fr, k.st, k.s0, k.s1⟩
  · obtain ⟨q1, q2⟩ := f i _ q (fun z => by cases z); rw [q2]; exact k.dat i d q1
  · obtain ⟨q1, q2⟩ := f i _ q (fun z => by cases z); rw [q2]; exact k.own i w q1
  · obtain ⟨q1, q2⟩ := f i _ q (fun z => by cases z); rw [q2]; exact k.exc i a d x q1
  · obtain ⟨q1, q2⟩ := f i _ q (fun z => by cases z)
    obtain ⟨q3, q4⟩ := f j _ q' (fun z => by cases z)
    rw [q2] at r; rw [q4] at r'
    exact k.inj i j w w' p q1 q3 r r'
theorem Step.out {vs : List Nat} (a : Step K c σ2 ρ H S ρ' H' S') (k : Ok K c ρ σ2 H S) (hw : L2.wipe σ2 vs = L2.wipe σ vs) (hn : ∀ i ∈ vs, ∀ w, ρ[i]? ≠ some (.own w)) : Step K c σ (wipeD ρ vs) H S (wipeD ρ' vs) H' S' := by
  have hl : σ.length = σ2.length := by
    have := congrArg List.length hw
    rw [L2.wipe_length, L2.wipe_length] at this
    exact this.symm
  have hs : ∀ i, i ∉ vs → σ[i]? = σ2[i]? := fun i h => by rw [← wipe_keep h, ← hw, wipe_keep h]
  have ow : ∀ a, OwnA ρ σ2 a → OwnA (wipeD ρ vs) σ a := by
    rintro a ⟨i, w, q1, q2⟩
    have hi : i ∉ vs := fun z => hn i z w q1
    exact ⟨i, w, by rw [wipeD_keep hi]; exact q1, by rw [hs i hi]; exact q2⟩
  have wo : ∀ {ρ : List En} a, OwnA (wipeD ρ vs) σ a → OwnA ρ σ2 a := by
    rintro ρ a ⟨i, w, q1, q2⟩
    rcases wipeD_get q1 with z | ⟨z, hi⟩
    · cases z
    · exact ⟨i, w, z, by rw [← hs i hi]; exact q2⟩
  have k2 : Ok K c (wipeD ρ' vs) σ H' S' := a.ok.slots hl (fun i x q => (wipeD_get q).imp id fun z => ⟨z.1, hs i z.2⟩) (wipeD_len _ _)
  refine ⟨k2, fun b o e n => a.fr b o e fun q => n (ow b q), a.tr, a.s0, fun b s => ?_, fun b q => ow b (a.ow b (wo b q))⟩
  exact (a.s1 b s).imp id fun z => z.imp id (ow b)
abbrev TGC := Dt → List En → (List En → Prop) → Prop
def SndGc (K : PySem.W.Frag) (c : Ct) (vs : List Nat) (g0 : TG) (g : TGC) : Prop := ∀ d ρ σ H S v (Q : L2.St → Hp → Prop) (R : List En → Prop), Ok K c ρ σ H S → Rep K S H d v → (∀ ρ' σ', R ρ' → Ok K c ρ' σ' H S → L2.wipe σ' vs = L2.wipe σ vs → wipeD ρ' vs = wipeD ρ vs → (∀ i ∈ vs, ∀ w, ρ[i]? ≠ some (.own w)) → (∀ i ∈ vs, ∀ w, ρ'[i]? ≠ some (.own w)) → Q σ' H) → (∀ i ∈ vs, ∀ w, ρ[i]? ≠ some (.own w)) → g d ρ R → g0 v σ H Q
structure PGC (X : Cx) (c : Ct) (vs : List Nat) (tg : Expr) (g0 : TG) (g : TGC) : Prop where
  pg : PG X tg g0
  sn : SndGc X.K c vs g0 g
theorem wipe_set {i : Nat} {o : Option V} : ∀ {vs : List Nat}, i ∈ vs → L2.wipe (σ.set i o) vs = L2.wipe σ vs
  | v :: vs, h => by
    unfold L2.wipe
    by_cases hv : i ∈ vs
    · rw [wipe_set hv]
    · have e : v = i := by
        rcases List.mem_cons.mp h with e | e
        · exact e.symm
        · exact absurd e hv
      subst e
      have : ∀ {vs : List Nat}, v ∉ vs → L2.wipe (σ.set v o) vs = (L2.wipe σ vs).set v o := by
        intro vs hv
        induction vs with
        | nil => rfl
        | cons u us ih =>
          unfold L2.wipe
          rw [ih fun q => hv (List.mem_cons_of_mem _ q), List.set_comm _ _ (fun z => hv (by rw [z]; exact List.mem_cons_self))]
      rw [this hv, List.set_set]
theorem wipeD_set {i : Nat} {o : En} : ∀ {vs : List Nat}, i ∈ vs → wipeD (ρ.set i o) vs = wipeD ρ vs
  | v :: vs, h => by
    unfold wipeD
    by_cases hv : i ∈ vs
    · rw [wipeD_set hv]
    · have e : v = i := by
        rcases List.mem_cons.mp h with e | e
        · exact e.symm
        · exact absurd e hv
      subst e
      have : ∀ {vs : List Nat}, v ∉ vs → wipeD (ρ.set v o) vs = (wipeD ρ vs).set v o := by
        intro vs hv
        induction vs with
        | nil => rfl
        | cons u us ih =>
          unfold wipeD
          rw [ih fun q => hv (List.mem_cons_of_mem _ q), List.set_comm _ _ (fun z => hv (by rw [z]; exact List.mem_cons_self))]
      rw [this hv, List.set_set]
def gcN (i : Nat) : TGC := fun d ρ R => R (ρ.set i (.dat d))
theorem gc_name {i : Nat} {x : Str} {vs : List Nat} (hN : X.N.Nodup) (hi : X.N[i]? = some x) (hx : Loc X.env.scope x) (hv : i ∈ vs := by decide) (hf : X.fn x = true ∨ X.env.scope.names.lookup x = some .local := by first | exact .inl rfl | exact .inr rfl | assumption) : PGC X c vs (.Name x pos) (gName i) (gcN i) :=
  ⟨pg_name hN hi hx hf, fun d ρ σ H S v Q R k hd hR hn q => hR _ _ q (k.putD hd) (wipe_set hv) (wipeD_set hv) hn fun j hj w z => by
    rcases set_some z with ⟨_, e, _⟩ | ⟨_, z⟩
    · cases e
    · exact hn j hj w z⟩
abbrev TGCs := List Dt → List En → (List En → Prop) → Prop
structure PGCs (X : Cx) (c : Ct) (vs : List Nat) (ts : List Expr) (g0 : TGs) (g : TGCs) : Prop where
  pg : PGs X ts g0
  sn : ∀ ds ρ σ H S us (Q : L2.St → Hp → Prop) (R : List En → Prop), Ok X.K c ρ σ H S → Reps X.K S H ds us → (∀ ρ' σ', R ρ' → Ok X.K c ρ' σ' H S → L2.wipe σ' vs = L2.wipe σ vs → wipeD ρ' vs = wipeD ρ vs → (∀ i ∈ vs, ∀ w, ρ'[i]? ≠ some (.own w)) → Q σ' H) → (∀ i ∈ vs, ∀ w, ρ[i]? ≠ some (.own w)) → g ds ρ R → g0 us σ H Q
def gcNil : TGCs := fun ds ρ R => match ds with
  | [] => R ρ
  | _ => False
def gcCons (i : Nat) (u : TGCs) : TGCs := fun ds ρ R => match ds with
  | d :: r => u r (ρ.set i (.dat d)) R
  | [] => False
theorem gcs_nil {vs : List Nat} : PGCs X c vs [] gNil gcNil := ⟨pgs_nil, fun ds ρ σ H S us Q R k h hR hn q => by
  cases ds with
  | nil => exact ⟨h, hR _ _ q k rfl rfl hn⟩
  | cons _ _ => exact q.elim⟩
theorem gcs_cons {i : Nat} {x : Str} {vs : List Nat} {es : List Expr} {u0 : TGs} {u : TGCs} (hN : X.N.Nodup) (hi : X.N[i]? = some x) (hx : Loc X.env.scope x) (h2 : PGCs X c vs es u0 u) (hv : i ∈ vs := by decide) (hf : X.fn x = true ∨ X.env.scope.names.lookup x = some .local := by first | exact .inl rfl | exact .inr rfl | assumption)
    (hs : (assignEach (.Name x pos :: es) X.env).map (·.2) = assign (.Name x pos) X.env :: (assignEach es X.env).map (·.2) := by rfl) : PGCs X c vs (.Name x pos :: es) (gCons (gName i) u0) (gcCons i u) := ⟨pgs_cons (pg_name hN hi hx hf) h2.pg hs, fun ds ρ σ H S us Q R k h hR hn q => by
  cases ds with
  | nil => exact q.elim
  | cons d r =>
    obtain ⟨v, us, rfl, hd, hr⟩ := h
    refine ⟨v, us, rfl, h2.sn r _ _ H S us Q R (k.putD hd) hr (fun ρ' σ' q k' w1 w2 hn' => hR ρ' σ' q k' (w1.trans (wipe_set hv)) (w2.trans (wipeD_set hv)) hn') (fun j hj w z => ?_) q⟩
    rcases set_some z with ⟨_, e, _⟩ | ⟨_, z⟩
    · cases e
    · exact hn j hj w z⟩
def gcTup (n : Nat) (u : TGCs) : TGC := fun d ρ R => match d with
  | .tup l => l.length = n ∧ u l ρ R
  | _ => False
theorem gc_tup {es : List Expr} {m n : Nat} {vs : List Nat} {u0 : TGs} {u : TGCs} (hc : X.calm = true) (h : PGCs X c vs es u0 u) (hn : (assignEach es X.env).length = n := by rfl) (hst : (assignEach es X.env).findIdx? (·.1) = none := by rfl) : PGC X c vs (.Tuple es m pos) (gTup X.K n u0) (gcTup n u) :=
  ⟨pg_tup hc h.pg hn hst, fun d ρ σ H S v Q R k hd hR hn q => by
    cases d with
    | tup l =>
      obtain ⟨a, vs', e, hq, hl⟩ := hd.tupT
      exact ⟨a, vs', e, hq, by rw [hl.length]; exact q.1, h.sn l ρ σ H S vs' Q R k hl (fun ρ' σ' q k' w1 w2 hn' => hR ρ' σ' q k' w1 w2 hn hn') hn q.2⟩
    | _ => exact q.elim⟩
def WN : WX := fun _ _ _ _ => False
def WDN : WDt := fun _ _ => False
theorem relN : RelW K c WN WDN := fun _ _ _ _ _ _ _ _ h => h
theorem takesN {X : Cx} : Takes X WN := takes0
structure PTsD (X : Cx) (c : Ct) (W : WX) (ifs : List Expr) (t0 : TT) (t : TTD) : Prop where
  pt : PTs X ifs t0
  sn : SndT X.K c W t0 t
def dYes : TTD := fun _ ρ R => R true ρ
theorem tts_nil : PTsD X c W [] tYes dYes := ⟨pts_nil, fun WD ρ σ H S Q R hW k hR q => hR _ _ _ _ q (.refl k)⟩
theorem tts_one {cc : Expr} {t0 : TT} {t : TTD} (h : PTD X c W cc t0 t) : PTsD X c W [cc] t0 t := ⟨pts_one h.pt, h.sn⟩
def lcD (g : TGC) (tt : TTD) (te : TED) (vs : List Nat) (R : List Dt → List En → Prop) : List Dt → List Dt → List En → Prop
  | [], acc, ρ => R acc ρ
  | d :: ds, acc, ρ => g d ρ fun ρ1 => tt WDN ρ1 fun b ρ2 => if b = true then te WDN ρ2 (kD fun y ρ3 => acc.length < sizeLine ∧ lcD g tt te vs R ds (acc ++ [y]) (wipeD ρ3 vs)) else lcD g tt te vs R ds acc (wipeD ρ2 vs)
def dLc (ti : TID) (g : TGC) (tt : TTD) (te : TED) (vs : List Nat) : TED := fun WD ρ R => ti WD ρ fun ds ρ1 => lcD g tt te vs (fun acc ρ2 => R (.new (.lst acc)) ρ2) ds [] (wipeD ρ1 vs)
theorem wipeD_self {vs : List Nat} : wipeD (wipeD ρ vs) vs = wipeD ρ vs := by
  apply List.ext_getElem?
  intro i
  by_cases hi : i ∈ vs
  · have f : ∀ {ρ : List En} {vs : List Nat}, i ∈ vs → (wipeD ρ vs)[i]? = if i < ρ.length then some .emp else none := by
      intro ρ vs hi
      induction vs with
      | nil => cases hi
      | cons v vs ih =>
        unfold wipeD
        by_cases hv : v = i
        · subst hv
          by_cases l : v < ρ.length
          · rw [if_pos l, List.getElem?_set_self (by rw [wipeD_len]; exact l)]
          · rw [if_neg l, List.getElem?_eq_none (by rw [List.length_set, wipeD_len]; omega)]
        · rw [List.getElem?_set_ne hv]
          exact ih (by rcases List.mem_cons.mp hi with e | e; exact absurd e.symm hv; exact e)
    rw [f hi, f hi, wipeD_len]
  · rw [wipeD_keep hi]
theorem wipeD_noown {vs : List Nat} {i : Nat} (hi : i ∈ vs) (w : Ow) : (wipeD ρ vs)[i]? ≠ some (.own w) := fun z => by
  rcases wipeD_get z with z | z
  · cases z
  · exact z.2 hi
theorem snd_lc {wi0 : TI} {wi : TID} {g0 : TG} {g : TGC} {tt0 : TT} {tt : TTD} {vs : List Nat} (hi : SndI K c W wi0 wi) (hg : SndGc K c vs g0 g) (ht : SndT K c WN tt0 tt) (he : SndE K c WN te0 te) : SndE K c W (tLc wi0 g0 tt0 te0 vs) (dLc wi g tt te vs) := by
  intro WD ρ σ H S Q R hW k hR q
  refine hi WD ρ σ H S _ _ hW k (fun ds ρ1 J H1 S1 q a it => fun D hD => ?_) q
  have k1 : Ok K c (wipeD ρ1 vs) σ H1 S1 := a.ok.slots rfl (fun i x q => (wipeD_get q).imp id fun z => ⟨z.1, rfl⟩) (wipeD_len _ _)
  have a1 : Step K c σ ρ H S (wipeD ρ1 vs) H1 S1 := ⟨k1, a.fr, a.tr, a.s0, a.s1, fun b q => a.ow b (by
    obtain ⟨i, w, q1, q2⟩ := q
    rcases wipeD_get q1 with z | ⟨z, _⟩
    · cases z
    · exact ⟨i, w, z, q2⟩)⟩
  have nD0 : H D = none := a.gone hD
  -- the invariant: the heap is what the steps leave, with the list at D
  refine ⟨fun i m H' => m = ds.length - i ∧ i ≤ ds.length ∧ ∃ (ρ' : List En) (S' : Addr → Prop) (acc : List Dt) (us : List V), Step K c σ ρ H S ρ' H' S' ∧ Keep S1 H1 S' H' ∧ wipeD ρ' vs = ρ' ∧ ¬ S' D ∧ H' D = some (.lst us) ∧ Reps K S' H' acc us ∧ lcD g tt te vs (fun acc ρ2 => R (.new (.lst acc)) ρ2) (ds.drop i) acc ρ', ?_, ?_⟩
  · have l := Lay.new (S := S1) (o := .lst []) hD
    refine ⟨ds.length, by simp, Nat.zero_le _, wipeD ρ1 vs, S1, [], [], a1.trans (Step.ofLay k1 l), l.keep, wipeD_self, fun s => ?_, upd_same, rfl, q⟩
    obtain ⟨o, z⟩ := k1.st D s
    rw [hD] at z; cases z
  · rintro i m H2 ⟨rfl, li, ρ2, S2, acc, us, a2, kp, ew, nS, hD2, hacc, q⟩
    by_cases hlt : i < ds.length
    · refine .inr ⟨it.go i H2 S2 hlt kp, fun H' => i + 1 ≤ ds.length ∧ ∃ (ρ' : List En) (S' : Addr → Prop) (acc : List Dt) (us : List V), Step K c σ ρ H S ρ' H' S' ∧ Keep S1 H1 S' H' ∧ wipeD ρ' vs = ρ' ∧ ¬ S' D ∧ H' D = some (.lst us) ∧ Reps K S' H' acc us ∧ lcD g tt te vs (fun acc ρ2 => R (.new (.lst acc)) ρ2) (ds.drop (i + 1)) acc ρ', fun H' h => ⟨ds.length - (i + 1), by omega, rfl, h⟩, fun x H3 y => ?_⟩
      rw [List.drop_eq_getElem_cons hlt] at q
      obtain ⟨S3, l, rep⟩ := it.yld i ds[i] H2 S2 x H3 (List.getElem?_eq_getElem hlt) kp y
      have s3 := Step.ofLay a2.ok l
      have a3 := a2.trans s3
      have k3 : Ok K c ρ2 (L2.wipe σ vs) H3 S3 := s3.ok.slots (L2.wipe_length _ _) (fun j z q => by
        rw [← ew] at q
        rcases wipeD_get q with h | ⟨h, hj⟩
        · exact .inl h
        · exact .inr ⟨h, wipe_keep hj⟩) rfl
      have hno : ∀ j ∈ vs, ∀ w, ρ2[j]? ≠ some (.own w) := fun j hj w => by rw [← ew]; exact wipeD_noown hj w
      have nS3 : ¬ S3 D := fun s => by
        rcases l.2.2 D s with s | s
        · exact nS s
        · rw [hD2] at s; cases s.1
      have hD3 := l.1 D _ hD2
      have noD : ∀ {ρ'' : List En} {S'' : Addr → Prop} {H''}, Step K c σ ρ H S ρ'' H'' S'' → ¬ OwnA ρ'' σ D := fun {ρ'' S'' H''} b z => k.nown0 nD0 (b.ow _ z)
      refine hg ds[i] ρ2 (L2.wipe σ vs) H3 S3 x _ _ k3 rep (fun ρ4 σ4 q k4 w1 w2 hn1 hn2 => ⟨?_, ?_⟩) hno q
      · rw [w1]
        have wi : ∀ {σ : L2.St}, L2.wipe (L2.wipe σ vs) vs = L2.wipe σ vs := by
          intro σ
          apply List.ext_getElem?
          intro i
          by_cases hi : i ∈ vs
          · have f : ∀ {σ : L2.St} {vs : List Nat}, i ∈ vs → (L2.wipe σ vs)[i]? = if i < σ.length then some none else none := by
              intro σ vs hi
              induction vs with
              | nil => cases hi
              | cons v vs ih =>
                unfold L2.wipe
                by_cases hv : v = i
                · subst hv
                  by_cases l : v < σ.length
                  · rw [if_pos l, List.getElem?_set_self (by rw [L2.wipe_length]; exact l)]
                  · rw [if_neg l, List.getElem?_eq_none (by rw [List.length_set, L2.wipe_length]; omega)]
                · rw [List.getElem?_set_ne hv]
                  exact ih (by rcases List.mem_cons.mp hi with e | e; exact absurd e.symm hv; exact e)
            rw [f hi, f hi, L2.wipe_length]
          · rw [wipe_keep hi]
        exact wi
      have wσ : L2.wipe σ4 vs = L2.wipe σ vs := by
        rw [w1]
        apply List.ext_getElem?
        intro j
        by_cases hj : j ∈ vs
        · have f : ∀ {σ : L2.St} {vs : List Nat}, j ∈ vs → (L2.wipe σ vs)[j]? = if j < σ.length then some none else none := by
            intro σ vs hi
            induction vs with
            | nil => cases hi
            | cons v vs ih =>
              unfold L2.wipe
              by_cases hv : v = j
              · subst hv
                by_cases l : v < σ.length
                · rw [if_pos l, List.getElem?_set_self (by rw [L2.wipe_length]; exact l)]
                · rw [if_neg l, List.getElem?_eq_none (by rw [List.length_set, L2.wipe_length]; omega)]
              · rw [List.getElem?_set_ne hv]
                exact ih (by rcases List.mem_cons.mp hi with e | e; exact absurd e.symm hv; exact e)
          rw [f hj, f hj, L2.wipe_length]
        · rw [wipe_keep hj]
      refine ht WDN ρ4 σ4 H3 S3 _ _ relN k4 (fun b ρ5 H5 S5 q s5 => ?_) q
      have o5 := Step.out s5 k4 wσ hn2
      rw [w2, ew] at o5
      have a5 := a3.trans o5
      have nS5 : ¬ S5 D := fun s => by
        rcases o5.s1 D s with s | s | s
        · exact nS3 s
        · rw [hD3] at s; cases s
        · exact noD a3 s
      have hD5 := o5.fr D _ hD3 (noD a3)
      have acc5 := o5.reps a3.ok (l.reps hacc)
      have kp5 := (kp.trans l.keep).trans (o5.keep a3.ok)
      cases b with
      | false => exact ⟨hlt, _, S5, acc, us, a5, kp5, wipeD_self, nS5, hD5, acc5, q⟩
      | true =>
        refine he.dat relN s5.ok (fun y ρ6 v H6 S6 q s6 hy => ?_) q
        have o6 := Step.out (s5.trans s6) k4 wσ hn2
        rw [w2, ew] at o6
        have a6 := a3.trans o6
        have nS6 : ¬ S6 D := fun s => by
          rcases o6.s1 D s with s | s | s
          · exact nS3 s
          · rw [hD3] at s; cases s
          · exact noD a3 s
        have hD6 := o6.fr D _ hD3 (noD a3)
        have acc6 := o6.reps a3.ok (l.reps hacc)
        have kp6 := (kp.trans l.keep).trans (o6.keep a3.ok)
        refine ⟨us, hD6, by rw [hacc.length]; exact q.1, ?_⟩
        have m : ∀ b o, S6 b → H6 b = some o → S6 b ∧ upd H6 D (.lst (us ++ [v])) b = some o := fun b o s e => ⟨s, by rw [upd_ne (fun z : b = D => nS6 (by rw [← z]; exact s))]; exact e⟩
        have tr : ∀ b o, H6 b = some o → ∃ o', upd H6 D (.lst (us ++ [v])) b = some o' := fun b o e => by
          by_cases z : b = D
          · rw [z]; exact ⟨_, upd_same⟩
          · exact ⟨o, by rw [upd_ne z]; exact e⟩
        have k7 : Ok K c (wipeD ρ6 vs) σ (upd H6 D (.lst (us ++ [v]))) S6 := a6.ok.over m (fun b z => ⟨upd_ne fun e => noD a6 (by rw [← e]; exact z), fun s => a6.ok.nown s z⟩) tr (fun b o e n e2 => by
          have : b ≠ D := fun z => by rw [z, k.free0 nD0] at e; cases e
          rw [upd_ne this]; exact e2) (fun b s => (a6.ok.st b s).elim fun o e => tr b o e) (fun b s => s) (fun b s => .inl s)
        refine ⟨hlt, _, S6, acc ++ [y], us ++ [v], ⟨k7, fun b o e n => ?_, fun b o e => (a6.tr b o e).elim fun o' e' => tr b o' e', a6.s0, a6.s1, a6.ow⟩, kp6.trans m, wipeD_self, nS6, upd_same, (Reps.mono m _ _ acc6).append ⟨v, [], rfl, Rep.mono m _ _ hy, rfl⟩, q.2⟩
        have : b ≠ D := fun z => by rw [z, nD0] at e; cases e
        rw [upd_ne this]; exact a6.fr b o e n
    · have e : i = ds.length := by omega
      subst e
      rw [List.drop_length] at q
      exact .inl ⟨it.stop H2 S2 kp, hR _ _ _ _ _ q a2 ⟨D, rfl, nD0, nS, us, hD2, hacc⟩⟩
end
end D
set_option Elab.async false
set_option linter.all false
set_option maxRecDepth 100000
namespace D
open PySem PySem.Spec PyProof.Rows L2
def fin (n : Nat) (k : Res → Prop) : Res → List En → Prop
  | .dat d, _ => k (.dat d)
  | .new w, _ => k (.new w)
  | .ref i, ρ => match ρ[i]? with
    | some (.own w) => n ≤ i ∧ k (.new w)
    | some (.dat d) => k (.dat d)
    | _ => False
def endsD (n : Nat) (R : Res → List En → Prop) : EndsD := { nx := fun ρ => R (.dat .non) (ρ.take n), rt := fun r ρ => fin n (fun r => R r (ρ.take n)) r ρ }
def rhoD (m : Nat) (ins : List En) : List En := ins ++ List.replicate (m - ins.length) .emp
section
variable {K : PySem.W.Frag} {c : Ct} {W : WX} {X : Cx} {σ σ2 : L2.St} {ρ ρ1 ρ' : List En} {H H1 H2 H' : Hp} {S S1 S2 S' : Addr → Prop}
theorem Ok.start {ins : List En} {vs : List V} {N : List Str} (k : Ok K c ins (vs.map some) H S) (hl : vs.length ≤ N.length) : Ok K c (rhoD N.length ins) (L2.start N vs) H S := by
  have il : ins.length = vs.length := by have := k.len; rwa [List.length_map] at this
  have e1 : ∀ (i : Nat) (x : En), (rhoD N.length ins)[i]? = some x → x = .emp ∨ ins[i]? = some x := fun i x q => by
    unfold rhoD at q
    by_cases h : i < ins.length
    · rw [List.getElem?_append_left h] at q; exact .inr q
    · rw [List.getElem?_append_right (by omega), List.getElem?_replicate] at q
      split at q
      · cases q; exact .inl rfl
      · cases q
  have e2 : ∀ (i : Nat), i < ins.length → (L2.start N vs)[i]? = (vs.map some)[i]? := fun i h => by
    unfold L2.start
    rw [List.getElem?_append_left (by rw [List.length_map, ← il]; exact h)]
  have g : ∀ (i : Nat) (x : En), (rhoD N.length ins)[i]? = some x → x ≠ .emp → ins[i]? = some x ∧ (L2.start N vs)[i]? = (vs.map some)[i]? := fun i x q n => by
    have z := (e1 i x q).elim (fun z => absurd z n) id
    exact ⟨z, e2 i (List.getElem?_eq_some_iff.mp z).1⟩
  refine ⟨by unfold rhoD L2.start; rw [List.length_append, List.length_replicate, List.length_append, List.length_replicate, List.length_map, il], fun i d q => ?_, fun i w q => ?_, fun i a d x q => ?_, fun i j w w' p q q' r r' => ?_, k.trk, k.fr, k.st, k.s0, k.s1⟩
  · obtain ⟨q1, q2⟩ := g i _ q (fun z => by cases z); rw [q2]; exact k.dat i d q1
  · obtain ⟨q1, q2⟩ := g i _ q (fun z => by cases z); rw [q2]; exact k.own i w q1
  · obtain ⟨q1, q2⟩ := g i _ q (fun z => by cases z); rw [q2]; exact k.exc i a d x q1
  · obtain ⟨q1, q2⟩ := g i _ q (fun z => by cases z)
    obtain ⟨q3, q4⟩ := g j _ q' (fun z => by cases z)
    rw [q2] at r; rw [q4] at r'
    exact k.inj i j w w' p q1 q3 r r'
theorem Ok.aft {ins : List En} {vs : List V} (k : Ok K (ctOf ins vs H S) ρ σ H' S') (hl : ins.length = vs.length) : Aft K (ctOf ins vs H S) (ρ.take vs.length) H' S' := by
  refine ⟨k.fr, fun a o e => ?_, k.st, k.s0, k.s1, fun i w p q hp => ?_⟩
  · by_cases h : ∃ i, (ctOf ins vs H S).P i = some a
    · obtain ⟨i, h⟩ := h; exact k.trk i a h
    · exact ⟨o, k.fr a o e fun i z => h ⟨i, z⟩⟩
  · have q : ρ[i]? = some (.own w) := by
      rw [List.getElem?_take] at q
      split at q
      · exact q
      · cases q
    obtain ⟨p', e, r, n, h1, _⟩ := k.own i w q
    rw [h1 p hp] at r n
    exact ⟨r, n⟩
theorem ctP_none {ins : List En} {vs : List V} {i : Nat} (h : vs.length ≤ i) : (ctOf ins vs H S).P i = none := by
  show (match ins[i]?, vs[i]? with | some (.own _), some (.ref p) => some p | _, _ => none) = none
  rw [List.getElem?_eq_none h]
  cases ins[i]? with
  | none => rfl
  | some e => cases e <;> rfl
end
section
variable {P : Program} {w : World} {K : PySem.W.Frag} {mg : Str → Option Value} {base : Heap}
theorem fnD {x qual : Str} {st : Stmt} {f : Addr} {fd : FuncData} {N ps : List Str} {k : Nat} {sp : SpD} {t : TSD} (F : Fun K x qual st f fd) (Sc : FnScope N ps (defScope st))
    (hbody : ∀ (cdv : Value) (A : Around) (outer : List Env) (s : Shared) (H : Hp) (E : XK) (c : Ct), Room k (A.deeper (envOfC qual (defScope st) s.heap.objs.size f cdv)) → (∀ i, ps.length ≤ i → c.P i = none) →
      ∃ t0, PSsD (cxOf (L2.CX P w) P w K mg base N qual (defScope st) f cdv A outer s H E) c (fun cls d _ H' => E cls d H') (defBody st) t0 t)
    (hread : ∀ ins R EX, ins.length = ps.length → sp ins R EX → t (fun x ρ => EX x (ρ.take ps.length)) (endsD ps.length R) (rhoD N.length ins)) : FnOk P w K mg base (L2.CX P w) (k + 1) f fd ps (toSp K ps.length sp) := by
  refine F.okX Sc (fun vs H Q E h => ?_) (fun cdv A outer s H vs Q E hr h => ?_)
  · obtain ⟨_, _, _, _, e, _⟩ := h; exact e
  · obtain ⟨ins, S, R, EX, hl, k0, hsp, hR, hE⟩ := h
    have hpl : ps.length ≤ N.length := by have := congrArg List.length Sc.pre; rw [List.length_take] at this; omega
    have il : ins.length = vs.length := by have := k0.len; rwa [List.length_map] at this
    obtain ⟨t0, hb⟩ := hbody cdv A outer s H E (ctOf ins vs H S) hr (fun i hi => ctP_none (by omega))
    refine ⟨t0, hb.pss, ?_⟩
    have ks := k0.start (N := N) (by omega)
    refine hb.sn (fun x ρ => EX x (ρ.take ps.length)) _ (endsD ps.length R) _ _ H S (fun ρ σ H' S' x d k rx q => hE x _ d H' S' q (by rw [← hl]; exact k.aft il) rx) ⟨fun ρ σ H' S' k _ q => ?_, fun r ρ σ H' S' v k rg q => ?_, fun _ _ _ _ _ _ q => q.elim, fun _ _ _ _ _ _ q => q.elim⟩ ks (hread ins R EX (by omega) hsp)
    · exact hR _ _ .non H' S' q (by rw [← hl]; exact k.aft il) rfl
    · have af : Aft K (ctOf ins vs H S) (ρ.take ps.length) H' S' := by rw [← hl]; exact k.aft il
      cases r with
      | dat d => exact hR _ _ v H' S' q af rg
      | new w' =>
        obtain ⟨p, e, h0, n, ro, _⟩ := rg
        exact hR _ _ v H' S' q af ⟨p, e, h0, n, ro⟩
      | ref i =>
        have rg : σ[i]? = some (some v) := rg
        have q : (match ρ[i]? with | some (.own w') => ps.length ≤ i ∧ R (.new w') (ρ.take ps.length) | some (.dat d) => R (.dat d) (ρ.take ps.length) | _ => False) := q
        cases e : ρ[i]? with
        | none => rw [e] at q; exact q.elim
        | some en =>
          rw [e] at q
          cases en with
          | emp => exact q.elim
          | exc _ _ _ => exact q.elim
          | dat d =>
            obtain ⟨v', e1, r⟩ := k.dat i d e
            rw [rg] at e1; cases e1
            exact hR _ _ _ _ _ q af r
          | own w' =>
            obtain ⟨p, e1, r, n, _, h0⟩ := k.own i w' e
            rw [rg] at e1; cases e1
            exact hR _ _ _ _ _ q.2 af ⟨p, rfl, h0 (ctP_none (by omega)), n, r⟩
end
end D
set_option Elab.async false
set_option linter.all false
set_option maxRecDepth 100000
namespace G
open PySem PySem.Spec PyProof.Rows L2
open AutoSeq1 (wpAny_loadPart')
theorem tupOnce (l : Addr) (items : Array Value) (n : Nat) (dd : Option Addr) (sl : Array (Option Value)) (u : Tok) :
    Meets (Builtin.«tuple.__mul__» ⟨[.ref l, .int 1 u], []⟩) (fun _ R s => s.heap.get? l = some { cls := .type "tuple", dict := dd, data := .seq items n, slots := sl } ∧ R (.ok (.ret (Value.ref l))) s) :=
  .of_wp fun prog w A R s h => by
    obtain ⟨hp, g, d, tk, os⟩ := s
    obtain ⟨hl, h⟩ := h
    have f1 := AutoSeq1.idx_int
    wp_walk using wpAny_loadPart' hl
    exact ⟨_, rfl, h⟩
theorem tupNone (l : Addr) (items : Array Value) (n : Nat) (dd : Option Addr) (sl : Array (Option Value)) (u : Tok) (hi : items.isEmpty = false) :
    Meets (Builtin.«tuple.__mul__» ⟨[.ref l, .int 0 u], []⟩) (fun _ R s => s.heap.get? l = some { cls := .type "tuple", dict := dd, data := .seq items n, slots := sl } ∧
      R (.ok (.ret (Value.ref s.heap.objs.size))) { s with heap := s.heap.push { cls := Value.type "tuple", data := Data.seq #[] }, toks := s.toks }) :=
  .of_wp fun prog w A R s h => by
    obtain ⟨hp, g, d, tk, os⟩ := s
    obtain ⟨hl, h⟩ := h
    have f1 := AutoSeq1.idx_int
    wp_walk using wpAny_loadPart' hl
    exact ⟨_, rfl, h⟩
def rRepA (K : PySem.W.Frag) : R2 := fun x y H Q => ∃ (l : Addr) (k : Int) (xs : List V), x = .ref l ∧ y = .int k ∧ SqT K H l xs ∧ xs ≠ [] ∧ 0 ≤ k ∧ k ≤ 1000 ∧ xs.length ≤ 1000 ∧ (k = 1 → Q (.ref l) H) ∧ (k ≠ 1 → ∀ p, H p = none → Q (.ref p) (upd H p (.tup (List.replicate k.toNat xs).flatten)))
theorem op_repA {X : Cx} : OpR X (binaryOp .Mult) (rRepA X.K) := by
  intro pins s σ H x y v u Q I rx ry h
  obtain ⟨l, k, xs, ex, ey, hT, hne, k0, k9, hz, q1, q2⟩ := h
  rcases (by omega : k = 0 ∨ k = 1 ∨ 2 ≤ k) with hk | hk | hk
  · subst hk; subst ex; subst ey
    cases rx
    obtain ⟨t, rfl⟩ := ry
    obtain ⟨its, r, ⟨⟨cls, dd, data, sl⟩, ho, hc, n, hd⟩, hs⟩ := I.tuple hT
    simp only at hc hd
    subst hc hd
    have hi : its.toArray.isEmpty = false := by
      cases its with
      | nil => cases r; exact absurd rfl hne
      | cons a b => rfl
    refine wpAny_binaryOp_repeat_ref (T := "tuple") (U := "int") (by decide) ⟨_, ho, rfl⟩ (fun s' => typeIs_int s' 0 t) noFill_tuple_mul F.fills_int_mul F.slot_int_rmul repeat_tuple F.slot_int_index.lookup (call_meets F.slot_int_rmul (typeIs_int s 0 t) F.entry_int_rmul (F.args_int_rmul_2 _ _) (int_rmul_tuple 0 t l its.toArray n dd sl)
      ⟨ho, rfl, ⟨_, ho, rfl⟩, call_meets F.slot_tuple_mul ⟨_, ho, rfl⟩ F.entry_tuple_mul (F.args_tuple_mul_2 _ _) (tupNone l its.toArray n dd sl t hi) ⟨ho, ?_⟩⟩)
    refine ⟨.ref s.heap.objs.size, _, I.laid (t' := s.toks) (o := .tup []) (fun b ob z => Heap.get?_push_of_some _ z) (Nat.le_refl _) ?_, rfl, q2 (by decide) _ (I.hok.fresh (Nat.le_refl _))⟩
    exact ⟨Nat.zero_le _, [], .nil, IsTup.new _ _⟩
  · subst hk; subst ex; subst ey
    cases rx
    obtain ⟨t, rfl⟩ := ry
    obtain ⟨its, r, ⟨⟨cls, dd, data, sl⟩, ho, hc, n, hd⟩, hs⟩ := I.tuple hT
    simp only at hc hd
    subst hc hd
    refine wpAny_binaryOp_repeat_ref (T := "tuple") (U := "int") (by decide) ⟨_, ho, rfl⟩ (fun s' => typeIs_int s' 1 t) noFill_tuple_mul F.fills_int_mul F.slot_int_rmul repeat_tuple F.slot_int_index.lookup (call_meets F.slot_int_rmul (typeIs_int s 1 t) F.entry_int_rmul (F.args_int_rmul_2 _ _) (int_rmul_tuple 1 t l its.toArray n dd sl)
      ⟨ho, rfl, ⟨_, ho, rfl⟩, call_meets F.slot_tuple_mul ⟨_, ho, rfl⟩ F.entry_tuple_mul (F.args_tuple_mul_2 _ _) (tupOnce l its.toArray n dd sl t) ⟨ho, ?_⟩⟩)
    exact ⟨.ref l, H, I, rfl, q1 rfl⟩
  · exact op_repT pins s σ H x y v u Q I rx ry ⟨l, k, xs, ex, ey, hT, hne, hk, k9, hz, q2 (by omega)⟩
end G
set_option Elab.async false
set_option linter.all false
set_option maxRecDepth 100000
set_option maxHeartbeats 1000000
namespace G
open PySem PySem.Spec PyProof.Rows L2
abbrev rowLt (c d : List Int) : Bool := HT.lexLt c d
section
variable {prog : Program} {w : World} {A : Around} {s : Shared}
def RowOf (h : Heap) (v : Value) (c : List Int) : Prop := ∃ (a : Addr) (o : Obj) (n : Nat) (us : Array Value), v = .ref a ∧ h.get? a = some o ∧ o.cls = .type "tuple" ∧ o.data = .seq us n ∧ IntsAre us.toList c ∧ c ≠ []
end
def RowV (K : PySem.W.Frag) (H : Hp) (x : V) (c : List Int) : Prop := ∃ t, x = V.ref t ∧ SqT K H t (c.map V.int)
def readRow (h : Heap) : V → List Int
  | .ref a => TS.intsOf h (.ref a)
  | _ => []
theorem RowV.read {X : Cx} {pins : List (Addr × Obj)} {s : Shared} {σ : L2.St} {H : Hp} {x : V} {c : List Int} (I : Inv X pins σ H s) (r : RowV X.K H x c) : readRow s.heap x = c := by
  obtain ⟨t, rfl, ht⟩ := r
  obtain ⟨us, r, hi, _⟩ := I.tuple ht
  exact TS.TupInts.ints ⟨t, _, rfl, hi, intsAre_of r⟩
theorem RowV.at {X : Cx} {pins : List (Addr × Obj)} {s : Shared} {σ : L2.St} {H : Hp} {t : Addr} {c : List Int} (I : Inv X pins σ H s) (r : RowV X.K H (.ref t) c) (hn : c ≠ []) : RowOf s.heap (.ref t) (readRow s.heap (.ref t)) := by
  rw [r.read I]
  obtain ⟨t', e, ht⟩ := r
  cases e
  obtain ⟨us, r, ⟨o, ho, hc, n, hd⟩, _⟩ := I.tuple ht
  exact ⟨t, o, n, _, rfl, ho, hc, hd, intsAre_of r, hn⟩
theorem rowLt_eq : ∀ {c d : List Int}, rowLt c d = false → rowLt d c = false → c = d
  | [], [], _, _ => rfl
  | [], _ :: _, h, _ => by cases h
  | _ :: _, [], _, h => by cases h
  | x :: c, y :: d, h1, h2 => by
    have h1' : (if x = y then rowLt c d else decide (x < y)) = false := h1
    have h2' : (if y = x then rowLt d c else decide (y < x)) = false := h2
    by_cases e : x = y
    · subst e
      rw [if_pos rfl] at h1' h2'
      rw [rowLt_eq h1' h2']
    · rw [if_neg e] at h1'
      rw [if_neg (Ne.symm e)] at h2'
      have a := of_decide_eq_false h1'
      have b := of_decide_eq_false h2'
      omega
end G
set_option Elab.async false
set_option linter.all false
set_option maxRecDepth 100000
set_option maxHeartbeats 1000000
namespace G
open PySem PySem.Spec PyProof.Rows L2
theorem same_new {H : Hp} {p : Addr} {o : HO} (h : H p = none) : Same H (upd H p o) := fun b x e => by
  rw [upd_ne (ne_of_none e h)]
  exact e
structure Tame {α : Type} (R : Hp → Addr → α → Prop) : Prop where
  same : ∀ {H H' t u}, R H t u → Same H H' → R H' t u
  but : ∀ {H H' D t u ys}, R H t u → H D = some (.lst ys) → (∀ a o, a ≠ D → H a = some o → H' a = some o) → R H' t u
section
variable {α : Type} {R : Hp → Addr → α → Prop}
theorem Tame.list (T : Tame R) {H : Hp} {D t : Addr} {u : α} {ys zs : List V} (h : R H t u) (hD : H D = some (.lst ys)) : R (upd H D (.lst zs)) t u := T.but h hD fun a o n e => by rw [upd_ne n]; exact e
def ObjsAt (R : Hp → Addr → α → Prop) (H : Hp) (l : Addr) (us : List α) : Prop := ∃ ts : List Addr, H l = some (.lst (ts.map V.ref)) ∧ ts.length = us.length ∧ ∀ (j : Nat) (t : Addr) (u : α), ts[j]? = some t → us[j]? = some u → R H t u
def MadeO (R : Hp → Addr → α → Prop) (H0 : Hp) (D : Addr) (us : List α) (i : Nat) (H' : Hp) : Prop := Same H0 H' ∧ ∃ ts : List Addr, H' D = some (.lst (ts.map V.ref)) ∧ ts.length = i ∧ ∀ (j : Nat) (t : Addr) (u : α), ts[j]? = some t → us[j]? = some u → R H' t u
theorem MadeO.zero {H0 : Hp} {D : Addr} {us : List α} (nD : H0 D = none) : MadeO R H0 D us 0 (upd H0 D (.lst [])) := ⟨same_new nD, [], upd_same, rfl, fun j t c h => by simp at h⟩
theorem MadeO.snoc (T : Tame R) {H0 H' H4 : Hp} {D r : Addr} {us : List α} {i : Nat} {c : α} (h : MadeO R H0 D us i H') (s : Same H' H4) (nD : H0 D = none) (hc : us[i]? = some c) (hr : R H4 r c) (hi : i ≤ 1000) :
    ∃ acc, H4 D = some (.lst acc) ∧ acc.length < sizeLine ∧ MadeO R H0 D us (i + 1) (upd H4 D (.lst (acc ++ [.ref r]))) := by
  obtain ⟨sm, ts, hD, hl, ht⟩ := h
  have hD4 := s _ _ hD
  refine ⟨_, hD4, by rw [List.length_map, hl, sizeLine_eq]; omega, fun b o e => ?_, ts ++ [r], by rw [upd_same, List.map_append]; rfl, by rw [List.length_append, hl]; rfl, fun j t u hj hu => ?_⟩
  · rw [upd_ne (ne_of_none e nD)]
    exact s _ _ (sm _ _ e)
  · refine T.list ?_ hD4
    rcases Nat.lt_or_ge j ts.length with q | q
    · rw [List.getElem?_append_left q] at hj
      exact T.same (ht j t u hj hu) s
    · have e : j = ts.length := by
        have := (List.getElem?_eq_some_iff.mp hj).1
        rw [List.length_append, List.length_singleton] at this
        omega
      subst e
      rw [List.getElem?_append_right (Nat.le_refl _), Nat.sub_self] at hj
      cases hj
      rw [hl, hc] at hu
      cases hu
      exact hr
theorem MadeO.objs {H0 H' : Hp} {D : Addr} {us : List α} {n : Nat} (h : MadeO R H0 D us n H') (e : n = us.length) : ObjsAt R H' D us := by
  subst e
  obtain ⟨_, ts, hD, hl, ht⟩ := h
  exact ⟨ts, hD, hl, ht⟩
theorem ObjsAt.same (T : Tame R) {H H' : Hp} {l : Addr} {us : List α} (h : ObjsAt R H l us) (s : Same H H') : ObjsAt R H' l us := by
  obtain ⟨ts, h1, h2, h3⟩ := h
  exact ⟨ts, s _ _ h1, h2, fun j t u a b => T.same (h3 j t u a b) s⟩
theorem ObjsAt.but (T : Tame R) {H H' : Hp} {l p : Addr} {us : List α} {ys : List V} (h : ObjsAt R H l us) (hp : H p = some (.lst ys)) (n : l ≠ p) (s : ∀ a o, a ≠ p → H a = some o → H' a = some o) : ObjsAt R H' l us := by
  obtain ⟨ts, h1, h2, h3⟩ := h
  exact ⟨ts, s _ _ n h1, h2, fun j t u a b => T.but (h3 j t u a b) hp s⟩
end
def RowAt (K : PySem.W.Frag) (H : Hp) (t : Addr) (c : List Int) : Prop := SqT K H t (c.map V.int)
inductive RowsIn (K : PySem.W.Frag) : List Value → List (List Int) → Prop
  | nil : RowsIn K [] []
  | cons {a : Addr} {d : Option Addr} {us : List Value} {n : Nat} {sl : Array (Option Value)} {vs : List Value} {c : List Int} {cs : List (List Int)} (l : K.lookup a = some ⟨.type "tuple", d, .seq us.toArray n, sl⟩) (i : IntsAre us c) (r : RowsIn K vs cs) : RowsIn K (.ref a :: vs) (c :: cs)
def TopRows (K : PySem.W.Frag) (x : Str) (cs : List (List Int)) : Prop := ∃ (u : Addr) (d : Option Addr) (vs : List Value) (n : Nat) (sl : Array (Option Value)), PySem.W.nsIn K mainGlobals x = some (some (.ref u)) ∧ K.lookup u = some ⟨.type "tuple", d, .seq vs.toArray n, sl⟩ ∧ RowsIn K vs cs
theorem TopRows.mk {K : PySem.W.Frag} {x : Str} {cs : List (List Int)} {u : Addr} {d : Option Addr} {vs : List Value} {n : Nat} {sl : Array (Option Value)} (a : PySem.W.nsIn K mainGlobals x = some (some (.ref u))) (l : K.lookup u = some ⟨.type "tuple", d, .seq vs.toArray n, sl⟩) (r : RowsIn K vs cs) : TopRows K x cs := ⟨u, d, vs, n, sl, a, l, r⟩
def Rows0 (K : PySem.W.Frag) (mg : Str → Option Value) (x : Str) (cs : List (List Int)) : Prop := ∃ (u : Addr) (ts : List Addr), mg x = some (.ref u) ∧ ts.length = cs.length ∧ ∀ H : Hp, SqT K H u (ts.map V.ref) ∧ ∀ (j : Nat) (t : Addr) (c : List Int), ts[j]? = some t → cs[j]? = some c → RowAt K H t c
theorem RowsIn.get {K : PySem.W.Frag} {vs : List Value} {cs : List (List Int)} (r : RowsIn K vs cs) (hz : ∀ c ∈ cs, c.length ≤ 1000) : ∃ ts : List Addr, vs = ts.map Value.ref ∧ ts.length = cs.length ∧ ∀ (H : Hp) (j : Nat) (t : Addr) (c : List Int), ts[j]? = some t → cs[j]? = some c → RowAt K H t c := by
  induction r with
  | nil => exact ⟨[], rfl, rfl, fun H j t c h => by simp at h⟩
  | @cons a d us n sl vs c cs l i r ih =>
    obtain ⟨ts, e, hl, h⟩ := ih fun c m => hz c (.tail _ m)
    refine ⟨a :: ts, by rw [e]; rfl, by rw [List.length_cons, List.length_cons, hl], fun H j t c' ht hc => ?_⟩
    cases j with
    | zero =>
      cases ht; cases hc
      refine .inr ⟨_, _, _, l, rfl, rfl, ?_, vals_ints i⟩
      have := hz c (.head _)
      rw [List.size_toArray, i.length, sizeLine_eq]
      omega
    | succ j => exact h H j t c' ht hc
theorem vals_refs : ∀ ts : List Addr, Vals (ts.map V.ref) (ts.map Value.ref)
  | [] => .nil
  | t :: ts => .cons rfl (vals_refs ts)
theorem TopRows.get {K : PySem.W.Frag} {x : Str} {cs : List (List Int)} {h : Heap} {mg : Str → Option Value} (T : TopRows K x cs) (X : K.In h) (G : h.Ns mainGlobals mg) (hz : ∀ c ∈ cs, c.length ≤ 1000) (hn : cs.length ≤ 1000) : Rows0 K mg x cs := by
  obtain ⟨u, d, vs, n, sl, a, l, r⟩ := T
  obtain ⟨ts, rfl, hl, g⟩ := r.get hz
  refine ⟨u, ts, PySem.W.mg_of X G a, hl, fun H => ⟨.inr ⟨_, _, _, l, rfl, rfl, ?_, vals_refs ts⟩, g H⟩⟩
  rw [List.size_toArray, List.length_map, hl, sizeLine_eq]
  omega
end G
set_option Elab.async false
set_option linter.all false
set_option maxRecDepth 100000
set_option maxHeartbeats 1000000
namespace G
open PySem PySem.Spec PyProof.Rows L2
theorem rowLt_lt : ∀ c d : List Int, rowLt c d = decide (c < d)
  | [], [] => by simp [rowLt, HT.lexLt]
  | [], _ :: _ => by simp [rowLt, HT.lexLt]
  | _ :: _, [] => by simp [rowLt, HT.lexLt]
  | x :: c, y :: d => by
    show (if x = y then rowLt c d else decide (x < y)) = _
    rw [rowLt_lt c d, Bool.eq_iff_iff, decide_eq_true_eq, List.cons_lt_cons_iff]
    by_cases e : x = y
    · subst e; simp
    · rw [if_neg e, decide_eq_true_eq]
      constructor
      · exact .inl
      · rintro (h | ⟨h, _⟩)
        · exact h
        · exact absurd h e
end G
set_option Elab.async false
set_option linter.all false
set_option maxRecDepth 100000
namespace G
open PySem PySem.Spec PyProof.Rows L2
end G
set_option Elab.async false
set_option linter.all false
set_option maxRecDepth 100000
namespace G
open PySem PySem.Spec PyProof.Rows L2
theorem dpa_ints {K : PySem.W.Frag} {H : Hp} : ∀ c : List Int, DpAll K H (c.map V.int) (c.map PyData.int)
  | [] => .nil
  | x :: c => .cons (.int x) (dpa_ints c)
theorem plain_ints : ∀ c : List Int, PyData.plainAll (c.map PyData.int) = true
  | [] => rfl
  | x :: c => by
    show (PyData.plain (.int x) && PyData.plainAll (c.map PyData.int)) = true
    rw [plain_ints c]; rfl
def rAnyT (K : PySem.W.Frag) : List V → Hp → VK → Prop := fun vs H Q => ∃ (a : Addr) (c : List Int), vs = [V.ref a] ∧ SqT K H a (c.map V.int) ∧ Q (.bl (c.any (· != 0))) H
theorem cr_anyT {X : Cx} (hc : X.calm = true) : CallR X (.builtin "any") (rAnyT X.K) := by
  intro pins s σ H vs us Q I r h
  obtain ⟨a, c, rfl, hs, q⟩ := h
  obtain ⟨its, rv, hl, _⟩ := I.tuple hs
  rw [Vals.ref1 r]
  obtain ⟨as, hr⟩ := Dp.readsAll I _ _ _ (dpa_ints c) rv
  refine PySem.W.any_tuple_data (I.ok.hd hc) hl hr (plain_ints c) (fun x m => ?_) fun h' tk hk => ?_
  · obtain ⟨i, _, rfl⟩ := List.mem_map.mp m
    trivial
  · refine ⟨.bl _, H, I.kept hk, rfl, ?_⟩
    rw [List.any_map]
    exact q
end G
set_option Elab.async false
set_option linter.all false
set_option maxRecDepth 100000
namespace D
open PySem PySem.Spec PyProof.Rows L2
def Bt (n : Nat) (i : Int) : Prop := i.natAbs < 2 ^ n
theorem Bt.mono {n m : Nat} {i : Int} (h : Bt n i) (l : n ≤ m) : Bt m i := Nat.lt_of_lt_of_le h (Nat.pow_le_pow_right (by decide) l)
theorem Bt.neg {n : Nat} {i : Int} (h : Bt n i) : Bt n (-i) := by unfold Bt at *; rw [Int.natAbs_neg]; exact h
theorem Bt.add {n m : Nat} {i j : Int} (h : Bt n i) (g : Bt m j) : Bt (max n m + 1) (i + j) := by
  have h1 := h.mono (Nat.le_max_left n m)
  have h2 := g.mono (Nat.le_max_right n m)
  unfold Bt at *
  rw [Nat.pow_succ]
  have := Int.natAbs_add_le i j
  omega
theorem Bt.sub {n m : Nat} {i j : Int} (h : Bt n i) (g : Bt m j) : Bt (max n m + 1) (i - j) := by rw [Int.sub_eq_add_neg]; exact h.add g.neg
theorem Bt.mul {n m : Nat} {i j : Int} (h : Bt n i) (g : Bt m j) : Bt (n + m) (i * j) := by
  unfold Bt at *
  rw [Int.natAbs_mul, Nat.pow_add]
  exact Nat.mul_lt_mul'' h g
theorem cmulW {n m : Nat} {i j : Int} (h : Bt n i) (g : Bt m j) (l : n + m ≤ 900000) : CMulW i j := wide_mul (a := n + 1) (b := m + 1) (h.mono (Nat.le_succ _)) (g.mono (Nat.le_succ _)) (Nat.succ_pos _) (Nat.succ_pos _) (by omega)
theorem cdivW {n : Nat} {i j : Int} (h : 0 < j) (g : Bt n j) (l : n ≤ 8000) : CDivW i j := wide_div (b := n + 1) h (g.mono (Nat.le_succ _)) (Nat.succ_pos _) (by omega)
theorem OpR.or {X : Cx} {f : Value → Value → Sem Value} {r r' : R2} (h : OpR X f r) (h' : OpR X f r') : OpR X f (fun x y H Q => r x y H Q ∨ r' x y H Q) := fun pins s σ H x y v u Q I rx ry q => q.elim (h pins s σ H x y v u Q I rx ry) (h' pins s σ H x y v u Q I rx ry)
section
variable {K : PySem.W.Frag} {r : R2}
theorem Wsh.dat {H : Hp} {S : Addr → Prop} {Q : VK} {R : Res → Prop} {d : Dt} {v : V} (h : Wsh K H S Q R) (q : R (.dat d)) (hd : Rep K S H d v) : Q v H := h.2 _ v H S q .refl hd
theorem Wsh.newL {H : Hp} {S : Addr → Prop} {Q : VK} {R : Res → Prop} {l : List Dt} {vs : List V} {p : Addr} (h : Wsh K H S Q R) (q : R (.new (.lst l))) (hl : Reps K S H l vs) (hp : H p = none) : Q (.ref p) (upd H p (.lst vs)) :=
  h.2 _ (.ref p) _ S q (Lay.new hp) ⟨p, rfl, hp, (fun s => by obtain ⟨o, e⟩ := h.1 p s; rw [hp] at e; cases e), vs, upd_same, (Lay.new hp).reps hl⟩
theorem Wsh.tupN {H : Hp} {S : Addr → Prop} {Q : VK} {R : Res → Prop} {l : List Dt} {vs : List V} {p : Addr} (h : Wsh K H S Q R) (q : R (.dat (.tup l))) (hl : Reps K S H l vs) (hp : H p = none) : Q (.ref p) (upd H p (.tup vs)) :=
  h.2 _ (.ref p) _ _ q (Lay.newF hp) ⟨p, vs, rfl, .inl ⟨upd_same, .inr rfl⟩, (Lay.newF hp).reps hl⟩
end
section
variable {K : PySem.W.Frag} {X : Cx}
def fI (g : Int → Int → Dt) : F2 := fun a b R => match a, b with
  | .int i, .int j => R (.dat (g i j))
  | _, _ => False
def fIc (C : Int → Int → Prop) (g : Int → Int → Dt) : F2 := fun a b R => match a, b with
  | .int i, .int j => C i j ∧ R (.dat (g i j))
  | _, _ => False
theorem od_I0 {g : Int → Int → V} {gD : Int → Int → Dt} (h : ∀ S H i j, Rep K S H (gD i j) (g i j)) : OpD K (rI0 g) (fI gD) := fun S H x y a b Q R ha hb hw q => by
  cases a <;> cases b <;> first | exact q.elim | (rw [ha.int, hb.int]; exact ⟨_, _, rfl, rfl, hw.dat q (h _ _ _ _)⟩)
theorem od_I {C : Int → Int → Prop} {g : Int → Int → V} {gD : Int → Int → Dt} (h : ∀ S H i j, Rep K S H (gD i j) (g i j)) : OpD K (rI C g) (fIc C gD) := fun S H x y a b Q R ha hb hw q => by
  cases a <;> cases b <;> first | exact q.elim | (rw [ha.int, hb.int]; exact ⟨_, _, rfl, rfl, q.1, hw.dat q.2 (h _ _ _ _)⟩)
def fNeg : F1 := fun a R => match a with
  | .int i => R (.dat (.int (-i)))
  | _ => False
theorem ud_neg : UnD K (rU fun i => .int (-i)) fNeg := fun S H x a Q R ha hw q => by
  cases a <;> first | exact q.elim | (rw [ha.int]; exact ⟨_, rfl, hw.dat q rfl⟩)
def rAddU (K : PySem.W.Frag) : R2 := fun x y H Q => (∃ i j, x = .int i ∧ y = .int j ∧ Q (.int (i + j)) H) ∨ (∃ i j, x = .str i ∧ y = .str j ∧ i.length + j.length ≤ sizeLine ∧ Q (.str (i ++ j)) H) ∨ rCat x y H Q ∨ rCatA K x y H Q
def fAdd : F2 := fun a b R => match a, b with
  | .int i, .int j => R (.dat (.int (i + j)))
  | .str x, .str y => x.length + y.length ≤ sizeLine ∧ R (.dat (.str (x ++ y)))
  | .lst l, .lst m => l.length + m.length ≤ sizeLine ∧ R (.new (.lst (l ++ m)))
  | .tup l, .tup m => l.length + m.length ≤ sizeLine ∧ R (.dat (.tup (l ++ m)))
  | _, _ => False
theorem op_addU : OpR X (binaryOp .Add) (rAddU X.K) := OpR.or op_add (OpR.or op_add_str (OpR.or op_cat op_catA))
theorem RepP.tupR {K : PySem.W.Frag} {S : Addr → Prop} {H : Hp} {l : List Dt} {v : V} (h : RepP K S H (.tup l) v) : Rep K S H (.tup l) v := by
  rcases h with h | ⟨p, w, e, e2, r⟩
  · exact h
  · cases w <;> cases e2
theorem od_add : OpD K (rAddU K) fAdd := fun S H x y a b Q R ha hb hw q => by
  cases a <;> cases b <;> first | exact q.elim | skip
  · rw [ha.int, hb.int]; exact .inl ⟨_, _, rfl, rfl, hw.dat q rfl⟩
  · rw [ha.str, hb.str]; exact .inr (.inl ⟨_, _, rfl, rfl, q.1, hw.dat q.2 rfl⟩)
  · obtain ⟨p, us, rfl, hp, hl⟩ := ha.lst
    obtain ⟨p', us', rfl, hp', hl'⟩ := hb.lst
    exact .inr (.inr (.inl ⟨p, p', us, us', rfl, rfl, hp, hp', by rw [hl.length, hl'.length]; exact q.1, fun z hz => hw.newL q.2 (hl.append hl') hz⟩))
  · obtain ⟨p, us, e1, hp, hl⟩ := ha.tup
    obtain ⟨p', us', e2, hp', hl'⟩ := hb.tup
    refine .inr (.inr (.inr ⟨p, p', us, us', e1, e2, hp, hp', by rw [hl.length, hl'.length]; exact q.1, fun z => ?_, fun _ z => ?_, fun _ _ z hz => hw.tupN q.2 (hl.append hl') hz⟩))
    · have : ∀ {l : List Dt}, Reps K S H l [] → l = [] := fun {l} h => List.eq_nil_of_length_eq_zero (by rw [← h.length]; rfl)
      rw [z] at hl
      have e := this hl
      have q := q.2
      rw [e, List.nil_append] at q
      exact hw.dat q (e2 ▸ hb.tupR)
    · have : ∀ {l : List Dt}, Reps K S H l [] → l = [] := fun {l} h => List.eq_nil_of_length_eq_zero (by rw [← h.length]; rfl)
      rw [z] at hl'
      have e := this hl'
      have q := q.2
      rw [e, List.append_nil] at q
      exact hw.dat q (e1 ▸ ha.tupR)
def rMulU (K : PySem.W.Frag) : R2 := fun x y H Q => (∃ i j, x = .int i ∧ y = .int j ∧ CMulW i j ∧ Q (.int (i * j)) H) ∨ rRep x y H Q ∨ G.rRepA K x y H Q
def fMul : F2 := fun a b R => match a, b with
  | .int i, .int j => CMulW i j ∧ R (.dat (.int (i * j)))
  | .lst l, .int k => -(2 ^ 63) ≤ k ∧ k < 2 ^ 63 ∧ l.length * k.toNat ≤ sizeLine ∧ R (.new (.lst (List.replicate k.toNat l).flatten))
  | .tup l, .int k => l ≠ [] ∧ 0 ≤ k ∧ k ≤ 1000 ∧ l.length ≤ 1000 ∧ R (.dat (.tup (List.replicate k.toNat l).flatten))
  | _, _ => False
theorem op_mulU : OpR X (binaryOp .Mult) (rMulU X.K) := OpR.or op_mulW (OpR.or op_rep G.op_repA)
theorem Reps.rep {S : Addr → Prop} {H : Hp} {l : List Dt} {vs : List V} (h : Reps K S H l vs) : ∀ n : Nat, Reps K S H (List.replicate n l).flatten (List.replicate n vs).flatten
  | 0 => rfl
  | n + 1 => by rw [List.replicate_succ, List.flatten_cons, List.replicate_succ, List.flatten_cons]; exact h.append (Reps.rep h n)
theorem od_mul : OpD K (rMulU K) fMul := fun S H x y a b Q R ha hb hw q => by
  cases a <;> cases b <;> first | exact q.elim | skip
  · rw [ha.int, hb.int]; exact .inl ⟨_, _, rfl, rfl, q.1, hw.dat q.2 rfl⟩
  · obtain ⟨p, us, rfl, hp, hl⟩ := ha.lst
    rw [hb.int]
    exact .inr (.inl ⟨p, _, us, rfl, rfl, hp, q.1, q.2.1, by rw [hl.length]; exact q.2.2.1, fun z hz => hw.newL q.2.2.2 (hl.rep _) hz⟩)
  · obtain ⟨p, us, e1, hp, hl⟩ := ha.tup
    rw [hb.int]
    refine .inr (.inr ⟨p, _, us, e1, rfl, hp, fun z => q.1 (List.eq_nil_of_length_eq_zero (by rw [← hl.length, z]; rfl)), q.2.1, q.2.2.1, by rw [hl.length]; exact q.2.2.2.1, fun e => ?_, fun _ z hz => hw.tupN q.2.2.2.2 (hl.rep _) hz⟩)
    subst e
    have q := q.2.2.2.2
    rename_i l _
    rw [show (List.replicate (1 : Int).toNat l).flatten = l by simp] at q
    exact hw.dat q (e1 ▸ ha.tupR)
def fIx : F2 := fun a b R => match a, b with
  | .lst l, .int i => match atI l i with
    | some d => R (.dat d)
    | none => False
  | .tup l, .int i => match atI l i with
    | some d => R (.dat d)
    | none => False
  | .str z, .int i => z.length ≤ sizeLine ∧ match atI z.cps.toList i with
    | some c => R (.dat (.str ⟨#[c]⟩))
    | none => False
  | _, _ => False
theorem Reps.atI {S : Addr → Prop} {H : Hp} {l : List Dt} {vs : List V} {i : Int} {d : Dt} (h : Reps K S H l vs) (e : L2.atI l i = some d) : ∃ v, L2.atI vs i = some v ∧ Rep K S H d v := by
  unfold L2.atI at *
  rw [h.length]
  cases e1 : ixN l.length i with
  | none => rw [e1] at e; cases e
  | some j =>
    rw [e1] at e
    exact h.get e
theorem od_ix : OpD K (rIx K) fIx := fun S H x y a b Q R ha hb hw q => by
  cases a <;> cases b <;> first | exact q.elim | skip
  · rename_i z i
    rw [ha.str, hb.int]
    have q : z.length ≤ sizeLine ∧ (match L2.atI z.cps.toList i with | some c => R (.dat (.str ⟨#[c]⟩)) | none => False) := q
    cases e : L2.atI z.cps.toList i with
    | none => rw [e] at q; exact q.2.elim
    | some c => rw [e] at q; exact .inr (.inr ⟨_, _, c, rfl, rfl, q.1, e, hw.dat q.2 rfl⟩)
  · rename_i l i
    obtain ⟨p, us, e1, hp, hl⟩ := ha.lst
    have q : (match L2.atI l i with | some d => R (.dat d) | none => False) := q
    cases e : L2.atI l i with
    | none => rw [e] at q; exact q.elim
    | some d =>
      rw [e] at q
      obtain ⟨v, e2, hv⟩ := hl.atI e
      exact .inl ⟨p, us, i, v, e1, hb.int, .of hp, e2, hw.dat q hv⟩
  · rename_i l i
    obtain ⟨p, us, e1, hp, hl⟩ := ha.tup
    have q : (match L2.atI l i with | some d => R (.dat d) | none => False) := q
    cases e : L2.atI l i with
    | none => rw [e] at q; exact q.elim
    | some d =>
      rw [e] at q
      obtain ⟨v, e2, hv⟩ := hl.atI e
      exact .inr (.inl ⟨p, us, i, v, e1, hb.int, hp, e2, hw.dat q hv⟩)
mutual
def toPy : Dt → Option PyData
  | .non => some .none
  | .bl b => some (.bool b)
  | .int i => some (.int i)
  | .str x => some (.str x)
  | .lst l => match toPys l with
    | some ds => some (.list ds)
    | none => none
  | .tup l => match toPys l with
    | some ds => some (.tuple ds)
    | none => none
  | _ => none
def toPys : List Dt → Option (List PyData)
  | [] => some []
  | d :: l => match toPy d, toPys l with
    | some e, some m => some (e :: m)
    | _, _ => none
end
mutual
theorem Rep.dp {S : Addr → Prop} {H : Hp} : ∀ (d : Dt) (v : V) (p : PyData), Rep K S H d v → toPy d = some p → Dp K H v p
  | .non, v, p, h, e => by cases e; rw [show v = .non from h]; exact .non
  | .bl b, v, p, h, e => by cases e; rw [show v = .bl b from h]; exact .bl b
  | .int i, v, p, h, e => by cases e; rw [show v = .int i from h]; exact .int i
  | .str x, v, p, h, e => by cases e; rw [show v = .str x from h]; exact .str x
  | .lst l, v, p, ⟨a, vs, ev, ha, _, hl⟩, e => by
    unfold toPy at e
    cases e1 : toPys l with
    | none => rw [e1] at e; cases e
    | some ds => rw [e1] at e; cases e; rw [ev]; exact .lst (.of ha) (Reps.dp l vs ds hl e1)
  | .tup l, v, p, h, e => by
    unfold toPy at e
    obtain ⟨a, vs, ev, ha, hl⟩ := h.tupT
    cases e1 : toPys l with
    | none => rw [e1] at e; cases e
    | some ds => rw [e1] at e; cases e; rw [ev]; exact .tup ha (Reps.dp l vs ds hl e1)
  | .obj _ _ _, _, _, _, e => by cases e
  | .dic _ _, _, _, _, e => by cases e
  | .val _, _, _, _, e => by cases e
  | .scr _, _, _, _, e => by cases e
  | .lam _, _, _, _, e => by cases e
theorem Reps.dp {S : Addr → Prop} {H : Hp} : ∀ (l : List Dt) (vs : List V) (ps : List PyData), Reps K S H l vs → toPys l = some ps → DpAll K H vs ps
  | [], vs, ps, h, e => by cases e; rw [show vs = [] from h]; exact .nil
  | d :: l, vs, ps, ⟨v, us, ev, h1, h2⟩, e => by
    unfold toPys at e
    cases e1 : toPy d with
    | none => rw [e1] at e; cases e
    | some p =>
      cases e2 : toPys l with
      | none => rw [e1, e2] at e; cases e
      | some m => rw [e1, e2] at e; cases e; rw [ev]; exact .cons (Rep.dp d v p h1 e1) (Reps.dp l us m h2 e2)
end
theorem RepP.dp {S : Addr → Prop} {H : Hp} {d : Dt} {v : V} {p : PyData} (h : RepP K S H d v) (e : toPy d = some p) : Dp K H v p := by
  rcases h with h | ⟨q, w, rfl, e2, r⟩
  · exact Rep.dp d v p h e
  · subst e2
    cases w with
    | lst l =>
      obtain ⟨vs, hq, hl⟩ := r
      have e : (match toPys l with | some ds => some (PyData.list ds) | none => none) = some p := e
      cases e1 : toPys l with
      | none => rw [e1] at e; cases e
      | some ds => rw [e1] at e; cases e; exact .lst (.of hq) (Reps.dp l vs ds hl e1)
    | dic _ _ => cases e
    | ins _ _ _ => cases e
    | tab _ _ => cases e
def fEq : F2 := fun a b R => match toPy a, toPy b with
  | some p, some q => SeqAt.shaped p = true ∧ SeqAt.shaped q = true ∧ R (.dat (.bl (PyData.eqv p q)))
  | _, _ => False
def fNe : F2 := fun a b R => match toPy a, toPy b with
  | some p, some q => SeqAt.shaped p = true ∧ SeqAt.shaped q = true ∧ R (.dat (.bl (!PyData.eqv p q)))
  | _, _ => False
theorem od_eq : OpD K (rEqD K) fEq := fun S H x y a b Q R ha hb hw q => by
  unfold fEq at q
  cases e1 : toPy a with
  | none => rw [e1] at q; exact q.elim
  | some p =>
    cases e2 : toPy b with
    | none => rw [e1, e2] at q; exact q.elim
    | some r => rw [e1, e2] at q; exact ⟨p, r, ha.dp e1, hb.dp e2, q.1, q.2.1, hw.dat q.2.2 rfl⟩
theorem od_ne : OpD K (rNeD K) fNe := fun S H x y a b Q R ha hb hw q => by
  unfold fNe at q
  cases e1 : toPy a with
  | none => rw [e1] at q; exact q.elim
  | some p =>
    cases e2 : toPy b with
    | none => rw [e1, e2] at q; exact q.elim
    | some r => rw [e1, e2] at q; exact ⟨p, r, ha.dp e1, hb.dp e2, q.1, q.2.1, hw.dat q.2.2 rfl⟩
def fIsN : F2 := fun a b R => match b with
  | .non => match a with
    | .val _ => False
    | .non => R (.dat (.bl true))
    | _ => R (.dat (.bl false))
  | _ => False
theorem RepP.isN {S : Addr → Prop} {H : Hp} {d : Dt} {v : V} (h : RepP K S H d v) (hv : ∀ u, d ≠ .val u) : (v = .non) ↔ d = .non := by
  cases d with
  | non => simp [h.non]
  | bl b => rw [h.bl]; simp
  | int b => rw [h.int]; simp
  | str b => rw [h.str]; simp
  | lst l => obtain ⟨a, vs, rfl, _⟩ := h.lst; simp
  | tup l => obtain ⟨a, vs, rfl, _⟩ := h.tup; simp
  | obj C ns l => obtain ⟨a, dx, vs, rfl, _⟩ := h.obj; simp
  | dic ks l => obtain ⟨a, vs, rfl, _⟩ := h.dic; simp
  | val u => exact absurd rfl (hv u)
  | scr ns =>
    rcases h with ⟨a, rfl, _⟩ | ⟨p, w, rfl, e, _⟩
    · simp
    · cases w <;> cases e
  | lam L =>
    rcases h with ⟨a, _, _, rfl, _⟩ | ⟨p, w, rfl, e, _⟩
    · simp
    · cases w <;> cases e
theorem od_isN : OpD K (fun x y H Q => y = .non ∧ Q (.bl (decide (x = .non))) H) fIsN := fun S H x y a b Q R ha hb hw q => by
  cases b <;> first | exact q.elim | skip
  refine ⟨hb.non, ?_⟩
  cases a <;> first
    | exact (show False from q).elim
    | (rw [decide_eq_true ((ha.isN fun u z => by cases z).mpr rfl)]; exact hw.dat q rfl)
    | (rw [decide_eq_false fun z => by have := (ha.isN fun u z => by cases z).mp z; cases this]; exact hw.dat q rfl)
end
end D
set_option Elab.async false
set_option linter.all false
set_option maxRecDepth 100000
namespace D
open PySem PySem.Spec PyProof.Rows L2
def fSub : F2 := fI fun i j => .int (i - j)
def fDiv : F2 := fIc CDivW fun i j => .int (i / j)
def fMod : F2 := fIc (fun _ j => 0 < j) fun i j => .int (i % j)
def fPow : F2 := fIc CPow fun i j => .int (i ^ j.toNat)
def fLt : F2 := fI fun i j => .bl (decide (i < j))
def fLe : F2 := fI fun i j => .bl (decide (i ≤ j))
def fGt : F2 := fI fun i j => .bl (decide (j < i))
def fGe : F2 := fI fun i j => .bl (decide (j ≤ i))
section
variable {K : PySem.W.Frag} {X : Cx} {c : Ct} {W : WX}
theorem od_sub : OpD K (rI0 fun i j => .int (i - j)) fSub := od_I0 fun _ _ _ _ => rfl
theorem od_div : OpD K (rI CDivW fun i j => .int (i / j)) fDiv := od_I fun _ _ _ _ => rfl
theorem od_mod : OpD K (rI (fun _ j => 0 < j) fun i j => .int (i % j)) fMod := od_I fun _ _ _ _ => rfl
theorem od_pow : OpD K (rI CPow fun i j => .int (i ^ j.toNat)) fPow := od_I fun _ _ _ _ => rfl
theorem od_lt : OpD K (rI0 fun i j => .bl (decide (i < j))) fLt := od_I0 fun _ _ _ _ => rfl
theorem od_gt : OpD K (rI0 fun i j => .bl (decide (j < i))) fGt := od_I0 fun _ _ _ _ => rfl
theorem od_ge : OpD K (rI0 fun i j => .bl (decide (j ≤ i))) fGe := od_I0 fun _ _ _ _ => rfl
def tru (d : Dt) (k : Bool → Prop) : Prop := match d with
  | .non => k false
  | .bl b => k b
  | .int i => k (i != 0)
  | .str y => y.length ≤ sizeLine ∧ k ((y.length : Int) != 0)
  | .lst l => k (!l.isEmpty)
  | .tup l => k (!l.isEmpty)
  | .dic ks _ => k (!ks.isEmpty)
  | _ => False
theorem Reps.empty {S : Addr → Prop} {H : Hp} {l : List Dt} {vs : List V} (h : Reps K S H l vs) : vs.isEmpty = l.isEmpty := by
  cases l with
  | nil => rw [show vs = [] from h]; rfl
  | cons d l => obtain ⟨v, us, e, _⟩ := h; rw [e]; rfl
theorem tru_ok {S : Addr → Prop} {H : Hp} {d : Dt} {v : V} {k : Bool → Prop} (h : RepP K S H d v) (q : tru d k) : ∃ b, TruV K v H b ∧ k b := by
  cases d with
  | non => rw [h.non]; exact ⟨false, rfl, q⟩
  | bl b => rw [h.bl]; exact ⟨b, rfl, q⟩
  | int i => rw [h.int]; exact ⟨_, rfl, q⟩
  | str x => rw [h.str]; exact ⟨_, ⟨q.1, rfl⟩, q.2⟩
  | lst l => obtain ⟨a, vs, rfl, ha, hl⟩ := h.lst; exact ⟨_, .inl ⟨vs, .of ha, rfl⟩, by rw [hl.empty]; exact q⟩
  | tup l => obtain ⟨a, vs, rfl, ha, hl⟩ := h.tup; exact ⟨_, .inr (.inl ⟨vs, ha, rfl⟩), by rw [hl.empty]; exact q⟩
  | obj => exact q.elim
  | val => exact q.elim
  | scr => exact q.elim
  | lam => exact q.elim
  | dic ks l =>
    obtain ⟨a, vs, rfl, ha, hl, n⟩ := h.dic
    refine ⟨_, .inr (.inr ⟨_, ha, rfl⟩), ?_⟩
    have : (ks.zip vs).isEmpty = ks.isEmpty := by
      have e := hl.length
      cases ks with
      | nil => rfl
      | cons a ks =>
        cases vs with
        | nil => rw [← e] at n; cases n
        | cons => rfl
    rw [this]; exact q
def dTru (t : TED) : TTD := fun WD ρ R => t WD ρ (kP fun d ρ' => tru d fun b => R b ρ')
theorem snd_tru {t0 : TE} {t : TED} (h : SndE K c W t0 t) : SndT K c W (fun σ H Q => t0 σ H fun x H1 => ∃ k, TruV K x H1 k ∧ Q k H1) (dTru t) := by
  intro WD ρ σ H S Q R hW k hR q
  refine h.pk hW k (fun d ρ1 v1 H1 S1 q a rr => ?_) q
  obtain ⟨b, h1, h2⟩ := tru_ok rr q
  exact ⟨b, h1, hR _ _ _ S1 h2 a⟩
theorem td_tru {e : Expr} {t0 : TE} {t : TED} (h : PED X c W e t0 t) (he : ∀ whole, isTrue e X.env whole = (do let v ← whole; standAt e.pos; holding [v] (truthy v)) := by intro _; rfl) : PTD X c W e (fun σ H Q => t0 σ H fun x H1 => ∃ k, TruV X.K x H1 k ∧ Q k H1) (dTru t) := ⟨pt_truth h.pe he, snd_tru h.sn⟩
def ClD (K : PySem.W.Frag) (r : List V → Hp → VK → Prop) (f : FL) : Prop := ∀ S H xs ds (Q : VK) (R : Res → Prop), RepPs K S H ds xs → Wsh K H S Q R → f ds R → r xs H Q
def dCB (f : FL) (ta : TAD) : TED := fun WD ρ R => ta WD ρ fun rs ρ1 => match pks rs ρ1 with
  | some ds => f ds fun r => R r ρ1
  | none => False
theorem snd_cb {r : List V → Hp → VK → Prop} {f : FL} {ta0 : TA} {ta : TAD} (ho : ClD K r f) (ha : SndA K c W ta0 ta) : SndE K c W (tCB r ta0) (dCB f ta) := by
  intro WD ρ σ H S Q R hW k hR h
  refine ha WD ρ σ H S _ _ hW k (fun rs ρ1 vs H1 S1 h a rr => ?_) h
  cases e : pks rs ρ1 with
  | none => rw [e] at h; exact h.elim
  | some ds =>
    rw [e] at h
    refine ho S1 H1 vs ds Q _ (pks_ok a.ok rr e) ⟨a.ok.st, fun res v H' S' q l rp => ?_⟩ h
    refine hR res ρ1 v H' S' q (a.trans (Step.ofLay a.ok l)) ?_
    cases res with
    | dat d => exact rp
    | ref i => exact rp.none0
    | new w => obtain ⟨p, e, h0, n, ro⟩ := rp; exact ⟨p, e, a.gone h0, n, ro⟩
theorem ed_callB {x : Str} {p pos : Pos} {e : Expr} {es : List Expr} {id : String} {r : List V → Hp → VK → Prop} {f : FL} {t0 : TA} {t : TAD} (hc : CallR X (.builtin id) r) (hd : ClD X.K r f) (hm : X.mg x = none) (hv : bootBuiltins x = some (.builtin id)) (ha : PAD X c W (e :: es) t0 t) (hg : Gl X x := by rfl) (hn : x ≠ "__name__" := by decide) (hdb : (x == ("__debug__" : Str)) = false := by decide)
    (he : starEach (e :: es) X.env = (false, eval e X.env) :: starEach es X.env := by rfl) (hpl : (backTo pos (starEach es X.env)).any (·.1) = false := by rfl) : PED X c W (.Call (.Name x p) (e :: es) [] pos) (tCB r t0) (dCB f t) := ⟨pe_callB hc hg hm hv ha.pa hn hdb he hpl, snd_cb hd ha.sn⟩
theorem ed_callTy {x : Str} {p pos : Pos} {e : Expr} {es : List Expr} {T : String} {r : List V → Hp → VK → Prop} {f : FL} {t0 : TA} {t : TAD} (hc : CallR X (.type T) r) (hd : ClD X.K r f) (hm : X.mg x = none) (hv : bootBuiltins x = some (.type T)) (ha : PAD X c W (e :: es) t0 t) (hg : Gl X x := by rfl) (hn : x ≠ "__name__" := by decide) (hdb : (x == ("__debug__" : Str)) = false := by decide)
    (he : starEach (e :: es) X.env = (false, eval e X.env) :: starEach es X.env := by rfl) (hpl : (backTo pos (starEach es X.env)).any (·.1) = false := by rfl) : PED X c W (.Call (.Name x p) (e :: es) [] pos) (tCB r t0) (dCB f t) := ⟨pe_callTy hc hg hm hv ha.pa hn hdb he hpl, snd_cb hd ha.sn⟩
theorem RepPs.one {S : Addr → Prop} {H : Hp} {d : Dt} {xs : List V} (h : RepPs K S H [d] xs) : ∃ v, xs = [v] ∧ RepP K S H d v := by
  obtain ⟨v, us, e, h1, h2⟩ := h
  rw [show us = [] from h2] at e
  exact ⟨v, e, h1⟩
theorem RepPs.two {S : Addr → Prop} {H : Hp} {d d' : Dt} {xs : List V} (h : RepPs K S H [d, d'] xs) : ∃ v v', xs = [v, v'] ∧ RepP K S H d v ∧ RepP K S H d' v' := by
  obtain ⟨v, us, e, h1, h2⟩ := h
  obtain ⟨v', e', h3⟩ := RepPs.one h2
  rw [e'] at e
  exact ⟨v, v', e, h1, h3⟩
def fAbs : FL := fun ds R => match ds with
  | [.int i] => R (.dat (.int (if i < 0 then -i else i)))
  | _ => False
theorem cd_abs : ClD K (fun xs H Q => ∃ i, xs = [.int i] ∧ Q (.int (if i < 0 then -i else i)) H) fAbs := fun S H xs ds Q R h hw q => by
  unfold fAbs at q
  split at q
  · obtain ⟨v, rfl, h1⟩ := h.one
    rw [h1.int]
    exact ⟨_, rfl, hw.dat q rfl⟩
  · exact q.elim
def fLen : FL := fun ds R => match ds with
  | [.lst l] => R (.dat (.int l.length))
  | [.tup l] => R (.dat (.int l.length))
  | [.str z] => z.length ≤ sizeLine ∧ R (.dat (.int z.length))
  | _ => False
theorem cd_len : ClD K (fun xs H Q => ∃ x n, xs = [x] ∧ LenV K x H n ∧ Q (.int n) H) fLen := fun S H xs ds Q R h hw q => by
  unfold fLen at q
  split at q
  · obtain ⟨v, rfl, h1⟩ := h.one
    obtain ⟨a, vs, rfl, ha, hl⟩ := h1.lst
    exact ⟨_, _, rfl, .inl ⟨vs, .of ha, rfl⟩, by rw [hl.length]; exact hw.dat q rfl⟩
  · obtain ⟨v, rfl, h1⟩ := h.one
    obtain ⟨a, vs, rfl, ha, hl⟩ := h1.tup
    exact ⟨_, _, rfl, .inr ⟨vs, ha, rfl⟩, by rw [hl.length]; exact hw.dat q rfl⟩
  · obtain ⟨v, rfl, h1⟩ := h.one
    rw [h1.str]
    exact ⟨_, _, rfl, ⟨q.1, rfl⟩, hw.dat q.2 rfl⟩
  · exact q.elim
def fInt : FL := fun ds R => match ds with
  | [.int i] => R (.dat (.int i))
  | [.bl b] => R (.dat (.int (if b then 1 else 0)))
  | _ => False
theorem cd_int : ClD K (fun xs H Q => (∃ i, xs = [.int i] ∧ Q (.int i) H) ∨ ∃ k, xs = [.bl k] ∧ Q (.int (if k then 1 else 0)) H) fInt := fun S H xs ds Q R h hw q => by
  unfold fInt at q
  split at q
  · obtain ⟨v, rfl, h1⟩ := h.one
    rw [h1.int]
    exact .inl ⟨_, rfl, hw.dat q rfl⟩
  · obtain ⟨v, rfl, h1⟩ := h.one
    rw [h1.bl]
    exact .inr ⟨_, rfl, hw.dat q rfl⟩
  · exact q.elim
def fList : FL := fun ds R => match ds with
  | [.lst l] => R (.new (.lst l))
  | [.tup l] => R (.new (.lst l))
  | _ => False
theorem cd_list : ClD K (fun xs H Q => ∃ p ys, xs = [.ref p] ∧ (SqL K H p ys ∨ SqT K H p ys) ∧ ∀ l, H l = none → Q (.ref l) (upd H l (.lst ys))) fList := fun S H xs ds Q R h hw q => by
  unfold fList at q
  split at q
  · obtain ⟨v, rfl, h1⟩ := h.one
    obtain ⟨a, vs, rfl, ha, hl⟩ := h1.lst
    exact ⟨a, vs, rfl, .inl (.of ha), fun p hp => hw.newL q hl hp⟩
  · obtain ⟨v, rfl, h1⟩ := h.one
    obtain ⟨a, vs, rfl, ha, hl⟩ := h1.tup
    exact ⟨a, vs, rfl, .inr ha, fun p hp => hw.newL q hl hp⟩
  · exact q.elim
def fTuple : FL := fun ds R => match ds with
  | [.lst l] => R (.dat (.tup l))
  | [.tup l] => R (.dat (.tup l))
  | _ => False
theorem cd_tuple : ClD K (fun xs H Q => ∃ p ys, xs = [.ref p] ∧ ((SqL K H p ys ∧ ∀ l, H l = none → Q (.ref l) (upd H l (.tup ys))) ∨ (SqT K H p ys ∧ Q (.ref p) H))) fTuple := fun S H xs ds Q R h hw q => by
  unfold fTuple at q
  split at q
  · obtain ⟨v, rfl, h1⟩ := h.one
    obtain ⟨a, vs, rfl, ha, hl⟩ := h1.lst
    exact ⟨a, vs, rfl, .inl ⟨.of ha, fun p hp => hw.tupN q hl hp⟩⟩
  · obtain ⟨v, rfl, h1⟩ := h.one
    obtain ⟨a, vs, e, ha, hl⟩ := h1.tup
    exact ⟨a, vs, by rw [e], .inr ⟨ha, hw.dat q (e ▸ h1.tupR)⟩⟩
  · exact q.elim
def intsD : List Dt → Option (List Int)
  | [] => some []
  | .int i :: l => (intsD l).map (i :: ·)
  | _ => none
def blsD : List Dt → Option (List Bool)
  | [] => some []
  | .bl i :: l => (blsD l).map (i :: ·)
  | _ => none
theorem ints_eq : ∀ {l : List Dt} {ns : List Int}, intsD l = some ns → l = ns.map .int
  | [], _, e => by cases e; rfl
  | .int i :: l, ns, e => by
    unfold intsD at e
    cases e1 : intsD l with
    | none => rw [e1] at e; cases e
    | some m => rw [e1] at e; cases e; rw [ints_eq e1]; rfl
  | .non :: _, _, e => by cases e
  | .bl _ :: _, _, e => by cases e
  | .str _ :: _, _, e => by cases e
  | .lst _ :: _, _, e => by cases e
  | .tup _ :: _, _, e => by cases e
  | .obj _ _ _ :: _, _, e => by cases e
  | .dic _ _ :: _, _, e => by cases e
  | .val _ :: _, _, e => by cases e
theorem bls_eq : ∀ {l : List Dt} {ns : List Bool}, blsD l = some ns → l = ns.map .bl
  | [], _, e => by cases e; rfl
  | .bl i :: l, ns, e => by
    unfold blsD at e
    cases e1 : blsD l with
    | none => rw [e1] at e; cases e
    | some m => rw [e1] at e; cases e; rw [bls_eq e1]; rfl
  | .non :: _, _, e => by cases e
  | .int _ :: _, _, e => by cases e
  | .str _ :: _, _, e => by cases e
  | .lst _ :: _, _, e => by cases e
  | .tup _ :: _, _, e => by cases e
  | .obj _ _ _ :: _, _, e => by cases e
  | .dic _ _ :: _, _, e => by cases e
  | .val _ :: _, _, e => by cases e
theorem bls_map : ∀ ns : List Bool, blsD (ns.map .bl) = some ns
  | [] => rfl
  | n :: ns => by show (blsD (ns.map .bl)).map (n :: ·) = _; rw [bls_map ns]; rfl
def fInts (g : List Int → (Res → Prop) → Prop) : FL := fun ds R => match ds with
  | [.lst l] => match intsD l with
    | some ns => g ns R
    | none => False
  | _ => False
def fBls (g : List Bool → Bool) : FL := fun ds R => match ds with
  | [.lst l] => match blsD l with
    | some ns => R (.dat (.bl (g ns)))
    | none => False
  | _ => False
def fSum : FL := fInts fun ns R => R (.dat (.int ns.sum))
def fAll : FL := fBls fun bs => bs.all id
def fAny : FL := fBls fun bs => bs.any id
theorem cd_sum : ClD K (rSum K) fSum := fun S H xs ds Q R h hw q => by
  unfold fSum fInts at q
  split at q
  · obtain ⟨v, rfl, h1⟩ := h.one
    obtain ⟨a, vs, rfl, ha, hl⟩ := h1.lst
    split at q
    · rename_i ns e
      rw [ints_eq e] at hl
      rw [Reps.ints.mp hl] at ha
      exact ⟨a, ns, rfl, .of ha, hw.dat q rfl⟩
    · exact q.elim
  · exact q.elim
theorem cd_all : ClD K (rAll K) fAll := fun S H xs ds Q R h hw q => by
  unfold fAll fBls at q
  split at q
  · obtain ⟨v, rfl, h1⟩ := h.one
    obtain ⟨a, vs, rfl, ha, hl⟩ := h1.lst
    split at q
    · rename_i ns e
      rw [bls_eq e] at hl
      rw [Reps.bls.mp hl] at ha
      exact ⟨a, ns, rfl, .of ha, hw.dat q rfl⟩
    · exact q.elim
  · exact q.elim
theorem cd_any : ClD K (rAny K) fAny := fun S H xs ds Q R h hw q => by
  unfold fAny fBls at q
  split at q
  · obtain ⟨v, rfl, h1⟩ := h.one
    obtain ⟨a, vs, rfl, ha, hl⟩ := h1.lst
    split at q
    · rename_i ns e
      rw [bls_eq e] at hl
      rw [Reps.bls.mp hl] at ha
      exact ⟨a, ns, rfl, .of ha, hw.dat q rfl⟩
    · exact q.elim
  · exact q.elim
abbrev TOD := WDt → List En → (Option Int → List En → Prop) → Prop
structure POD (X : Cx) (c : Ct) (W : WX) (e : Option Expr) (t0 : TO) (t : TOD) : Prop where
  po : PO X e t0
  sn : ∀ WD ρ σ H S (Q : Option Int → Hp → Prop) (R : Option Int → List En → Prop), RelW X.K c W WD → Ok X.K c ρ σ H S → (∀ o ρ' H' S', R o ρ' → Step X.K c σ ρ H S ρ' H' S' → Q o H') → t WD ρ R → t0 σ H Q
def dNoPart : TOD := fun _ ρ R => R none ρ
def dPart (te : TED) : TOD := fun WD ρ R => te WD ρ (kP fun d ρ' => match d with
  | .int i => R (some i) ρ'
  | _ => False)
theorem od_none : POD X c W none tNoPart dNoPart := ⟨po_none, fun WD ρ σ H S Q R hW k hR q => hR _ _ _ _ q (.refl k)⟩
def cutD (xs : List Dt) (lo hi : Option Int) : List Dt := (xs.drop (HT.sIx xs.length 0 lo)).take (HT.sIx xs.length xs.length hi - HT.sIx xs.length 0 lo)
theorem Reps.cut {S : Addr → Prop} {H : Hp} {l : List Dt} {vs : List V} (h : Reps K S H l vs) (lo hi : Option Int) : Reps K S H (cutD l lo hi) (cutV vs lo hi) := by
  unfold cutD cutV
  rw [h.length]
  exact (h.drop _).take _
theorem od_some {e : Expr} {te0 : TE} {te : TED} (h : PED X c W e te0 te) : POD X c W (some e) (tPart te0) (dPart te) := ⟨po_some h.pe, fun WD ρ σ H S Q R hW k hR q => by
  refine h.sn.pk hW k (fun d ρ1 v1 H1 S1 q a rr => ?_) q
  cases d with
  | int i => exact ⟨i, rr.int, hR _ _ _ _ q a⟩
  | _ => exact q.elim⟩
def fSl (d : Dt) (lo hi : Option Int) (R : Res → Prop) : Prop := match d with
  | .lst l => R (.new (.lst (cutD l lo hi)))
  | .tup l => ¬ (HT.sIx l.length 0 lo = 0 ∧ HT.sIx l.length l.length hi = l.length) ∧ R (.dat (.tup (cutD l lo hi)))
  | .str z => z.length ≤ sizeLine ∧ R (.dat (.str (cutS z lo hi)))
  | .scr ns => R (.new (.lst (cutD (ns.map .int) lo hi)))
  | _ => False
def rSlU (K : PySem.W.Frag) : V → Option Int → Option Int → Hp → VK → Prop := fun x lo hi H Q => rSlL K x lo hi H Q ∨ rSlT K x lo hi H Q ∨ rSlS x lo hi H Q
def dSl (te : TED) (tl th : TOD) : TED := fun WD ρ R => te WD ρ fun r ρ1 => tl WD ρ1 fun lo ρ2 => th WD ρ2 fun hi ρ3 => match pk r ρ3 with
  | some d => fSl d lo hi fun r => R r ρ3
  | none => False
theorem sl_U : SlR X (rSlU X.K) := SlR.or sl_list (SlR.or sl_tup sl_str)
theorem RepP.scr {S : Addr → Prop} {H : Hp} {ns : List Int} {v : V} (h : RepP X.K S H (.scr ns) v) : ∃ a, v = .ref a ∧ SqL X.K H a (ns.map V.int) := by
  rcases h with ⟨a, e, q⟩ | ⟨p, w, _, e, _⟩
  · exact ⟨a, e, q.elim (fun z => z.2.2) (fun z => z _)⟩
  · cases w <;> cases e
theorem ed_slice {e : Expr} {lo hi : Option Expr} {p2 pos : Pos} {te0 : TE} {te : TED} {tl0 th0 : TO} {tl th : TOD} (he : PED X c W e te0 te) (hl : POD X c W lo tl0 tl) (hh : POD X c W hi th0 th) : PED X c W (.Subscript e (.Slice lo hi none p2) pos) (tSl (rSlU X.K) te0 tl0 th0) (dSl te tl th) := ⟨pe_slice sl_U he.pe hl.po hh.po, fun WD ρ σ H S Q R hW k hR q => by
  refine he.sn WD ρ σ H S _ _ hW k (fun r ρ1 v H1 S1 q a rr => ?_) q
  refine hl.sn WD ρ1 σ H1 S1 _ _ hW a.ok (fun o ρ2 H2 S2 q a2 => ?_) q
  refine hh.sn WD ρ2 σ H2 S2 _ _ hW a2.ok (fun o' ρ3 H3 S3 q a3 => ?_) q
  have a23 := a2.trans a3
  have rr3 := rr.held a23 a.ok (fun x hx q => k.nown0 hx (a.ow _ q))
  have b := a.trans a23
  cases e : pk r ρ3 with
  | none => rw [e] at q; exact q.elim
  | some d =>
    rw [e] at q
    have hd := pk_ok b.ok rr3 e
    have hw : Wsh X.K H3 S3 Q (fun r => R r ρ3) := ⟨b.ok.st, fun res v H' S' q l rp => by
      refine hR res ρ3 v H' S' q (b.trans (Step.ofLay b.ok l)) ?_
      cases res with
      | dat d => exact rp
      | ref i => exact rp.none0
      | new w => obtain ⟨p, e, h0, n, ro⟩ := rp; exact ⟨p, e, b.gone h0, n, ro⟩⟩
    cases d with
    | lst l =>
      obtain ⟨p, vs, rfl, hp, hl⟩ := hd.lst
      exact .inl ⟨p, vs, rfl, .of hp, fun z hz => hw.newL q (hl.cut o o') hz⟩
    | tup l =>
      obtain ⟨p, vs, rfl, hp, hl⟩ := hd.tup
      exact .inr (.inl ⟨p, vs, rfl, hp, by rw [hl.length]; exact q.1, fun z hz => hw.tupN q.2 (hl.cut o o') hz⟩)
    | str z =>
      rw [hd.str]
      exact .inr (.inr ⟨z, rfl, q.1, hw.dat q.2 rfl⟩)
    | scr ns =>
      obtain ⟨p, rfl, hp⟩ := hd.scr
      exact .inl ⟨p, _, rfl, hp, fun z hz => hw.newL q ((Reps.ints.mpr rfl).cut o o') hz⟩
    | _ => exact q.elim⟩
end
end D
set_option Elab.async false
set_option linter.all false
set_option maxRecDepth 100000
namespace D
open PySem PySem.Spec PyProof.Rows L2
abbrev MuD := List Dt → List Dt → (List Dt → Dt → Prop) → Prop
section
variable {K : PySem.W.Frag} {X : Cx} {c : Ct} {W : WX} {σ : L2.St} {ρ ρ1 ρ' : List En} {H H1 H' : Hp} {S S1 S' : Addr → Prop}
def MutD (K : PySem.W.Frag) (r : V → List V → Hp → VK → Prop) (m : MuD) : Prop := ∀ S H p us l ds args (Q : VK) (R : List Dt → Dt → Prop), H p = some (.lst us) → Reps K S H l us → Reps K S H ds args →
  (∀ l' d us' v, R l' d → Reps K S H l' us' → Rep K S H d v → Q v (upd H p (.lst us'))) → m l ds R → r (.ref p) args H Q
def kOwnL (ρ : List En) (i : Nat) (k : List Dt → Prop) : Prop := match ρ[i]? with
  | some (.own (.lst l)) => k l
  | _ => False
theorem kOwnL_elim {i : Nat} {k : List Dt → Prop} (h : kOwnL ρ i k) : ∃ l, ρ[i]? = some (.own (.lst l)) ∧ k l := by
  unfold kOwnL at h
  split at h
  · rename_i l e; exact ⟨l, e, h⟩
  · exact h.elim
def dMut (m : MuD) (to : TED) (ta : TAD) : TED := fun WD ρ R => to WD ρ fun r ρ1 => match r with
  | .ref i => kOwnL ρ1 i fun _ => ta WD ρ1 fun rs ρ2 => kDs rs ρ2 fun ds ρ3 => kOwnL ρ3 i fun l => m l ds fun l' d => R (.dat d) (ρ3.set i (.own (.lst l')))
  | _ => False
theorem mut_in {r : V → List V → Hp → VK → Prop} {m : MuD} {i : Nat} {v : V} {l : List Dt} {ds : List Dt} {args : List V} {Q : VK} {R : Res → List En → Prop} (ho : MutD K r m) (k : Ok K c ρ σ H S) (hv : σ[i]? = some (some v)) (hi : ρ[i]? = some (.own (.lst l))) (hd : Reps K S H ds args)
    (hR : ∀ d v H' ρ', R (.dat d) ρ' → Step K c σ ρ H S ρ' H' S → Rep K S H' d v → Q v H') (q : m l ds fun l' d => R (.dat d) (ρ.set i (.own (.lst l')))) : r v args H Q := by
  obtain ⟨p, e1, ⟨us, hp, hl⟩, ns, _⟩ := k.own i _ hi
  rw [hv] at e1; cases e1
  refine ho S H p us l ds args Q _ hp hl hd (fun l' d us' v q hl' hd' => ?_) q
  have mm : ∀ a x, S a → H a = some x → S a ∧ upd H p (.lst us') a = some x := fun a x s e => ⟨s, (upd_ne (fun z : a = p => ns (by rw [← z]; exact s))).trans e⟩
  exact hR d v _ _ q (k.warm (o := .lst us') hi hv ⟨us', upd_same, Reps.mono mm _ _ hl'⟩) (Rep.mono mm _ _ hd')
theorem snd_mut {r : V → List V → Hp → VK → Prop} {m : MuD} {to0 : TE} {to : TED} {ta0 : TA} {ta : TAD} (ho : MutD K r m) (h1 : SndE K c W to0 to) (h2 : SndA K c W ta0 ta) : SndE K c W (tBM K "list" r to0 ta0) (dMut m to ta) := by
  intro WD ρ σ H S Q R hW k hR q
  refine h1 WD ρ σ H S _ _ hW k (fun r1 ρ1 v H1 S1 q a rr => ?_) q
  cases r1 with
  | dat d => exact q.elim
  | new w => exact q.elim
  | ref i =>
    have rr : σ[i]? = some (some v) := rr
    obtain ⟨l, hi, q⟩ := kOwnL_elim q
    obtain ⟨p, e1, ⟨us, hp, hl⟩, _⟩ := a.ok.own i _ hi
    rw [rr] at e1; cases e1
    refine ⟨.inl ⟨rfl, us, .of hp⟩, ?_⟩
    refine h2 WD ρ1 σ H1 S1 _ _ hW a.ok (fun rs ρ2 vs H2 S2 q a2 rrs => ?_) q
    refine kDs_ok (Q := fun vs H2 => r (.ref p) vs H2 Q) a.ok a2 rrs (fun ds ρ3 vs S3 q a3 _ hds => ?_) q
    obtain ⟨l3, hi3, q⟩ := kOwnL_elim q
    exact mut_in (R := R) ho a3.ok rr hi3 hds (fun d v H' ρ' q s rd => hR _ _ _ _ _ q ((a.trans a3).trans s) rd) q
theorem snd_mut0 {r : V → List V → Hp → VK → Prop} {m : MuD} {to0 : TE} {to : TED} (ho : MutD K r m) (h1 : SndE K c W to0 to) : SndE K c W (tBM0 K "list" r to0) (dMut m to dNil) := by
  intro WD ρ σ H S Q R hW k hR q
  refine h1 WD ρ σ H S _ _ hW k (fun r1 ρ1 v H1 S1 q a rr => ?_) q
  cases r1 with
  | dat d => exact q.elim
  | new w => exact q.elim
  | ref i =>
    have rr : σ[i]? = some (some v) := rr
    obtain ⟨l, hi, q⟩ := kOwnL_elim q
    obtain ⟨p, e1, ⟨us, hp, hl⟩, _⟩ := a.ok.own i _ hi
    rw [rr] at e1; cases e1
    obtain ⟨l3, hi3, q⟩ := kOwnL_elim (show kOwnL ρ1 i fun l => m l [] fun l' d => R (.dat d) (ρ1.set i (.own (.lst l'))) from q)
    exact ⟨.inl ⟨rfl, us, .of hp⟩, mut_in (R := R) (ds := []) ho a.ok rr hi3 rfl (fun d v H' ρ' q s rd => hR _ _ _ _ _ q (a.trans s) rd) q⟩
variable {o e : Expr} {es : List Expr} {name : Str} {apos cpos : Pos} {id : String} {r : V → List V → Hp → VK → Prop} {m : MuD} {to0 : TE} {to : TED} {ta0 : TA} {ta : TAD}
theorem ed_mut (slot : Slot "list" name id) (hty : typeOf (.builtin id) = pure (.type "method_descriptor")) (hm : MtR X id r) (hd : MutD X.K r m) (ho : PED X c W o to0 to) (ha : PAD X c W (e :: es) ta0 ta)
    (hbase : attributeBase o name X.env (eval o X.env) = eval o X.env := by rfl)
    (hfew : ((backTo cpos (starEach (e :: es) X.env)).all (fun x => !x.1) && (backToKw cpos (keywordEach [] X.env)).all (fun x => x.1.isSome)
      && decide ((e :: es).length + ([] : List Keyword).length + (if ([] : List Keyword).isEmpty then 0 else 1) < 30)) = true := by rfl)
    (hline : (apos.endLine == cpos.line) = true := by rfl) (hs : starEach (e :: es) X.env = (false, eval e X.env) :: starEach es X.env := by rfl) (hplain : (backTo cpos (starEach es X.env)).any (·.1) = false := by rfl) :
    PED X c W (.Call (.Attribute o name apos) (e :: es) [] cpos) (tBM X.K "list" r to0 ta0) (dMut m to ta) := ⟨pe_bm PySem.F.plainAttrs_list slot hty hm ho.pe ha.pa hbase hfew hline hs hplain, snd_mut hd ho.sn ha.sn⟩
theorem ed_mut0 (slot : Slot "list" name id) (hty : typeOf (.builtin id) = pure (.type "method_descriptor")) (hm : MtR X id r) (hd : MutD X.K r m) (ho : PED X c W o to0 to)
    (hbase : attributeBase o name X.env (eval o X.env) = eval o X.env := by rfl) (hline : (apos.endLine == cpos.line) = true := by rfl) : PED X c W (.Call (.Attribute o name apos) [] [] cpos) (tBM0 X.K "list" r to0) (dMut m to dNil) := ⟨pe_bm0 PySem.F.plainAttrs_list slot hty hm ho.pe hbase hline, snd_mut0 hd ho.sn⟩
def mAppend : MuD := fun l ds R => match ds with
  | [d] => l.length < sizeLine ∧ R (l ++ [d]) .non
  | _ => False
theorem md_append : MutD K rAppend mAppend := fun S H p us l ds args Q R hp hl hd hQ q => by
  unfold mAppend at q
  split at q
  · obtain ⟨v, r, e, h1, h2⟩ := hd
    rw [show r = [] from h2] at e
    subst e
    exact ⟨p, us, v, rfl, rfl, hp, by rw [hl.length]; exact q.1, hQ _ _ _ _ q.2 (hl.append ⟨v, [], rfl, h1, rfl⟩) rfl⟩
  · exact q.elim
def mExtend : MuD := fun l ds R => match ds with
  | [.lst m] => l.length + m.length ≤ sizeLine ∧ R (l ++ m) .non
  | _ => False
theorem md_extend : MutD K rExtend mExtend := fun S H p us l ds args Q R hp hl hd hQ q => by
  unfold mExtend at q
  split at q
  · obtain ⟨v, r, e, ⟨b, zs, rfl, hb, _, hz⟩, h2⟩ := hd
    rw [show r = [] from h2] at e
    subst e
    exact ⟨p, b, us, zs, rfl, rfl, hp, hb, by rw [hl.length, hz.length]; exact q.1, hQ _ _ _ _ q.2 (hl.append hz) rfl⟩
  · exact q.elim
theorem Reps.dropLast {S : Addr → Prop} {H : Hp} {l : List Dt} {vs : List V} (h : Reps K S H l vs) : Reps K S H l.dropLast vs.dropLast := by
  rw [List.dropLast_eq_take, List.dropLast_eq_take, h.length]; exact h.take _
def mPop : MuD := fun l ds R => match ds with
  | [] => match l[l.length - 1]? with
    | some d => R l.dropLast d
    | none => False
  | _ => False
theorem md_pop : MutD K rPop mPop := fun S H p us l ds args Q R hp hl hd hQ q => by
  unfold mPop at q
  split at q
  · split at q
    · rename_i d e
      obtain ⟨v, e1, e2⟩ := hl.get e
      refine ⟨p, us, v, rfl, hd, hp, by rw [hl.length]; exact e1, hQ _ _ _ _ q hl.dropLast e2⟩
    · exact q.elim
  · exact q.elim
def mClear : MuD := fun _ ds R => match ds with
  | [] => R [] .non
  | _ => False
theorem RepG.held {r : Res} {v : V} (a : Step K c σ ρ H S ρ' H' S') (k : Ok K c ρ σ H S) (h : RepG K c ρ σ H S r v) : RepG K c ρ' σ H' S' r v := by
  cases r with
  | dat d => exact a.rep k h
  | ref i => exact h
  | new w =>
    obtain ⟨p, e, h0, n, r, no⟩ := h
    obtain ⟨x, q⟩ := r.trk
    have q' := a.fr p x q no
    refine ⟨p, e, h0, fun s => ?_, r.mono (a.car k) (q'.trans q.symm), fun z => no (a.ow _ z)⟩
    rcases a.s1 p s with s | s | s
    · exact n s
    · rw [q] at s; cases s
    · exact no s
def gSubD (to ti : TED) : TGD := fun WD r ρ R => to WD ρ fun ro ρ1 => match ro with
  | .ref j => ti WD ρ1 fun ri ρ2 => match pk ri ρ2 with
    | some (.int k) => kD (fun d ρ3 => kOwnL ρ3 j fun l => match ixN l.length k with
      | some m => R (ρ3.set j (.own (.lst (l.set m d))))
      | none => False) r ρ2
    | _ => False
  | _ => False
theorem gd_sub {i : Expr} {ti0 : TE} {ti : TED} {pos : Pos} (ho : PED X c W o to0 to) (hi : PED X c W i ti0 ti)
    (ha : ∀ v, assign (.Subscript o i pos) X.env v = (do
      let ov ← holding [v] (eval o X.env)
      let iv ← holding [v, ov] (eval i X.env)
      standAt pos
      holding [v, ov, iv] (setItem ov iv v)
      release [v, ov, iv] []) := by intro _; rfl) : PGD X c W (.Subscript o i pos) (gSub to0 ti0 rSetL) (gSubD to ti) := ⟨pg_sub ho.pe hi.pe set_list ha, fun WD r ρ σ H S v Q R hW k hr hR q => by
  refine ho.sn WD ρ σ H S _ _ hW k (fun r1 ρ1 v1 H1 S1 q a rr => ?_) q
  cases r1 with
  | dat d => exact q.elim
  | new w => exact q.elim
  | ref j =>
    have rr : σ[j]? = some (some v1) := rr
    refine hi.sn WD ρ1 σ H1 S1 _ _ hW a.ok (fun r2 ρ2 v2 H2 S2 q a2 rr2 => ?_) q
    have q : (match pk r2 ρ2 with | some (.int k) => kD (fun d ρ3 => kOwnL ρ3 j fun l => match ixN l.length k with | some m => R (ρ3.set j (.own (.lst (l.set m d)))) | none => False) r ρ2 | _ => False) := q
    split at q
    · rename_i n e
      have hn := (pk_ok a2.ok rr2 e).int
      subst hn
      have b := a.trans a2
      refine kDg_ok b.ok (hr.held b k) (fun d ρ3 S3 q k3 s3 hd => ?_) q
      obtain ⟨l, hj, q⟩ := kOwnL_elim q
      obtain ⟨p, e1, ⟨us, hp, hl⟩, ns, _⟩ := k3.own j _ hj
      rw [rr] at e1; cases e1
      split at q
      · rename_i m em
        have mm : ∀ a x, S3 a → H2 a = some x → S3 a ∧ upd H2 p (.lst (us.set m v)) a = some x := fun a x s e => ⟨s, (upd_ne (fun z : a = p => ns (by rw [← z]; exact s))).trans e⟩
        refine ⟨p, us, n, m, rfl, rfl, hp, by rw [hl.length]; exact em, hR _ _ _ S3 q (k3.warm (w' := .lst (l.set m d)) (o := .lst (us.set m v)) hj rr ⟨us.set m v, upd_same, Reps.mono mm _ _ (hl.set hd m)⟩).ok fun x o s e => ?_⟩
        obtain ⟨s2, e2⟩ := (b.keep k) x o s e
        exact mm x o (s3 x s2) e2
      · exact q.elim
    · exact q.elim⟩
end
end D
set_option Elab.async false
set_option linter.all false
set_option maxRecDepth 100000
namespace D
open PySem PySem.Spec PyProof.Rows L2 StX
def toSpA (K : PySem.W.Frag) (sp : SpD) : Sp := fun vs H Q E => ∃ n, toSp K n sp vs H Q E
def FnD (P : Program) (w : World) (K : PySem.W.Frag) (mg : Str → Option Value) (base : Heap) (k : Nat) (f : Addr) (sp : SpD) : Prop := FnR P w K mg base (L2.CX P w) k f (toSpA K sp)
section
variable {P : Program} {w : World} {K : PySem.W.Frag} {mg : Str → Option Value} {base : Heap} {k : Nat} {f : Addr} {sp : SpD}
theorem FnD.of {fd : FuncData} {ps : List Str} (F : FnOk P w K mg base (L2.CX P w) k f fd ps (toSp K ps.length sp)) (hb : Binds K fd ps []) (hl : ∀ ins R EX, sp ins R EX → ins.length = ps.length) : FnD P w K mg base k f sp := by
  refine (F.raw hb .nil).imp fun vs H Q E h => ?_
  obtain ⟨n, ins, S, R, EX, e, k0, q, r⟩ := h
  have : ins.length = vs.length := by have := k0.len; rwa [List.length_map] at this
  rw [List.append_nil]
  exact ⟨ins, S, R, EX, by rw [← this]; exact hl _ _ _ q, k0, q, r⟩
theorem FnD.mono {j : Nat} (F : FnD P w K mg base j f sp) (h : j ≤ k) : FnD P w K mg base k f sp := FnR.mono F h
theorem FnD.imp {sp' : SpD} (F : FnD P w K mg base k f sp) (h : ∀ ins R EX, sp' ins R EX → sp ins R EX) : FnD P w K mg base k f sp' := FnR.imp F fun vs H Q E ⟨n, ins, S, R, EX, e, k0, q, r⟩ => ⟨n, ins, S, R, EX, e, k0, h _ _ _ q, r⟩
end
section
variable {K : PySem.W.Frag} {c : Ct} {W : WX} {X : Cx} {σ : L2.St} {ρ ρ1 ρ' : List En} {H H1 H2 H' : Hp} {S S1 S2 S' : Addr → Prop}
theorem dat_get {ds : List Dt} {i : Nat} {x : En} (h : (ds.map En.dat)[i]? = some x) : ∃ d, x = .dat d ∧ ds[i]? = some d := by
  rw [List.getElem?_map] at h
  cases e : ds[i]? with
  | none => rw [e] at h; cases h
  | some d => rw [e] at h; cases h; exact ⟨d, rfl, rfl⟩
theorem datP {ds : List Dt} {vs : List V} {i : Nat} : (ctOf (ds.map En.dat) vs H S).P i = none := by
  cases e : (ctOf (ds.map En.dat) vs H S).P i with
  | none => rfl
  | some q =>
    obtain ⟨⟨w, h⟩, _⟩ := ctP e
    obtain ⟨d, h, _⟩ := dat_get h
    cases h
theorem map_getO {vs : List V} {i : Nat} {v : V} (h : vs[i]? = some v) : (vs.map some)[i]? = some (some v) := by rw [List.getElem?_map, h]; rfl
theorem entryF {ds : List Dt} {vs : List V} (st : ∀ a, S a → ∃ o, H a = some o) (h : Reps K S H ds vs) : Ok K (ctOf (ds.map En.dat) vs H S) (ds.map En.dat) (vs.map some) H S where
  len := by rw [List.length_map, List.length_map, h.length]
  dat i d e := by
    obtain ⟨d', e1, e2⟩ := dat_get e
    cases e1
    obtain ⟨v, e3, r⟩ := h.get e2
    exact ⟨v, map_getO e3, r⟩
  own i w e := by obtain ⟨d, e1, _⟩ := dat_get e; cases e1
  exc i a d x e := by obtain ⟨d, e1, _⟩ := dat_get e; cases e1
  inj i j w w' p e := by obtain ⟨d, e1, _⟩ := dat_get e; cases e1
  trk i q e := by rw [datP] at e; cases e
  fr a o e _ := e
  st := st
  s0 a s := s
  s1 a s := .inl s
theorem Aft.lay {ds : List Dt} {vs : List V} {outs : List En} (f : Aft K (ctOf (ds.map En.dat) vs H S) outs H' S') : Lay H S H' S' := by
  refine ⟨fun a o e => f.fr a o e (fun i z => nomatch (datP.symm.trans z : none = some a)), f.s0, fun a s => ?_⟩
  rcases f.s1 a s with s1 | s1 | ⟨i, s1⟩
  · exact .inl s1
  · exact .inr ⟨s1, f.st a s⟩
  · rw [datP] at s1; cases s1
theorem RepC.r {r : Res} {v : V} (h : RepC K H H' S' r v) : RepR K σ H H' S' r v := by
  cases r with
  | dat d => exact h
  | new w => exact h
  | ref i => exact h.elim
theorem run_callF {sp : SpD} {R : Res → Prop} {EX : Xc → Prop} {Q : VK} {E : XK} {ds : List Dt} {vs : List V} (st : ∀ a, S a → ∃ o, H a = some o) (hd : Reps K S H ds vs) (hR : ∀ r v H' S', R r → Lay H S H' S' → RepC K H H' S' r v → Q v H')
    (hE : ∀ x d H' S', EX x → Lay H S H' S' → RepX K S' H' x d → E (.ref x.C) (some d) H') (q : sp (ds.map .dat) (fun r _ => R r) (fun x _ => EX x)) : toSpA K sp vs H Q E :=
  ⟨vs.length, ds.map .dat, S, _, _, rfl, entryF st hd, q, fun r outs v H' S' q f rc => hR r v H' S' q f.lay rc, fun x outs d H' S' q f rx => hE x d H' S' q f.lay rx⟩
end
section
variable {X : Cx} {CX : CXT} {k : Nat} {f C : Addr} {sp : Sp} {E : L2.St → XK} {pins : List (Addr × Obj)} {σ : L2.St} {H : Hp} {s : Shared} {Q : VK} {us : List Value} {vs : List V}
theorem run_RS (F : FnR X.prog X.w X.K X.mg X.base CX k f sp) (hr : Room k X.A) (hx : PassesAt CX X σ (E σ)) (I : Inv X pins σ H s) (r : Vals vs us) (h : sp vs H Q (E σ)) : wpAny (model X.prog X.w) X.A (call (.ref f) us) (EP X pins σ Q) X.xe s := by
  refine wpAny_call (codeAny_mono (F X.A X.stack s H us vs Q (E σ) hr I.env0 r h) fun r s' hq => ?_)
  cases r with
  | error e => exact hx pins H s e s' I hq
  | ok fl =>
    cases fl with
    | ret u => exact I.after hq
    | next => exact False.elim hq
    | brk => exact False.elim hq
    | cont => exact False.elim hq
theorem run_makeS (M : Mk X.K C f) (F : FnR X.prog X.w X.K X.mg X.base CX k f sp) (hr : Room (k + 1) X.A) (hx : PassesAt CX X σ (E σ)) (I : Inv X pins σ H s) (r : Vals vs us)
    (h : ∀ x dx, H x = Option.none → H dx = Option.none → dx ≠ x → sp (V.ref x :: vs) (upd (upd H dx (.own x)) x (.ins C dx [])) (fun v H2 => v = .non ∧ Q (.ref x) H2) (E σ)) :
    wpAny (model X.prog X.w) X.A (call (.ref C) us) (EP X pins σ Q) X.xe s := by
  have hq := h (s.heap.objs.size + 1) s.heap.objs.size (I.hok.fresh (Nat.le_succ _)) (I.hok.fresh (Nat.le_refl _)) (Nat.ne_of_lt (Nat.lt_succ_self _))
  have I2 := Inv.made (C := C) I
  refine wpAny_call (make_map (f := f) I.kIn M.makes M.init (beq_iff_eq.mp M.fn) (codeAny_mono (F _ X.stack _ _ (Value.ref (s.heap.objs.size + 1) :: us) _ _ (E σ) (hr.make C us []) (I2.env0.make C us []) (show Vals (V.ref (s.heap.objs.size + 1) :: vs) _ from .cons rfl r) hq) fun r s' hq' => ?_))
  cases r with
  | error e => exact hx pins _ _ e s' I2 hq'
  | ok fl =>
    cases fl with
    | ret u =>
      obtain ⟨v, H', I3, rv, ev, q3⟩ := I2.after hq'
      subst ev
      exact ⟨rv, ⟨V.ref (s.heap.objs.size + 1), H', I3, rfl, q3⟩⟩
    | next => exact False.elim hq'
    | brk => exact False.elim hq'
    | cont => exact False.elim hq'
end
structure DefA (P : Program) (w : World) (K : PySem.W.Frag) (mg : Str → Option Value) (base : Heap) (x : Str) (k : Nat) (sp : SpD) : Prop where
  ex : ∃ f, FnD P w K mg base k f sp ∧ mg x = some (.ref f) ∧ PySem.W.keepIn K (.ref f) = true
structure MethA (P : Program) (w : World) (K : PySem.W.Frag) (mg : Str → Option Value) (base : Heap) (C : Addr) (m : Str) (k : Nat) (sp : SpD) : Prop where
  ex : ∃ f, FnD P w K mg base k f sp ∧ Meth K C m f
structure PropA (P : Program) (w : World) (K : PySem.W.Frag) (mg : Str → Option Value) (base : Heap) (C : Addr) (m : Str) (k : Nat) (sp : SpD) : Prop where
  ex : ∃ (p g : Addr) (fd : FuncData), FnOk P w K mg base (L2.CX P w) k g fd ["self"] (toSp K 1 sp) ∧ PropOf K C m p g ∧ Binds K fd ["self"] []
structure StatA (P : Program) (w : World) (K : PySem.W.Frag) (mg : Str → Option Value) (base : Heap) (C : Addr) (m : Str) (k : Nat) (sp : SpD) : Prop where
  ex : ∃ (mc : Value) (p g : Addr), FnD P w K mg base k g sp ∧ G.SMet K C mc m p g
structure InitA (P : Program) (w : World) (K : PySem.W.Frag) (mg : Str → Option Value) (base : Heap) (C : Addr) (k : Nat) (sp : SpD) : Prop where
  ex : ∃ f, FnD P w K mg base k f sp ∧ Mk K C f
def dCallF (sp : SpD) (ta : TAD) : TED := fun WD ρ R => ta WD ρ fun rs ρ1 => kDs rs ρ1 fun ds ρ2 => sp (ds.map .dat) (fun r _ => R r ρ2) (fun x _ => WD x ρ2)
section
variable {K : PySem.W.Frag} {c : Ct} {W : WX} {X : Cx} {σ : L2.St} {ρ ρ1 ρ' : List En} {H H1 H2 H' : Hp} {S S1 S2 S' : Addr → Prop}
theorem call_in {sp : SpD} {WD : WDt} {R : Res → List En → Prop} {Q : VK} {ds : List Dt} {vs : List V} (hW : RelW K c W WD) (k : Ok K c ρ σ H S) (a : Step K c σ ρ H S ρ1 H1 S1) (hd : Reps K S1 H1 ds vs)
    (hR : ∀ r ρ' v H' S', R r ρ' → Step K c σ ρ H S ρ' H' S' → RepR K σ H H' S' r v → Q v H') (q : sp (ds.map .dat) (fun r _ => R r ρ1) (fun x _ => WD x ρ1)) : toSpA K sp vs H1 Q (WE W σ) :=
  run_callF a.ok.st hd (fun r v H' S' q l rc => hR r ρ1 v H' S' q (a.trans (.ofLay a.ok l)) (rc.r.later a)) (fun x d H' S' q l rx => hW ρ1 σ H' S' x d (Step.ofLay a.ok l).ok rx q) q
theorem snd_callF {sp : SpD} {t0 : TA} {t : TAD} (h : SndA K c W t0 t) : SndE K c W (tCallQ (toSpA K sp) W t0) (dCallF sp t) := by
  intro WD ρ σ H S Q R hW k hR q
  refine h WD ρ σ H S _ _ hW k (fun rs ρ1 vs H1 S1 q a rr => ?_) q
  exact kDs_ok (Q := fun vs H1 => toSpA K sp vs H1 Q (WE W σ)) k a rr (fun ds ρ2 vs S2 q a2 _ hd => call_in hW k a2 hd hR q) q
theorem ed_callF {k : Nat} {sp : SpD} {x : Str} {p pos : Pos} {e : Expr} {es : List Expr} {t0 : TA} {t : TAD} (De : DefA X.prog X.w X.K X.mg X.base x k sp) (hr : Room k X.A) (tk : Takes X W) (ha : PAD X c W (e :: es) t0 t) (hg : Gl X x := by rfl)
    (hdb : (x == ("__debug__" : Str)) = false := by decide) (he : starEach (e :: es) X.env = (false, eval e X.env) :: starEach es X.env := by rfl) (hpl : (backTo pos (starEach es X.env)).any (·.1) = false := by rfl) :
    PED X c W (.Call (.Name x p) (e :: es) [] pos) (tCallQ (toSpA X.K sp) W t0) (dCallF sp t) := ⟨by
  obtain ⟨f, F, m, kp⟩ := De.ex
  refine ⟨fun pins s σ H Q I h => ?_⟩
  refine wpAny_Call_Name_kw (ld_glob I hg m ?_ hdb)
  refine PySem.W.callWith_K (h₀ := X.base) I.ok.mod.kin kp (thn (ha.pa.run pos pins s σ H _ I h) fun us s1 ⟨vs, H1, I1, r, q⟩ => ⟨I1.kIn, ?_⟩) he hpl
  exact run_RS (E := WE W) F hr (passAt tk σ) I1 r q, snd_callF ha.sn⟩
theorem snd_callA {mask : List Bool} {sp : SpD} {t0 : TA} {t : TAD} (h : SndA K c W t0 t) : SndE K c W (tCallQ (toSpA K sp) W t0) (dCall mask sp t) := by
  intro WD ρ σ H S Q R hW k hR q
  exact h WD ρ σ H S _ _ hW k (fun rs ρ1 vs H1 S1 q a rr => ⟨_, run_call hW k a rr rfl hR q⟩) q
theorem ed_callA {k : Nat} {sp : SpD} {x : Str} {p pos : Pos} {e : Expr} {es : List Expr} {t0 : TA} {t : TAD} (mask : List Bool) (De : DefA X.prog X.w X.K X.mg X.base x k sp) (hr : Room k X.A) (tk : Takes X W) (ha : PAD X c W (e :: es) t0 t) (hg : Gl X x := by rfl)
    (hdb : (x == ("__debug__" : Str)) = false := by decide) (he : starEach (e :: es) X.env = (false, eval e X.env) :: starEach es X.env := by rfl) (hpl : (backTo pos (starEach es X.env)).any (·.1) = false := by rfl) :
    PED X c W (.Call (.Name x p) (e :: es) [] pos) (tCallQ (toSpA X.K sp) W t0) (dCall mask sp t) := ⟨(ed_callF De hr tk ha hg hdb he hpl).pe, snd_callA ha.sn⟩
def look (f : Str) : List Str → List Dt → Option Dt
  | n :: ns, d :: l => if f = n then some d else look f ns l
  | _, _ => none
theorem look_ok {f : Str} {d : Dt} : ∀ {ns : List Str} {l : List Dt} {vs : List V}, Reps K S H l vs → look f ns l = some d → ∃ v, (ns.zip vs).lookup f = some v ∧ Rep K S H d v
  | [], l, vs, _, e => by cases l <;> cases e
  | n :: ns, [], vs, _, e => by cases e
  | n :: ns, d' :: l, vs, h, e => by
    obtain ⟨v, r, rfl, h1, h2⟩ := h
    unfold look at e
    split at e
    · rename_i q; cases e; subst q
      exact ⟨v, by simp [List.lookup], h1⟩
    · rename_i q
      obtain ⟨v', e1, e2⟩ := look_ok h2 e
      exact ⟨v', by simp only [List.zip_cons_cons, List.lookup]; rw [show (f == n) = false by simpa using q]; exact e1, e2⟩
def isObj (C : Addr) (k : List Str → List Dt → Prop) : Option Dt → Prop
  | some (.obj C' ns l) => C' = C ∧ k ns l
  | _ => False
theorem isObj_elim {C : Addr} {k : List Str → List Dt → Prop} {d : Option Dt} (h : isObj C k d) : ∃ ns l, d = some (.obj C ns l) ∧ k ns l := by
  unfold isObj at h
  split at h
  · obtain ⟨rfl, h⟩ := h; exact ⟨_, _, rfl, h⟩
  · exact h.elim
def isSome' (k : Dt → Prop) : Option Dt → Prop
  | some d => k d
  | none => False
theorem isSome'_elim {k : Dt → Prop} {d : Option Dt} (h : isSome' k d) : ∃ x, d = some x ∧ k x := by
  cases d with
  | none => exact h.elim
  | some x => exact ⟨x, rfl, h⟩
def dFld (C : Addr) (f : Str) (to : TED) : TED := fun WD ρ R => to WD ρ fun r ρ1 => isObj C (fun ns l => isSome' (fun d => R (.dat d) ρ1) (look f ns l)) (pk r ρ1)
theorem ed_fld {o : Expr} {f : Str} {C : Addr} {pos : Pos} {to0 : TE} {to : TED} (cl : Cls X.K C) (n : NoAttr X.K C f) (ho : PED X c W o to0 to) (hb : attributeBase o f X.env (eval o X.env) = eval o X.env := by rfl) : PED X c W (.Attribute o f pos) (tFld X.K to0 f) (dFld C f to) := ⟨pe_fld ho.pe hb, by
  intro WD ρ σ H S Q R hW k hR q
  refine ho.sn WD ρ σ H S _ _ hW k (fun r ρ1 v H1 S1 q a rr => ?_) q
  obtain ⟨ns, l, e, q⟩ := isObj_elim q
  obtain ⟨d, ed, q⟩ := isSome'_elim q
  obtain ⟨p, dx, vs, rfl, hp, hl, _⟩ := (pk_ok a.ok rr e).obj
  obtain ⟨v, e1, e2⟩ := look_ok hl ed
  exact ⟨p, _, dx, _, v, rfl, hp, cl, n, e1, hR _ _ _ _ _ q a e2⟩⟩
end
end D
set_option Elab.async false
set_option linter.all false
set_option maxRecDepth 100000
namespace G
open PySem PySem.Spec PyProof.Rows L2
end G
set_option Elab.async false
set_option linter.all false
set_option maxRecDepth 100000
namespace D
open PySem PySem.Spec PyProof.Rows L2 StX
abbrev OTab := List (Str × Addr × SpD)
def ownG (k : SpD → Prop) (n : Str) (C : Addr) : OTab → Prop
  | [] => False
  | e :: t => if e.1 = n then C = e.2.1 ∧ k e.2.2 else ownG k n C t
def own (tbl : OTab) (m : Str) (k : SpD → Prop) : Dt → Prop
  | .obj C (n :: ns) l => (n :: ns).contains m = false ∧ ownG k n C tbl
  | _ => False
theorem ownG_elim {k : SpD → Prop} {n : Str} {C : Addr} : ∀ {tbl : OTab}, ownG k n C tbl → ∃ sp, (n, C, sp) ∈ tbl ∧ k sp
  | [], h => h.elim
  | e :: t, h => by
    unfold ownG at h
    split at h
    · rename_i q; obtain ⟨rfl, h⟩ := h; subst q; exact ⟨_, List.mem_cons_self, h⟩
    · obtain ⟨sp, h1, h2⟩ := ownG_elim h; exact ⟨sp, List.mem_cons_of_mem _ h1, h2⟩
theorem own_elim {tbl : OTab} {m : Str} {k : SpD → Prop} {d : Dt} (h : own tbl m k d) : ∃ n C ns l sp, d = .obj C (n :: ns) l ∧ (n :: ns).contains m = false ∧ (n, C, sp) ∈ tbl ∧ k sp := by
  unfold own at h
  split at h
  · obtain ⟨h1, h⟩ := h
    obtain ⟨sp, h2, h3⟩ := ownG_elim h
    exact ⟨_, _, _, _, sp, rfl, h1, h2, h3⟩
  · exact h.elim
theorem zip_none {m : Str} : ∀ {ns : List Str} {vs : List V}, ns.contains m = false → (ns.zip vs).lookup m = none
  | [], _, _ => rfl
  | n :: ns, [], _ => rfl
  | n :: ns, v :: vs, h => by
    simp only [List.contains_cons, Bool.or_eq_false_iff] at h
    simp only [List.zip_cons_cons, List.lookup, h.1]
    exact zip_none h.2
inductive TabM (P : Program) (w : World) (K : PySem.W.Frag) (mg : Str → Option Value) (base : Heap) (m : Str) (k : Nat) : OTab → Prop
  | nil : TabM P w K mg base m k []
  | cons {n : Str} {C : Addr} {sp : SpD} {t : OTab} (x : Str) : G.ClsFacts K mg x C → MethA P w K mg base C m k sp → TabM P w K mg base m k t → TabM P w K mg base m k ((n, C, sp) :: t)
inductive TabP (P : Program) (w : World) (K : PySem.W.Frag) (mg : Str → Option Value) (base : Heap) (m : Str) (k : Nat) : OTab → Prop
  | nil : TabP P w K mg base m k []
  | cons {n : Str} {C : Addr} {sp : SpD} {t : OTab} : Cls K C → PropA P w K mg base C m k sp → TabP P w K mg base m k t → TabP P w K mg base m k ((n, C, sp) :: t)
section
variable {P : Program} {w : World} {K : PySem.W.Frag} {mg : Str → Option Value} {base : Heap} {m : Str} {k : Nat} {tbl : OTab} {n : Str} {C : Addr} {sp : SpD}
theorem TabM.get (h : TabM P w K mg base m k tbl) (e : (n, C, sp) ∈ tbl) : ∃ x, G.ClsFacts K mg x C ∧ MethA P w K mg base C m k sp := by
  induction h with
  | nil => cases e
  | cons x h1 h2 h3 ih =>
    rcases List.mem_cons.mp e with e | e
    · cases e; exact ⟨x, h1, h2⟩
    · exact ih e
theorem TabP.get (h : TabP P w K mg base m k tbl) (e : (n, C, sp) ∈ tbl) : Cls K C ∧ PropA P w K mg base C m k sp := by
  induction h with
  | nil => cases e
  | cons h1 h2 h3 ih =>
    rcases List.mem_cons.mp e with e | e
    · cases e; exact ⟨h1, h2⟩
    · exact ih e
theorem MethA.mono {j : Nat} (h : MethA P w K mg base C m j sp) (l : j ≤ k) : MethA P w K mg base C m k sp := ⟨h.ex.imp fun _ q => ⟨q.1.mono l, q.2⟩⟩
theorem DefA.mono {j : Nat} {x : Str} (h : DefA P w K mg base x j sp) (l : j ≤ k) : DefA P w K mg base x k sp := ⟨h.ex.imp fun _ q => ⟨q.1.mono l, q.2⟩⟩
end
theorem passE0 {X : Cx} {P : Program} {w : World} : Passes (L2.CX P w) X E0 := fun pins σ H s e s' I c => by
  obtain ⟨_, _, _, _, _, _, _, _, _, _, _, _, z⟩ := c
  exact False.elim z
section
variable {K : PySem.W.Frag} {c : Ct} {W : WX} {X : Cx} {σ : L2.St} {ρ ρ1 ρ' : List En} {H H1 H2 H' : Hp} {S S1 S2 S' : Addr → Prop}
def tMethT (K : PySem.W.Frag) (tbl : OTab) (m : Str) (W : WX) (ta : TE) (t : TA) : TE := fun σ H Q => ta σ H fun x H1 => ∃ n C sp a dx fs, (n, C, sp) ∈ tbl ∧ x = .ref a ∧ H1 a = some (.ins C dx fs) ∧ fs.lookup m = none ∧ t σ H1 fun vs H2 => toSpA K sp (x :: vs) H2 Q (WE W σ)
def dMeth (tbl : OTab) (m : Str) (to : TED) (ta : TAD) : TED := fun WD ρ R => to WD ρ (kD fun d ρ1 => own tbl m (fun sp => ta WD ρ1 fun rs ρ2 => kDs rs ρ2 fun ds ρ3 => sp ((d :: ds).map .dat) (fun r _ => R r ρ3) (fun x _ => WD x ρ3)) d)
theorem snd_meth {tbl : OTab} {m : Str} {to0 : TE} {to : TED} {ta0 : TA} {ta : TAD} (ho : SndE K c W to0 to) (ha : SndA K c W ta0 ta) : SndE K c W (tMethT K tbl m W to0 ta0) (dMeth tbl m to ta) := by
  intro WD ρ σ H S Q R hW k hR q
  refine ho.dat hW k (fun d ρ1 v H1 S1 q a rd => ?_) q
  obtain ⟨n, C, ns, l, sp, rfl, hm, ht, q⟩ := own_elim q
  have rd' := rd
  obtain ⟨p, dx, vs, rfl, hp, sp', hl, _⟩ := rd
  refine ⟨n, C, sp, p, dx, _, ht, rfl, hp, zip_none hm, ?_⟩
  refine ha WD ρ1 σ H1 S1 _ _ hW a.ok (fun rs ρ2 us H2 S2 q a2 rr => ?_) q
  refine kDs_ok (Q := fun us H2 => toSpA K sp (.ref p :: us) H2 Q (WE W σ)) a.ok a2 rr (fun ds ρ3 us S3 q a3 _ hd => ?_) q
  exact call_in (ds := _ :: ds) hW k (a.trans a3) ⟨_, _, rfl, a3.rep a.ok rd', hd⟩ hR q
theorem ed_meth {k : Nat} {tbl : OTab} {m : Str} {o e : Expr} {es : List Expr} {to0 : TE} {to : TED} {ta0 : TA} {ta : TAD} {apos pos : Pos} {pl : Sem Bool} (T : TabM X.prog X.w X.K X.mg X.base m k tbl) (hr : Room k X.A) (tk : Takes X W) (ho : PED X c W o to0 to) (ha : PAD X c W (e :: es) ta0 ta)
    (hst : starEach (e :: es) X.env = (false, eval e X.env) :: starEach es X.env := by rfl) (hpl : (backTo pos (starEach es X.env)).any (·.1) = false := by rfl)
    (ht : eval (.Call (.Attribute o m apos) (e :: es) [] pos) X.env = (do
      let ov ← eval o X.env
      standAt apos.atName
      let (f, first) ← holding [ov] (getMethod ov m pl)
      callWith pos f first (backTo pos (starEach (e :: es) X.env)) (backToKw pos (keywordEach [] X.env))) := by rfl) :
    PED X c W (.Call (.Attribute o m apos) (e :: es) [] pos) (tMethT X.K tbl m W to0 ta0) (dMeth tbl m to ta) := ⟨⟨fun pins s σ H Q I h => by
  refine PySem.W.methodCall_KW (pl := pl) (thn (ho.pe.run pins s σ H _ I h) fun u s1 ⟨x, H1, I1, rx, n, C, sp, a, dx, fs, hin, ex, ea, l, q⟩ => ?_) ht
  subst ex
  obtain rfl : u = Value.ref a := rx
  obtain ⟨_, cf, M⟩ := T.get hin
  obtain ⟨f, F, hm⟩ := M.ex
  refine getmeth_ok I1 ea cf.cl hm l ?_
  refine PySem.W.callWith_K (first := [.ref a]) (h₀ := X.base) I.ok.mod.kin hm.kp (thn (ha.pa.run pos pins s1 σ H1 _ I1 q) fun us s2 ⟨vs, H2, I2, r, q2⟩ => ⟨I2.kIn, ?_⟩) hst hpl
  exact run_RS (E := WE W) (us := .ref a :: us) (vs := .ref a :: vs) F hr (passAt tk σ) I2 (.cons rfl r) q2⟩, snd_meth ho.sn ha.sn⟩
theorem ed_meth0 {k : Nat} {tbl : OTab} {m : Str} {o : Expr} {to0 : TE} {to : TED} {apos pos : Pos} {pl : Sem Bool} (T : TabM X.prog X.w X.K X.mg X.base m k tbl) (hr : Room k X.A) (tk : Takes X W) (ho : PED X c W o to0 to)
    (ht : eval (.Call (.Attribute o m apos) [] [] pos) X.env = (do
      let ov ← eval o X.env
      standAt apos.atName
      let (f, first) ← holding [ov] (getMethod ov m pl)
      callWith pos f first (backTo pos (starEach [] X.env)) (backToKw pos (keywordEach [] X.env))) := by rfl) :
    PED X c W (.Call (.Attribute o m apos) [] [] pos) (tMethT X.K tbl m W to0 tNil) (dMeth tbl m to dNil) := ⟨⟨fun pins s σ H Q I h => by
  refine PySem.W.methodCall_KW (pl := pl) (thn (ho.pe.run pins s σ H _ I h) fun u s1 ⟨x, H1, I1, rx, n, C, sp, a, dx, fs, hin, ex, ea, l, q⟩ => ?_) ht
  subst ex
  obtain rfl : u = Value.ref a := rx
  obtain ⟨_, cf, M⟩ := T.get hin
  obtain ⟨f, F, hm⟩ := M.ex
  refine getmeth_ok I1 ea cf.cl hm l ?_
  exact PySem.W.callWith_K0 (first := [.ref a]) I1.kIn hm.kp (run_RS (E := WE W) (us := [.ref a]) (vs := [.ref a]) F hr (passAt tk σ) I1 (.cons rfl .nil) q)⟩, snd_meth ho.sn ad_nil.sn⟩
def tPropT (K : PySem.W.Frag) (tbl : OTab) (ta : TE) : TE := fun σ H Q => ta σ H fun x H1 => ∃ n C sp a dx fs, (n, C, sp) ∈ tbl ∧ x = .ref a ∧ H1 a = some (.ins C dx fs) ∧ toSp K 1 sp [.ref a] H1 Q E0
def dProp (tbl : OTab) (m : Str) (to : TED) : TED := fun WD ρ R => to WD ρ (kD fun d ρ1 => own tbl m (fun sp => sp [.dat d] (fun r _ => R r ρ1) (fun _ _ => False)) d)
theorem one_in {sp : SpD} {R : Res → List En → Prop} {Q : VK} {ds : List Dt} {vs : List V} (k : Ok K c ρ σ H S) (a : Step K c σ ρ H S ρ1 H1 S1) (hd : Reps K S1 H1 ds vs)
    (hR : ∀ r ρ' v H' S', R r ρ' → Step K c σ ρ H S ρ' H' S' → RepR K σ H H' S' r v → Q v H') (q : sp (ds.map .dat) (fun r _ => R r ρ1) (fun _ _ => False)) : toSp K vs.length sp vs H1 Q E0 :=
  ⟨ds.map .dat, S1, _, _, rfl, entryF a.ok.st hd, q, fun r outs v H' S' q f rc => hR r ρ1 v H' S' q (a.trans (.ofLay a.ok f.lay)) (rc.r.later a), fun x outs d H' S' q f rx => q.elim⟩
theorem ed_prop {k : Nat} {tbl : OTab} {m : Str} {o : Expr} {to0 : TE} {to : TED} {pos : Pos} (T : TabP X.prog X.w X.K X.mg X.base m k tbl) (hr : Room (k + 1) X.A) (ho : PED X c W o to0 to) (hab : attributeBase o m X.env (eval o X.env) = eval o X.env := by rfl) : PED X c W (.Attribute o m pos) (tPropT X.K tbl to0) (dProp tbl m to) := ⟨⟨fun pins s σ H Q I h => by
  refine attr_of hab (thn (ho.pe.run pins s σ H _ I h) fun u s1 ⟨x, H1, I1, rx, n, C, sp, a, dx, fs, hin, ex, ea, q⟩ => ?_)
  subst ex
  obtain rfl : u = Value.ref a := rx
  obtain ⟨cl, M⟩ := T.get hin
  obtain ⟨p, g, fd, F, hp, hb⟩ := M.ex
  exact getprop_ok I1 ea cl hp F hr hb .nil passE0 q⟩, by
  intro WD ρ σ H S Q R hW k hR q
  refine ho.sn.dat hW k (fun d ρ1 v H1 S1 q a rd => ?_) q
  obtain ⟨n, C, ns, l, sp, rfl, hm, ht, q⟩ := own_elim q
  have rd' := rd
  obtain ⟨p, dx, vs, rfl, hp, sp', hl, _⟩ := rd
  exact ⟨n, C, sp, p, dx, _, ht, rfl, hp, one_in (ds := [_]) k a ⟨_, _, rfl, rd', rfl⟩ hR q⟩⟩
def tMakeT (K : PySem.W.Frag) (C : Addr) (sp : SpD) (W : WX) (t : TA) : TE := fun σ H Q => t σ H fun vs H1 => ∀ x dx, H1 x = none → H1 dx = none → dx ≠ x → toSpA K sp (.ref x :: vs) (upd (upd H1 dx (.own x)) x (.ins C dx [])) (fun v H2 => v = .non ∧ Q (.ref x) H2) (WE W σ)
def madeF (R : Dt → Prop) : Res → List En → Prop
  | .dat .non, .own (.ins C ns l) :: _ => R (.obj C ns l)
  | _, _ => False
def mkF (C : Addr) (sp : SpD) (ds : List Dt) (R : Dt → Prop) (EX : Xc → Prop) : Prop := sp (.own (.ins C [] []) :: ds.map .dat) (madeF R) (fun x _ => EX x)
def dMake (C : Addr) (sp : SpD) (ta : TAD) : TED := fun WD ρ R => ta WD ρ fun rs ρ1 => kDs rs ρ1 fun ds ρ2 => mkF C sp ds (fun d => R (.dat d) ρ2) (fun x => WD x ρ2)
theorem madeF_elim {R : Dt → Prop} {r : Res} {outs : List En} (h : madeF R r outs) : ∃ C ns l t, r = .dat .non ∧ outs = .own (.ins C ns l) :: t ∧ R (.obj C ns l) := by
  unfold madeF at h
  split at h
  · exact ⟨_, _, _, _, rfl, rfl, h⟩
  · exact h.elim
theorem mk_P {C x : Addr} {ds : List Dt} {vs : List V} {i : Nat} {q : Addr} (h : (ctOf (.own (.ins C [] []) :: ds.map En.dat) (.ref x :: vs) H S).P i = some q) : i = 0 ∧ q = x := by
  obtain ⟨⟨w, h1⟩, h2⟩ := ctP h
  cases i with
  | zero => cases h2; exact ⟨rfl, rfl⟩
  | succ i => obtain ⟨d, h, _⟩ := dat_get (show (ds.map En.dat)[i]? = _ from h1); cases h
theorem make_in {C : Addr} {sp : SpD} {WD : WDt} {R : Res → List En → Prop} {Q : VK} {ds : List Dt} {vs : List V} {x dx : Addr} (hW : RelW K c W WD) (k : Ok K c ρ σ H S) (a : Step K c σ ρ H S ρ1 H1 S1) (hd : Reps K S1 H1 ds vs)
    (hR : ∀ r ρ' v H' S', R r ρ' → Step K c σ ρ H S ρ' H' S' → RepR K σ H H' S' r v → Q v H') (nx : H1 x = none) (nd : H1 dx = none) (ne : dx ≠ x) (q : mkF C sp ds (fun d => R (.dat d) ρ1) (fun x => WD x ρ1)) :
    toSpA K sp (.ref x :: vs) (upd (upd H1 dx (.own x)) x (.ins C dx [])) (fun v H2 => v = .non ∧ Q (.ref x) H2) (WE W σ) := by
  have up : ∀ b o, H1 b = some o → (upd (upd H1 dx (.own x)) x (.ins C dx [])) b = some o := fun b o e => by rw [upd_ne (ne_of_none e nx), upd_ne (ne_of_none e nd)]; exact e
  have at_ : (upd (upd H1 dx (.own x)) x (.ins C dx [])) x = some (.ins C dx []) := upd_same
  generalize upd (upd H1 dx (.own x)) x (.ins C dx []) = H2 at *
  have lay : Lay H1 S1 H2 S1 := ⟨up, fun _ s => s, fun _ s => .inl s⟩
  have nS : ¬ S1 x := fun s => by obtain ⟨o, e⟩ := a.ok.st x s; rw [nx] at e; cases e
  have P0 : (ctOf (.own (.ins C [] []) :: ds.map En.dat) (.ref x :: vs) H2 S1).P 0 = some x := ctP' (w := .ins C [] []) rfl rfl
  have back : ∀ {outs : List En} {H' : Hp} {S' : Addr → Prop}, Aft K (ctOf (.own (.ins C [] []) :: ds.map En.dat) (.ref x :: vs) H2 S1) outs H' S' → Lay H1 S1 H' S' := fun f => by
    refine ⟨fun b o e => f.fr b o (up b o e) fun i z => ?_, f.s0, fun b s => ?_⟩
    · obtain ⟨_, rfl⟩ := mk_P z; rw [nx] at e; cases e
    · rcases f.s1 b s with s1 | s1 | ⟨i, s1⟩
      · exact .inl s1
      · refine .inr ⟨?_, f.st b s⟩
        cases e : H1 b with
        | none => rfl
        | some o => have z := up b o e; rw [show H2 b = none from s1] at z; cases z
      · obtain ⟨_, rfl⟩ := mk_P s1; exact .inr ⟨nx, f.st _ s⟩
  refine ⟨(V.ref x :: vs).length, .own (.ins C [] []) :: ds.map .dat, S1, _, _, rfl, ?_, q, fun r outs v H' S' q f rc => ?_, fun xc outs d H' S' q f rx => hW ρ1 σ H' S' xc d (Step.ofLay a.ok (back f)).ok rx q⟩
  · have hd2 := lay.reps hd
    refine ⟨by simp [hd.length], fun i d e => ?_, fun i w e => ?_, fun i b d z e => ?_, fun i j w w' p e1 e2 _ _ => ?_, fun i q e => ?_, fun b o e _ => e, fun b s => ?_, fun b s => s, fun b s => .inl s⟩
    · cases i with
      | zero => cases e
      | succ i =>
        obtain ⟨d', e1, e2⟩ := dat_get (show (ds.map En.dat)[i]? = _ from e)
        cases e1
        obtain ⟨v, e3, r⟩ := hd2.get e2
        exact ⟨v, map_getO (vs := .ref x :: vs) (i := i + 1) e3, r⟩
    · cases i with
      | zero =>
        cases e
        exact ⟨x, rfl, ⟨dx, [], at_, rfl, rfl⟩, nS, fun q z => by rw [P0] at z; cases z; rfl, fun z => by rw [P0] at z; cases z⟩
      | succ i => obtain ⟨d', e1, e2⟩ := dat_get (show (ds.map En.dat)[i]? = _ from e); cases e1
    · cases i with
      | zero => cases e
      | succ i => obtain ⟨d', e1, e2⟩ := dat_get (show (ds.map En.dat)[i]? = _ from e); cases e1
    · have z : ∀ {i : Nat} {w : Ow}, (En.own (.ins C [] []) :: ds.map En.dat)[i]? = some (.own w) → i = 0 := fun {i} {w} e => by
        cases i with
        | zero => rfl
        | succ i => obtain ⟨d', e1, e2⟩ := dat_get (show (ds.map En.dat)[i]? = _ from e); cases e1
      rw [z e1, z e2]
    · obtain ⟨_, rfl⟩ := mk_P e; exact ⟨_, at_⟩
    · obtain ⟨o, e⟩ := a.ok.st b s; exact ⟨o, up b o e⟩
  · obtain ⟨C', ns, l, t, rfl, rfl, q⟩ := madeF_elim q
    refine ⟨rc, ?_⟩
    obtain ⟨ro, no⟩ := f.out 0 _ x rfl P0
    have l1 := back f
    have l2 : Lay H1 S1 H' (fun b => S' b ∨ b = x) := ⟨l1.1, fun b s => .inl (l1.2.1 b s), fun b s => s.elim (l1.2.2 b) fun e => by subst e; exact .inr ⟨nx, ro.trk⟩⟩
    exact hR _ ρ1 _ H' _ q (a.trans (.ofLay a.ok l2)) ro.frz
theorem snd_make {C : Addr} {sp : SpD} {t0 : TA} {t : TAD} (h : SndA K c W t0 t) : SndE K c W (tMakeT K C sp W t0) (dMake C sp t) := by
  intro WD ρ σ H S Q R hW k hR q
  refine h WD ρ σ H S _ _ hW k (fun rs ρ1 vs H1 S1 q a rr => ?_) q
  exact kDs_ok (Q := fun vs H1 => ∀ x dx, H1 x = none → H1 dx = none → dx ≠ x → toSpA K sp (.ref x :: vs) (upd (upd H1 dx (.own x)) x (.ins C dx [])) (fun v H2 => v = .non ∧ Q (.ref x) H2) (WE W σ)) k a rr (fun ds ρ2 vs S2 q a2 _ hd x dx nx nd ne => make_in hW k a2 hd hR nx nd ne q) q
theorem ed_make {k : Nat} {C : Addr} {sp : SpD} {x : Str} {p pos : Pos} {e : Expr} {es : List Expr} {t0 : TA} {t : TAD} (I : InitA X.prog X.w X.K X.mg X.base C k sp) (hm : X.mg x = some (.ref C)) (hr : Room (k + 1) X.A) (tk : Takes X W) (ha : PAD X c W (e :: es) t0 t) (hg : Gl X x := by rfl)
    (hdb : (x == ("__debug__" : Str)) = false := by decide) (he : starEach (e :: es) X.env = (false, eval e X.env) :: starEach es X.env := by rfl) (hpl : (backTo pos (starEach es X.env)).any (·.1) = false := by rfl) : PED X c W (.Call (.Name x p) (e :: es) [] pos) (tMakeT X.K C sp W t0) (dMake C sp t) := ⟨⟨fun pins s σ H Q J h => by
  obtain ⟨f, F, M⟩ := I.ex
  refine wpAny_Call_Name_kw (ld_glob J hg hm ?_ hdb)
  refine PySem.W.callWith_K (h₀ := X.base) J.ok.mod.kin M.kp (thn (ha.pa.run pos pins s σ H _ J h) fun us s1 ⟨vs, H1, I1, r, q⟩ => ⟨I1.kIn, ?_⟩) he hpl
  exact run_makeS (E := WE W) M F hr (passAt tk σ) I1 r q⟩, snd_make ha.sn⟩
end
end D
set_option Elab.async false
set_option linter.all false
set_option maxRecDepth 100000
namespace D
open PySem PySem.Spec PyProof.Rows L2 StX
def rOwnT (K : PySem.W.Frag) (tbl : OTab) : R2 := fun x y H Q => ∃ n C sp a b dx dy fs gs, (n, C, sp) ∈ tbl ∧ x = .ref a ∧ y = .ref b ∧ H a = some (.ins C dx fs) ∧ H b = some (.ins C dy gs) ∧ toSpA K sp [.ref a, .ref b] H Q E0
def rOwnN (K : PySem.W.Frag) (tbl : OTab) : R2 := fun x y H Q => ∃ n C sp a b dx dy fs gs, (n, C, sp) ∈ tbl ∧ x = .ref a ∧ y = .ref b ∧ H a = some (.ins C dx fs) ∧ H b = some (.ins C dy gs) ∧ toSpA K sp [.ref a, .ref b] H (fun v H' => ∃ r, v = .bl r ∧ Q (.bl (!r)) H') E0
def rOwnU (K : PySem.W.Frag) (tbl : OTab) : V → Hp → VK → Prop := fun x H Q => ∃ n C sp a dx fs, (n, C, sp) ∈ tbl ∧ x = .ref a ∧ H a = some (.ins C dx fs) ∧ toSpA K sp [.ref a] H Q E0
def rOwnB (K : PySem.W.Frag) (tbl : OTab) : V → Hp → (Bool → Hp → Prop) → Prop := fun x H Q => ∃ n C sp a dx fs, (n, C, sp) ∈ tbl ∧ x = .ref a ∧ H a = some (.ins C dx fs) ∧ toSpA K sp [.ref a] H (fun v H' => ∃ b, v = .bl b ∧ Q b H') E0
section
variable {X : Cx} {k : Nat} {m : Str} {tbl : OTab}
theorem run_R0 {CX : CXT} {f : Addr} {sp : Sp} {pins : List (Addr × Obj)} {σ : L2.St} {H : Hp} {s : Shared} {Q : VK} {us : List Value} {vs : List V} (F : FnR X.prog X.w X.K X.mg X.base (L2.CX X.prog X.w) k f sp) (hr : Room k X.A) (I : Inv X pins σ H s) (r : Vals vs us) (h : sp vs H Q E0) : wpAny (model X.prog X.w) X.A (call (.ref f) us) (EP X pins σ Q) X.xe s :=
  wpAny_call (run_fnR F hr passE0 I r h)
theorem op_T {op : Operator} (T : TabM X.prog X.w X.K X.mg X.base m k tbl) (hr : Room k X.A) (hm : PySem.dunder op.info.2 = m := by decide +kernel) : OpR X (binaryOp op) (rOwnT X.K tbl) := by
  intro pins s σ H x y v u Q I rx ry h
  obtain ⟨n, C, sp, a, b, dx, dy, fs, gs, hin, rfl, rfl, ha, hb', q⟩ := h
  obtain ⟨_, cf, M⟩ := T.get hin
  obtain ⟨f, F, hh⟩ := M.ex
  cases rx
  cases ry
  obtain ⟨mA, J, _⟩ := ins_get I.hok ha
  obtain ⟨mB, J', _⟩ := ins_get I.hok hb'
  obtain ⟨od, J, _⟩ := J.look
  obtain ⟨od', J', _⟩ := J'.look
  obtain ⟨m', hF⟩ := I.fr
  refine PySem.W.binop_K hF I.ok.mod.kin J J'.type cf.sf (by rw [hm]; exact hh.at_) hh.fn ?_
  refine wpAny_mono (run_R0 (CX := L2.CX X.prog X.w) (vs := [.ref a, .ref b]) F hr I (.cons rfl (.cons rfl .nil)) q) (fun r s' hq => ?_) fun _ _ e => e
  obtain ⟨z, H', I', rz, q'⟩ := hq
  cases r <;> first | exact ⟨z, H', I', rz, q'⟩ | (cases z <;> first | (obtain ⟨t, e⟩ := rz; cases e) | cases rz)
theorem un_T (T : TabM X.prog X.w X.K X.mg X.base "__neg__" k tbl) (hr : Room k X.A) : UnR X (unaryOp .USub) (rOwnU X.K tbl) := by
  intro pins s σ H x v Q I rx h
  obtain ⟨n, C, sp, a, dx, fs, hin, rfl, ha, q⟩ := h
  obtain ⟨_, cf, M⟩ := T.get hin
  obtain ⟨f, F, hh⟩ := M.ex
  cases rx
  obtain ⟨mA, J, _⟩ := ins_get I.hok ha
  obtain ⟨od, J, _⟩ := J.look
  obtain ⟨m, hF⟩ := I.fr
  refine PySem.W.ksp_neg hF I.ok.mod.kin J hh.at_ hh.fn ?_
  exact run_R0 (CX := L2.CX X.prog X.w) (vs := [.ref a]) F hr I (.cons rfl .nil) q
theorem eq_T (T : TabM X.prog X.w X.K X.mg X.base "__eq__" k tbl) (hr : Room k X.A) : OpR X (compareOp .Eq) (rOwnT X.K tbl) := by
  intro pins s σ H x y v u Q I rx ry h
  obtain ⟨n, C, sp, a, b, dx, dy, fs, gs, hin, rfl, rfl, ha, hb', q⟩ := h
  obtain ⟨_, cf, M⟩ := T.get hin
  obtain ⟨f, F, hh⟩ := M.ex
  cases rx
  cases ry
  obtain ⟨mA, J, _⟩ := ins_get I.hok ha
  obtain ⟨mB, J', _⟩ := ins_get I.hok hb'
  obtain ⟨od, J, _⟩ := J.look
  obtain ⟨od', J', _⟩ := J'.look
  obtain ⟨m', hF⟩ := I.fr
  unfold compareOp
  refine PySem.W.cmp_K (op := .Eq) (tb := .ref C) hr.units0 hF I.ok.mod.kin J J'.type (by simp [PySem.W.notFirst]) hh.at_ hh.fn ?_
  refine wpAny_mono (run_R0 (CX := L2.CX X.prog X.w) (vs := [.ref a, .ref b]) F hr I (.cons rfl (.cons rfl .nil)) q) (fun r s' hq => ?_) fun _ _ e => e
  obtain ⟨z, H', I', rz, q'⟩ := hq
  cases r <;> first | exact ⟨z, H', I', rz, q'⟩ | (cases z <;> first | (obtain ⟨t, e⟩ := rz; cases e) | cases rz)
def NeT (K : PySem.W.Frag) (tbl : OTab) : Prop := ∀ e ∈ tbl, PySem.W.findIn K (.ref e.2.1) "__ne__" = some (some (.builtin "object.__ne__"))
theorem NeT.nil {K : PySem.W.Frag} : NeT K [] := fun e h => by cases h
theorem NeT.cons {K : PySem.W.Frag} {n : Str} {C : Addr} {sp : SpD} {t : OTab} (h : PySem.W.findIn K (.ref C) "__ne__" = some (some (.builtin "object.__ne__"))) (r : NeT K t) : NeT K ((n, C, sp) :: t) := fun e q => by
  rcases List.mem_cons.mp q with z | z
  · subst z; exact h
  · exact r e z
theorem ne_T (T : TabM X.prog X.w X.K X.mg X.base "__eq__" k tbl) (N : NeT X.K tbl) (hr : Room (k + 1) X.A) : OpR X (compareOp .NotEq) (rOwnN X.K tbl) := by
  intro pins s σ H x y v u Q I rx ry h
  obtain ⟨n, C, sp, a, b, dx, dy, fs, gs, hin, rfl, rfl, ha, hb', q⟩ := h
  obtain ⟨_, cf, M⟩ := T.get hin
  obtain ⟨f, F, hh⟩ := M.ex
  cases rx
  cases ry
  obtain ⟨mA, J, _⟩ := ins_get I.hok ha
  obtain ⟨mB, J', _⟩ := ins_get I.hok hb'
  obtain ⟨od, J, _⟩ := J.look
  obtain ⟨od', J', _⟩ := J'.look
  obtain ⟨m', hF⟩ := I.fr
  unfold compareOp
  refine G.ne_K (hu_of hr) hF I.ok.mod.kin J J'.type cf.mr (N _ hin) hh.at_ hh.fn ?_
  have e0 : Env0 X.prog X.w X.K X.mg X.base X.A.in1 X.stack s H := by
    have e := I.env0
    exact ⟨e.frames, e.mod, e.bs, e.bsz, e.funs, e.frf, e.hok, e.bare⟩
  have r2 : Vals [V.ref a, V.ref b] [Value.ref a, Value.ref b] := .cons rfl (.cons rfl .nil)
  refine wpAny_call (codeAny_mono (F X.A.in1 X.stack s H [.ref a, .ref b] [.ref a, .ref b] _ E0 hr.in1 e0 r2 q) fun r s' hq => ?_)
  cases r with
  | error e => obtain ⟨_, _, _, _, _, _, _, _, _, _, _, _, z⟩ := hq; exact False.elim z
  | ok fl =>
    cases fl with
    | ret w =>
      obtain ⟨z, H', I', rz, r, ez, ex⟩ := I.after hq
      subst ez
      cases rz
      exact ⟨r, rfl, .bl (!r), H', I', rfl, ex⟩
    | next => exact False.elim hq
    | brk => exact False.elim hq
    | cont => exact False.elim hq
theorem tru_T (T : TabM X.prog X.w X.K X.mg X.base "__bool__" k tbl) (hr : Room k X.A) : TruR X (rOwnB X.K tbl) := by
  intro pins s σ H x v Q I rx h
  obtain ⟨n, C, sp, a, dx, fs, hin, rfl, ha, q⟩ := h
  obtain ⟨_, cf, M⟩ := T.get hin
  obtain ⟨f, F, hm⟩ := M.ex
  cases rx
  obtain ⟨ox, od, J, _⟩ := G.inst_of I ha
  obtain ⟨m, hF⟩ := I.fr
  refine PySem.W.truthy_K hF I.ok.mod.kin J hm.at_ hm.fn (wpAny_mono (run_R0 (CX := L2.CX X.prog X.w) (vs := [.ref a]) F hr I (.cons rfl .nil) q) (fun r s' hq => ?_) fun _ _ e => e)
  obtain ⟨z, H', I', rz, b, rfl, q'⟩ := hq
  cases rz
  exact ⟨H', I', q'⟩
end
def isO : Option Dt → Bool
  | some (.obj _ _ _) => true
  | _ => false
def own2 (tbl : OTab) (m : Str) (a b : Dt) (k : SpD → Prop) : Prop := own tbl m (fun sp => (match a, b with | .obj C _ _, .obj C' _ _ => C' = C | _, _ => False) ∧ k sp) a
def dOpO (tbl : OTab) (m : Str) (f : F2) (ta tb : TED) : TED := fun WD ρ R => ta WD ρ fun r1 ρ1 => tb WD ρ1 fun r2 ρ2 =>
  if isO (pk r1 ρ2) = true then kDs [r1, r2] ρ2 fun ds ρ3 => match ds with
    | [a, b] => own2 tbl m a b fun sp => sp [.dat a, .dat b] (fun r _ => R r ρ3) (fun _ _ => False)
    | _ => False
  else pk2 (fun a b => f a b fun r => R r ρ2) r1 r2 ρ2
def dNeO (tbl : OTab) (m : Str) (f : F2) (ta tb : TED) : TED := fun WD ρ R => ta WD ρ fun r1 ρ1 => tb WD ρ1 fun r2 ρ2 =>
  if isO (pk r1 ρ2) = true then kDs [r1, r2] ρ2 fun ds ρ3 => match ds with
    | [a, b] => own2 tbl m a b fun sp => sp [.dat a, .dat b] (fun r _ => match r with | .dat (.bl z) => R (.dat (.bl (!z))) ρ3 | _ => False) (fun _ _ => False)
    | _ => False
  else pk2 (fun a b => f a b fun r => R r ρ2) r1 r2 ρ2
section
variable {K : PySem.W.Frag} {c : Ct} {W : WX} {X : Cx} {σ : L2.St} {ρ ρ1 ρ' : List En} {H H1 H2 H' : Hp} {S S1 S2 S' : Addr → Prop}
theorem own2_elim {tbl : OTab} {m : Str} {a b : Dt} {k : SpD → Prop} (h : own2 tbl m a b k) : ∃ n C ns l ns' l' sp, a = .obj C (n :: ns) l ∧ b = .obj C ns' l' ∧ (n, C, sp) ∈ tbl ∧ k sp := by
  obtain ⟨n, C, ns, l, sp, rfl, _, ht, q, hk⟩ := own_elim h
  cases b with
  | obj C' ns' l' => have q : C' = C := q; subst q; exact ⟨n, _, ns, l, ns', l', sp, rfl, rfl, ht, hk⟩
  | _ => exact q.elim
theorem RepRs.pair {r1 r2 : Res} {v1 v2 : V} (h1 : RepR K σ H H2 S2 r1 v1) (h2 : RepR K σ H1 H2 S2 r2 v2) (a : Step K c σ ρ H S ρ1 H1 S1) (n : ∀ w, r1 = .new w → ∀ w', r2 = .new w' → v2 ≠ v1) : RepRs K σ H H2 S2 [r1, r2] [v1, v2] :=
  ⟨v1, [v2], rfl, h1, ⟨v2, [], rfl, h2.later a, rfl, fun w _ j w' e => by simp at e⟩, fun w e j w' hj hv => by
    cases j with
    | zero => cases hj; cases hv; exact n w e w' rfl rfl
    | succ j => simp at hj⟩
theorem two_in {r1 r2 : Res} {v1 v2 : V} {ρ2 : List En} {WD : WDt} (k : Ok K c ρ σ H S) (a : Step K c σ ρ H S ρ1 H1 S1) (rr : RepR K σ H H1 S1 r1 v1) (a2 : Step K c σ ρ1 H1 S1 ρ2 H2 S2) (rr2 : RepR K σ H1 H2 S2 r2 v2) : RepRs K σ H H2 S2 [r1, r2] [v1, v2] := by
  refine RepRs.pair (rr.held a2 a.ok (fun x hx q => k.nown0 hx (a.ow _ q))) rr2 a fun w e w' e' => ?_
  subst e; subst e'
  obtain ⟨p, e1, _, _, ro⟩ := rr
  obtain ⟨o, z⟩ := ro.trk
  obtain ⟨p', e3, h0, _⟩ := rr2
  subst e1; subst e3
  intro e; cases e
  rw [z] at h0; cases h0
theorem spA0 {sp : SpD} {R : Res → List En → Prop} {Q : VK} {ds : List Dt} {vs : List V} (k : Ok K c ρ σ H S) (a : Step K c σ ρ H S ρ1 H1 S1) (hd : Reps K S1 H1 ds vs)
    (hR : ∀ r ρ' v H' S', R r ρ' → Step K c σ ρ H S ρ' H' S' → RepR K σ H H' S' r v → Q v H') (q : sp (ds.map .dat) (fun r _ => R r ρ1) (fun _ _ => False)) : toSpA K sp vs H1 Q E0 := ⟨_, one_in k a hd hR q⟩
theorem snd_opO {r : R2} {f : F2} {tbl : OTab} {m : Str} {ta0 tb0 : TE} {ta tb : TED} (ho : OpD K r f) (ha : SndE K c W ta0 ta) (hb : SndE K c W tb0 tb) : SndE K c W (tOp (fun x y H Q => r x y H Q ∨ rOwnT K tbl x y H Q) ta0 tb0) (dOpO tbl m f ta tb) := by
  intro WD ρ σ H S Q R hW k hR q
  refine ha WD ρ σ H S _ _ hW k (fun r1 ρ1 v1 H1 S1 q a rr => ?_) q
  refine hb WD ρ1 σ H1 S1 _ _ hW a.ok (fun r2 ρ2 v2 H2 S2 q a2 rr2 => ?_) q
  have rs := two_in (WD := WD) k a rr a2 rr2
  split at q
  · refine .inr (kDs_ok (Q := fun vs H2 => ∀ x y, vs = [x, y] → rOwnT K tbl x y H2 Q) k (a.trans a2) rs (fun ds ρ3 vs S3 q a3 _ hd x y e => ?_) q v1 v2 rfl)
    split at q
    · obtain ⟨n, C, ns, l, ns', l', sp, rfl, rfl, ht, q⟩ := own2_elim q
      subst e
      obtain ⟨_, _, e1, h1, _, _, e2, h2, e3⟩ := id hd
      cases e1; cases e2
      obtain ⟨p, dx, us, rfl, hp, _⟩ := h1
      obtain ⟨p', dy, us', rfl, hp', _⟩ := h2
      exact ⟨n, C, sp, p, p', dx, dy, _, _, ht, rfl, rfl, hp, hp', spA0 k a3 hd hR q⟩
    · exact q.elim
  · obtain ⟨x, y, e1, e2, q⟩ := pk2_elim q
    refine .inl (ho S2 H2 v1 v2 x y Q (fun r => R r ρ2) (pk_ok a2.ok (rr.held a2 a.ok (fun x hx q => k.nown0 hx (a.ow _ q))) e1) (pk_ok a2.ok rr2 e2) ⟨a2.ok.st, fun res v H' S' q l rc => ?_⟩ q)
    exact hR _ _ _ _ _ q ((a.trans a2).trans (.ofLay a2.ok l)) ((RepR.none0 rc).later (a.trans a2))
theorem snd_neO {r : R2} {f : F2} {tbl : OTab} {m : Str} {ta0 tb0 : TE} {ta tb : TED} (ho : OpD K r f) (ha : SndE K c W ta0 ta) (hb : SndE K c W tb0 tb) : SndE K c W (tOp (fun x y H Q => r x y H Q ∨ rOwnN K tbl x y H Q) ta0 tb0) (dNeO tbl m f ta tb) := by
  intro WD ρ σ H S Q R hW k hR q
  refine ha WD ρ σ H S _ _ hW k (fun r1 ρ1 v1 H1 S1 q a rr => ?_) q
  refine hb WD ρ1 σ H1 S1 _ _ hW a.ok (fun r2 ρ2 v2 H2 S2 q a2 rr2 => ?_) q
  have rs := two_in (WD := WD) k a rr a2 rr2
  split at q
  · refine .inr (kDs_ok (Q := fun vs H2 => ∀ x y, vs = [x, y] → rOwnN K tbl x y H2 Q) k (a.trans a2) rs (fun ds ρ3 vs S3 q a3 _ hd x y e => ?_) q v1 v2 rfl)
    split at q
    · obtain ⟨n, C, ns, l, ns', l', sp, rfl, rfl, ht, q⟩ := own2_elim q
      subst e
      obtain ⟨_, _, e1, h1, _, _, e2, h2, e3⟩ := id hd
      cases e1; cases e2
      obtain ⟨p, dx, us, rfl, hp, _⟩ := h1
      obtain ⟨p', dy, us', rfl, hp', _⟩ := h2
      refine ⟨n, C, sp, p, p', dx, dy, _, _, ht, rfl, rfl, hp, hp', spA0 (R := fun r ρ' => match r with | .dat (.bl z) => R (.dat (.bl (!z))) ρ' | _ => False) k a3 hd (fun r ρ' v H' S' q s rc => ?_) q⟩
      split at q
      · have rc : v = .bl _ := rc
        exact ⟨_, rc, hR _ _ _ _ _ q s rfl⟩
      · exact q.elim
    · exact q.elim
  · obtain ⟨x, y, e1, e2, q⟩ := pk2_elim q
    refine .inl (ho S2 H2 v1 v2 x y Q (fun r => R r ρ2) (pk_ok a2.ok (rr.held a2 a.ok (fun x hx q => k.nown0 hx (a.ow _ q))) e1) (pk_ok a2.ok rr2 e2) ⟨a2.ok.st, fun res v H' S' q l rc => ?_⟩ q)
    exact hR _ _ _ _ _ q ((a.trans a2).trans (.ofLay a2.ok l)) ((RepR.none0 rc).later (a.trans a2))
variable {a b : Expr} {pos : Pos} {ta0 tb0 : TE} {ta tb : TED}
theorem ed_opO {op : Operator} {r : R2} {f : F2} {tbl : OTab} {m : Str} {j : Nat} (T : TabM X.prog X.w X.K X.mg X.base m j tbl) (hr : Room j X.A) (ho : OpR X (binaryOp op) r) (hd : OpD X.K r f) (ha : PED X c W a ta0 ta) (hb : PED X c W b tb0 tb) (hm : PySem.dunder op.info.2 = m := by decide +kernel) : PED X c W (.BinOp a op b pos) (tOp (fun x y H Q => r x y H Q ∨ rOwnT X.K tbl x y H Q) ta0 tb0) (dOpO tbl m f ta tb) := ⟨pe_op (OpR.or ho (op_T T hr hm)) ha.pe hb.pe, snd_opO hd ha.sn hb.sn⟩
theorem ed_eqO {r : R2} {f : F2} {tbl : OTab} {j : Nat} (T : TabM X.prog X.w X.K X.mg X.base "__eq__" j tbl) (hr : Room j X.A) (ho : OpR X (compareOp .Eq) r) (hd : OpD X.K r f) (ha : PED X c W a ta0 ta) (hb : PED X c W b tb0 tb) (hm : behindInMarks .Eq b = false := by rfl) : PED X c W (.Compare a [.Eq] [b] pos) (tOp (fun x y H Q => r x y H Q ∨ rOwnT X.K tbl x y H Q) ta0 tb0) (dOpO tbl "__eq__" f ta tb) := ⟨pe_cmpR (OpR.or ho (eq_T T hr)) ha.pe hb.pe hm, snd_opO hd ha.sn hb.sn⟩
theorem td_neO {r : R2} {f : F2} {tbl : OTab} {j : Nat} (T : TabM X.prog X.w X.K X.mg X.base "__eq__" j tbl) (N : NeT X.K tbl) (hr : Room (j + 1) X.A) (ho : OpR X (compareOp .NotEq) r) (hd : OpD X.K r f) (ha : PED X c W a ta0 ta) (hb : PED X c W b tb0 tb) (hm : behindInMarks .NotEq b = false := by rfl) : PTD X c W (.Compare a [.NotEq] [b] pos) (tTest (tOp (fun x y H Q => r x y H Q ∨ rOwnN X.K tbl x y H Q) ta0 tb0)) (dTB (dNeO tbl "__eq__" f ta tb)) := ⟨pt_cmpR (OpR.or ho (ne_T T N hr)) ha.pe hb.pe hm, snd_tb (snd_neO hd ha.sn hb.sn)⟩
def dNegO (tbl : OTab) (f : F1) (ta : TED) : TED := fun WD ρ R => ta WD ρ fun r1 ρ1 => if isO (pk r1 ρ1) = true then kD (fun d ρ2 => own tbl "__neg__" (fun sp => sp [.dat d] (fun r _ => R r ρ2) (fun _ _ => False)) d) r1 ρ1 else kP (fun d ρ2 => f d fun r => R r ρ2) r1 ρ1
theorem snd_negO {r : V → Hp → VK → Prop} {f : F1} {tbl : OTab} (ho : UnD K r f) (ha : SndE K c W ta0 ta) : SndE K c W (tUn (fun x H Q => r x H Q ∨ rOwnU K tbl x H Q) ta0) (dNegO tbl f ta) := by
  intro WD ρ σ H S Q R hW k hR q
  refine ha WD ρ σ H S _ _ hW k (fun r1 ρ1 v1 H1 S1 q a rr => ?_) q
  split at q
  · refine .inr (kD_ok (Q := fun v H => rOwnU K tbl v H Q) k a rr (fun d ρ2 v H2 S2 q a2 rd => ?_) q)
    obtain ⟨n, C, ns, l, sp, rfl, hm, ht, q⟩ := own_elim q
    have rd' := rd
    obtain ⟨p, dx, vs, rfl, hp, sp', hl, _⟩ := rd
    exact ⟨n, C, sp, p, dx, _, ht, rfl, hp, spA0 (ds := [_]) k a2 ⟨_, _, rfl, rd', rfl⟩ hR q⟩
  · refine .inl (kP_ok (Q := fun v H => r v H Q) k a rr (fun d ρ2 v H2 S2 q a2 rd => ?_) q)
    exact ho S2 H2 v d Q (fun r => R r ρ2) rd ⟨a2.ok.st, fun res v H' S' q l rc => hR _ _ _ _ _ q (a2.trans (.ofLay a2.ok l)) ((RepR.none0 rc).later a2)⟩ q
theorem UnR.or {X : Cx} {f : Value → Sem Value} {r r' : V → Hp → VK → Prop} (h : UnR X f r) (h' : UnR X f r') : UnR X f (fun x H Q => r x H Q ∨ r' x H Q) := fun pins s σ H x v Q I rx q => q.elim (h pins s σ H x v Q I rx) (h' pins s σ H x v Q I rx)
theorem ed_negO {r : V → Hp → VK → Prop} {f : F1} {tbl : OTab} {j : Nat} (T : TabM X.prog X.w X.K X.mg X.base "__neg__" j tbl) (hr : Room j X.A) (ho : UnR X (unaryOp .USub) r) (hd : UnD X.K r f) (ha : PED X c W a ta0 ta) : PED X c W (.UnaryOp .USub a pos) (tUn (fun x H Q => r x H Q ∨ rOwnU X.K tbl x H Q) ta0) (dNegO tbl f ta) := ⟨pe_un (UnR.or ho (un_T T hr)) ha.pe, snd_negO hd ha.sn⟩
end
end D
set_option Elab.async false
set_option linter.all false
set_option maxRecDepth 100000
namespace D
open PySem PySem.Spec PyProof.Rows L2 StX
def isDs (k : List Dt → Prop) : List En → Prop
  | [] => k []
  | .dat d :: es => isDs (fun ds => k (d :: ds)) es
  | _ => False
theorem isDs_elim : ∀ {es : List En} {k : List Dt → Prop}, isDs k es → ∃ ds, es = ds.map .dat ∧ k ds
  | [], k, h => ⟨[], rfl, h⟩
  | .dat d :: es, k, h => by
    obtain ⟨ds, e, q⟩ := isDs_elim (es := es) h
    exact ⟨d :: ds, by rw [e]; rfl, q⟩
  | .emp :: es, k, h => h.elim
  | .own _ :: es, k, h => h.elim
  | .exc _ _ _ :: es, k, h => h.elim
def isED : En → Prop
  | .own _ => True
  | .dat _ => True
  | _ => False
def star1 (sp : SpD) : SpD := fun ins R EX => match ins with
  | e :: es => isED e ∧ isDs (fun ds => ds.length ≤ sizeLine ∧ sp [e, .dat (.tup ds)] (fun r outs => R r (back [.slot 0, .dat (.tup ds)] outs (e :: es))) (fun x outs => EX x (back [.slot 0, .dat (.tup ds)] outs (e :: es)))) es
  | [] => False
section
variable {K : PySem.W.Frag} {c : Ct} {W : WX} {X : Cx} {σ : L2.St} {ρ ρ1 ρ' : List En} {H H1 H2 H' : Hp} {S S1 S2 S' : Addr → Prop}
theorem reps_of {ds : List Dt} {us : List V} (hl : us.length = ds.length) (h : ∀ (i : Nat) d, ds[i]? = some d → ∃ v, us[i]? = some v ∧ Rep K S H d v) : Reps K S H ds us := by
  induction ds generalizing us with
  | nil => exact List.length_eq_zero_iff.mp hl
  | cons d ds ih =>
    cases us with
    | nil => cases hl
    | cons u us =>
      obtain ⟨v, e, r⟩ := h 0 d rfl
      cases e
      exact ⟨u, us, rfl, r, ih (by simpa using hl) fun i d e => by simpa using h (i + 1) d (by simpa using e)⟩
theorem RepC.up {r : Res} {v : V} (a : ∀ x, H1 x = none → H x = none) (h : RepC K H1 H' S' r v) : RepC K H H' S' r v := by
  cases r with
  | dat d => exact h
  | new w => obtain ⟨p, e, h0, n, q⟩ := h; exact ⟨p, e, a p h0, n, q⟩
  | ref i => exact h.elim
end
section
variable {P : Program} {w : World} {K : PySem.W.Frag} {mg : Str → Option Value} {base : Heap}
theorem fnD_star {x qual : Str} {st : Stmt} {f : Addr} {fd : FuncData} {N : List Str} {pa pv : Str} {k : Nat} {sp : SpD} {t : TSD} (F : Fun K x qual st f fd) (Sc : FnScope N [pa, pv] (defScope st))
    (hb : ∀ (dV kV doc pm cdv ct : Value) (an : Option Addr) (u : Value) (rest : List Value), bindArgs (PySem.W.fnOf x qual (defArgs st) (defBody st) (defScope st) .none kV doc pm an cdv ct) ⟨u :: rest, []⟩ = (newTuple rest >>= fun t => pure [(pa, u), (pv, t)]))
    (hbody : ∀ (cdv : Value) (A : Around) (outer : List Env) (s : Shared) (H : Hp) (E : XK) (c : Ct), Room k (A.deeper (envOfC qual (defScope st) s.heap.objs.size f cdv)) → (∀ i, 2 ≤ i → c.P i = none) →
      ∃ t0, PSsD (cxOf (L2.CX P w) P w K mg base N qual (defScope st) f cdv A outer s H E) c (fun cls d _ H' => E cls d H') (defBody st) t0 t)
    (hread : ∀ ins R EX, ins.length = 2 → sp ins R EX → t (fun x ρ => EX x (ρ.take 2)) (endsD 2 R) (rhoD N.length ins)) : FnD P w K mg base (k + 1) f (star1 sp) := by
  obtain ⟨oc, od, kV, doc, pm, an, cdv, ct, osl, rfl, lk, hcd⟩ := F.ex
  refine FnR.imp (fn_star (ps := [pa]) (pv := pv) (sp := toSp K 2 sp) lk hcd Sc cxUp (fun us rest hl => match us, hl with | [u], _ => hb .none kV doc pm cdv ct an u rest) (fun A outer s H vs Q E hr h => ?_)) fun vs H Q E h => ?_
  · obtain ⟨ins, S, R, EX, hl, k0, hsp, hR, hE⟩ := h
    have il : ins.length = vs.length := by have := k0.len; rwa [List.length_map] at this
    have hpl : 2 ≤ N.length := by have := congrArg List.length Sc.pre; rw [List.length_take] at this; simp at this; omega
    obtain ⟨t0, hb⟩ := hbody cdv A outer s H E (ctOf ins vs H S) hr (fun i hi => ctP_none (by omega))
    refine ⟨t0, hb.pss, ?_⟩
    have ks := k0.start (N := N) (by omega)
    refine hb.sn (fun x ρ => EX x (ρ.take 2)) _ (endsD 2 R) _ _ H S (fun ρ σ H' S' x d k rx q => hE x _ d H' S' q (by rw [← hl]; exact k.aft il) rx) ⟨fun ρ σ H' S' k _ q => ?_, fun r ρ σ H' S' v k rg q => ?_, fun _ _ _ _ _ _ q => q.elim, fun _ _ _ _ _ _ q => q.elim⟩ ks (hread ins R EX (by omega) hsp)
    · exact hR _ _ .non H' S' q (by rw [← hl]; exact k.aft il) rfl
    · have af : Aft K (ctOf ins vs H S) (ρ.take 2) H' S' := by rw [← hl]; exact k.aft il
      cases r with
      | dat d => exact hR _ _ v H' S' q af rg
      | new w' => obtain ⟨p, e, h0, n, ro, _⟩ := rg; exact hR _ _ v H' S' q af ⟨p, e, h0, n, ro⟩
      | ref i =>
        have rg : σ[i]? = some (some v) := rg
        have q : (match ρ[i]? with | some (.own w') => 2 ≤ i ∧ R (.new w') (ρ.take 2) | some (.dat d) => R (.dat d) (ρ.take 2) | _ => False) := q
        cases e : ρ[i]? with
        | none => rw [e] at q; exact q.elim
        | some en =>
          rw [e] at q
          cases en with
          | emp => exact q.elim
          | exc _ _ _ => exact q.elim
          | dat d => obtain ⟨v', e1, r⟩ := k.dat i d e; rw [rg] at e1; cases e1; exact hR _ _ _ _ _ q af r
          | own w' =>
            obtain ⟨p, e1, r, n, _, h0⟩ := k.own i w' e
            rw [rg] at e1; cases e1
            exact hR _ _ _ _ _ q.2 af ⟨p, rfl, h0 (ctP_none (by omega)), n, r⟩
  · obtain ⟨m, ins, S, R, EX, hl, k0, hsp, hR, hE⟩ := h
    have il : ins.length = vs.length := by have := k0.len; rwa [List.length_map] at this
    cases ins with
    | nil => exact hsp.elim
    | cons e es =>
      obtain ⟨hed, hsp⟩ := hsp
      obtain ⟨ds, rfl, hz, hsp⟩ := isDs_elim hsp
      cases vs with
      | nil => cases il
      | cons v us =>
        have ul : us.length = ds.length := by simpa using il.symm
        refine ⟨[v], us, rfl, rfl, by rw [ul]; exact hz, fun p np => ?_⟩
        have rd : Reps K S H ds us := reps_of ul fun i d e => by
          obtain ⟨z, e1, r⟩ := k0.dat (i + 1) d (by rw [List.getElem?_cons_succ, List.getElem?_map, e]; rfl)
          rw [List.getElem?_map, List.getElem?_cons_succ] at e1
          cases e2 : us[i]? with
          | none => rw [e2] at e1; cases e1
          | some y => rw [e2] at e1; cases e1; exact ⟨z, rfl, r⟩
        have st := Step.layF k0 (o := .tup us) np
        have lay : Lay H S (upd H p (.tup us)) (fun a => S a ∨ a = p) := .newF np
        have rt : Rep K (fun a => S a ∨ a = p) (upd H p (.tup us)) (.tup ds) (.ref p) := ⟨p, us, rfl, .inl ⟨upd_same, .inr rfl⟩, lay.reps rd⟩
        have ei : insOf (e :: ds.map En.dat) [.slot 0, .dat (.tup ds)] = some [e, .dat (.tup ds)] := by
          cases e with
          | own w' => rfl
          | dat d => rfl
          | emp => exact hed.elim
          | exc _ _ _ => exact hed.elim
        have ra : RepAr K ((v :: us).map some) (fun a => S a ∨ a = p) (upd H p (.tup us)) [.slot 0, .dat (.tup ds)] [v, .ref p] := ⟨v, [.ref p], rfl, rfl, .ref p, [], rfl, rt, rfl⟩
        have nd : (slots [.slot 0, .dat (.tup ds)]).Nodup := by show [0].Nodup; decide
        refine ⟨[e, .dat (.tup ds)], _, _, _, rfl, entry st.ok ei nd ra, hsp, fun r outs y H' S' q f rc => ?_, fun xc outs d H' S' q f rx => ?_⟩
        · have b := behind st.ok ei nd ra f
          refine hR r _ y H' S' q ?_ (rc.up fun a e => st.gone e)
          have := b.ok.aft (hl := il)
          rwa [List.take_of_length_le (by rw [back_len]; omega)] at this
        · have b := behind st.ok ei nd ra f
          refine hE xc _ d H' S' q ?_ rx
          have := b.ok.aft (hl := il)
          rwa [List.take_of_length_le (by rw [back_len]; omega)] at this
end
section
variable {K : PySem.W.Frag} {c : Ct} {W : WX} {X : Cx} {σ : L2.St} {ρ ρ1 ρ' : List En} {H H1 H2 H' : Hp} {S S1 S2 S' : Addr → Prop}
def tMakeS (K : PySem.W.Frag) (C : Addr) (sp : SpD) (W : WX) (t : TE) : TE := fun σ H Q => t σ H fun y H1 => ∃ a vs, y = .ref a ∧ (SqT K H1 a vs ∨ SqL K H1 a vs) ∧ ∀ x dx, H1 x = none → H1 dx = none → dx ≠ x → toSpA K sp (.ref x :: vs) (upd (upd H1 dx (.own x)) x (.ins C dx [])) (fun v H2 => v = .non ∧ Q (.ref x) H2) (WE W σ)
def items : Dt → Option (List Dt)
  | .lst l => some l
  | .tup l => some l
  | _ => none
def dMakeS (C : Addr) (sp : SpD) (te : TED) : TED := fun WD ρ R => te WD ρ (kD fun d ρ1 => match items d with
  | some ds => mkF C sp ds (fun d => R (.dat d) ρ1) (fun x => WD x ρ1)
  | none => False)
theorem items_ok {d : Dt} {v : V} {ds : List Dt} (h : Rep K S H d v) (e : items d = some ds) : ∃ a vs, v = .ref a ∧ (SqT K H a vs ∨ SqL K H a vs) ∧ Reps K S H ds vs := by
  cases d with
  | lst l => cases e; obtain ⟨a, vs, e, ha, _, r⟩ := h; exact ⟨a, vs, e, .inr (.of ha), r⟩
  | tup l => cases e; obtain ⟨a, vs, e, ha, r⟩ := h.tupT; exact ⟨a, vs, e, .inl ha, r⟩
  | _ => cases e
theorem ed_makeS {k : Nat} {C : Addr} {sp : SpD} {x : Str} {p pos sp_ : Pos} {e : Expr} {t0 : TE} {t : TED} (I : InitA X.prog X.w X.K X.mg X.base C k sp) (hm : X.mg x = some (.ref C)) (hr : Room (k + 1) X.A) (tk : Takes X W) (ha : PED X c W e t0 t) (hg : Gl X x := by rfl)
    (hdb : (x == ("__debug__" : Str)) = false := by decide) (hst : starEach [.Starred e sp_] X.env = [(true, eval e X.env)] := by rfl) : PED X c W (.Call (.Name x p) [.Starred e sp_] [] pos) (tMakeS X.K C sp W t0) (dMakeS C sp t) := ⟨⟨fun pins s σ H Q J h => by
  obtain ⟨f, F, M⟩ := I.ex
  refine wpAny_Call_Name_kw (ld_glob J hg hm ?_ hdb)
  refine PySem.W.callWith_S (h₀ := X.base) J.ok.mod.kin M.kp (thn (ha.pe.run pins s σ H _ J h) fun v s1 ⟨y, H1, I1, ry, a, vs, ey, hxs, q⟩ => ?_) hst
  subst ey
  obtain rfl : v = Value.ref a := ry
  exact star_any I1 hxs fun us s2 I2 rv => ⟨I2.kIn, run_makeS (E := WE W) M F hr (passAt tk σ) I2 rv q⟩⟩, by
  intro WD ρ σ H S Q R hW k hR q
  refine ha.sn.dat hW k (fun d ρ1 v H1 S1 q a rd => ?_) q
  have q : (match items d with | some ds => mkF C sp ds (fun d => R (.dat d) ρ1) (fun x => WD x ρ1) | none => False) := q
  split at q
  · rename_i ds e
    obtain ⟨b, vs, rfl, hs, hd⟩ := items_ok rd e
    exact ⟨b, vs, rfl, hs, fun x dx nx nd ne => make_in hW k a hd hR nx nd ne q⟩
  · exact q.elim⟩
def putD (f : Str) (d : Dt) : List Str → List Dt → List Str × List Dt
  | n :: ns, x :: l => if n = f then (n :: ns, d :: l) else (n :: (putD f d ns l).1, x :: (putD f d ns l).2)
  | _, _ => ([f], [d])
theorem putD_ok {f : Str} {d : Dt} {y : V} (hy : Rep K S H d y) : ∀ {ns : List Str} {l : List Dt} {vs : List V}, ns.length = l.length → Reps K S H l vs → ∃ us, putF f y (ns.zip vs) = (putD f d ns l).1.zip us ∧ Reps K S H (putD f d ns l).2 us ∧ (putD f d ns l).1.length = (putD f d ns l).2.length
  | [], [], vs, _, e => by rw [e]; exact ⟨[y], rfl, ⟨y, [], rfl, hy, rfl⟩, rfl⟩
  | [], _ :: _, _, h, _ => by cases h
  | _ :: _, [], _, h, _ => by cases h
  | n :: ns, x :: l, vs, h, e => by
    obtain ⟨v, r, rfl, h1, h2⟩ := e
    unfold putD
    rw [List.zip_cons_cons]
    unfold putF
    split
    · exact ⟨y :: r, rfl, ⟨y, r, rfl, hy, h2⟩, h⟩
    · obtain ⟨us, e1, e2, e3⟩ := putD_ok hy (ns := ns) (l := l) (by simpa using h) h2
      exact ⟨v :: us, by rw [e1]; rfl, ⟨v, us, rfl, h1, e2⟩, by simpa using e3⟩
def dSelf (i : Nat) (C : Addr) (f : Str) (te : TED) : TSD := fun WD E ρ => te WD ρ (kD fun d ρ1 => match ρ1[i]? with
  | some (.own (.ins C' ns l)) => C' = C ∧ ns.length < 1000 ∧ E.nx (ρ1.set i (.own (.ins C (putD f d ns l).1 (putD f d ns l).2)))
  | _ => False)
theorem sd_self {i : Nat} {C : Addr} {f : Str} {o e : Expr} {te0 : TE} {te : TED} {pos pos' : Pos} (cl : Cls X.K C) (n : NoAttr X.K C f) (ho : PED X c W o (tVar i) (dV i)) (he : PED X c W e te0 te)
    (hs : swapsWith e (some (.Attribute o f pos')) pos.line X.env = pure false := by rfl) : PSD X c W (.Assign [.Attribute o f pos'] e pos) (sFld X.K (tVar i) te0 f) (dSelf i C f te) := ⟨ps_fld ho.pe he.pe hs, fun WD D E ρ σ H S hW hE k q => by
  refine he.sn.dat hW k (fun d ρ1 v H1 S1 q a rd => ?_) q
  split at q
  · rename_i C' ns l e
    obtain ⟨rfl, hlen, q⟩ := q
    obtain ⟨p, e1, ⟨dx, vs, hp, hl, hnl⟩, hns, _⟩ := a.ok.own i _ e
    obtain ⟨us, ez, hus, hul⟩ := putD_ok (f := f) rd hnl hl
    refine ⟨.ref p, e1, p, _, dx, _, rfl, hp, cl, n, ?_, ?_⟩
    · rw [List.length_zip]; omega
    · have mm : ∀ b o, S1 b → H1 b = some o → S1 b ∧ upd H1 p (.ins C' dx (putF f v (ns.zip vs))) b = some o := fun b o s e => ⟨s, (upd_ne (fun z : b = p => hns (by rw [← z]; exact s))).trans e⟩
      have st := a.ok.warm (w' := .ins C' (putD f d ns l).1 (putD f d ns l).2) (o := .ins C' dx (putF f v (ns.zip vs))) e e1 ⟨dx, us, by rw [upd_same, ez], Reps.mono mm _ _ hus, hul⟩
      exact hE.nx _ _ _ S1 st.ok ((a.keep k).trans (st.keep a.ok)) q
  · exact q.elim⟩
end
end D
set_option Elab.async false
set_option linter.all false
set_option maxRecDepth 100000
namespace D
open PySem PySem.Spec PyProof.Rows L2 StX RZ
section
variable {K : PySem.W.Frag} {c : Ct} {W : WX} {X : Cx} {σ : L2.St} {ρ ρ1 ρ' : List En} {H H1 H2 H' : Hp} {S S1 S2 S' : Addr → Prop}
def zipD (l m : List Dt) : List Dt := (l.zip m).map fun p => .tup [p.1, p.2]
theorem zip_get {l m : List Dt} {i : Nat} {d : Dt} (h : (zipD l m)[i]? = some d) : ∃ x y, l[i]? = some x ∧ m[i]? = some y ∧ d = .tup [x, y] := by
  unfold zipD at h
  rw [List.getElem?_map] at h
  cases e : (l.zip m)[i]? with
  | none => rw [e] at h; cases h
  | some p =>
    rw [e] at h; cases h
    rw [List.getElem?_zip_eq_some] at e
    exact ⟨p.1, p.2, e.1, e.2, rfl⟩
theorem zip_len (l m : List Dt) : (zipD l m).length = min l.length m.length := by unfold zipD; rw [List.length_map, List.length_zip]
theorem itz_ok {l m : List Dt} {a b : Addr} {xs ys : List V} (sq : ∀ {H S}, Keep S1 H1 S H → SqL K H a xs ∧ SqL K H b ys) (h1 : Reps K S1 H1 l xs) (h2 : Reps K S1 H1 m ys) : ItD K S1 H1 (Itz K a b) (zipD l m) := by
  refine ⟨fun H S kp => ⟨xs, ys, (sq kp).1, (sq kp).2, ?_⟩, fun i H S li kp => ?_, fun i d H S x H' hi kp y => ?_⟩
  · rw [zip_len, h1.length, h2.length]; omega
  · rw [zip_len] at li
    have l1 : i < xs.length := by rw [h1.length]; omega
    have l2 : i < ys.length := by rw [h2.length]; omega
    exact ⟨xs, ys, xs[i], ys[i], (sq kp).1, (sq kp).2, List.getElem?_eq_getElem l1, List.getElem?_eq_getElem l2⟩
  · obtain ⟨d1, d2, e1, e2, rfl⟩ := zip_get hi
    obtain ⟨v1, q1, r1⟩ := h1.get e1
    obtain ⟨v2, q2, r2⟩ := h2.get e2
    obtain ⟨T, x1, x2, rfl, nT, rfl, y1, y2⟩ := y
    have z1 := y1 xs (sq kp).1
    have z2 := y2 ys (sq kp).2
    rw [q1] at z1; rw [q2] at z2; cases z1; cases z2
    have l := Lay.newF (S := S) (o := .tup [v1, v2]) nT
    exact ⟨_, l, T, [v1, v2], rfl, .inl ⟨upd_same, .inr rfl⟩, v1, [v2], rfl, l.rep (Rep.mono kp _ _ r1), v2, [], rfl, l.rep (Rep.mono kp _ _ r2), rfl⟩
theorem itzT_ok {l m : List Dt} {a b : Addr} {xs ys : List V} (sq : ∀ {H S}, Keep S1 H1 S H → SqT K H a xs ∧ SqT K H b ys) (h1 : Reps K S1 H1 l xs) (h2 : Reps K S1 H1 m ys) : ItD K S1 H1 (ItzT K a b) (zipD l m) := by
  refine ⟨fun H S kp => ⟨xs, ys, (sq kp).1, (sq kp).2, ?_⟩, fun i H S li kp => ?_, fun i d H S x H' hi kp y => ?_⟩
  · rw [zip_len, h1.length, h2.length]; omega
  · rw [zip_len] at li
    have l1 : i < xs.length := by rw [h1.length]; omega
    have l2 : i < ys.length := by rw [h2.length]; omega
    exact ⟨xs, ys, xs[i], ys[i], (sq kp).1, (sq kp).2, List.getElem?_eq_getElem l1, List.getElem?_eq_getElem l2⟩
  · obtain ⟨d1, d2, e1, e2, rfl⟩ := zip_get hi
    obtain ⟨v1, q1, r1⟩ := h1.get e1
    obtain ⟨v2, q2, r2⟩ := h2.get e2
    obtain ⟨T, x1, x2, rfl, nT, rfl, y1, y2⟩ := y
    have z1 := y1 xs (sq kp).1
    have z2 := y2 ys (sq kp).2
    rw [q1] at z1; rw [q2] at z2; cases z1; cases z2
    have l := Lay.newF (S := S) (o := .tup [v1, v2]) nT
    exact ⟨_, l, T, [v1, v2], rfl, .inl ⟨upd_same, .inr rfl⟩, v1, [v2], rfl, l.rep (Rep.mono kp _ _ r1), v2, [], rfl, l.rep (Rep.mono kp _ _ r2), rfl⟩
def dZip (ta : TAD) : TID := fun WD ρ R => ta WD ρ fun rs ρ1 => kDs rs ρ1 fun ds ρ2 => match ds with
  | [.lst l, .lst m] => R (zipD l m) ρ2
  | [.tup l, .tup m] => R (zipD l m) ρ2
  | _ => False
theorem Reps.two {d d' : Dt} {vs : List V} (h : Reps K S H [d, d'] vs) : ∃ v v', vs = [v, v'] ∧ Rep K S H d v ∧ Rep K S H d' v' := by
  obtain ⟨v, r, rfl, h1, v', r', rfl, h2, e⟩ := h
  rw [show r' = [] from e]
  exact ⟨v, v', rfl, h1, h2⟩
theorem id_zip {e e2 : Expr} {ta0 : TA} {ta : TAD} {p pos tpos : Pos} {elts : List Expr} {kk : Nat} (hm : X.mg "zip" = none) (ha : PAD X c W [e, e2] ta0 ta) (hg : Gl X "zip" := by rfl)
    (hs : starEach [e, e2] X.env = (false, eval e X.env) :: starEach [e2] X.env := by rfl) (hpl : (backTo pos (starEach [e2] X.env)).any (·.1) = false := by rfl) : PID X c W (.Tuple elts kk tpos) (.Call (.Name "zip" p) [e, e2] [] pos) (iZipA X.K ta0) (dZip ta) := ⟨pi_zipA hg hm ha.pa hs hpl, fun WD ρ σ H S Q R hW k hR q => by
  refine ha.sn WD ρ σ H S _ _ hW k (fun rs ρ1 vs H1 S1 q a rr => ?_) q
  refine kDs_ok (Q := fun vs H1 => ∃ a b xs ys, vs = [.ref a, .ref b] ∧ ((SqL X.K H1 a xs ∧ SqL X.K H1 b ys ∧ Q (Itz X.K a b) H1) ∨ (SqT X.K H1 a xs ∧ SqT X.K H1 b ys ∧ Q (ItzT X.K a b) H1))) k a rr (fun ds ρ2 vs S2 q a2 _ hd => ?_) q
  split at q
  · obtain ⟨v, v', rfl, h1, h2⟩ := hd.two
    obtain ⟨x, xs, rfl, hx, sx, rx⟩ := h1
    obtain ⟨y, ys, rfl, hy, sy, ry⟩ := h2
    exact ⟨x, y, xs, ys, rfl, .inl ⟨.of hx, .of hy, hR _ _ _ _ S2 q a2 (itz_ok (fun kp => ⟨.of (kp _ _ sx hx).2, .of (kp _ _ sy hy).2⟩) rx ry)⟩⟩
  · obtain ⟨v, v', rfl, h1, h2⟩ := hd.two
    obtain ⟨x, xs, rfl, hx, rx⟩ := h1
    obtain ⟨y, ys, rfl, hy, ry⟩ := h2
    have sq : ∀ {b : Addr} {us : List V}, ((H1 b = some (.tup us) ∧ S2 b) ∨ KTup X.K b us) → ∀ {H S}, Keep S2 H1 S H → SqT X.K H b us := fun {b us} hb {H S} kp => hb.elim (fun z => .inl (.inl (kp _ _ z.2 z.1).2)) .inr
    exact ⟨x, y, xs, ys, rfl, .inr ⟨sq hx .refl, sq hy .refl, hR _ _ _ _ S2 q a2 (itzT_ok (fun kp => ⟨sq hx kp, sq hy kp⟩) rx ry)⟩⟩
  · exact q.elim⟩
def tyN : Dt → Option String
  | .int _ => some "int"
  | .bl _ => some "bool"
  | .str _ => some "str"
  | .non => some "NoneType"
  | .lst _ => some "list"
  | .tup _ => some "tuple"
  | _ => none
def kitD (a b : String) : Option Bool := if a = b then some true else if (a, b) ∈ [("int", "str"), ("int", "bool"), ("str", "int"), ("str", "bool"), ("list", "int"), ("list", "str"), ("list", "bool"), ("list", "tuple"), ("tuple", "int"), ("tuple", "str"), ("tuple", "bool"), ("tuple", "list"), ("NoneType", "int"), ("NoneType", "str"), ("NoneType", "bool"), ("int", "list"), ("int", "tuple"), ("str", "list"), ("str", "tuple")] then some false else if (a, b) = ("bool", "int") then some true else none
theorem kitD_ok {a b : String} {r : Bool} (h : kitD a b = some r) : kitB a b = some r := by
  unfold kitD at h
  split at h
  · rename_i e; subst e; cases h; unfold kitB; rw [if_pos (by simp)]
  · split at h
    · rename_i e; cases h
      simp only [List.mem_cons, Prod.mk.injEq, List.not_mem_nil, or_false] at e
      rcases e with ⟨rfl, rfl⟩ | ⟨rfl, rfl⟩ | ⟨rfl, rfl⟩ | ⟨rfl, rfl⟩ | ⟨rfl, rfl⟩ | ⟨rfl, rfl⟩ | ⟨rfl, rfl⟩ | ⟨rfl, rfl⟩ | ⟨rfl, rfl⟩ | ⟨rfl, rfl⟩ | ⟨rfl, rfl⟩ | ⟨rfl, rfl⟩ | ⟨rfl, rfl⟩ | ⟨rfl, rfl⟩ | ⟨rfl, rfl⟩ | ⟨rfl, rfl⟩ | ⟨rfl, rfl⟩ | ⟨rfl, rfl⟩ | ⟨rfl, rfl⟩ <;> decide +kernel
    · split at h
      · rename_i e; cases h; cases e; decide +kernel
      · cases h
end
end D
set_option Elab.async false
set_option linter.all false
set_option maxRecDepth 100000
namespace D
open PySem PySem.Spec PyProof.Rows L2 StX RZ
section
variable {K : PySem.W.Frag} {c : Ct} {W : WX} {X : Cx} {σ : L2.St} {ρ ρ1 ρ' : List En} {H H1 H2 H' : Hp} {S S1 S2 S' : Addr → Prop}
theorem tyN_ok {d : Dt} {v : V} {a : String} (h : RepP K S H d v) (e : tyN d = some a) : TyX K H v (.type a) := by
  cases d with
  | int i => cases e; rw [h.int]; exact .base (.int _)
  | bl i => cases e; rw [h.bl]; exact .base (.bl _)
  | str i => cases e; rw [h.str]; exact .base (.str _)
  | non => cases e; rw [h.non]; exact .base .non
  | lst l => cases e; obtain ⟨a, vs, rfl, ha, _⟩ := h.lst; exact .base (.lst ha)
  | tup l =>
    cases e
    obtain ⟨a, vs, rfl, ha, _⟩ := h.tupR
    rcases ha with ⟨ha, _⟩ | ⟨o, its, n, k1, k2, _⟩
    · exact .base (.tup ha)
    · exact .kTuple k1 k2
  | _ => cases e
def fIsi : FL := fun ds R => match ds with
  | [x, .val (.ty T)] => match (tyN x).bind (kitD · T) with
    | some b => R (.dat (.bl b))
    | none => False
  | _ => False
theorem cd_isi : ClD K (rIsi K) fIsi := fun S H xs ds Q R h hw q => by
  unfold fIsi at q
  split at q
  · rename_i x T
    obtain ⟨v, v', rfl, h1, h2⟩ := h.two
    rw [h2.val]
    split at q
    · rename_i b e
      cases et : tyN x with
      | none => rw [et] at e; cases e
      | some a =>
        rw [et] at e
        exact ⟨v, _, _, _, b, rfl, .ty _, tyN_ok h1 et, kit_ty (kitD_ok e), hw.dat q rfl⟩
    · exact q.elim
  · exact q.elim
structure IsiC (K : PySem.W.Frag) (C : Addr) : Prop where
  cl : Cls K C
  ha : PySem.W.findIn K (.ref C) "__class__" = some (some (.builtin "object.__class__"))
  hn : PySem.W.specialIn K (.builtin "object.__class__") "__get__" = some (some (.builtin "getset_descriptor.__get__"))
  ht : PySem.W.takesIn K (.builtin "object.__class__") = some true
  mr : PySem.W.mroIn K C (.type "object") = some true
  ki : PySem.W.kitOne K (.ref C) (.ref C) = some true
def fIsiC (C : Addr) : FL := fun ds R => match ds with
  | [.obj C' _ _, .val (.ref C2)] => C' = C ∧ C2 = C ∧ R (.dat (.bl true))
  | _ => False
theorem cd_isiC {C : Addr} (I : IsiC K C) : ClD K (rIsi K) (fIsiC C) := fun S H xs ds Q R h hw q => by
  unfold fIsiC at q
  split at q
  · obtain ⟨v, v', rfl, h1, h2⟩ := h.two
    obtain ⟨rfl, rfl, q⟩ := q
    rw [h2.val]
    obtain ⟨a, dx, vs, rfl, ha, _⟩ := h1.obj
    exact ⟨_, _, _, _, true, rfl, .own _, .base (.ins ha I.cl I.ha I.hn I.ht I.mr), I.ki, hw.dat q rfl⟩
  · exact q.elim
def kitAnyD (a : String) : List String → Option Bool
  | [] => some false
  | T :: r => match kitD a T with
    | some true => some true
    | some false => kitAnyD a r
    | none => none
theorem kitAnyD_ok {a : String} : ∀ {Ts : List String} {b : Bool}, kitAnyD a Ts = some b → PySem.W.kitAny K (.type a) (Ts.map Value.type) = some b
  | [], b, h => by cases h; rfl
  | T :: r, b, h => by
    unfold kitAnyD at h
    split at h
    · rename_i e; cases h; exact kitAny_cons (kit_ty (kitD_ok e)) (fun z => by cases z) (fun _ => rfl)
    · rename_i e; exact kitAny_cons (kit_ty (kitD_ok e)) (fun _ => kitAnyD_ok h) (fun z => by cases z)
    · cases h
def dIsiT (Ts : List String) (te : TED) : TED := fun WD ρ R => te WD ρ (kP fun d ρ1 => match (tyN d).bind (kitAnyD · Ts) with
  | some b => R (.dat (.bl b)) ρ1
  | none => False)
theorem clsV_tys : ∀ Ts : List String, Paired ClsV (Ts.map V.ty) (Ts.map Value.type)
  | [] => .nil
  | T :: r => .cons (.ty T) (clsV_tys r)
def tTys (Ts : List String) : TA := fun _ H Q => Q (Ts.map V.ty) H
theorem TyX.up {v : V} {t : Value} {a : String} {d : Dt} (l : Lay H S H' S') (h : RepP K S H d v) (e : tyN d = some a) : TyX K H' v (.type a) := tyN_ok (RepP.up l h) e
theorem ed_isiT {e : Expr} {es : List Expr} {te0 : TE} {te : TED} {Ts : List String} {p pos : Pos} {m : Nat} {tp : Pos} (he : PED X c W e te0 te) (ht : PA X es (tTys Ts)) (hl : Ts.length ≤ sizeLine) (hm : X.mg "isinstance" = none) (hv : bootBuiltins "isinstance" = some (.builtin "isinstance") := by decide +kernel) (hg : Gl X "isinstance" := by rfl)
    (hs1 : starEach [e, .Tuple es m tp] X.env = (false, eval e X.env) :: starEach [.Tuple es m tp] X.env := by rfl) (hs2 : starEach [.Tuple es m tp] X.env = (false, eval (.Tuple es m tp) X.env) :: starEach [] X.env := by rfl) (hpl : (backTo pos (starEach [.Tuple es m tp] X.env)).any (·.1) = false := by rfl) :
    PED X c W (.Call (.Name "isinstance" p) [e, .Tuple es m tp] [] pos) (tCB (rIsiT X.K) (tCons te0 (tCons (tTup (tTys Ts)) tNil))) (dIsiT Ts te) := ⟨pe_callB call_isiT hg hm hv (pa_cons he.pe (pa_cons (pe_tup ht) pa_nil hs2) hs1) (by decide) (by decide) hs1 hpl, by
  intro WD ρ σ H S Q R hW k hR q
  refine he.sn WD ρ σ H S _ _ hW k (fun r ρ1 v H1 S1 q a rr => ?_) q
  refine ⟨by rw [List.length_map]; exact hl, fun t nt => ?_⟩
  refine kP_ok (Q := fun v H1 => H1 t = none → rIsiT X.K [v, .ref t] (upd H1 t (.tup (Ts.map V.ty))) Q) k a rr (fun d ρ2 v H2 S2 q a2 rd nt => ?_) q nt
  have q : (match (tyN d).bind (kitAnyD · Ts) with | some b => R (.dat (.bl b)) ρ2 | none => False) := q
  split at q
  · rename_i b e
    cases et : tyN d with
    | none => rw [et] at e; cases e
    | some y =>
      rw [et] at e
      have l : Lay H2 S2 (upd H2 t (.tup (Ts.map V.ty))) S2 := .new nt
      exact ⟨v, t, _, _, _, b, rfl, upd_same, clsV_tys Ts, tyN_ok (RepP.up l rd) et, kitAnyD_ok e, hR _ _ _ _ S2 q (a2.trans (.ofLay a2.ok l)) rfl⟩
  · exact q.elim⟩
theorem TruR.or {X : Cx} {r r' : V → Hp → (Bool → Hp → Prop) → Prop} (h : TruR X r) (h' : TruR X r') : TruR X (fun x H Q => r x H Q ∨ r' x H Q) := fun pins s σ H x v Q I rx q => q.elim (h pins s σ H x v Q I rx) (h' pins s σ H x v Q I rx)
def rTruU (K : PySem.W.Frag) (tbl : OTab) : V → Hp → (Bool → Hp → Prop) → Prop := fun x H Q => (∃ k, TruV K x H k ∧ Q k H) ∨ rOwnB K tbl x H Q
def dTruO (tbl : OTab) (t : TED) : TTD := fun WD ρ R => t WD ρ fun r ρ1 => if isO (pk r ρ1) = true then kD (fun d ρ2 => own tbl "__bool__" (fun sp => sp [.dat d] (fun r _ => match r with | .dat (.bl b) => R b ρ2 | _ => False) (fun _ _ => False)) d) r ρ1 else kP (fun d ρ2 => tru d fun b => R b ρ2) r ρ1
theorem td_truO {e : Expr} {t0 : TE} {t : TED} {tbl : OTab} {j : Nat} (T : TabM X.prog X.w X.K X.mg X.base "__bool__" j tbl) (hr : Room j X.A) (h : PED X c W e t0 t) (he : ∀ whole, isTrue e X.env whole = (do let v ← whole; standAt e.pos; holding [v] (truthy v)) := by intro _; rfl) : PTD X c W e (fun σ H Q => t0 σ H fun x H1 => rTruU X.K tbl x H1 Q) (dTruO tbl t) := ⟨pt_truthR h.pe (TruR.or L2.tru_ok (tru_T T hr)) he, by
  intro WD ρ σ H S Q R hW k hR q
  refine h.sn WD ρ σ H S _ _ hW k (fun r1 ρ1 v1 H1 S1 q a rr => ?_) q
  split at q
  · refine .inr (kD_ok (Q := fun v H => rOwnB X.K tbl v H Q) k a rr (fun d ρ2 v H2 S2 q a2 rd => ?_) q)
    obtain ⟨n, C, ns, l, sp, rfl, hm, ht, q⟩ := own_elim q
    have rd' := rd
    obtain ⟨p, dx, vs, rfl, hp, sp', hl, _⟩ := rd
    refine ⟨n, C, sp, p, dx, _, ht, rfl, hp, spA0 (R := fun r ρ' => match r with | .dat (.bl b) => R b ρ' | _ => False) (ds := [_]) k a2 ⟨_, _, rfl, rd', rfl⟩ (fun r ρ' v H' S' q s rc => ?_) q⟩
    split at q
    · have rc : v = .bl _ := rc
      exact ⟨_, rc, hR _ _ _ _ q s⟩
    · exact q.elim
  · refine .inl (kP_ok (Q := fun v H => ∃ k, TruV X.K v H k ∧ Q k H) k a rr (fun d ρ2 v H2 S2 q a2 rd => ?_) q)
    obtain ⟨b, h1, h2⟩ := tru_ok rd q
    exact ⟨b, h1, hR _ _ _ _ h2 a2⟩⟩
def dOCall (tbl : OTab) (tf : TED) (ta : TAD) : TED := fun WD ρ R => tf WD ρ (kD fun d ρ1 => own tbl "__call__" (fun sp => ta WD ρ1 fun rs ρ2 => kDs rs ρ2 fun ds ρ3 => sp ((d :: ds).map .dat) (fun r _ => R r ρ3) (fun _ _ => False)) d)
end
end D
set_option Elab.async false
set_option linter.all false
set_option maxRecDepth 100000
namespace D
open PySem PySem.Spec PyProof.Rows L2 StX RZ
section
variable {K : PySem.W.Frag} {c : Ct} {W : WX} {X : Cx} {σ : L2.St} {ρ ρ1 ρ' : List En} {H H1 H2 H' : Hp} {S S1 S2 S' : Addr → Prop}
def flD : Dt → Option V
  | .non => some .non
  | .bl b => some (.bl b)
  | .int i => some (.int i)
  | .str x => some (.str x)
  | _ => none
def flsD : List Dt → Option (List V)
  | [] => some []
  | d :: l => match flD d, flsD l with
    | some v, some vs => some (v :: vs)
    | _, _ => none
theorem flD_ok {d : Dt} {v u : V} (h : RepP K S H d v) (e : flD d = some u) : v = u ∧ flatV u = true := by
  cases d with
  | int i => cases e; exact ⟨h.int, rfl⟩
  | bl i => cases e; exact ⟨h.bl, rfl⟩
  | str i => cases e; exact ⟨h.str, rfl⟩
  | non => cases e; exact ⟨h.non, rfl⟩
  | _ => cases e
theorem flsD_ok : ∀ {l : List Dt} {vs us : List V}, Reps K S H l vs → flsD l = some us → vs = us ∧ us.all flatV = true
  | [], vs, us, h, e => by cases e; exact ⟨h, rfl⟩
  | d :: l, vs, us, h, e => by
    obtain ⟨v, r, rfl, h1, h2⟩ := h
    unfold flsD at e
    split at e
    · rename_i x xs e1 e2
      cases e
      obtain ⟨rfl, q1⟩ := flD_ok (.inl h1) e1
      obtain ⟨rfl, q2⟩ := flsD_ok h2 e2
      exact ⟨rfl, by simp [q1, q2]⟩
    · cases e
def fInG (neg : Bool) : F2 := fun a b R => match b with
  | .tup l => match flD a, flsD l with
    | some v, some vs => R (.dat (.bl (if neg then !inV v vs else inV v vs)))
    | _, _ => False
  | .lst l => match toPy a, toPys l with
    | some p, some qs => SeqAt.shaped p = true ∧ SeqAt.shaped (.list qs) = true ∧ R (.dat (.bl (if neg then !(qs.any fun z => PyData.eqv z p) else qs.any fun z => PyData.eqv z p)))
    | _, _ => False
  | _ => False
theorem dp_list {l : List Dt} {v : V} {qs : List PyData} (h : RepP K S H (.lst l) v) (e : toPys l = some qs) : Dp K H v (.list qs) := h.dp (show toPy (.lst l) = _ by unfold toPy; rw [e])
theorem od_in : OpD K (fun x y H Q => rIn K false x y H Q ∨ rInD K x y H Q) (fInG false) := fun S H x y a b Q R ha hb hw q => by
  cases b with
  | tup l =>
    have q : (match flD a, flsD l with | some v, some vs => R (.dat (.bl (inV v vs))) | _, _ => False) := q
    split at q
    · rename_i v vs e1 e2
      obtain ⟨rfl, q1⟩ := flD_ok ha e1
      obtain ⟨p, us, rfl, hp, hl⟩ := hb.tup
      obtain ⟨rfl, q2⟩ := flsD_ok hl e2
      exact .inl ⟨p, _, rfl, .inr hp, q1, q2, hw.dat q rfl⟩
    · exact q.elim
  | lst l =>
    have q : (match toPy a, toPys l with | some p, some qs => SeqAt.shaped p = true ∧ SeqAt.shaped (.list qs) = true ∧ R (.dat (.bl (qs.any fun z => PyData.eqv z p))) | _, _ => False) := q
    split at q
    · rename_i p qs e1 e2
      exact .inr ⟨p, qs, ha.dp e1, dp_list hb e2, q.1, q.2.1, hw.dat q.2.2 rfl⟩
    · exact q.elim
  | _ => exact q.elim
theorem CallR.or {X : Cx} {f : Value} {r r' : List V → Hp → VK → Prop} (h : CallR X f r) (h' : CallR X f r') : CallR X f (fun xs H Q => r xs H Q ∨ r' xs H Q) := fun pins s σ H xs us Q I rx q => q.elim (h pins s σ H xs us Q I rx) (h' pins s σ H xs us Q I rx)
def fAnyU : FL := fun ds R => match ds with
  | [.lst l] => match blsD l with
    | some ns => R (.dat (.bl (ns.any id)))
    | none => False
  | [.tup l] => match intsD l with
    | some ns => R (.dat (.bl (ns.any (· != 0))))
    | none => False
  | _ => False
theorem cd_anyU : ClD K (fun xs H Q => rAny K xs H Q ∨ G.rAnyT K xs H Q) fAnyU := fun S H xs ds Q R h hw q => by
  unfold fAnyU at q
  split at q
  · exact .inl (cd_any S H xs _ Q R h hw q)
  · obtain ⟨v, rfl, h1⟩ := h.one
    obtain ⟨a, vs, rfl, ha, hl⟩ := h1.tup
    split at q
    · rename_i ns e
      rw [ints_eq e] at hl
      rw [Reps.ints.mp hl] at ha
      exact .inr ⟨a, ns, rfl, ha, hw.dat q rfl⟩
    · exact q.elim
  · exact q.elim
def rowDt (c : List Int) : Dt := .tup (c.map .int)
def rowOf : Dt → Option (List Int)
  | .tup l => intsD l
  | _ => none
theorem rowOf_eq {d : Dt} {c : List Int} (h : rowOf d = some c) : d = rowDt c := by
  cases d with
  | tup l => rw [ints_eq h]; rfl
  | _ => cases h
theorem Rep.row {c : List Int} {v : V} (h : Rep K S H (rowDt c) v) : ∃ t, v = .ref t ∧ SqT K H t (c.map V.int) := by
  obtain ⟨a, vs, e, h1, h2⟩ := Rep.tupT h
  rw [Reps.ints.mp h2] at h1
  exact ⟨a, e, h1⟩
end
end D
set_option Elab.async false
set_option linter.all false
set_option maxRecDepth 100000
namespace D
open PySem PySem.Spec PyProof.Rows L2 StX RZ
theorem r64 {k : Nat} {A : Around} (r : Room k A) : A.units + 64 < cLine := by have := r.un; omega
theorem r65 {k : Nat} {A : Around} (r : Room k A) : A.units + 65 < cLine := by have := r.un; omega
def GlobD (K : PySem.W.Frag) (mg : Str → Option Value) (x : Str) (d : Dt) : Prop := ∃ v u, mg x = some u ∧ RelV v u ∧ ∀ S H, Rep K S H d v
section
variable {K : PySem.W.Frag} {c : Ct} {W : WX} {X : Cx} {σ : L2.St} {ρ ρ1 ρ' : List En} {H H1 H2 H' : Hp} {S S1 S2 S' : Addr → Prop}
theorem PropA.mono {P : Program} {w : World} {mg : Str → Option Value} {base : Heap} {C : Addr} {m : Str} {j k : Nat} {sp : SpD} (h : PropA P w K mg base C m j sp) (l : j ≤ k) : PropA P w K mg base C m k sp := by
  obtain ⟨p, g, fd, F, q⟩ := h.ex
  exact ⟨p, g, fd, F.mono l, q⟩
def iSeqU (K : PySem.W.Frag) (tl : TE) : TI := fun σ H R => tl σ H fun x H1 => ∃ a, x = .ref a ∧ (((∃ xs, SqL K H1 a xs) ∧ R (Itl K a) H1) ∨ ((∃ xs, SqT K H1 a xs) ∧ R (Itt K a) H1))
theorem pi_sq {e tg : Expr} {tl : TE} (he : PE X e tl) : PI X tg e (iSeqU X.K tl) := ⟨fun ps s0 sl h0 R J hh => by
  refine thn (he.run ps s0 sl h0 _ J hh) fun v st ⟨x, hx, J1, rx, b, eb, qb⟩ => ?_
  subst eb
  cases rx
  have fresh := J1.hok.fresh (Nat.le_refl _)
  have own : ∀ a, a ∈ [st.heap.objs.size] → FpOk X ps hx a := fun a ma => by
    rw [List.mem_singleton] at ma
    subst ma
    exact J1.fpOk (Nat.le_refl _) fresh
  rcases qb with ⟨⟨xs, hl⟩, qq⟩ | ⟨⟨xs, hl⟩, qq⟩
  · obtain ⟨its, _, isl, _⟩ := J1.list hl
    exact wpAny_pyIter_list isl.isList ⟨st.heap.objs.size, [st.heap.objs.size], _, _, hx, rfl, J1.kept (t' := st.toks) fun _ _ z => Heap.get?_push_of_some _ z, turn_list b _, ⟨_, Heap.get?_push_size _ rfl, rfl, rfl⟩, own, qq⟩
  · obtain ⟨its, _, ist, _⟩ := J1.tuple hl
    exact wpAny_pyIter_tuple (show st.heap.IsTuple b its.toArray from ist) ⟨st.heap.objs.size, [st.heap.objs.size], _, _, hx, rfl, J1.kept (t' := st.toks) fun _ _ z => Heap.get?_push_of_some _ z, turn_tuple b _, ⟨_, Heap.get?_push_size _ rfl, rfl, rfl⟩, own, qq⟩⟩
def dItS (te : TED) : TID := fun WD ρ R => te WD ρ (kD fun d ρ' => match items d with | some l => R l ρ' | none => False)
theorem itl_ok {l : List Dt} {b : Addr} {vs : List V} (hb : H1 b = some (.lst vs)) (sb : S1 b) (hl : Reps K S1 H1 l vs) : ItD K S1 H1 (Itl K b) l := by
  refine ⟨fun H S kp => ⟨vs, .of (kp _ _ sb hb).2, by rw [hl.length]; exact Nat.le_refl _⟩, fun i H S li kp => ?_, fun i d H S x H' hi kp y => ?_⟩
  · have : i < vs.length := by rw [hl.length]; exact li
    exact ⟨vs, vs[i], .of (kp _ _ sb hb).2, List.getElem?_eq_getElem this⟩
  · obtain ⟨eH, y⟩ := y
    subst eH
    obtain ⟨v, e1, e2⟩ := hl.get hi
    have := y vs (.of (kp _ _ sb hb).2)
    rw [e1] at this; cases this
    exact ⟨S, .refl, Rep.mono kp _ _ e2⟩
theorem itt_ok {l : List Dt} {b : Addr} {vs : List V} (sq : ∀ {H S}, Keep S1 H1 S H → SqT K H b vs) (hl : Reps K S1 H1 l vs) : ItD K S1 H1 (Itt K b) l := by
  refine ⟨fun H S kp => ⟨vs, sq kp, by rw [hl.length]; exact Nat.le_refl _⟩, fun i H S li kp => ?_, fun i d H S x H' hi kp y => ?_⟩
  · have : i < vs.length := by rw [hl.length]; exact li
    exact ⟨vs, vs[i], sq kp, List.getElem?_eq_getElem this⟩
  · obtain ⟨eH, y⟩ := y
    subst eH
    obtain ⟨v, e1, e2⟩ := hl.get hi
    have := y vs (sq kp)
    rw [e1] at this; cases this
    exact ⟨S, .refl, Rep.mono kp _ _ e2⟩
theorem id_seq {e tg : Expr} {te0 : TE} {te : TED} (he : PED X c W e te0 te) : PID X c W tg e (iSeqU X.K te0) (dItS te) := ⟨pi_sq he.pe, fun WD ρ σ H S Q R hW k hR q => by
  refine he.sn.dat hW k (fun d ρ1 v H1 S1 q a rr => ?_) q
  have q : (match items d with | some l => R l ρ1 | none => False) := q
  cases d with
  | lst l =>
    obtain ⟨b, vs, rfl, hb, sb, hl⟩ := rr
    exact ⟨b, rfl, .inl ⟨⟨vs, .of hb⟩, hR l ρ1 _ H1 S1 q a (itl_ok hb sb hl)⟩⟩
  | tup l =>
    obtain ⟨b, vs, rfl, hb, hl⟩ := rr
    have sq : ∀ {H S}, Keep S1 H1 S H → SqT X.K H b vs := fun {H S} kp => hb.elim (fun z => .inl (.inl (kp _ _ z.2 z.1).2)) .inr
    exact ⟨b, rfl, .inr ⟨⟨vs, sq .refl⟩, hR l ρ1 _ H1 S1 q a (itt_ok sq hl)⟩⟩
  | _ => exact q.elim⟩
def fLtR : F2 := fun a b R => match rowOf a, rowOf b with
  | some ns, some ms => R (.dat (.bl (HT.lexLt ns ms)))
  | _, _ => False
theorem op_ltR {k : Nat} (hr : Room k X.A) : OpR X (compareOp .Lt) (rLtT X.K) := op_ltT hr.units0
theorem od_ltR : OpD K (rLtT K) fLtR := fun S H x y a b Q R ha hb hw q => by
  unfold fLtR at q
  split at q
  · rename_i ns ms e1 e2
    rw [rowOf_eq e1] at ha
    rw [rowOf_eq e2] at hb
    obtain ⟨p, us, rfl, hp, hl⟩ := RepP.tup ha
    obtain ⟨p', us', rfl, hp', hl'⟩ := RepP.tup hb
    rw [Reps.ints.mp hl] at hp
    rw [Reps.ints.mp hl'] at hp'
    exact ⟨p, p', ns, ms, rfl, rfl, hp, hp', hw.dat q rfl⟩
  · exact q.elim
def dParF (is : List Nat) (ta : TAD) : TSD := fun WD E ρ => ta WD ρ fun rs ρ1 => kDs rs ρ1 fun ds ρ2 => match is, ds with
  | [i, j], [a, b] => E.nx ((ρ2.set i (.dat a)).set j (.dat b))
  | _, _ => False
theorem sd_parF {i j : Nat} {x y : Str} {a b : Expr} {ta0 : TA} {ta : TAD} {px py pt pos : Pos} {kt k2 pt2} (hc : X.calm = true) (hN : X.N.Nodup) (hi : X.N[i]? = some x) (hj : X.N[j]? = some y) (hij : i ≠ j)
    (hx : X.env.scope.names.lookup x = some .local) (hy : X.env.scope.names.lookup y = some .local) (ha : PAD X c W [a, b] ta0 ta)
    (hw : swappedStores [.Tuple [.Name x px, .Name y py] kt pt] (.Tuple [a, b] k2 pt2) X.env = pure (some [x, y]))
    (hs : swapsWithSole [.Tuple [.Name x px, .Name y py] kt pt] (.Tuple [a, b] k2 pt2) pos.line X.env = pure false := by rfl) :
    PSD X c W (.Assign [.Tuple [.Name x px, .Name y py] kt pt] (.Tuple [a, b] k2 pt2) pos) (tPar i j ta0) (dParF [i, j] ta) := ⟨ps_par hc hN hi hj hij hx hy ha.pa hw hs, fun WD D E ρ σ H S hW hE k q => by
  refine ha.sn WD ρ σ H S _ _ hW k (fun rs ρ1 vs H1 S1 q a rr => ?_) q
  refine kDs_ok (Q := fun vs H1 => ∃ v w, vs = [v, w] ∧ D.nx ((σ.set i (some v)).set j (some w)) H1) k a rr (fun ds ρ2 vs S2 q a2 _ hd => ?_) q
  match ds, q, hd with
  | [d, d'], q, hd =>
    obtain ⟨v, v', rfl, h1, h2⟩ := hd.two
    exact ⟨v, v', rfl, hE.nx _ _ _ S2 ((a2.ok.putD h1).putD h2) (a2.keep k) q⟩⟩
end
section
variable {P : Program} {w : World} {K : PySem.W.Frag} {mg : Str → Option Value} {base : Heap} {N : List Str} {qual : Str} {scope : Scope} {f : Addr} {cd : Value} {A : Around} {outer : List Env} {s : Shared} {H : Hp} {E : XK}
theorem takesC : Takes (cxOf (L2.CX P w) P w K mg base N qual scope f cd A outer s H E) (fun cls d _ H' => E cls d H') := takes_of rfl rfl rfl rfl
theorem passesC : PassesOwn (model P w) (cxOf (L2.CX P w) P w K mg base N qual scope f cd A outer s H E).A (cxOf (L2.CX P w) P w K mg base N qual scope f cd A outer s H E).env (cxOf (L2.CX P w) P w K mg base N qual scope f cd A outer s H E).xe := passes_of rfl
end
end D
set_option Elab.async false
set_option linter.all false
set_option maxRecDepth 100000
namespace D
open PySem PySem.Spec PyProof.Rows L2 StX RZ
def liftE (K : PySem.W.Frag) (c : Ct) (W : WX) (t : TED) : TE := fun σ H Q => ∃ WD ρ S R, RelW K c W WD ∧ Ok K c ρ σ H S ∧ (∀ r ρ' v H' S', R r ρ' → Step K c σ ρ H S ρ' H' S' → RepR K σ H H' S' r v → Q v H') ∧ t WD ρ R
def liftT (K : PySem.W.Frag) (c : Ct) (W : WX) (t : TTD) : TT := fun σ H Q => ∃ WD ρ S R, RelW K c W WD ∧ Ok K c ρ σ H S ∧ (∀ b ρ' H' S', R b ρ' → Step K c σ ρ H S ρ' H' S' → Q b H') ∧ t WD ρ R
def liftG (K : PySem.W.Frag) (c : Ct) (vs : List Nat) (g : TGC) : TG := fun v σ H Q => ∃ d ρ S R, Ok K c ρ σ H S ∧ Rep K S H d v ∧ (∀ ρ' σ', R ρ' → Ok K c ρ' σ' H S → L2.wipe σ' vs = L2.wipe σ vs → wipeD ρ' vs = wipeD ρ vs → (∀ i ∈ vs, ∀ w, ρ[i]? ≠ some (.own w)) → (∀ i ∈ vs, ∀ w, ρ'[i]? ≠ some (.own w)) → Q σ' H) ∧ (∀ i ∈ vs, ∀ w, ρ[i]? ≠ some (.own w)) ∧ g d ρ R
section
variable {c : Ct} {W : WX} {X : Cx} {e tg iter : Expr} {ifs : List Expr} {scope : Scope} {own : List (Str × Nat)} {wi0 : TI} {wi : TID} {g : TGC} {tt : TTD} {te : TED} {pos : Pos}
theorem sn_liftE {K : PySem.W.Frag} : SndE K c W (liftE K c W te) te := fun WD ρ σ H S Q R hW k hR q => ⟨WD, ρ, S, R, hW, k, hR, q⟩
theorem sn_liftT {K : PySem.W.Frag} : SndT K c W (liftT K c W tt) tt := fun WD ρ σ H S Q R hW k hR q => ⟨WD, ρ, S, R, hW, k, hR, q⟩
theorem sn_liftG {K : PySem.W.Frag} {vs : List Nat} : SndGc K c vs (liftG K c vs g) g := fun d ρ σ H S v Q R k r hR hn q => ⟨d, ρ, S, R, k, r, hR, hn, q⟩
theorem pe_liftE (h : ∃ t0, PED X c W e t0 te) : PE X e (liftE X.K c W te) := by
  obtain ⟨t0, h⟩ := h
  exact ⟨fun pins s σ H Q I ⟨WD, ρ, S, R, hW, k, hR, q⟩ => h.pe.run pins s σ H Q I (h.sn WD ρ σ H S Q R hW k hR q)⟩
theorem pt_liftT (h : ∃ t0, PTsD X c W ifs t0 tt) : PTs X ifs (liftT X.K c W tt) := by
  obtain ⟨t0, h⟩ := h
  exact ⟨fun pins s σ H Q I ⟨WD, ρ, S, R, hW, k, hR, q⟩ => h.pt.run pins s σ H Q I (h.sn WD ρ σ H S Q R hW k hR q)⟩
theorem pg_liftG {vs : List Nat} (h : ∃ g0, PGC X c vs tg g0 g) : PG X tg (liftG X.K c vs g) := by
  obtain ⟨g0, h⟩ := h
  exact ⟨fun pins s σ H v u Q I ru ⟨d, ρ, S, R, k, r, hR, hn, q⟩ => h.pg.run pins s σ H v u Q I ru (h.sn d ρ σ H S v Q R k r hR hn q)⟩
theorem ed_lcL (hc : X.calm = true) (hN : X.N.Nodup) (hi : PID X c W tg iter wi0 wi) (ok : BlkOk X.N X.env.scope scope own)
    (hg : ∀ (s : Shared) (H : Hp) (C : Addr) (cl : List (Str × Addr)) (fp : List Addr), ∃ g0, PGC (X.blk s H scope (compEnvC scope cl C X.env) fp) c (own.map (·.2)) tg g0 g) (ht : ∀ (s : Shared) (H : Hp) (C : Addr) (cl : List (Str × Addr)) (fp : List Addr), ∃ tt0, PTsD (X.blk s H scope (compEnvC scope cl C X.env) fp) c WN ifs tt0 tt)
    (he : ∀ (s : Shared) (H : Hp) (C : Addr) (cl : List (Str × Addr)) (fp : List Addr), ∃ te0, PED (X.blk s H scope (compEnvC scope cl C X.env) fp) c WN e te0 te) (hs : ∀ x, foldedSetIterable iter X.env x = pure x := by intro _; rfl) :
    PED X c W (.ListComp e [⟨tg, iter, ifs, 0⟩] scope pos) (tLc wi0 (liftG X.K c (own.map (·.2)) g) (liftT X.K c WN tt) (liftE X.K c WN te) (own.map (·.2))) (dLc wi g tt te (own.map (·.2))) :=
  ⟨pe_lc hc hN hi.pi ok (fun s H C cl fp => pg_liftG (hg s H C cl fp)) (fun s H C cl fp => pt_liftT (ht s H C cl fp)) (fun s H C cl fp => pe_liftE (he s H C cl fp)) hs, snd_lc (K := X.K) hi.sn sn_liftG sn_liftT sn_liftE⟩
theorem sd_setLcL {i : Nat} {y : Str} {py spos : Pos} (hc : X.calm = true) (hN : X.N.Nodup) (hy : X.N[i]? = some y) (hyl : X.env.scope.names.lookup y = some .local) (hP : c.P i = none)
    (hsw : swapsWith (.ListComp e [⟨tg, iter, ifs, 0⟩] scope pos) (some (.Name y py)) spos.line X.env = pure true) (hi : PID X c W tg iter wi0 wi) (ok : BlkOk X.N X.env.scope scope own)
    (hg : ∀ (s : Shared) (H : Hp) (C : Addr) (cl : List (Str × Addr)) (fp : List Addr), ∃ g0, PGC (X.blk s H scope (compEnvC scope cl C X.env) fp) c (own.map (·.2)) tg g0 g) (ht : ∀ (s : Shared) (H : Hp) (C : Addr) (cl : List (Str × Addr)) (fp : List Addr), ∃ tt0, PTsD (X.blk s H scope (compEnvC scope cl C X.env) fp) c WN ifs tt0 tt)
    (he : ∀ (s : Shared) (H : Hp) (C : Addr) (cl : List (Str × Addr)) (fp : List Addr), ∃ te0, PED (X.blk s H scope (compEnvC scope cl C X.env) fp) c WN e te0 te) (hs : ∀ x, foldedSetIterable iter X.env x = pure x := by intro _; rfl) :
    PSD X c W (.Assign [.Name y py] (.ListComp e [⟨tg, iter, ifs, 0⟩] scope pos) spos) (tAsg (tLc wi0 (liftG X.K c (own.map (·.2)) g) (liftT X.K c WN tt) (liftE X.K c WN te) (own.map (·.2))) (gName i)) (dAsg (dLc wi g tt te (own.map (·.2))) (gN i)) :=
  ⟨ps_setLc hc hN hy hyl hsw hi.pi ok (fun s H C cl fp => pg_liftG (hg s H C cl fp)) (fun s H C cl fp => pt_liftT (ht s H C cl fp)) (fun s H C cl fp => pe_liftE (he s H C cl fp)) hs,
    snd_asg (snd_lc (K := X.K) hi.sn sn_liftG sn_liftT sn_liftE) (gd_name (W := W) (pos := py) hN hy (.inl hyl) hP (.inr hyl)).sn⟩
end
end D
set_option Elab.async false
set_option linter.all false
set_option maxRecDepth 100000
namespace D
open PySem PySem.Spec PyProof.Rows L2 G
section
variable {K : PySem.W.Frag} {C f p g : Addr} {x m qual : Str} {st : Stmt} {oc kV dc pm cd ct mc : Value} {od an : Option Addr} {sl : Array (Option Value)} {rest : List Value} {h : Heap} {mg : Str → Option Value}
def FnAt (K : PySem.W.Frag) (x qual : Str) (st : Stmt) (f : Addr) : Prop := ∃ fd : FuncData, Fun K x qual st f fd
theorem FnAt.mk (l : K.lookup f = some ⟨oc, od, .func (PySem.W.fnOf x qual (defArgs st) (defBody st) (defScope st) .none kV dc pm an cd ct), sl⟩) (c : PySem.W.codeIn K cd qual = true) (k : PySem.W.keepIn K (.ref f) = true) : FnAt K x qual st f := ⟨_, fun_mk (st := st) l c k⟩
def TopFn (K : PySem.W.Frag) (x : Str) (st : Stmt) : Prop := ∃ f : Addr, PySem.W.nsIn K mainGlobals x = some (some (.ref f)) ∧ FnAt K x x st f
theorem TopFn.mk (a : PySem.W.nsIn K mainGlobals x = some (some (.ref f))) (l : K.lookup f = some ⟨oc, od, .func (PySem.W.fnOf x x (defArgs st) (defBody st) (defScope st) .none kV dc pm an cd ct), sl⟩) (c : PySem.W.codeIn K cd x = true) (k : PySem.W.keepIn K (.ref f) = true) : TopFn K x st := ⟨f, a, .mk l c k⟩
theorem TopFn.get (T : TopFn K x st) (X : K.In h) (G : h.Ns mainGlobals mg) : ∃ (f : Addr) (fd : FuncData), Fun K x x st f fd ∧ mg x = some (.ref f) := by
  obtain ⟨f, a, fd, F⟩ := T
  exact ⟨f, fd, F, PySem.W.mg_of X G a⟩
def TopLaw (K : PySem.W.Frag) (x : Str) (st : Stmt) : Prop := ∃ (f : Addr) (oc kV dc pm cd ct : Value) (od an : Option Addr) (sl : Array (Option Value)), PySem.W.nsIn K mainGlobals x = some (some (.ref f)) ∧ K.lookup f = some ⟨oc, od, .func (PySem.W.fnOf x x (defArgs st) (defBody st) (defScope st) .none kV dc pm an cd ct), sl⟩ ∧ PySem.W.codeIn K cd x = true ∧ PySem.W.keepIn K (.ref f) = true
theorem TopLaw.mk (a : PySem.W.nsIn K mainGlobals x = some (some (.ref f))) (l : K.lookup f = some ⟨oc, od, .func (PySem.W.fnOf x x (defArgs st) (defBody st) (defScope st) .none kV dc pm an cd ct), sl⟩) (c : PySem.W.codeIn K cd x = true) (k : PySem.W.keepIn K (.ref f) = true) : TopLaw K x st := ⟨f, oc, kV, dc, pm, cd, ct, od, an, sl, a, l, c, k⟩
def TopMeth (K : PySem.W.Frag) (C : Addr) (m qual : Str) (st : Stmt) : Prop := ∃ f : Addr, Meth K C m f ∧ FnAt K m qual st f
theorem TopMeth.mk (a : PySem.W.findIn K (.ref C) m = some (some (.ref f))) (i : PySem.W.isFn K (.ref f) = true) (l : K.lookup f = some ⟨oc, od, .func (PySem.W.fnOf m qual (defArgs st) (defBody st) (defScope st) .none kV dc pm an cd ct), sl⟩) (c : PySem.W.codeIn K cd qual = true) (k : PySem.W.keepIn K (.ref f) = true) : TopMeth K C m qual st := ⟨f, ⟨a, i, k⟩, .mk l c k⟩
def TopProp (K : PySem.W.Frag) (C : Addr) (m qual : Str) (st : Stmt) : Prop := ∃ p g : Addr, PropOf K C m p g ∧ FnAt K m qual st g
theorem TopProp.mk (a : PySem.W.findIn K (.ref C) m = some (some (.ref p))) (s : PySem.W.specialIn K (.ref p) "__get__" = some (some (.builtin "property.__get__"))) (t : PySem.W.takesIn K (.ref p) = some true) (r : PySem.W.recIn K p "property" = some (.ref g :: rest)) (l : K.lookup g = some ⟨oc, od, .func (PySem.W.fnOf m qual (defArgs st) (defBody st) (defScope st) .none kV dc pm an cd ct), sl⟩) (c : PySem.W.codeIn K cd qual = true) (k : PySem.W.keepIn K (.ref g) = true) : TopProp K C m qual st := ⟨p, g, ⟨a, s, t, _, r⟩, .mk l c k⟩
def TopStat (K : PySem.W.Frag) (C : Addr) (m qual : Str) (st : Stmt) : Prop := ∃ (mc : Value) (p g : Addr), SMet K C mc m p g ∧ FnAt K m qual st g
theorem TopStat.mk (ty : PySem.W.typeIn K (.ref C) = some mc) (rd : PySem.W.readsIn K C mc = true) (ga : PySem.W.specialIn K (.ref C) "__getattribute__" = some (some (.builtin "type.__getattribute__"))) (a : PySem.W.findCls K (.ref C) mc m = some (.get (.builtin "staticmethod.__get__") (.ref p) .none (.ref C))) (r : PySem.W.recIn K p "staticmethod" = some (.ref g :: rest)) (l : K.lookup g = some ⟨oc, od, .func (PySem.W.fnOf m qual (defArgs st) (defBody st) (defScope st) .none kV dc pm an cd ct), sl⟩) (c : PySem.W.codeIn K cd qual = true) (k : PySem.W.keepIn K (.ref g) = true) : TopStat K C m qual st := ⟨mc, p, g, ⟨rd, ty, ga, a, ⟨_, r⟩, k⟩, .mk l c k⟩
def TopCls (K : PySem.W.Frag) (x : Str) (C : Addr) : Prop := PySem.W.nsIn K mainGlobals x = some (some (.ref C)) ∧ Cls K C ∧ PySem.W.selfFirst K C = true ∧ PySem.W.mroIn K C (.type "object") = some true ∧ PySem.W.makesIn K C = true ∧ PySem.W.keepIn K (.ref C) = true
theorem TopCls.mk (a : PySem.W.nsIn K mainGlobals x = some (some (.ref C))) (pg : PySem.W.plainGet K C Str.empty = true) (hd : PySem.W.hasDictIn K C = true) (po : PySem.W.plainOver K C = true) (sa : PySem.W.findIn K (.ref C) "__setattr__" = some (some (.builtin "object.__setattr__"))) (sf : PySem.W.selfFirst K C = true) (mr : PySem.W.mroIn K C (.type "object") = some true) (mk : PySem.W.makesIn K C = true) (kc : PySem.W.keepIn K (.ref C) = true) : TopCls K x C := ⟨a, ⟨pg, hd, po, sa⟩, sf, mr, mk, kc⟩
theorem TopCls.facts (T : TopCls K x C) (X : K.In h) (G : h.Ns mainGlobals mg) : ClsFacts K mg x C := ⟨T.2.1, PySem.W.mg_of X G T.1, T.2.2.1, T.2.2.2.1⟩
end
section
variable {K : PySem.W.Frag} {h : Heap} {mg : Str → Option Value} {x : Str}
def TopInt (K : PySem.W.Frag) (x : Str) (i : Int) : Prop := ∃ t, PySem.W.nsIn K mainGlobals x = some (some (.int i t))
theorem TopInt.mk {i : Int} {t : Tok} (a : PySem.W.nsIn K mainGlobals x = some (some (.int i t))) : TopInt K x i := ⟨t, a⟩
theorem TopInt.glob {i : Int} (T : TopInt K x i) (X : K.In h) (G : h.Ns mainGlobals mg) : GlobD K mg x (.int i) := by
  obtain ⟨t, a⟩ := T
  exact ⟨.int i, _, PySem.W.mg_of X G a, ⟨_, rfl⟩, fun S H => rfl⟩
theorem reps_refs {K : PySem.W.Frag} {S : Addr → Prop} {H : Hp} : ∀ {ts : List Addr} {cs : List (List Int)}, ts.length = cs.length → (∀ (j : Nat) (t : Addr) (c : List Int), ts[j]? = some t → cs[j]? = some c → Rep K S H (rowDt c) (.ref t)) → Reps K S H (cs.map rowDt) (ts.map V.ref)
  | [], [], _, _ => rfl
  | [], _ :: _, e, _ => by cases e
  | _ :: _, [], e, _ => by cases e
  | t :: ts, c :: cs, e, g => ⟨.ref t, _, rfl, g 0 t c rfl rfl, reps_refs (by simpa using e) fun j t c h1 h2 => g (j + 1) t c (by simpa using h1) (by simpa using h2)⟩
theorem RowsIn.ktup {K : PySem.W.Frag} {vs : List Value} {cs : List (List Int)} (r : G.RowsIn K vs cs) (hz : ∀ c ∈ cs, c.length ≤ 1000) : ∃ ts : List Addr, vs = ts.map Value.ref ∧ ts.length = cs.length ∧ ∀ (j : Nat) (t : Addr) (c : List Int), ts[j]? = some t → cs[j]? = some c → KTup K t (c.map V.int) := by
  induction r with
  | nil => exact ⟨[], rfl, rfl, fun j t c h => by simp at h⟩
  | @cons a d us n sl vs c cs l i r ih =>
    obtain ⟨ts, e, hl, h⟩ := ih fun c m => hz c (.tail _ m)
    refine ⟨a :: ts, by rw [e]; rfl, by rw [List.length_cons, List.length_cons, hl], fun j t c' ht hc => ?_⟩
    cases j with
    | zero =>
      cases ht; cases hc
      refine ⟨_, _, _, l, rfl, rfl, ?_, vals_ints i⟩
      have := hz c (.head _)
      rw [List.size_toArray, i.length, sizeLine_eq]
      omega
    | succ j => exact h j t c' ht hc
theorem TopRows.glob {cs : List (List Int)} (T : G.TopRows K x cs) (X : K.In h) (G : h.Ns mainGlobals mg) (hz : ∀ c ∈ cs, c.length ≤ 1000) (hn : cs.length ≤ 1000) : GlobD K mg x (.tup (cs.map rowDt)) := by
  obtain ⟨u, d, vs, n, sl, a, l, r⟩ := T
  obtain ⟨ts, rfl, hl, g⟩ := RowsIn.ktup r hz
  refine ⟨.ref u, _, PySem.W.mg_of X G a, rfl, fun S H => ⟨u, ts.map V.ref, rfl, .inr ⟨_, _, _, l, rfl, rfl, ?_, _root_.G.vals_refs ts⟩, ?_⟩⟩
  · rw [List.size_toArray, List.length_map, hl, sizeLine_eq]
    omega
  · exact reps_refs hl fun j t c h1 h2 => ⟨t, _, rfl, .inr (g j t c h1 h2), Reps.ints.mpr rfl⟩
end
theorem kit_self {K : PySem.W.Frag} {C : Addr} : PySem.W.kitOne K (.ref C) (.ref C) = some true := by
  unfold PySem.W.kitOne
  exact if_pos (by simp)
def spLawD (K : PySem.W.Frag) : Sp := fun vs H Q _ => ∃ (a : Addr) (ns : List Int), vs = [.ref a] ∧ SqL K H a (ns.map V.int) ∧ ns.length ≤ 63 ∧ ∀ H', Q (.bl true) H'
theorem law_imp {K : PySem.W.Frag} {sp : SpD} (h : ∀ ns R EX, ns.length ≤ 63 → (∀ o, R (.dat (.bl true)) o) → sp [.dat (.scr ns)] R EX) : ∀ vs H Q E, spLawD K vs H Q E → toSp K 1 sp vs H Q E := by
  rintro vs H Q E ⟨a, ns, rfl, hS, hl, q⟩
  have key : Rep K (fun b => b = a ∧ ∃ o, H b = some o) H (.scr ns) (.ref a) := by
    refine ⟨a, rfl, ?_⟩
    cases e : H a with
    | some o => exact .inl ⟨⟨rfl, o, e⟩, ⟨o, rfl⟩, hS⟩
    | none =>
      refine .inr fun H' => ?_
      rcases hS with (z | ⟨o, z⟩) | z
      · rw [e] at z; cases z
      · rw [e] at z; cases z
      · exact .inr z
  refine ⟨[.dat (.scr ns)], _, fun r _ => r = .dat (.bl true), fun _ _ => False, rfl, entryF (ds := [.scr ns]) (fun b s => s.2) ⟨_, _, rfl, key, rfl⟩, h ns _ _ hl (fun _ => rfl), fun r outs v H' S' e _ rc => ?_, fun _ _ _ _ _ e => e.elim⟩
  subst e
  rw [show v = .bl true from rc]
  exact q H'
def no_sp : SpD := fun _ _ _ => False
theorem FnD.no {P : Program} {w : World} {K : PySem.W.Frag} {mg : Str → Option Value} {base : Heap} {k : Nat} {f : Addr} : FnD P w K mg base k f no_sp := fun A outer s H us vs Q E hr e r h => by
  obtain ⟨n, ins, S, R, EX, _, _, q, _⟩ := h
  exact q.elim
theorem cx_none {P : Program} {w : World} (H : Hp) (s : Shared) (e : Value) (s' : Shared) : L2.CX P w [] H s (fun _ _ _ => False) e s' → False := by
  rintro ⟨_, _, _, _, _, _, _, _, _, _, _, _, q⟩
  exact q
end D
set_option Elab.async false
set_option linter.all false
set_option maxRecDepth 100000
namespace D
open PySem PySem.Spec PyProof.Rows L2
section
variable {X : Cx} {k : Nat} {tbl : OTab}
end
section
variable {K : PySem.W.Frag} {c : Ct} {W : WX} {X : Cx} {σ : L2.St} {ρ ρ1 ρ' : List En} {H H1 H2 H' : Hp} {S S1 S2 S' : Addr → Prop}
variable {a b : Expr} {pos : Pos} {ta0 tb0 : TE} {ta tb : TED}
end
end D
set_option Elab.async false
set_option linter.all false
set_option maxRecDepth 100000
set_option maxHeartbeats 1000000
namespace D
open PySem PySem.Spec PyProof.Rows L2
section
variable {X : Cx} {pins : List (Addr × Obj)} {σ : L2.St} {H : Hp} {s : Shared}
theorem apart (I : Inv X pins σ H s) {a : Addr} (h : s.heap.objs.size ≤ a) : (a ∈ X.ex ∨ X.s_0.heap.objs.size ≤ a) ∧ a ≠ X.env.locals ∧ (∀ x c, X.env.cells.lookup x = some c → c ≠ a) ∧ ∀ p ∈ X.pn ++ pins, p.1 ≠ a := by
  have lt : ∀ b, b < s.heap.objs.size → b ≠ a := fun b hb z => by rw [z] at hb; exact absurd (Nat.lt_of_lt_of_le hb h) (Nat.lt_irrefl _)
  refine ⟨.inr (Nat.le_trans I.sz h), Ne.symm (lt _ I.lt), fun x c e => ?_, fun p hp => lt _ (Heap.lt_size (I.pin p hp).1)⟩
  obtain ⟨v, o, ho, _⟩ := I.cell x c e
  exact lt _ (Heap.lt_size ho)
end
section
variable {K : PySem.W.Frag} {c : Ct} {W : WX} {X : Cx} {σ : L2.St} {ρ ρ1 ρ' : List En} {H H1 H2 H' : Hp} {S S1 S2 S' : Addr → Prop}
end
end D
namespace D
open PySem PySem.Spec PyProof.Rows L2
section
variable {c : Ct} {W : WX} {X : Cx}
end
end D
set_option linter.all false
set_option maxRecDepth 100000
namespace D
open PySem PySem.Spec PyProof.Rows L2
section
variable {c : Ct} {W : WX} {X : Cx} {pos : Pos}
def dNotU (tbl : OTab) (t : TED) : TED := fun WD ρ R => dTruO tbl t WD ρ fun b ρ1 => R (.dat (.bl (!b))) ρ1
theorem dNotU_i {WD : WDt} {ρ : List En} {tbl : OTab} {t : TED} {R : Res → List En → Prop} (h : dTruO tbl t WD ρ fun b ρ1 => R (.dat (.bl (!b))) ρ1) : dNotU tbl t WD ρ R := h
end
end D
set_option linter.all false
set_option maxRecDepth 100000
namespace D
open PySem PySem.Spec PyProof.Rows L2
section
variable {K : PySem.W.Frag} {c : Ct} {W : WX} {X : Cx} {pos : Pos} {ta0 tb0 tc0 : TE} {ta tb tc : TED} {r r' : R2} {f f' : F2}
end
section
variable {WD : WDt} {ρ ρ2 : List En} {R : Res → List En → Prop} {f f' : F2} {ta tb tc : TED} {a b d : Dt} {k : Bool}
end
end D
set_option linter.all false
set_option maxRecDepth 100000
namespace D
open PySem PySem.Spec PyProof.Rows L2
section
variable {K : PySem.W.Frag} {S : Addr → Prop} {H : Hp} {a b : Dt} {x y : V}
end
section
variable {X : Cx} {k : Nat} {tbl : OTab}
end
section
variable {K : PySem.W.Frag} {S : Addr → Prop} {H : Hp} {tbl : OTab}
theorem Reps.at_ : ∀ {l : List Dt} {vs : List V} {i : Nat} {v : V}, Reps K S H l vs → vs[i]? = some v → ∃ d, l[i]? = some d ∧ Rep K S H d v
  | [], _, _, _, e, q => by rw [show _ = [] from e] at q; simp at q
  | d :: l, _, 0, _, ⟨v, r, e, h1, h2⟩, q => by rw [e] at q; simp at q; subst q; exact ⟨d, rfl, h1⟩
  | d :: l, _, i + 1, _, ⟨v, r, e, h1, h2⟩, q => by
    rw [e] at q
    obtain ⟨d', q1, q2⟩ := Reps.at_ h2 (by simpa using q)
    exact ⟨d', by simpa using q1, q2⟩
end
end D
set_option linter.all false
set_option maxRecDepth 100000
namespace D
open PySem PySem.Spec PyProof.Rows L2
section
variable {K : PySem.W.Frag}
def intsOf : List Dt → Option (List Int)
  | [] => some []
  | .int i :: l => (intsOf l).map (i :: ·)
  | _ :: _ => none
end
theorem Ok.snoc {K : PySem.W.Frag} {c : Ct} {ρ : List En} {σ : L2.St} {H : Hp} {S : Addr → Prop} {d : Dt} {v : V} (k : Ok K c ρ σ H S) (h : Rep K S H d v) : Ok K c (ρ ++ [.dat d]) (σ ++ [some v]) H S := by
  have at_ : ∀ {i : Nat} {e : En}, (ρ ++ [.dat d])[i]? = some e → ρ[i]? = some e ∨ (i = ρ.length ∧ e = .dat d) := fun {i e} q => by
    by_cases hi : i < ρ.length
    · rw [List.getElem?_append_left hi] at q; exact .inl q
    · rw [List.getElem?_append_right (by omega)] at q
      have : i - ρ.length = 0 := by
        rcases Nat.eq_zero_or_pos (i - ρ.length) with z | z
        · exact z
        · rw [List.getElem?_eq_none (by simp; omega)] at q; cases q
      rw [this] at q
      cases q
      exact .inr ⟨by omega, rfl⟩
  have up : ∀ {i : Nat} {x : Option V}, σ[i]? = some x → (σ ++ [some v])[i]? = some x := fun {i x} q => by
    rw [List.getElem?_append_left (List.getElem?_eq_some_iff.mp q).1]; exact q
  refine ⟨by simp [k.len], fun i d' q => ?_, fun i w q => ?_, fun i a d' x q => ?_, fun i j w w' p q q' r r' => ?_, k.trk, k.fr, k.st, k.s0, k.s1⟩
  · rcases at_ q with q | ⟨e, z⟩
    · obtain ⟨u, h1, h2⟩ := k.dat i d' q
      exact ⟨u, up h1, h2⟩
    · cases z
      exact ⟨v, by rw [e, k.len]; simp, h⟩
  · rcases at_ q with q | ⟨e, z⟩
    · obtain ⟨p, h1, h2⟩ := k.own i w q
      exact ⟨p, up h1, h2⟩
    · cases z
  · rcases at_ q with q | ⟨e, z⟩
    · obtain ⟨h1, h2⟩ := k.exc i a d' x q
      exact ⟨up h1, h2⟩
    · cases z
  · rcases at_ q with q | ⟨_, z⟩
    · rcases at_ q' with q' | ⟨_, z⟩
      · obtain ⟨p1, h1, _⟩ := k.own i w q
        obtain ⟨p2, h2, _⟩ := k.own j w' q'
        rw [up h1] at r; cases r
        rw [up h2] at r'; cases r'
        exact k.inj i j w w' _ q q' h1 h2
      · cases z
    · cases z
def TopFnK (K : PySem.W.Frag) (x kw : Str) (st : Stmt) : Prop := ∃ (f D : Addr) (oc dc pm cd ct : Value) (od an : Option Addr) (sl : Array (Option Value)), PySem.W.nsIn K mainGlobals x = some (some (.ref f)) ∧ K.lookup f = some ⟨oc, od, .func (PySem.W.fnOf x x (defArgs st) (defBody st) (defScope st) .none (.ref D) dc pm an cd ct), sl⟩ ∧ PySem.W.codeIn K cd x = true ∧ PySem.W.keepIn K (.ref f) = true ∧ PySem.W.nsIn K D kw = some (some .none)
theorem TopFnK.mk {K : PySem.W.Frag} {x kw : Str} {st : Stmt} {f D : Addr} {oc dc pm cd ct : Value} {od an : Option Addr} {sl : Array (Option Value)} (a : PySem.W.nsIn K mainGlobals x = some (some (.ref f))) (l : K.lookup f = some ⟨oc, od, .func (PySem.W.fnOf x x (defArgs st) (defBody st) (defScope st) .none (.ref D) dc pm an cd ct), sl⟩) (c : PySem.W.codeIn K cd x = true) (k : PySem.W.keepIn K (.ref f) = true) (d : PySem.W.nsIn K D kw = some (some .none)) : TopFnK K x kw st := ⟨f, D, oc, dc, pm, cd, ct, od, an, sl, a, l, c, k, d⟩
theorem TopFnK.get {K : PySem.W.Frag} {x kw : Str} {st : Stmt} {h : Heap} {mg : Str → Option Value} {ps : List Str} (T : TopFnK K x kw st) (X : K.In h) (G : h.Ns mainGlobals mg) (n : Nat) (hn : n + 1 = ps.length)
    (hb : ∀ (D : Addr) (doc pm : Value) (an : Option Addr) (cdv ct : Value) (us ks : List Value), us.length = n → ks.length = 1 → KwChain D ([kw].zip ks) (bindArgs (PySem.W.fnOf x x (defArgs st) (defBody st) (defScope st) .none (.ref D) doc pm an cdv ct) ⟨us, []⟩) (ps.zip (us ++ ks))) :
    ∃ (f : Addr) (fd : FuncData) (ds : List Value), Fun K x x st f fd ∧ mg x = some (.ref f) ∧ Vals [V.non] ds ∧ Binds K fd ps ds := by
  obtain ⟨f, D, oc, dc, pm, cd, ct, od, an, sl, a, l, c, k, d⟩ := T
  have FD : FunD K x x (defArgs st) (defBody st) (defScope st) [] [(kw, V.non)] f (PySem.W.fnOf x x (defArgs st) (defBody st) (defScope st) .none (.ref D) dc pm an cd ct) :=
    ⟨⟨oc, od, .none, .ref D, dc, pm, an, cd, ct, sl, rfl, l, c, .inl ⟨rfl, rfl⟩, .inr ⟨D, rfl, fun q m => by
      rw [List.mem_singleton.mp m]
      exact ⟨.none, d, rfl⟩⟩⟩, k⟩
  obtain ⟨ds, hv, hB⟩ := FD.binds0 n (by simp) hn (fun D doc pm an cdv ct us ks h1 h2 => hb D doc pm an cdv ct us ks h1 h2)
  exact ⟨f, _, ds, fun_mk (st := st) l c k, PySem.W.mg_of X G a, hv, hB⟩
end D
set_option Elab.async false
set_option linter.all false
set_option maxRecDepth 100000
namespace HF
open PySem PySem.Spec PyProof.Rows L2 D
section
variable {bs : List (PySem.W.Frag → Bool)} {ps : List Pd} {K : PySem.W.Frag}
theorem Says.fact (c : Says bs ps K) (i : Nat) {b : PySem.W.Frag → Bool} (h : bs[i]? = some b) : b K = true :=
  List.all_eq_true.mp (congrArg (fun z : Bool × List (Option Fv) => z.1) c) b (List.mem_of_getElem? h)
theorem Says.def_ (c : Says bs ps K) (i : Nat) {d : Pd} (h : ps[i]? = some d) : fv K (d.ad K) = d.val := by
  have both : (ps.map fun d => fv K (d.ad K)) = ps.map Pd.val := congrArg (fun z : Bool × List (Option Fv) => z.2) c
  have same := congrArg (fun z : List (Option Fv) => z[i]?) both
  simp only [List.getElem?_map, h, Option.map_some, Option.some.injEq] at same
  exact same
end
theorem fnO_at {K : PySem.W.Frag} {a : Addr} {fd : FuncData} (e : fnO K a = some fd) : ∃ oc od sl, K.lookup a = some ⟨oc, od, .func fd, sl⟩ := by
  unfold fnO at e
  cases l : K.lookup a with
  | none => rw [l] at e; cases e
  | some o =>
    rw [l] at e
    obtain ⟨oc, od, dt, sl⟩ := o
    cases dt with
    | func f2 => exact ⟨oc, od, sl, by rw [show f2 = fd from Option.some.inj e]⟩
    | _ => cases e
theorem fkey_of {fd : FuncData} {x q : Str} {st : Stmt} (e : fkey fd = ((x, q, mainGlobals), (defArgs st, defScope st, .stmts (defBody st)), ([], .none, builtinsNs))) :
    fd = PySem.W.fnOf x q (defArgs st) (defBody st) (defScope st) .none fd.kwdefaults fd.doc fd.pyModule fd.annotations fd.code fd.closureTuple := by
  cases fd
  have e1 := congrArg (fun z : Fv => z.1) e
  have e2 := congrArg (fun z : Fv => z.2.1) e
  have e3 := congrArg (fun z : Fv => z.2.2) e
  simp only [fkey, Prod.mk.injEq] at e1 e2 e3
  unfold PySem.W.fnOf
  simp only [e1, e2, e3]
theorem fn_at {K : PySem.W.Frag} {a : Addr} {x q : Str} {st : Stmt} (e : fv K a = some ((x, q, mainGlobals), (defArgs st, defScope st, .stmts (defBody st)), ([], .none, builtinsNs))) (c : fnc a q K = true) :
    ∃ (oc kV dc pm cd ct : Value) (od an : Option Addr) (sl : Array (Option Value)), K.lookup a = some ⟨oc, od, .func (PySem.W.fnOf x q (defArgs st) (defBody st) (defScope st) .none kV dc pm an cd ct), sl⟩ ∧ PySem.W.codeIn K cd q = true ∧ PySem.W.keepIn K (.ref a) = true := by
  obtain ⟨kp, c2⟩ := He.ba c
  obtain ⟨fd, l, ek⟩ := Option.map_eq_some_iff.mp (show (fnO K a).map fkey = _ from e)
  rw [l] at c2
  obtain ⟨oc, od, sl, lk⟩ := fnO_at l
  rw [fkey_of ek] at lk
  exact ⟨oc, _, _, _, _, _, od, _, sl, lk, c2, kp⟩
theorem isHd_ok {o : Option (List Value)} {g : Addr} (h : isHd o g = true) : ∃ rest, o = some (.ref g :: rest) := by
  unfold isHd at h
  split at h
  · rename_i a r
    have e : a = g := of_decide_eq_true h
    rw [e]
    exact ⟨r, rfl⟩
  · cases h
theorem fCls_ok {x : Str} {K : PySem.W.Frag} (c : fCls x K = true) : TopCls K x (ga x K) := by
  obtain ⟨c1, c⟩ := He.ba c
  obtain ⟨c2, c⟩ := He.ba c
  obtain ⟨c3, c⟩ := He.ba c
  obtain ⟨c4, c⟩ := He.ba c
  obtain ⟨c5, c⟩ := He.ba c
  obtain ⟨c6, c⟩ := He.ba c
  obtain ⟨c7, c⟩ := He.ba c
  obtain ⟨c8, c9⟩ := He.ba c
  exact TopCls.mk (He.eqO_ok c1) c2 c3 c4 (He.eqO_ok c5) c6 (of_decide_eq_true c7) c8 c9
theorem fFn_ok {x : Str} {st : Stmt} {K : PySem.W.Frag} (c : fFn x K = true) (e : fv K (ga x K) = (⟨ga x, x, x, st⟩ : Pd).val) : TopFn K x st := by
  obtain ⟨c1, c2⟩ := He.ba c
  obtain ⟨oc, kV, dc, pm, cd, ct, od, an, sl, l, cc, kp⟩ := fn_at e c2
  exact TopFn.mk (He.eqO_ok c1) l cc kp
theorem fLaw_ok {x : Str} {st : Stmt} {K : PySem.W.Frag} (c : fFn x K = true) (e : fv K (ga x K) = (⟨ga x, x, x, st⟩ : Pd).val) : TopLaw K x st := by
  obtain ⟨c1, c2⟩ := He.ba c
  obtain ⟨oc, kV, dc, pm, cd, ct, od, an, sl, l, cc, kp⟩ := fn_at e c2
  exact TopLaw.mk (He.eqO_ok c1) l cc kp
theorem fMeth_ok {c m q : Str} {st : Stmt} {K : PySem.W.Frag} (h : fMeth c m q K = true) (e : fv K (ma c m K) = (⟨ma c m, m, q, st⟩ : Pd).val) : TopMeth K (ga c K) m q st := by
  obtain ⟨c1, h⟩ := He.ba h
  obtain ⟨c2, c3⟩ := He.ba h
  obtain ⟨oc, kV, dc, pm, cd, ct, od, an, sl, l, cc, kp⟩ := fn_at e c3
  exact TopMeth.mk (He.eqO_ok c1) c2 l cc kp
theorem fProp_ok {c m q : Str} {st : Stmt} {K : PySem.W.Frag} (h : fProp c m q K = true) (e : fv K (pga c m K) = (⟨pga c m, m, q, st⟩ : Pd).val) : TopProp K (ga c K) m q st := by
  obtain ⟨c1, h⟩ := He.ba h
  obtain ⟨c2, h⟩ := He.ba h
  obtain ⟨c3, h⟩ := He.ba h
  obtain ⟨c4, c5⟩ := He.ba h
  obtain ⟨oc, kV, dc, pm, cd, ct, od, an, sl, l, cc, kp⟩ := fn_at e c5
  obtain ⟨rest, r⟩ := isHd_ok c4
  exact TopProp.mk (He.eqO_ok c1) (He.eqO_ok c2) (of_decide_eq_true c3) r l cc kp
theorem fNe_ok {c : Str} {K : PySem.W.Frag} (h : fNe c K = true) : PySem.W.findIn K (.ref (ga c K)) "__ne__" = some (some (.builtin "object.__ne__")) := He.eqO_ok h
theorem fNo_ok {c f : Str} {K : PySem.W.Frag} (h : fNo c f K = true) : PySem.W.findIn K (.ref (ga c K)) f = some none := He.eqO_ok h
theorem fCl_ok {c : Str} {K : PySem.W.Frag} (h : fCl c K = true) : PySem.W.findIn K (.ref (ga c K)) "__class__" = some (some (.builtin "object.__class__")) := He.eqO_ok h
theorem fHn_ok {K : PySem.W.Frag} (h : fHn K = true) : PySem.W.specialIn K (.builtin "object.__class__") "__get__" = some (some (.builtin "getset_descriptor.__get__")) := He.eqO_ok h
theorem fHt_ok {K : PySem.W.Frag} (h : fHt K = true) : PySem.W.takesIn K (.builtin "object.__class__") = some true := of_decide_eq_true h
theorem fFree_ok {x : Str} {K : PySem.W.Frag} (h : fFree x K = true) : PySem.W.nsIn K mainGlobals x = some none := He.eqO_ok h
theorem walkE {l : PySem.W.OpenLaw} {view : Program} {loose : List Str} {XP : (Str → Option Value) → Heap → Prop} {YP : World → Heap → Prop} {df : DefRec} (lvl : Nat) (most : l.most = some 63) (nodf : df.params.defaults = []) (room : Room lvl callerA)
    (kept : ∀ (u : World) (names : Str → Option Value) (at_ : Addr) (hp : Heap), YP u hp → hp.Ns mainGlobals names → names df.name = some (.ref at_) →
      ∃ (K : PySem.W.Frag) (fd : FuncData), K.In hp ∧ (∀ (s : Shared) (arg : Value), BindsTo s fd ⟨[arg], []⟩ [("_law_script", arg)]) ∧ ∀ base : Heap, K.In base → base.Ns mainGlobals names → FnOk l.prog u K names base (L2.CX l.prog u) lvl at_ fd ["_law_script"] (spLawD K)) :
    PySem.W.WalkO view loose XP YP l.row.toRowW df [] fun callee args => PySem.call callee args := by
  refine Att.attach_call most nodf ?_
  intro u s0 s1 names _ at_ _ _ _ _ a vs ns top said _ _ _ found obj nums few gens
  obtain ⟨K, fd, inK, binds, ok⟩ := kept u names at_ _ said top.T.g found
  have wide : ns.length ≤ sizeLine := Nat.le_trans few (by decide)
  exact L2.law_call inK top.T.g top.T.b top.T.builtins top.T.nolimit gens obj nums wide room ok binds (fun H _ sq => ⟨a, ns, rfl, sq, few, fun _ => rfl⟩) fun H e s' none_ => cx_none H s1 e s' none_
end HF
set_option Elab.async false
set_option linter.all false
set_option maxRecDepth 100000
namespace HF
open PySem PySem.Spec PyProof.Rows L2 D
end HF
set_option Elab.async false
set_option linter.all false
set_option maxRecDepth 100000
set_option maxHeartbeats 2000000
namespace D
open PySem PySem.Spec PyProof.Rows L2
structure DefKw (P : Program) (w : World) (K : PySem.W.Frag) (mg : Str → Option Value) (base : Heap) (x kw : Str) (k : Nat) (sp : SpD) : Prop where
  ex : ∃ (f : Addr) (fd : FuncData) (ps : List Str), FnOk P w K mg base (L2.CX P w) k f fd ps (toSp K ps.length sp) ∧ KBn K fd ps 2 [kw] (fun us ws => us ++ ws) (fun vs zs => vs ++ zs) ∧ ps.length = 3 ∧ mg x = some (.ref f) ∧ PySem.W.keepIn K (.ref f) = true
theorem DefKw.mono {P : Program} {w : World} {K : PySem.W.Frag} {mg : Str → Option Value} {base : Heap} {x kw : Str} {k : Nat} {sp : SpD} (h : DefKw P w K mg base x kw k sp) : DefKw P w K mg base x kw k sp := h
section
variable {X : Cx} {c : Ct} {W : WX} {k : Nat} {sp : SpD} {x kw : Str} {p pos kpos : Pos} {e1 e2 e3 : Expr} {ta tb tc : TE} {a b d : TED}
end
end D
set_option Elab.async false
set_option linter.all false
set_option maxRecDepth 100000
set_option maxHeartbeats 2000000
namespace D
open PySem PySem.Spec PyProof.Rows L2
section
variable {K : PySem.W.Frag} {c : Ct} {W : WX} {X : Cx} {σ : L2.St} {ρ ρ' ρ2 : List En} {H H' H2 : Hp} {S S' S2 : Addr → Prop}
end
section
variable {X : Cx} {c : Ct} {W : WX} {e tg : Expr} {te : TED} {pos : Pos} {ifs : List Expr} {scope : Scope} {own : List (Str × Nat)} {g : TGC} {tt : TTD}
end
section
variable {WD : WDt} {ρ : List En} {te : TED}
end
end D
set_option Elab.async false
set_option linter.all false
set_option maxRecDepth 100000
set_option maxHeartbeats 2000000
namespace D
open PySem PySem.Spec PyProof.Rows L2
section
variable {P : Program} {w : World} {K : PySem.W.Frag} {mg : Str → Option Value} {base : Heap}
end
end D
set_option Elab.async false
set_option linter.all false
set_option maxRecDepth 100000
set_option maxHeartbeats 2000000
namespace D
open PySem PySem.Spec PyProof.Rows L2 LamX
section
variable {X : Cx} {pins : List (Addr × Obj)} {σ : L2.St} {H : Hp} {s : Shared}
end
section
variable {X : Cx} {pins : List (Addr × Obj)} {σ : L2.St} {H : Hp} {s : Shared}
end
end D
set_option Elab.async false
set_option linter.all false
set_option maxRecDepth 100000
set_option maxHeartbeats 2000000
namespace D
open PySem PySem.Spec PyProof.Rows L2
section
variable {X : Cx} {x1 x2 x3 x4 n : Str} {c1 c2 c3 c4 : Value} {i kk : Nat} {body suite : List Stmt} {first : Stmt} {more : List ExceptHandler} {p1 p2 p3 p4 tp pos pos' : Pos} {tb : WX → TS} {ts : Addr → Value → Option Addr → TS}
end
end D
set_option Elab.async false
set_option linter.all false
set_option maxRecDepth 100000
set_option maxHeartbeats 2000000
namespace D
open PySem PySem.Spec PyProof.Rows L2 LamX
end D
set_option Elab.async false
set_option linter.all false
set_option maxRecDepth 100000
set_option maxHeartbeats 2000000
namespace D
open PySem PySem.Spec PyProof.Rows L2 LamX
def ctAt (ρ : List En) (σ : L2.St) (H : Hp) (S : Addr → Prop) : Ct := ⟨H, S, fun i => match ρ[i]?, σ[i]? with
  | some (.own _), some (some (.ref p)) => some p
  | _, _ => none⟩
section
variable {K : PySem.W.Frag} {c : Ct} {σ σ' : L2.St} {ρ ρ' : List En} {H H' : Hp} {S S' : Addr → Prop}
theorem ctAt_own {i : Nat} {w : Ow} {p : Addr} (h : ρ[i]? = some (.own w)) (e : σ[i]? = some (some (.ref p))) : (ctAt ρ σ H S).P i = some p := by
  show (match ρ[i]?, σ[i]? with | some (.own _), some (some (.ref p)) => some p | _, _ => none) = some p
  rw [h, e]
theorem ctAt_get {i : Nat} {p : Addr} (h : (ctAt ρ σ H S).P i = some p) : ∃ w, ρ[i]? = some (.own w) ∧ σ[i]? = some (some (.ref p)) := by
  have h : (match ρ[i]?, σ[i]? with | some (.own _), some (some (.ref p)) => some p | _, _ => none) = some p := h
  split at h
  · rename_i w p' e1 e2
    cases h
    exact ⟨w, e1, e2⟩
  · cases h
theorem Ok.at_ (k : Ok K c ρ σ H S) : Ok K (ctAt ρ σ H S) ρ σ H S := by
  refine ⟨k.len, k.dat, fun i w e => ?_, k.exc, k.inj, fun i q e => ?_, fun _ _ e _ => e, k.st, fun _ s => s, fun _ s => .inl s⟩
  · obtain ⟨p, e1, r, ns, _⟩ := k.own i w e
    refine ⟨p, e1, r, ns, fun q z => ?_, fun z => ?_⟩
    · rw [ctAt_own e e1] at z
      exact Option.some.inj z
    · rw [ctAt_own e e1] at z
      cases z
  · obtain ⟨w, e1, e2⟩ := ctAt_get e
    obtain ⟨p, e3, r, _⟩ := k.own i w e1
    rw [e2] at e3
    cases e3
    exact r.trk
theorem Step.base (k : Ok K c ρ σ H S) (a : Step K (ctAt ρ σ H S) σ ρ H S ρ' H' S') : Step K c σ ρ H S ρ' H' S' := by
  refine ⟨⟨a.ok.len, a.ok.dat, fun i w e => ?_, a.ok.exc, a.ok.inj, fun i q e => ?_, fun b o e n => ?_, a.ok.st, fun b s => a.s0 b (k.s0 b s), fun b s => ?_⟩, a.fr, a.tr, a.s0, a.s1, a.ow⟩
  · obtain ⟨p, e1, r, ns, h1, h2⟩ := a.ok.own i w e
    refine ⟨p, e1, r, ns, ?_⟩
    cases z : (ctAt ρ σ H S).P i with
    | none =>
      have z2 : H p = none := h2 z
      obtain ⟨o, z3⟩ := k.otrk (a.ow p ⟨i, w, e, e1⟩)
      rw [z2] at z3
      cases z3
    | some q =>
      obtain rfl := h1 q z
      obtain ⟨w0, e3, e4⟩ := ctAt_get z
      obtain ⟨p', e5, _, _, h3, h4⟩ := k.own i w0 e3
      rw [e4] at e5
      cases e5
      exact ⟨h3, h4⟩
  · obtain ⟨o, z⟩ := k.trk i q e
    exact a.tr q o z
  · refine a.fr b o (k.fr b o e n) fun z => ?_
    obtain ⟨i, w, e1, e2⟩ := z
    obtain ⟨p', e5, _, _, h3, h4⟩ := k.own i w e1
    rw [e2] at e5
    cases e5
    cases y : c.P i with
    | none => rw [h4 y] at e; cases e
    | some q => exact n i (by rw [y, h3 q y])
  · rcases a.s1 b s with s | s | ⟨i, w, e1, e2⟩
    · exact k.s1 b s
    · exact .inr (.inl (k.free0 s))
    · obtain ⟨p', e5, _, _, h3, h4⟩ := k.own i w e1
      rw [e2] at e5
      cases e5
      cases y : c.P i with
      | none => exact .inr (.inl (h4 y))
      | some q => exact .inr (.inr ⟨i, by rw [y, h3 q y]⟩)
def liftL (K : PySem.W.Frag) (te : TED) (E : XK) : TE := fun σ H Q => ∃ (c2 : Ct) (WD : WDt) (ρ : List En) (S : Addr → Prop) (R : Res → List En → Prop), RelW K c2 (fun cls d _ H => E cls d H) WD ∧ Ok K c2 ρ σ H S ∧ (∀ r ρ' v H' S', R r ρ' → Step K c2 σ ρ H S ρ' H' S' → RepR K σ H H' S' r v → Q v H') ∧ te WD ρ R
structure ErrC (K : PySem.W.Frag) (cs : List Value) (C : Addr) : Prop where
  mt : PySem.W.exmAny K (.ref C) cs = some true
  xf : XfC K C
  tag : PySem.W.findIn K (.ref C) "tag" = some none
  given : PySem.W.findIn K (.ref C) "given" = some none
end
end D
set_option Elab.async false
set_option linter.all false
set_option maxRecDepth 100000
set_option maxHeartbeats 2000000
namespace G
open PySem PySem.Spec PyProof.Rows L2 ClX
structure UMet (K : PySem.W.Frag) (C : Addr) (mc : Value) (m : Str) (g : Addr) : Prop where
  rd : CRead K C mc
  val : CVal K C mc m (.ref g) (.ref g)
  kp : PySem.W.keepIn K (.ref g) = true
def spErr1 (K : PySem.W.Frag) (tag fld : Str) : Sp := fun vs H Q _ => ∃ (a C : Addr) (y : V), vs = [.ref a, y] ∧ OexC K C ∧ PySem.W.findIn K (.ref C) "tag" = some none ∧ PySem.W.findIn K (.ref C) fld = some none ∧ H a = some (exo a C none) ∧
  ∀ dx, H dx = none → dx ≠ a → Q .non (upd (upd (upd H dx (exd dx [("tag", .str tag)])) a (exo a C (some dx))) dx (exd dx [(fld, y), ("tag", .str tag)]))
end G
namespace D
open PySem PySem.Spec PyProof.Rows L2 LamX
structure ErrMk (P : Program) (w : World) (K : PySem.W.Frag) (mg : Str → Option Value) (base : Heap) (x : Str) (C : Addr) (tag fld : Str) (k : Nat) : Prop where
  ex : ∃ (fI : Addr) (fd : FuncData), FnOk P w K mg base C8.CX0 k fI fd ["self", fld] (G.spErr1 K tag fld) ∧ Binds K fd ["self", fld] [] ∧ PySem.W.findIn K (.ref C) "__init__" = some (some (.ref fI)) ∧ PySem.W.typeIn K (.ref fI) = some (.type "function")
  oex : OexC K C
  tag_ : PySem.W.findIn K (.ref C) "tag" = some none
  fld_ : PySem.W.findIn K (.ref C) fld = some none
  mg_ : mg x = some (.ref C)
  ne : ¬ fld = "tag"
section
variable {X : Cx} {c : Ct} {W : WX}
end
structure RefD (K : PySem.W.Frag) (mg : Str → Option Value) (st : Stmt) : Prop where
  ex : ∃ (g : Addr) (fd : FuncData), Fun K "_law_refused" "_law_refused" st g fd ∧ mg "_law_refused" = some (.ref g) ∧ Binds K fd ["_law_ask"] []
end D
set_option Elab.async false
set_option linter.all false
set_option maxRecDepth 100000
namespace D
open PySem PySem.Spec PyProof.Rows L2
section
variable {WD : WDt} {ρ ρ' : List En} {R : Res → List En → Prop} {E : EndsD} {ta tb te tc to : TED} {tA tB' : TAD} {d d' : Dt} {i j n : Nat} {w w' : Ow} {l : List Dt} {rs : List Res} {f : F2}
theorem set_z {x y : En} {l : List En} : (x :: l).set 0 y = y :: l := rfl
theorem set_s {x y : En} {l l' : List En} {n : Nat} (e : l.set n y = l') : (x :: l).set (n + 1) y = x :: l' := by rw [List.set_cons_succ, e]
theorem take_z {l : List En} : l.take 0 = [] := rfl
theorem take_s {x : En} {l l' : List En} {n : Nat} (e : l.take n = l') : (x :: l).take (n + 1) = x :: l' := by rw [List.take_succ_cons, e]
theorem wipe_nil : wipeD ρ [] = ρ := rfl
theorem wipe_cons {vs : List Nat} {v : Nat} {ρ1 ρ2 : List En} (e : wipeD ρ vs = ρ1) (e2 : ρ1.set v .emp = ρ2) : wipeD ρ (v :: vs) = ρ2 := by unfold wipeD; rw [e, e2]
theorem dset_z {x y : Dt} {l : List Dt} : (x :: l).set 0 y = y :: l := rfl
theorem dset_s {x y : Dt} {l l' : List Dt} {n : Nat} (e : l.set n y = l') : (x :: l).set (n + 1) y = x :: l' := by rw [List.set_cons_succ, e]
theorem rhoD_cons {m : Nat} {e : En} {es : List En} : rhoD (m + 1) (e :: es) = e :: rhoD m es := by unfold rhoD; simp
theorem rhoD_nil {m : Nat} : rhoD (m + 1) [] = .emp :: rhoD m [] := by unfold rhoD; simp [List.replicate_succ]
theorem rhoD_z : rhoD 0 [] = [] := rfl
theorem pk_dat : pk (.dat d) ρ = some d := rfl
theorem pk_newl : pk (.new (.lst l)) ρ = some (.lst l) := rfl
theorem pk_ownl (e : ρ[i]? = some (.own (.lst l))) : pk (.ref i) ρ = some (.lst l) := by simp only [pk, e]; rfl
theorem pks_nil : pks [] ρ = some [] := rfl
theorem pks_dat {ds : List Dt} (e : pks rs ρ = some ds) : pks (.dat d :: rs) ρ = some (d :: ds) := by simp only [pks, pk, e]
theorem pks_newl {ds : List Dt} (e : pks rs ρ = some ds) : pks (.new (.lst l) :: rs) ρ = some (.lst l :: ds) := by simp only [pks, pk, e]; rfl
theorem pks_ownl {ds : List Dt} (e0 : ρ[i]? = some (.own (.lst l))) (e : pks rs ρ = some ds) : pks (.ref i :: rs) ρ = some (.lst l :: ds) := by simp only [pks, pk_ownl e0, e]
theorem pk2_i {k : Dt → Dt → Prop} {r1 r2 : Res} {a b : Dt} (e1 : pk r1 ρ = some a) (e2 : pk r2 ρ = some b) (h : k a b) : pk2 k r1 r2 ρ := by unfold pk2; rw [e1, e2]; exact h
theorem kP_dat {Q : Dt → List En → Prop} (h : Q d ρ) : kP Q (.dat d) ρ := h
theorem kP_newl {Q : Dt → List En → Prop} (h : Q (.lst l) ρ) : kP Q (.new (.lst l)) ρ := h
theorem kP_ownl {Q : Dt → List En → Prop} (e : ρ[i]? = some (.own (.lst l))) (h : Q (.lst l) ρ) : kP Q (.ref i) ρ := by unfold kP; simp only [e]; exact h
theorem kD_dat {Q : Dt → List En → Prop} (h : Q d ρ) : kD Q (.dat d) ρ := h
theorem kD_newl {Q : Dt → List En → Prop} (h : Q (.lst l) ρ) : kD Q (.new (.lst l)) ρ := h
theorem kD_ownl {Q : Dt → List En → Prop} (e : ρ[i]? = some (.own (.lst l))) (e2 : ρ.set i (.dat (.lst l)) = ρ') (h : Q (.lst l) ρ') : kD Q (.ref i) ρ := by subst e2; unfold kD; simp only [e]; exact h
theorem kDs_nil {Q : List Dt → List En → Prop} (h : Q [] ρ) : kDs [] ρ Q := h
theorem kDs_dat {Q : List Dt → List En → Prop} (h : kDs rs ρ fun ds ρ2 => Q (d :: ds) ρ2) : kDs (.dat d :: rs) ρ Q := h
theorem kDs_newl {Q : List Dt → List En → Prop} (h : kDs rs ρ fun ds ρ2 => Q (.lst l :: ds) ρ2) : kDs (.new (.lst l) :: rs) ρ Q := h
theorem kDs_ownl {Q : List Dt → List En → Prop} (e : ρ[i]? = some (.own (.lst l))) (e2 : ρ.set i (.dat (.lst l)) = ρ') (h : kDs rs ρ' fun ds ρ2 => Q (.lst l :: ds) ρ2) : kDs (.ref i :: rs) ρ Q := kD_ownl (Q := fun d ρ1 => kDs rs ρ1 fun ds ρ2 => Q (d :: ds) ρ2) e e2 h
theorem dV_d (e : ρ[i]? = some (.dat d)) (h : R (.dat d) ρ) : dV i WD ρ R := by unfold dV; simp only [e]; exact h
theorem dV_o (e : ρ[i]? = some (.own w)) (h : R (.ref i) ρ) : dV i WD ρ R := by unfold dV; simp only [e]; exact h
theorem dC_i (h : R (.dat d) ρ) : dC d WD ρ R := h
theorem dOp_i (h : ta WD ρ fun r1 ρ1 => tb WD ρ1 fun r2 ρ2 => pk2 (fun a b => f a b fun r => R r ρ2) r1 r2 ρ2) : dOp f ta tb WD ρ R := h
theorem dUn_i {f : F1} (h : ta WD ρ (kP fun d ρ1 => f d fun r => R r ρ1)) : dUn f ta WD ρ R := h
def kB (R : Bool → List En → Prop) : Res → List En → Prop := kP fun d ρ' => match d with | .bl b => R b ρ' | _ => False
theorem kB_i {R : Bool → List En → Prop} {b : Bool} (h : R b ρ) : kB R (.dat (.bl b)) ρ := h
theorem dTB_i {R : Bool → List En → Prop} (h : ta WD ρ (kB R)) : dTB ta WD ρ R := h
theorem dTru_i {R : Bool → List En → Prop} (h : ta WD ρ (kP fun d ρ' => tru d fun b => R b ρ')) : dTru ta WD ρ R := h
theorem tru_int {k : Bool → Prop} {x : Int} (h : k (x != 0)) : tru (.int x) k := h
theorem tru_bl {k : Bool → Prop} {x : Bool} (h : k x) : tru (.bl x) k := h
theorem tru_lst {k : Bool → Prop} (h : k (!l.isEmpty)) : tru (.lst l) k := h
theorem dAnd_i {t u : TTD} {R : Bool → List En → Prop} (h : t WD ρ fun b ρ1 => if b = true then u WD ρ1 R else R false ρ1) : dAnd t u WD ρ R := h
theorem dOr_i {t u : TTD} {R : Bool → List En → Prop} (h : t WD ρ fun b ρ1 => if b = true then R true ρ1 else u WD ρ1 R) : dOr t u WD ρ R := h
theorem dNot_i {t : TTD} {R : Bool → List En → Prop} (h : t WD ρ fun b ρ1 => R (!b) ρ1) : dNot t WD ρ R := h
theorem dAndV_i (h : ta WD ρ (kB fun b ρ1 => if b = true then tb WD ρ1 R else R (.dat (.bl false)) ρ1)) : dAndV ta tb WD ρ R := h
theorem dOrV_i (h : ta WD ρ (kB fun b ρ1 => if b = true then R (.dat (.bl true)) ρ1 else tb WD ρ1 R)) : dOrV ta tb WD ρ R := h
theorem dNotV_i (h : ta WD ρ (kB fun b ρ1 => R (.dat (.bl (!b))) ρ1)) : dNotV ta WD ρ R := h
theorem dIf_i {t : TTD} (h : t WD ρ fun b ρ1 => if b = true then ta WD ρ1 R else tb WD ρ1 R) : dIf t ta tb WD ρ R := h
theorem if_t {p q : Prop} (h : p) : if true = true then p else q := by rw [if_pos rfl]; exact h
theorem if_f {p q : Prop} (h : q) : if false = true then p else q := by rw [if_neg (by decide)]; exact h
theorem if_nt {p q : Prop} {b : Bool} (h : if b = true then q else p) : if (!b) = true then p else q := by cases b <;> simpa using h
theorem if_ta {p q : Prop} {b : Bool} (h : if b = true then p else q) : if (true && b) = true then p else q := h
theorem if_fa {p q : Prop} {b : Bool} (h : q) : if (false && b) = true then p else q := by rw [if_neg (by simp)]; exact h
theorem if_dy {p q c : Prop} [Decidable c] (hc : c) (h : p) : if decide c = true then p else q := by rw [if_pos (decide_eq_true hc)]; exact h
theorem if_dn {p q c : Prop} [Decidable c] (hc : ¬ c) (h : q) : if decide c = true then p else q := by rw [if_neg (by simpa using hc)]; exact h
theorem if_d {p q c : Prop} [Decidable c] (h : c → p) (h' : ¬ c → q) : if decide c = true then p else q := by
  by_cases hc : c
  · exact if_dy hc (h hc)
  · exact if_dn hc (h' hc)
theorem if_n0 {p q : Prop} {x : Int} (h : x ≠ 0 → p) (h' : x = 0 → q) : if (x != 0) = true then p else q := by
  by_cases hc : x = 0
  · rw [if_neg (by simp [hc])]; exact h' hc
  · rw [if_pos (by simp [hc])]; exact h hc
theorem dNil_i {R : List Res → List En → Prop} (h : R [] ρ) : dNil WD ρ R := h
theorem dCons_i {R : List Res → List En → Prop} (h : te WD ρ fun r ρ1 => tA WD ρ1 fun rs ρ2 => R (r :: rs) ρ2) : dCons te tA WD ρ R := h
theorem dTup_i (h : tA WD ρ fun rs ρ1 => kDs rs ρ1 fun ds ρ2 => ds.length ≤ sizeLine ∧ R (.dat (.tup ds)) ρ2) : dTup tA WD ρ R := h
theorem dLst_i (h : tA WD ρ fun rs ρ1 => kDs rs ρ1 fun ds ρ2 => ds.length ≤ sizeLine ∧ R (.new (.lst ds)) ρ2) : dLst tA WD ρ R := h
theorem and_len {p : Prop} (e : Nat.ble l.length sizeLine = true) (h : p) : l.length ≤ sizeLine ∧ p := ⟨Nat.le_of_ble_eq_true e, h⟩
def spF (sp : SpD) (ds : List Dt) (R : Res → List En → Prop) (EX : Xc → List En → Prop) : Prop := sp (ds.map .dat) R EX
theorem dCallF_i {sp : SpD} (h : tA WD ρ fun rs ρ1 => kDs rs ρ1 fun ds ρ2 => spF sp ds (fun r _ => R r ρ2) (fun x _ => WD x ρ2)) : dCallF sp tA WD ρ R := h
def kCall (mask : List Bool) (sp : SpD) (WD : WDt) (R : Res → List En → Prop) (rs : List Res) (ρ1 : List En) : Prop := kAr mask rs ρ1 fun as ρ2 => match insOf ρ2 as with
  | some ins => (slots as).Nodup ∧ sp ins (fun r outs => R r (back as outs ρ2)) (fun x outs => WD x (back as outs ρ2))
  | none => False
theorem dCall_i {mask : List Bool} {sp : SpD} (h : tA WD ρ (kCall mask sp WD R)) : dCall mask sp tA WD ρ R := h
def kBack (i : Nat) (ds : List Dt) (ρ : List En) (R : Res → List En → Prop) : Res → List En → Prop := fun r outs => R r (back (.slot i :: ds.map .dat) outs ρ)
def kBackX (i : Nat) (ds : List Dt) (ρ : List En) (WD : WDt) : WDt := fun r outs => WD r (back (.slot i :: ds.map .dat) outs ρ)
theorem kCall_1 {sp : SpD} (e : ρ[i]? = some (.own w)) (h : sp [.own w] (kBack i [] ρ R) (kBackX i [] ρ WD)) : kCall [true] sp WD R [.ref i] ρ := by
  unfold kCall
  simp only [kAr, insOf, e, slots]
  exact ⟨by simp, h⟩
theorem kCall_2 {sp : SpD} (e : ρ[i]? = some (.own w)) (h : sp [.own w, .dat d] (kBack i [d] ρ R) (kBackX i [d] ρ WD)) : kCall [true] sp WD R [.ref i, .dat d] ρ := by
  unfold kCall
  simp only [kAr, kD, insOf, e, slots, Option.map]
  exact ⟨by simp, h⟩
theorem kCall_2l {sp : SpD} (e : ρ[i]? = some (.own w)) (h : sp [.own w, .dat (.lst l)] (kBack i [.lst l] ρ R) (kBackX i [.lst l] ρ WD)) : kCall [true] sp WD R [.ref i, .new (.lst l)] ρ := by
  unfold kCall
  simp only [kAr, kD, insOf, e, slots, Option.map, Ow.frz]
  exact ⟨by simp, h⟩
theorem kCall_3 {sp : SpD} (e : ρ[i]? = some (.own w)) (h : sp [.own w, .dat d, .dat d'] (kBack i [d, d'] ρ R) (kBackX i [d, d'] ρ WD)) : kCall [true] sp WD R [.ref i, .dat d, .dat d'] ρ := by
  unfold kCall
  simp only [kAr, kD, insOf, e, slots, Option.map]
  exact ⟨by simp, h⟩
theorem back_dats {ds : List Dt} {o ρ : List En} : back (ds.map .dat) o ρ = ρ := by
  induction ds generalizing o with
  | nil => cases o <;> rfl
  | cons d ds ih => cases o with
    | nil => exact ih
    | cons x o => exact ih
theorem kBack_i {ds : List Dt} {r : Res} {o : List En} (e : ρ[i]? = some (.own w)) (e2 : ρ.set i (.own w') = ρ') (h : R r ρ') : kBack i ds ρ R r (.own w' :: o) := by
  subst e2
  unfold kBack back
  simp only [e, back_dats]
  exact h
def kFld (C : Addr) (g : Str) (R : Res → List En → Prop) : Res → List En → Prop := fun r ρ1 => isObj C (fun ns l => isSome' (fun d => R (.dat d) ρ1) (look g ns l)) (pk r ρ1)
theorem dFld_i {C : Addr} {g : Str} (h : to WD ρ (kFld C g R)) : dFld C g to WD ρ R := h
theorem kFld_i {C : Addr} {g : Str} {ns : List Str} (e : look g ns l = some d) (h : R (.dat d) ρ) : kFld C g R (.dat (.obj C ns l)) ρ := by
  show isObj C _ (some (.obj C ns l))
  exact ⟨rfl, by show isSome' _ (look g ns l); rw [e]; exact h⟩
theorem look_hit {g : Str} {ns : List Str} : look g (g :: ns) (d :: l) = some d := by unfold look; rw [if_pos rfl]
theorem look_skip {g n : Str} {ns : List Str} (hn : ¬ g = n) (h : look g ns l = some d') : look g (n :: ns) (d :: l) = some d' := by unfold look; rw [if_neg hn]; exact h
theorem own_hit {C : Addr} {n m : Str} {ns : List Str} {sp : SpD} {t : OTab} {k : SpD → Prop} (e : (n :: ns).contains m = false) (h : k sp) : own ((n, C, sp) :: t) m k (.obj C (n :: ns) l) := ⟨e, (if_pos (show (n, C, sp).1 = n from rfl)).mpr ⟨rfl, h⟩⟩
theorem own_skip {C C' : Addr} {n n' m : Str} {ns : List Str} {sp : SpD} {t : OTab} {k : SpD → Prop} (e : ¬ n' = n) (h : own t m k (.obj C (n :: ns) l)) : own ((n', C', sp) :: t) m k (.obj C (n :: ns) l) := ⟨h.1, (if_neg (show ¬ (n', C', sp).1 = n from e)).mpr h.2⟩
def kMeth (tbl : OTab) (m : Str) (tA : TAD) (WD : WDt) (R : Res → List En → Prop) : Dt → List En → Prop := fun d ρ1 => own tbl m (fun sp => tA WD ρ1 fun rs ρ2 => kDs rs ρ2 fun ds ρ3 => sp ((d :: ds).map .dat) (fun r _ => R r ρ3) (fun x _ => WD x ρ3)) d
theorem dMeth_i {tbl : OTab} {m : Str} (h : to WD ρ (kD (kMeth tbl m tA WD R))) : dMeth tbl m to tA WD ρ R := h
theorem kMeth_i {C : Addr} {n m : Str} {ns : List Str} {sp : SpD} {t : OTab} (e : (n :: ns).contains m = false) (h : tA WD ρ fun rs ρ2 => kDs rs ρ2 fun ds ρ3 => spF sp (.obj C (n :: ns) l :: ds) (fun r _ => R r ρ3) (fun x _ => WD x ρ3)) : kMeth ((n, C, sp) :: t) m tA WD R (.obj C (n :: ns) l) ρ := by
  exact own_hit (l := l) e h
theorem kMeth_s {C C' : Addr} {n n' m : Str} {ns : List Str} {sp : SpD} {t : OTab} (e : ¬ n' = n) (h : kMeth t m tA WD R (.obj C (n :: ns) l) ρ) : kMeth ((n', C', sp) :: t) m tA WD R (.obj C (n :: ns) l) ρ := by
  exact own_skip (l := l) e h
def kOCall (tbl : OTab) (tA : TAD) (WD : WDt) (R : Res → List En → Prop) : Dt → List En → Prop := fun d ρ1 => own tbl "__call__" (fun sp => tA WD ρ1 fun rs ρ2 => kDs rs ρ2 fun ds ρ3 => sp ((d :: ds).map .dat) (fun r _ => R r ρ3) (fun _ _ => False)) d
theorem dOCall_i {tbl : OTab} (h : to WD ρ (kD (kOCall tbl tA WD R))) : dOCall tbl to tA WD ρ R := h
theorem kOCall_i {C : Addr} {n : Str} {ns : List Str} {sp : SpD} {t : OTab} (e : (n :: ns).contains "__call__" = false) (h : tA WD ρ fun rs ρ2 => kDs rs ρ2 fun ds ρ3 => spF sp (.obj C (n :: ns) l :: ds) (fun r _ => R r ρ3) (fun _ _ => False)) : kOCall ((n, C, sp) :: t) tA WD R (.obj C (n :: ns) l) ρ := by
  exact own_hit (l := l) e h
def kProp (tbl : OTab) (m : Str) (R : Res → List En → Prop) : Dt → List En → Prop := fun d ρ1 => own tbl m (fun sp => sp [.dat d] (fun r _ => R r ρ1) (fun _ _ => False)) d
theorem dProp_i {tbl : OTab} {m : Str} (h : to WD ρ (kD (kProp tbl m R))) : dProp tbl m to WD ρ R := h
theorem kProp_i {C : Addr} {n m : Str} {ns : List Str} {sp : SpD} {t : OTab} (e : (n :: ns).contains m = false) (h : spF sp [.obj C (n :: ns) l] (fun r _ => R r ρ) (fun _ _ => False)) : kProp ((n, C, sp) :: t) m R (.obj C (n :: ns) l) ρ := by
  exact own_hit (l := l) e h
theorem kProp_s {C C' : Addr} {n n' m : Str} {ns : List Str} {sp : SpD} {t : OTab} (e : ¬ n' = n) (h : kProp t m R (.obj C (n :: ns) l) ρ) : kProp ((n', C', sp) :: t) m R (.obj C (n :: ns) l) ρ := by
  exact own_skip (l := l) e h
theorem dMake_i {C : Addr} {sp : SpD} (h : tA WD ρ fun rs ρ1 => kDs rs ρ1 fun ds ρ2 => mkF C sp ds (fun d => R (.dat d) ρ2) (fun x => WD x ρ2)) : dMake C sp tA WD ρ R := h
def kMakeS (C : Addr) (sp : SpD) (WD : WDt) (R : Res → List En → Prop) : Dt → List En → Prop := fun d ρ1 => match items d with
  | some ds => mkF C sp ds (fun d => R (.dat d) ρ1) (fun x => WD x ρ1)
  | none => False
theorem dMakeS_i {C : Addr} {sp : SpD} (h : te WD ρ (kD (kMakeS C sp WD R))) : dMakeS C sp te WD ρ R := h
theorem kMakeS_t {C : Addr} {sp : SpD} (h : mkF C sp l (fun d => R (.dat d) ρ) (fun x => WD x ρ)) : kMakeS C sp WD R (.tup l) ρ := h
theorem kMakeS_l {C : Addr} {sp : SpD} (h : mkF C sp l (fun d => R (.dat d) ρ) (fun x => WD x ρ)) : kMakeS C sp WD R (.lst l) ρ := h
def kOpO (tbl : OTab) (m : Str) (f : F2) (R : Res → List En → Prop) (r1 r2 : Res) (ρ2 : List En) : Prop := if isO (pk r1 ρ2) = true then kDs [r1, r2] ρ2 fun ds ρ3 => match ds with
    | [a, b] => own2 tbl m a b fun sp => sp [.dat a, .dat b] (fun r _ => R r ρ3) (fun _ _ => False)
    | _ => False
  else pk2 (fun a b => f a b fun r => R r ρ2) r1 r2 ρ2
theorem dOpO_i {tbl : OTab} {m : Str} (h : ta WD ρ fun r1 ρ1 => tb WD ρ1 fun r2 ρ2 => kOpO tbl m f R r1 r2 ρ2) : dOpO tbl m f ta tb WD ρ R := h
theorem kOpO_i {C : Addr} {n m : Str} {ns ns' : List Str} {l' : List Dt} {sp : SpD} {t : OTab} (e : (n :: ns).contains m = false) (h : spF sp [.obj C (n :: ns) l, .obj C ns' l'] (fun r _ => R r ρ) (fun _ _ => False)) : kOpO ((n, C, sp) :: t) m f R (.dat (.obj C (n :: ns) l)) (.dat (.obj C ns' l')) ρ := by
  exact (if_pos (show isO (pk (.dat (.obj C (n :: ns) l)) ρ) = true from rfl)).mpr (own_hit (l := l) e ⟨rfl, h⟩)
theorem kOpO_s {C C' : Addr} {n n' m : Str} {ns ns' : List Str} {l' : List Dt} {sp : SpD} {t : OTab} (e : ¬ n' = n) (h : kOpO t m f R (.dat (.obj C (n :: ns) l)) (.dat (.obj C ns' l')) ρ) : kOpO ((n', C', sp) :: t) m f R (.dat (.obj C (n :: ns) l)) (.dat (.obj C ns' l')) ρ := by
  exact (if_pos (show isO (pk (.dat (.obj C (n :: ns) l)) ρ) = true from rfl)).mpr (own_skip (l := l) e ((if_pos (show isO (pk (.dat (.obj C (n :: ns) l)) ρ) = true from rfl)).mp h))
theorem kOpO_n {tbl : OTab} {m : Str} {a b : Dt} (hn : isO (some a) = false) (h : f a b fun r => R r ρ) : kOpO tbl m f R (.dat a) (.dat b) ρ := by
  unfold kOpO
  rw [if_neg (by show ¬ isO (some a) = true; rw [hn]; decide)]
  exact h
def kNot (R : Res → List En → Prop) (ρ3 : List En) : Res → List En → Prop := fun r _ => match r with | .dat (.bl z) => R (.dat (.bl (!z))) ρ3 | _ => False
theorem kNot_i {b : Bool} {o : List En} (h : R (.dat (.bl (!b))) ρ) : kNot R ρ (.dat (.bl b)) o := h
def kNeO (tbl : OTab) (m : Str) (f : F2) (R : Res → List En → Prop) (r1 r2 : Res) (ρ2 : List En) : Prop := if isO (pk r1 ρ2) = true then kDs [r1, r2] ρ2 fun ds ρ3 => match ds with
    | [a, b] => own2 tbl m a b fun sp => sp [.dat a, .dat b] (fun r _ => match r with | .dat (.bl z) => R (.dat (.bl (!z))) ρ3 | _ => False) (fun _ _ => False)
    | _ => False
  else pk2 (fun a b => f a b fun r => R r ρ2) r1 r2 ρ2
theorem dNeO_i {tbl : OTab} {m : Str} (h : ta WD ρ fun r1 ρ1 => tb WD ρ1 fun r2 ρ2 => kNeO tbl m f R r1 r2 ρ2) : dNeO tbl m f ta tb WD ρ R := h
theorem kNeO_i {C : Addr} {n m : Str} {ns ns' : List Str} {l' : List Dt} {sp : SpD} {t : OTab} (e : (n :: ns).contains m = false) (h : spF sp [.obj C (n :: ns) l, .obj C ns' l'] (kNot R ρ) (fun _ _ => False)) : kNeO ((n, C, sp) :: t) m f R (.dat (.obj C (n :: ns) l)) (.dat (.obj C ns' l')) ρ := by
  exact (if_pos (show isO (pk (.dat (.obj C (n :: ns) l)) ρ) = true from rfl)).mpr (own_hit (l := l) e ⟨rfl, h⟩)
theorem kNeO_s {C C' : Addr} {n n' m : Str} {ns ns' : List Str} {l' : List Dt} {sp : SpD} {t : OTab} (e : ¬ n' = n) (h : kNeO t m f R (.dat (.obj C (n :: ns) l)) (.dat (.obj C ns' l')) ρ) : kNeO ((n', C', sp) :: t) m f R (.dat (.obj C (n :: ns) l)) (.dat (.obj C ns' l')) ρ := by
  exact (if_pos (show isO (pk (.dat (.obj C (n :: ns) l)) ρ) = true from rfl)).mpr (own_skip (l := l) e ((if_pos (show isO (pk (.dat (.obj C (n :: ns) l)) ρ) = true from rfl)).mp h))
theorem kNeO_n {tbl : OTab} {m : Str} {a b : Dt} (hn : isO (some a) = false) (h : f a b fun r => R r ρ) : kNeO tbl m f R (.dat a) (.dat b) ρ := by
  unfold kNeO
  rw [if_neg (by show ¬ isO (some a) = true; rw [hn]; decide)]
  exact h
def kNegO (tbl : OTab) (f : F1) (R : Res → List En → Prop) (r1 : Res) (ρ1 : List En) : Prop := if isO (pk r1 ρ1) = true then kD (fun d ρ2 => own tbl "__neg__" (fun sp => sp [.dat d] (fun r _ => R r ρ2) (fun _ _ => False)) d) r1 ρ1 else kP (fun d ρ2 => f d fun r => R r ρ2) r1 ρ1
theorem dNegO_i {tbl : OTab} {f : F1} (h : ta WD ρ (kNegO tbl f R)) : dNegO tbl f ta WD ρ R := h
theorem kNegO_i {C : Addr} {n : Str} {ns : List Str} {sp : SpD} {t : OTab} {f : F1} (e : (n :: ns).contains "__neg__" = false) (h : spF sp [.obj C (n :: ns) l] (fun r _ => R r ρ) (fun _ _ => False)) : kNegO ((n, C, sp) :: t) f R (.dat (.obj C (n :: ns) l)) ρ := by
  exact (if_pos (show isO (pk (.dat (.obj C (n :: ns) l)) ρ) = true from rfl)).mpr (own_hit (l := l) e h)
theorem kNegO_n {tbl : OTab} {f : F1} {a : Dt} (hn : isO (some a) = false) (h : f a fun r => R r ρ) : kNegO tbl f R (.dat a) ρ := by
  unfold kNegO
  rw [if_neg (by show ¬ isO (some a) = true; rw [hn]; decide)]
  exact h
def kBl (R : Bool → List En → Prop) (ρ2 : List En) : Res → List En → Prop := fun r _ => match r with | .dat (.bl b) => R b ρ2 | _ => False
theorem kBl_i {R : Bool → List En → Prop} {b : Bool} {o : List En} (h : R b ρ) : kBl R ρ (.dat (.bl b)) o := h
def kTruO (tbl : OTab) (R : Bool → List En → Prop) (r : Res) (ρ1 : List En) : Prop := if isO (pk r ρ1) = true then kD (fun d ρ2 => own tbl "__bool__" (fun sp => sp [.dat d] (fun r _ => match r with | .dat (.bl b) => R b ρ2 | _ => False) (fun _ _ => False)) d) r ρ1 else kP (fun d ρ2 => tru d fun b => R b ρ2) r ρ1
theorem dTruO_i {tbl : OTab} {R : Bool → List En → Prop} (h : ta WD ρ (kTruO tbl R)) : dTruO tbl ta WD ρ R := h
theorem kTruO_i {C : Addr} {n : Str} {ns : List Str} {sp : SpD} {t : OTab} {R : Bool → List En → Prop} (e : (n :: ns).contains "__bool__" = false) (h : spF sp [.obj C (n :: ns) l] (kBl R ρ) (fun _ _ => False)) : kTruO ((n, C, sp) :: t) R (.dat (.obj C (n :: ns) l)) ρ := by
  exact (if_pos (show isO (pk (.dat (.obj C (n :: ns) l)) ρ) = true from rfl)).mpr (own_hit (l := l) e h)
theorem kTruO_n {tbl : OTab} {R : Bool → List En → Prop} {a : Dt} (hn : isO (some a) = false) (h : tru a fun b => R b ρ) : kTruO tbl R (.dat a) ρ := by
  unfold kTruO
  rw [if_neg (by show ¬ isO (some a) = true; rw [hn]; decide)]
  exact h
def kCB (f : FL) (R : Res → List En → Prop) (rs : List Res) (ρ1 : List En) : Prop := match pks rs ρ1 with
  | some ds => f ds fun r => R r ρ1
  | none => False
theorem dCB_i {f : FL} (h : tA WD ρ (kCB f R)) : dCB f tA WD ρ R := h
theorem kCB_i {f : FL} {ds : List Dt} (e : pks rs ρ = some ds) (h : f ds fun r => R r ρ) : kCB f R rs ρ := by unfold kCB; rw [e]; exact h
variable {P : Res → Prop} {x y : Int}
theorem fAdd_i (h : P (.dat (.int (x + y)))) : fAdd (.int x) (.int y) P := h
theorem fSub_i (h : P (.dat (.int (x - y)))) : fSub (.int x) (.int y) P := h
theorem fMul_i (h : P (.dat (.int (x * y)))) (e : CMulW x y) : fMul (.int x) (.int y) P := ⟨e, h⟩
theorem fDiv_i (h : P (.dat (.int (x / y)))) (e : CDivW x y) : fDiv (.int x) (.int y) P := ⟨e, h⟩
theorem fMod_i (h : P (.dat (.int (x % y)))) (e : 0 < y) : fMod (.int x) (.int y) P := ⟨e, h⟩
theorem fLt_i (h : P (.dat (.bl (decide (x < y))))) : fLt (.int x) (.int y) P := h
theorem fLe_i (h : P (.dat (.bl (decide (x ≤ y))))) : fLe (.int x) (.int y) P := h
theorem fGt_i (h : P (.dat (.bl (decide (y < x))))) : fGt (.int x) (.int y) P := h
theorem fGe_i (h : P (.dat (.bl (decide (y ≤ x))))) : fGe (.int x) (.int y) P := h
theorem fEq_i (h : P (.dat (.bl (decide (x = y))))) : fEq (.int x) (.int y) P := ⟨rfl, rfl, by
  have : PyData.eqv (.int x) (.int y) = decide (x = y) := by simp only [PyData.eqv]; rw [Bool.eq_iff_iff]; simp
  rw [this]; exact h⟩
theorem fNe_i (h : P (.dat (.bl (!decide (x = y))))) : fNe (.int x) (.int y) P := ⟨rfl, rfl, by
  have : PyData.eqv (.int x) (.int y) = decide (x = y) := by simp only [PyData.eqv]; rw [Bool.eq_iff_iff]; simp
  rw [this]; exact h⟩
theorem fNeg_i (h : P (.dat (.int (-x)))) : fNeg (.int x) P := h
theorem abs_ite (x : Int) : (if x < 0 then -x else x) = (x.natAbs : Int) := by split <;> omega
theorem fAbs_i (h : P (.dat (.int x.natAbs))) : fAbs [.int x] P := by show P (.dat (.int (if x < 0 then -x else x))); rw [abs_ite]; exact h
theorem fLen_l (h : P (.dat (.int l.length))) : fLen [.lst l] P := h
theorem fLen_t (h : P (.dat (.int l.length))) : fLen [.tup l] P := h
theorem fInt_i (h : P (.dat (.int x))) : fInt [.int x] P := h
theorem fList_l (h : P (.new (.lst l))) : fList [.lst l] P := h
theorem fList_t (h : P (.new (.lst l))) : fList [.tup l] P := h
theorem fTuple_l (h : P (.dat (.tup l))) : fTuple [.lst l] P := h
theorem fTuple_t (h : P (.dat (.tup l))) : fTuple [.tup l] P := h
theorem fIx_l (e : atI l x = some d) (h : P (.dat d)) : fIx (.lst l) (.int x) P := by unfold fIx; simp only [e]; exact h
theorem fIx_t (e : atI l x = some d) (h : P (.dat d)) : fIx (.tup l) (.int x) P := by unfold fIx; simp only [e]; exact h
theorem fSum_i {ns : List Int} (e : intsD l = some ns) (h : P (.dat (.int ns.sum))) : fSum [.lst l] P := by unfold fSum fInts; simp only [e]; exact h
theorem fAll_i {bs : List Bool} (e : blsD l = some bs) (h : P (.dat (.bl (bs.all id)))) : fAll [.lst l] P := by unfold fAll fBls; simp only [e]; exact h
theorem fAny_t {ns : List Int} (e : intsD l = some ns) (h : P (.dat (.bl (ns.any (· != 0))))) : fAnyU [.tup l] P := by unfold fAnyU; simp only [e]; exact h
theorem fLtR_i {a b : Dt} {ns ms : List Int} (e : rowOf a = some ns) (e' : rowOf b = some ms) (h : P (.dat (.bl (HT.lexLt ns ms)))) : fLtR a b P := by unfold fLtR; simp only [e, e']; exact h
theorem fIsiC_i {C : Addr} {ns : List Str} (h : P (.dat (.bl true))) : fIsiC C [.obj C ns l, .val (.ref C)] P := ⟨rfl, rfl, h⟩
theorem fIsi_i {T : String} {b : Bool} (e : (tyN d).bind (kitD · T) = some b) (h : P (.dat (.bl b))) : fIsi [d, .val (.ty T)] P := by unfold fIsi; simp only [e]; exact h
variable {t u : TSD} {g : TGD}
def nxOf (E : EndsD) : List En → Prop := E.nx
def rtOf (E : EndsD) : Res → List En → Prop := E.rt
def bkOf (E : EndsD) : List En → Prop := E.bk
def ctOf' (E : EndsD) : List En → Prop := E.ct
def seqE (E : EndsD) (k : List En → Prop) : EndsD := { E with nx := k }
def loopE (E : EndsD) (k : List En → Prop) : EndsD := { E with nx := k, ct := k, bk := E.nx }
variable {k : List En → Prop} {z : Res}
theorem nx_seq (h : k ρ) : nxOf (seqE E k) ρ := h
theorem rt_seq (h : rtOf E z ρ) : rtOf (seqE E k) z ρ := h
theorem bk_seq (h : bkOf E ρ) : bkOf (seqE E k) ρ := h
theorem ct_seq (h : ctOf' E ρ) : ctOf' (seqE E k) ρ := h
theorem nx_loop (h : k ρ) : nxOf (loopE E k) ρ := h
theorem rt_loop (h : rtOf E z ρ) : rtOf (loopE E k) z ρ := h
theorem bk_loop (h : nxOf E ρ) : bkOf (loopE E k) ρ := h
theorem ct_loop (h : k ρ) : ctOf' (loopE E k) ρ := h
theorem nx_end {o : List En} (e : ρ.take n = o) (h : R (.dat .non) o) : nxOf (endsD n R) ρ := by subst e; exact h
theorem rt_end {o : List En} (e : ρ.take n = o) (h : fin n (fun r => R r o) z ρ) : rtOf (endsD n R) z ρ := by subst e; exact h
theorem dNext_i (h : nxOf E ρ) : dNext WD E ρ := h
theorem dBreak_i (h : bkOf E ρ) : dBreak WD E ρ := h
theorem dCont_i (h : ctOf' E ρ) : dCont WD E ρ := h
theorem dDrop_i (h : te WD ρ fun _ ρ' => nxOf E ρ') : dDrop te WD E ρ := h
theorem dRet_i (h : te WD ρ (rtOf E)) : dRet te WD E ρ := h
theorem dRetN_i (h : rtOf E (.dat .non) ρ) : dRetN WD E ρ := h
theorem dIfS_i {tc : TTD} (h : tc WD ρ fun b ρ1 => if b = true then t WD E ρ1 else u WD E ρ1) : dIfS tc t u WD E ρ := h
theorem dAsg_i (h : te WD ρ fun r ρ' => g WD r ρ' (nxOf E)) : dAsg te g WD E ρ := h
theorem fin_dat {k : Res → Prop} (h : k (.dat d)) : fin n k (.dat d) ρ := h
theorem fin_new {k : Res → Prop} (h : k (.new w)) : fin n k (.new w) ρ := h
theorem fin_ref {k : Res → Prop} (e : ρ[i]? = some (.dat d)) (h : k (.dat d)) : fin n k (.ref i) ρ := by unfold fin; simp only [e]; exact h
theorem fin_own {k : Res → Prop} (e : ρ[i]? = some (.own w)) (hn : n ≤ i) (h : k (.new w)) : fin n k (.ref i) ρ := by unfold fin; simp only [e]; exact ⟨hn, h⟩
variable {Q : List En → Prop}
theorem gN_dat (e : ρ.set i (.dat d) = ρ') (h : Q ρ') : gN i WD (.dat d) ρ Q := by subst e; exact h
theorem gN_new (e : ρ.set i (.own w) = ρ') (h : Q ρ') : gN i WD (.new w) ρ Q := by subst e; exact h
theorem gN_own {ρ2 : List En} (e : ρ[j]? = some (.own (.lst l))) (e1 : ρ.set j (.dat (.lst l)) = ρ2) (e2 : ρ2.set i (.dat (.lst l)) = ρ') (h : Q ρ') : gN i WD (.ref j) ρ Q := by subst e2; subst e1; unfold gN gP; simp only [e]; exact h
def kSet (i : Nat) (Q : List En → Prop) : Dt → List En → Prop := fun d ρ' => Q (ρ'.set i (.dat d))
theorem kSet_i (e : ρ.set i (.dat d) = ρ') (h : Q ρ') : kSet i Q d ρ := by subst e; exact h
theorem gNF_i {r : Res} (h : kD (kSet i Q) r ρ) : gNF i WD r ρ Q := h
theorem gTupD_i {v : TGsD} (e : l.length = n) (h : v WD l ρ Q) : gTupD n v WD (.dat (.tup l)) ρ Q := ⟨e, h⟩
theorem gUnlD_i {v : TGsD} (e : l.length = n) (h : v WD l ρ Q) : gUnlD n v WD (.new (.lst l)) ρ Q := ⟨e, h⟩
theorem gUnlD_d {v : TGsD} (e : l.length = n) (h : v WD l ρ Q) : gUnlD n v WD (.dat (.lst l)) ρ Q := ⟨e, h⟩
theorem gConsD_i {v : TGsD} (e : ρ.set i (.dat d) = ρ') (h : v WD l ρ' Q) : gConsD i v WD (d :: l) ρ Q := by subst e; exact h
theorem gNilD_i (h : Q ρ) : gNilD WD [] ρ Q := h
def kPar (is : List Nat) (E : EndsD) (rs : List Res) (ρ1 : List En) : Prop := rs.length = is.length ∧ gPs rs ρ1 fun es ρ2 => nxOf E (putAll is es ρ2)
theorem dPar_i {is : List Nat} (h : tA WD ρ (kPar is E)) : dPar is tA WD E ρ := h
theorem kPar_2 {ρ2 : List En} (e1 : ρ.set i (.dat d) = ρ2) (e2 : ρ2.set j (.dat d') = ρ') (h : nxOf E ρ') : kPar [i, j] E [.dat d, .dat d'] ρ := by subst e2; subst e1; exact ⟨rfl, h⟩
theorem kPar_3 {k : Nat} {d2 : Dt} {ρ2 ρ3 : List En} (e1 : ρ.set i (.dat d) = ρ2) (e2 : ρ2.set j (.dat d') = ρ3) (e3 : ρ3.set k (.dat d2) = ρ') (h : nxOf E ρ') : kPar [i, j, k] E [.dat d, .dat d', .dat d2] ρ := by subst e3; subst e2; subst e1; exact ⟨rfl, h⟩
def kParF (is : List Nat) (E : EndsD) (ds : List Dt) (ρ2 : List En) : Prop := match is, ds with
  | [i, j], [a, b] => nxOf E ((ρ2.set i (.dat a)).set j (.dat b))
  | _, _ => False
theorem dParF_i {is : List Nat} (h : tA WD ρ fun rs ρ1 => kDs rs ρ1 (kParF is E)) : dParF is tA WD E ρ := h
theorem kParF_i {ρ2 : List En} (e1 : ρ.set i (.dat d) = ρ2) (e2 : ρ2.set j (.dat d') = ρ') (h : nxOf E ρ') : kParF [i, j] E [d, d'] ρ := by subst e2; subst e1; exact h
def kAug (i : Nat) (d : Dt) (f : F2) (E : EndsD) : Res → List En → Prop := fun r ρ1 => match pk r ρ1 with
    | some d2 => f d d2 fun r2 => gP (fun e ρ2 => nxOf E (ρ2.set i e)) r2 ρ1
    | none => False
theorem dAug_i (e : ρ[i]? = some (.dat d)) (h : te WD ρ (kAug i d f E)) : dAug i te f WD E ρ := by unfold dAug; simp only [e]; exact h
theorem kAug_i (h : f d d' fun r2 => gN i WD r2 ρ (nxOf E)) : kAug i d f E (.dat d') ρ := h
def kMut3 (m : MuD) (i : Nat) (R : Res → List En → Prop) : List Dt → List En → Prop := fun ds ρ3 => kOwnL ρ3 i fun l => m l ds fun l' d => R (.dat d) (ρ3.set i (.own (.lst l')))
def kMut (m : MuD) (tA : TAD) (WD : WDt) (R : Res → List En → Prop) : Res → List En → Prop := fun r ρ1 => match r with
  | .ref i => kOwnL ρ1 i fun _ => tA WD ρ1 fun rs ρ2 => kDs rs ρ2 fun ds ρ3 => kOwnL ρ3 i fun l => m l ds fun l' d => R (.dat d) (ρ3.set i (.own (.lst l')))
  | _ => False
theorem dMut_i {m : MuD} (h : to WD ρ (kMut m tA WD R)) : dMut m to tA WD ρ R := h
theorem kMut_i {m : MuD} (e : ρ[i]? = some (.own (.lst l))) (h : tA WD ρ fun rs ρ2 => kDs rs ρ2 (kMut3 m i R)) : kMut m tA WD R (.ref i) ρ := by unfold kMut kOwnL; simp only [e]; exact h
def kPut (i : Nat) (ρ : List En) (R : Res → List En → Prop) : List Dt → Dt → Prop := fun l' d => R (.dat d) (ρ.set i (.own (.lst l')))
theorem kPut_i (e : ρ.set i (.own (.lst l)) = ρ') (h : R (.dat d) ρ') : kPut i ρ R l d := by subst e; exact h
theorem kMut3_i {m : MuD} {ds : List Dt} (e : ρ[i]? = some (.own (.lst l))) (h : m l ds (kPut i ρ R)) : kMut3 m i R ds ρ := by unfold kMut3 kOwnL; simp only [e]; exact h
def kSub (ti : TED) (WD : WDt) (r : Res) (Q : List En → Prop) : Res → List En → Prop := fun ro ρ1 => match ro with
  | .ref j => ti WD ρ1 fun ri ρ2 => match pk ri ρ2 with
    | some (.int k) => kD (fun d ρ3 => kOwnL ρ3 j fun l => match ixN l.length k with
      | some m => Q (ρ3.set j (.own (.lst (l.set m d))))
      | none => False) r ρ2
    | _ => False
  | _ => False
def kSub2 (j : Nat) (r : Res) (Q : List En → Prop) : Res → List En → Prop := fun ri ρ2 => match pk ri ρ2 with
    | some (.int k) => kD (fun d ρ3 => kOwnL ρ3 j fun l => match ixN l.length k with
      | some m => Q (ρ3.set j (.own (.lst (l.set m d))))
      | none => False) r ρ2
    | _ => False
theorem gSubD_i {ti : TED} {r : Res} (h : to WD ρ (kSub ti WD r Q)) : gSubD to ti WD r ρ Q := h
theorem kSub_i {ti : TED} {r : Res} (h : ti WD ρ (kSub2 j r Q)) : kSub ti WD r Q (.ref j) ρ := h
theorem kSub2_i {m : Nat} {l' : List Dt} (e : ρ[j]? = some (.own (.lst l))) (e' : ixN l.length x = some m) (e1 : l.set m d = l') (e2 : ρ.set j (.own (.lst l')) = ρ') (h : Q ρ') : kSub2 j (.dat d) Q (.dat (.int x)) ρ := by
  subst e2; subst e1
  unfold kSub2 pk kD kOwnL
  simp only [e, e']
  exact h
theorem while_i {tc : TTD} (I : Nat → List En → Prop) (m : Nat) (h0 : I m ρ) (hs : ∀ m ρ, I m ρ → tc WD ρ fun b ρ1 => if b = true then t WD (loopE E fun ρ' => ∃ m', m' < m ∧ I m' ρ') ρ1 else nxOf E ρ1) : dWhile tc t WD E ρ := ⟨I, ⟨m, h0⟩, hs⟩
theorem dFor_i {ti : TID} (h : ti WD ρ fun ds ρ1 => forD g t WD E ds ρ1) : dFor ti g t WD E ρ := h
theorem for_i (I : Nat → List En → Prop) {ds : List Dt} (h0 : I 0 ρ) (hs : ∀ i d ρ (k : List En → Prop), ds[i]? = some d → I i ρ → (∀ ρ', I (i + 1) ρ' → k ρ') → g WD (.dat d) ρ fun ρ1 => t WD (loopE E k) ρ1) (hn : ∀ ρ, I ds.length ρ → nxOf E ρ) : forD g t WD E ds ρ := by
  have key : ∀ (m i : Nat) (ρ : List En), ds.length = i + m → I i ρ → forD g t WD E (ds.drop i) ρ := by
    intro m
    induction m with
    | zero =>
      intro i ρ e h
      rw [List.drop_of_length_le (by omega)]
      have : i = ds.length := by omega
      subst this
      exact hn ρ h
    | succ m ih =>
      intro i ρ e h
      have hi : i < ds.length := by omega
      rw [List.drop_eq_getElem_cons hi]
      exact hs i _ ρ _ (List.getElem?_eq_getElem hi) h fun ρ' h' => ih (i + 1) ρ' (by omega) h'
  have := key ds.length 0 ρ (by omega) h0
  rwa [List.drop_zero] at this
def kLc (g : TGC) (tt : TTD) (te : TED) (vs : List Nat) (R : List Dt → List En → Prop) : List Dt → List En → Prop := fun ds ρ1 => lcD g tt te vs R ds [] (wipeD ρ1 vs)
theorem kLc_i {g : TGC} {tt : TTD} {vs : List Nat} {R : List Dt → List En → Prop} {ds : List Dt} (e : wipeD ρ vs = ρ') (h : lcD g tt te vs R ds [] ρ') : kLc g tt te vs R ds ρ := by subst e; exact h
theorem dLc_i {ti : TID} {g : TGC} {tt : TTD} {vs : List Nat} (h : ti WD ρ (kLc g tt te vs fun acc ρ2 => R (.new (.lst acc)) ρ2)) : dLc ti g tt te vs WD ρ R := h
theorem lc_i {g : TGC} {tt : TTD} {vs : List Nat} {R : List Dt → List En → Prop} (I : Nat → List Dt → List En → Prop) {ds : List Dt} (h0 : I 0 [] ρ)
    (hs : ∀ i d acc ρ (k : List Dt → List En → Prop), ds[i]? = some d → I i acc ρ → (∀ acc' ρ', I (i + 1) acc' ρ' → k acc' ρ') → g d ρ fun ρ1 => tt WDN ρ1 fun b ρ2 => if b = true then te WDN ρ2 (kD fun y ρ3 => acc.length < sizeLine ∧ k (acc ++ [y]) (wipeD ρ3 vs)) else k acc (wipeD ρ2 vs))
    (hn : ∀ acc ρ, I ds.length acc ρ → R acc ρ) : lcD g tt te vs R ds [] ρ := by
  have key : ∀ (m i : Nat) (acc : List Dt) (ρ : List En), ds.length = i + m → I i acc ρ → lcD g tt te vs R (ds.drop i) acc ρ := by
    intro m
    induction m with
    | zero =>
      intro i acc ρ e h
      rw [List.drop_of_length_le (by omega)]
      have : i = ds.length := by omega
      subst this
      exact hn acc ρ h
    | succ m ih =>
      intro i acc ρ e h
      have hi : i < ds.length := by omega
      rw [List.drop_eq_getElem_cons hi]
      exact hs i _ acc ρ _ (List.getElem?_eq_getElem hi) h fun acc' ρ' h' => ih (i + 1) acc' ρ' (by omega) h'
  have := key ds.length 0 [] ρ (by omega) h0
  rwa [List.drop_zero] at this
theorem lc_map {g : TGC} {vs : List Nat} {R : List Dt → List En → Prop} (F : Dt → Dt) {ds : List Dt} (hl : ds.length ≤ sizeLine) (hs : ∀ d ∈ ds, ∀ (k : Dt → List En → Prop), (∀ ρ', wipeD ρ' vs = ρ → k (F d) ρ') → g d ρ fun ρ1 => te WDN ρ1 (kD k)) (h : R (ds.map F) ρ) : lcD g dYes te vs R ds [] ρ := by
  refine lc_i (fun i acc ρ1 => ρ1 = ρ ∧ acc = (ds.take i).map F) ⟨rfl, by simp⟩ ?_ ?_
  · rintro i d acc ρ1 k hd ⟨rfl, rfl⟩ hk
    have hi := (List.getElem?_eq_some_iff.mp hd).1
    refine hs d (List.mem_of_getElem? hd) _ fun ρ' e => ?_
    refine ⟨by simp; omega, hk _ _ ⟨e, ?_⟩⟩
    rw [List.take_add_one, hd]
    simp
  · rintro acc ρ1 ⟨rfl, rfl⟩
    rw [List.take_of_length_le (Nat.le_refl _)]
    exact h
theorem gcN_i {R : List En → Prop} (e : ρ.set i (.dat d) = ρ') (h : R ρ') : gcN i d ρ R := by subst e; exact h
theorem gcTup_i {v : TGCs} {R : List En → Prop} (e : l.length = n) (h : v l ρ R) : gcTup n v (.tup l) ρ R := ⟨e, h⟩
theorem gcCons_i {v : TGCs} {R : List En → Prop} (e : ρ.set i (.dat d) = ρ') (h : v l ρ' R) : gcCons i v (d :: l) ρ R := by subst e; exact h
theorem gcNil_i {R : List En → Prop} (h : R ρ) : gcNil [] ρ R := h
theorem dYes_i {R : Bool → List En → Prop} (h : R true ρ) : dYes WD ρ R := h
def kItS (R : List Dt → List En → Prop) : Dt → List En → Prop := fun d ρ' => match items d with | some l => R l ρ' | none => False
theorem dItS_i {R : List Dt → List En → Prop} (h : te WD ρ (kD (kItS R))) : dItS te WD ρ R := h
theorem kItS_l {R : List Dt → List En → Prop} (h : R l ρ) : kItS R (.lst l) ρ := h
theorem kItS_t {R : List Dt → List En → Prop} (h : R l ρ) : kItS R (.tup l) ρ := h
def kRng (R : List Dt → List En → Prop) (rs : List Res) (ρ1 : List En) : Prop := match pks rs ρ1 with
  | some [.int j] => -(2 ^ 62) ≤ j ∧ j < 2 ^ 62 ∧ R ((List.range j.toNat).map fun i => .int (0 + (i : Nat))) ρ1
  | _ => False
theorem dRng1_i {R : List Dt → List En → Prop} (h : tA WD ρ (kRng R)) : dRng1 tA WD ρ R := h
theorem kRng_i {R : List Dt → List En → Prop} (h : R ((List.range x.toNat).map fun i => .int (0 + (i : Nat))) ρ) (e : -(2 ^ 62) ≤ x ∧ x < 2 ^ 62) : kRng R [.dat (.int x)] ρ := ⟨e.1, e.2, h⟩
def kZip (R : List Dt → List En → Prop) : List Dt → List En → Prop := fun ds ρ2 => match ds with
  | [.lst l, .lst m] => R (zipD l m) ρ2
  | [.tup l, .tup m] => R (zipD l m) ρ2
  | _ => False
theorem dZip_i {R : List Dt → List En → Prop} (h : tA WD ρ fun rs ρ1 => kDs rs ρ1 (kZip R)) : dZip tA WD ρ R := h
def kSelf (i : Nat) (C : Addr) (g : Str) (E : EndsD) : Dt → List En → Prop := fun d ρ1 => match ρ1[i]? with
  | some (.own (.ins C' ns l)) => C' = C ∧ ns.length < 1000 ∧ nxOf E (ρ1.set i (.own (.ins C (putD g d ns l).1 (putD g d ns l).2)))
  | _ => False
theorem dSelf_i {C : Addr} {g : Str} (h : te WD ρ (kD (kSelf i C g E))) : dSelf i C g te WD E ρ := h
theorem kSelf_i {C : Addr} {g : Str} {ns ns' : List Str} {l' : List Dt} (e : ρ[i]? = some (.own (.ins C ns l))) (hn : ns.length < 1000) (e1 : putD g d ns l = (ns', l')) (e2 : ρ.set i (.own (.ins C ns' l')) = ρ') (h : nxOf E ρ') : kSelf i C g E d ρ := by
  subst e2
  unfold kSelf
  simp only [e, e1]
  exact ⟨trivial, hn, h⟩
theorem star1_i {sp : SpD} {EX : Xc → List En → Prop} {ds : List Dt} (hl : ds.length ≤ sizeLine) (h : sp [.own w, .dat (.tup ds)] (fun r outs => R r (back [.slot 0, .dat (.tup ds)] outs (.own w :: ds.map .dat))) (fun x outs => EX x (back [.slot 0, .dat (.tup ds)] outs (.own w :: ds.map .dat)))) : star1 sp (.own w :: ds.map .dat) R EX := by
  have key : ∀ (k : List Dt → Prop) (ds : List Dt), k ds → isDs k (ds.map .dat) := by
    intro k ds
    induction ds generalizing k with
    | nil => exact fun h => h
    | cons d ds ih => exact fun h => ih _ h
  exact ⟨trivial, key _ ds ⟨hl, h⟩⟩
end
end D
set_option Elab.async false
set_option linter.all false
set_option maxRecDepth 100000
namespace D
open PySem PySem.Spec PyProof.Rows L2
section
variable {WD : WDt} {ρ ρ' : List En} {R : Res → List En → Prop} {te : TED} {P : Res → Prop} {l : List Dt} {d : Dt}
theorem isi_int_int {x : Int} (h : P (.dat (.bl true))) : fIsi [(.int x), .val (.ty "int")] P := fIsi_i (show kitD "int" "int" = some true by decide) h
theorem isi_int_bool {x : Int} (h : P (.dat (.bl false))) : fIsi [(.int x), .val (.ty "bool")] P := fIsi_i (show kitD "int" "bool" = some false by decide) h
theorem isi_int_str {x : Int} (h : P (.dat (.bl false))) : fIsi [(.int x), .val (.ty "str")] P := fIsi_i (show kitD "int" "str" = some false by decide) h
theorem isi_int_list {x : Int} (h : P (.dat (.bl false))) : fIsi [(.int x), .val (.ty "list")] P := fIsi_i (show kitD "int" "list" = some false by decide) h
theorem isi_int_tuple {x : Int} (h : P (.dat (.bl false))) : fIsi [(.int x), .val (.ty "tuple")] P := fIsi_i (show kitD "int" "tuple" = some false by decide) h
theorem isi_bool_int {x : Bool} (h : P (.dat (.bl true))) : fIsi [(.bl x), .val (.ty "int")] P := fIsi_i (show kitD "bool" "int" = some true by decide) h
theorem isi_bool_bool {x : Bool} (h : P (.dat (.bl true))) : fIsi [(.bl x), .val (.ty "bool")] P := fIsi_i (show kitD "bool" "bool" = some true by decide) h
theorem isi_str_int {x : Str} (h : P (.dat (.bl false))) : fIsi [(.str x), .val (.ty "int")] P := fIsi_i (show kitD "str" "int" = some false by decide) h
theorem isi_str_bool {x : Str} (h : P (.dat (.bl false))) : fIsi [(.str x), .val (.ty "bool")] P := fIsi_i (show kitD "str" "bool" = some false by decide) h
theorem isi_str_str {x : Str} (h : P (.dat (.bl true))) : fIsi [(.str x), .val (.ty "str")] P := fIsi_i (show kitD "str" "str" = some true by decide) h
theorem isi_str_list {x : Str} (h : P (.dat (.bl false))) : fIsi [(.str x), .val (.ty "list")] P := fIsi_i (show kitD "str" "list" = some false by decide) h
theorem isi_str_tuple {x : Str} (h : P (.dat (.bl false))) : fIsi [(.str x), .val (.ty "tuple")] P := fIsi_i (show kitD "str" "tuple" = some false by decide) h
theorem isi_NoneType_int  (h : P (.dat (.bl false))) : fIsi [.non, .val (.ty "int")] P := fIsi_i (show kitD "NoneType" "int" = some false by decide) h
theorem isi_NoneType_bool  (h : P (.dat (.bl false))) : fIsi [.non, .val (.ty "bool")] P := fIsi_i (show kitD "NoneType" "bool" = some false by decide) h
theorem isi_NoneType_str  (h : P (.dat (.bl false))) : fIsi [.non, .val (.ty "str")] P := fIsi_i (show kitD "NoneType" "str" = some false by decide) h
theorem isi_list_int {x : List Dt} (h : P (.dat (.bl false))) : fIsi [(.lst x), .val (.ty "int")] P := fIsi_i (show kitD "list" "int" = some false by decide) h
theorem isi_list_bool {x : List Dt} (h : P (.dat (.bl false))) : fIsi [(.lst x), .val (.ty "bool")] P := fIsi_i (show kitD "list" "bool" = some false by decide) h
theorem isi_list_str {x : List Dt} (h : P (.dat (.bl false))) : fIsi [(.lst x), .val (.ty "str")] P := fIsi_i (show kitD "list" "str" = some false by decide) h
theorem isi_list_list {x : List Dt} (h : P (.dat (.bl true))) : fIsi [(.lst x), .val (.ty "list")] P := fIsi_i (show kitD "list" "list" = some true by decide) h
theorem isi_list_tuple {x : List Dt} (h : P (.dat (.bl false))) : fIsi [(.lst x), .val (.ty "tuple")] P := fIsi_i (show kitD "list" "tuple" = some false by decide) h
theorem isi_tuple_int {x : List Dt} (h : P (.dat (.bl false))) : fIsi [(.tup x), .val (.ty "int")] P := fIsi_i (show kitD "tuple" "int" = some false by decide) h
theorem isi_tuple_bool {x : List Dt} (h : P (.dat (.bl false))) : fIsi [(.tup x), .val (.ty "bool")] P := fIsi_i (show kitD "tuple" "bool" = some false by decide) h
theorem isi_tuple_str {x : List Dt} (h : P (.dat (.bl false))) : fIsi [(.tup x), .val (.ty "str")] P := fIsi_i (show kitD "tuple" "str" = some false by decide) h
theorem isi_tuple_list {x : List Dt} (h : P (.dat (.bl false))) : fIsi [(.tup x), .val (.ty "list")] P := fIsi_i (show kitD "tuple" "list" = some false by decide) h
theorem isi_tuple_tuple {x : List Dt} (h : P (.dat (.bl true))) : fIsi [(.tup x), .val (.ty "tuple")] P := fIsi_i (show kitD "tuple" "tuple" = some true by decide) h
def kIsiT (Ts : List String) (R : Res → List En → Prop) : Dt → List En → Prop := fun d ρ1 => match (tyN d).bind (kitAnyD · Ts) with
  | some b => R (.dat (.bl b)) ρ1
  | none => False
theorem dIsiT_i {Ts : List String} (h : te WD ρ (kP (kIsiT Ts R))) : dIsiT Ts te WD ρ R := h
theorem isiT_int {x : Int} (h : R (.dat (.bl true)) ρ) : kIsiT ["int", "str"] R (.int x) ρ := by
  unfold kIsiT
  rw [show (tyN (.int x)).bind (kitAnyD · ["int", "str"]) = some true from (show kitAnyD "int" ["int", "str"] = some true by decide)]
  exact h
theorem isiT_str {x : Str} (h : R (.dat (.bl true)) ρ) : kIsiT ["int", "str"] R (.str x) ρ := by
  unfold kIsiT
  rw [show (tyN (.str x)).bind (kitAnyD · ["int", "str"]) = some true from (show kitAnyD "str" ["int", "str"] = some true by decide)]
  exact h
theorem isiT_list {x : List Dt} (h : R (.dat (.bl false)) ρ) : kIsiT ["int", "str"] R (.lst x) ρ := by
  unfold kIsiT
  rw [show (tyN (.lst x)).bind (kitAnyD · ["int", "str"]) = some false from (show kitAnyD "list" ["int", "str"] = some false by decide)]
  exact h
theorem isiT_tuple {x : List Dt} (h : R (.dat (.bl false)) ρ) : kIsiT ["int", "str"] R (.tup x) ρ := by
  unfold kIsiT
  rw [show (tyN (.tup x)).bind (kitAnyD · ["int", "str"]) = some false from (show kitAnyD "tuple" ["int", "str"] = some false by decide)]
  exact h
theorem isiT_NoneType  (h : R (.dat (.bl false)) ρ) : kIsiT ["int", "str"] R .non ρ := by
  unfold kIsiT
  rw [show (tyN .non).bind (kitAnyD · ["int", "str"]) = some false from (show kitAnyD "NoneType" ["int", "str"] = some false by decide)]
  exact h
def lcK (g : TGC) (tt : TTD) (te : TED) (vs : List Nat) : List Dt → List En → (List Dt → List En → Prop) → Prop
  | [], ρ, k => k [] ρ
  | d :: ds, ρ, k => g d ρ fun ρ1 => tt WDN ρ1 fun b ρ2 => if b = true then te WDN ρ2 (kD fun y ρ3 => lcK g tt te vs ds (wipeD ρ3 vs) fun l ρ' => k (y :: l) ρ') else lcK g tt te vs ds (wipeD ρ2 vs) k
theorem lcD_K {g : TGC} {tt : TTD} {vs : List Nat} {R : List Dt → List En → Prop} : ∀ (ds acc : List Dt) (ρ : List En), acc.length + ds.length ≤ sizeLine → lcD g tt te vs R ds acc ρ = lcK g tt te vs ds ρ fun l ρ' => R (acc ++ l) ρ'
  | [], acc, ρ, _ => by unfold lcD lcK; show R acc ρ = R (acc ++ []) ρ; rw [List.append_nil]
  | d :: ds, acc, ρ, h => by
    unfold lcD lcK
    have h1 : acc.length < sizeLine := by rw [List.length_cons] at h; omega
    congr 1
    funext ρ1
    congr 1
    funext b ρ2
    congr 1
    · congr 1
      congr 1
      funext y ρ3
      rw [lcD_K ds (acc ++ [y]) _ (by rw [List.length_append, List.length_singleton]; rw [List.length_cons] at h; omega)]
      simp only [h1, true_and, List.append_assoc, List.singleton_append]
    · rw [lcD_K ds acc _ (by rw [List.length_cons] at h; omega)]
theorem lcD_i {g : TGC} {tt : TTD} {vs : List Nat} {R : List Dt → List En → Prop} {ds : List Dt} (hl : Nat.ble ds.length sizeLine = true) (h : lcK g tt te vs ds ρ R) : lcD g tt te vs R ds [] ρ := by
  rw [lcD_K ds [] ρ (by have := Nat.le_of_ble_eq_true hl; simpa using this)]
  exact h
theorem lcK_nil {g : TGC} {tt : TTD} {vs : List Nat} {k : List Dt → List En → Prop} (h : k [] ρ) : lcK g tt te vs [] ρ k := h
def kW (g : TGC) (tt : TTD) (te : TED) (vs : List Nat) (ds : List Dt) (k : List Dt → List En → Prop) : Dt → List En → Prop := fun y ρ3 => lcK g tt te vs ds (wipeD ρ3 vs) fun l ρ' => k (y :: l) ρ'
theorem kW_i {g : TGC} {tt : TTD} {vs : List Nat} {ds : List Dt} {k : List Dt → List En → Prop} (e : wipeD ρ vs = ρ') (h : lcK g tt te vs ds ρ' fun l ρ' => k (d :: l) ρ') : kW g tt te vs ds k d ρ := by subst e; exact h
def kW0 (g : TGC) (tt : TTD) (te : TED) (vs : List Nat) (ds : List Dt) (k : List Dt → List En → Prop) : List En → Prop := fun ρ3 => lcK g tt te vs ds (wipeD ρ3 vs) k
theorem kW0_i {g : TGC} {tt : TTD} {vs : List Nat} {ds : List Dt} {k : List Dt → List En → Prop} (e : wipeD ρ vs = ρ') (h : lcK g tt te vs ds ρ' k) : kW0 g tt te vs ds k ρ := by subst e; exact h
theorem lcK_cons {g : TGC} {tt : TTD} {vs : List Nat} {k : List Dt → List En → Prop} {ds : List Dt} (h : g d ρ fun ρ1 => tt WDN ρ1 fun b ρ2 => if b = true then te WDN ρ2 (kD (kW g tt te vs ds k)) else kW0 g tt te vs ds k ρ2) : lcK g tt te vs (d :: ds) ρ k := h
theorem lcK_yes {g : TGC} {vs : List Nat} {k : List Dt → List En → Prop} {ds : List Dt} (h : g d ρ fun ρ1 => te WDN ρ1 (kD (kW g dYes te vs ds k))) : lcK g dYes te vs (d :: ds) ρ k := h
theorem forD_nil {g : TGD} {t : TSD} {E : EndsD} (h : nxOf E ρ) : forD g t WD E [] ρ := h
theorem forD_cons {g : TGD} {t : TSD} {E : EndsD} {ds : List Dt} (h : g WD (.dat d) ρ fun ρ1 => t WD (loopE E (forD g t WD E ds)) ρ1) : forD g t WD E (d :: ds) ρ := h
theorem zip_nil {m : List Dt} : zipD [] m = [] := rfl
theorem zip_cons {a b : Dt} {l m z : List Dt} (e : zipD l m = z) : zipD (a :: l) (b :: m) = .tup [a, b] :: z := by rw [← e]; rfl
theorem kZip_tE {m z : List Dt} {R : List Dt → List En → Prop} (e : zipD l m = z) (h : R z ρ) : kZip R [.tup l, .tup m] ρ := by subst e; exact h
theorem kZip_lE {m z : List Dt} {R : List Dt → List En → Prop} (e : zipD l m = z) (h : R z ρ) : kZip R [.lst l, .lst m] ρ := by subst e; exact h
theorem kRng_3 {R : List Dt → List En → Prop} (h : R [.int 0, .int 1, .int 2] ρ) : kRng R [.dat (.int 3)] ρ := kRng_i h (by decide)
theorem kRng_4 {R : List Dt → List En → Prop} (h : R [.int 0, .int 1, .int 2, .int 3] ρ) : kRng R [.dat (.int 4)] ρ := kRng_i h (by decide)
theorem app_nil {m : List Dt} : [] ++ m = m := rfl
theorem app_cons {a : Dt} {l m z : List Dt} (e : l ++ m = z) : (a :: l) ++ m = a :: z := by rw [List.cons_append, e]
theorem fAdd_lE {m z : List Dt} (e : l ++ m = z) (b : Nat.ble z.length sizeLine = true) (h : P (.new (.lst z))) : fAdd (.lst l) (.lst m) P := by subst e; exact ⟨by have := Nat.le_of_ble_eq_true b; rwa [List.length_append] at this, h⟩
theorem fAdd_tE {m z : List Dt} (e : l ++ m = z) (b : Nat.ble z.length sizeLine = true) (h : P (.dat (.tup z))) : fAdd (.tup l) (.tup m) P := by subst e; exact ⟨by have := Nat.le_of_ble_eq_true b; rwa [List.length_append] at this, h⟩
theorem mAppend_E {R : List Dt → Dt → Prop} {z : List Dt} (e : l ++ [d] = z) (b : Nat.ble z.length sizeLine = true) (h : R z .non) : mAppend l [d] R := by subst e; exact ⟨by have := Nat.le_of_ble_eq_true b; rw [List.length_append, List.length_singleton] at this; exact this, h⟩
theorem fIn_04 {s : Int} (h : P (.dat (.bl (decide (s = 0 ∨ s = 4))))) : fInG false (.int s) (.tup [.int 0, .int 4]) P := by
  show P (.dat (.bl (inV (.int s) [.int 0, .int 4])))
  have : inV (.int s) [.int 0, .int 4] = decide (s = 0 ∨ s = 4) := by
    show ((0 == s) || ((4 == s) || false)) = _
    rw [Bool.or_false, Bool.eq_iff_iff]
    simp only [Bool.or_eq_true, beq_iff_eq, decide_eq_true_eq]
    omega
  rw [this]
  exact h
theorem sum4 {a b c e : Int} (h : P (.dat (.int (a + b + c + e)))) : fSum [.lst [.int a, .int b, .int c, .int e]] P := fSum_i rfl (by
  rw [show ([a, b, c, e] : List Int).sum = a + b + c + e by simp only [List.sum_cons, List.sum_nil]; omega]; exact h)
theorem sum3 {a b c : Int} (h : P (.dat (.int (a + b + c)))) : fSum [.lst [.int a, .int b, .int c]] P := fSum_i rfl (by
  rw [show ([a, b, c] : List Int).sum = a + b + c by simp only [List.sum_cons, List.sum_nil]; omega]; exact h)
theorem all4 {a b c e : Bool} (h : P (.dat (.bl (a && (b && (c && e)))))) : fAll [.lst [.bl a, .bl b, .bl c, .bl e]] P := fAll_i rfl (by
  rw [show ([a, b, c, e] : List Bool).all id = (a && (b && (c && e))) by simp only [List.all_cons, List.all_nil, Bool.and_true, id]]; exact h)
structure Cont (P K : List En → Prop) : Prop where
  h : ∀ ρ, P ρ → K ρ
theorem dSeq_k {t u : TSD} {E : EndsD} (h : ∀ K : List En → Prop, Cont (u WD E) K → t WD (seqE E K) ρ) : dSeq t u WD E ρ := h _ ⟨fun _ h => h⟩
theorem cont_i {P K : List En → Prop} (c : Cont P K) (h : P ρ) : K ρ := c.h ρ h
end
end D
set_option Elab.async false
set_option linter.all false
set_option maxRecDepth 100000
namespace D
open PySem PySem.Spec PyProof.Rows L2
section
variable {WD : WDt} {ρ ρ' : List En} {E : EndsD} {t u : TSD}
theorem dSeq_cut (Mid : List En → Prop) (h2 : ∀ ρ', Mid ρ' → u WD E ρ') (h1 : ∀ k : List En → Prop, (∀ ρ', Mid ρ' → k ρ') → t WD (seqE E k) ρ) : dSeq t u WD E ρ := h1 _ h2
variable {Q : List En → Prop} {j : Nat} {a b c e d : Dt}
theorem kSub4_1 (e0 : ρ[j]? = some (.own (.lst [a, b, c, e]))) (e2 : ρ.set j (.own (.lst [a, d, c, e])) = ρ') (h : Q ρ') : kSub2 j (.dat d) Q (.dat (.int 1)) ρ := kSub2_i e0 (show ixN 4 1 = some 1 by decide) rfl e2 h
theorem kSub4_2 (e0 : ρ[j]? = some (.own (.lst [a, b, c, e]))) (e2 : ρ.set j (.own (.lst [a, b, d, e])) = ρ') (h : Q ρ') : kSub2 j (.dat d) Q (.dat (.int 2)) ρ := kSub2_i e0 (show ixN 4 2 = some 2 by decide) rfl e2 h
theorem kSub4_3 (e0 : ρ[j]? = some (.own (.lst [a, b, c, e]))) (e2 : ρ.set j (.own (.lst [a, b, c, d])) = ρ') (h : Q ρ') : kSub2 j (.dat d) Q (.dat (.int 3)) ρ := kSub2_i e0 (show ixN 4 3 = some 3 by decide) rfl e2 h
theorem fPow_1018 {P : Res → Prop} (h : P (.dat (.int 1000000000000000000))) : fPow (.int 10) (.int 18) P := ⟨⟨by decide, by decide, by decide⟩, h⟩
structure Feed where
  ms : List Int
  i : Int
  u : Int
  m : Int
abbrev Feed.w (f : Feed) : Ow := .lst [.lst (f.ms.map .int), .int f.i, .int f.u, .int f.m]
structure Feed.ok (f : Feed) : Prop where
  l : f.ms.length ≤ 63
  i0 : 0 ≤ f.i
  il : f.i ≤ 63
  u0 : 0 ≤ f.u
  m0 : 0 ≤ f.m
  m1 : f.m < 2147483647
theorem em' (a : Int) {b : Int} (h : 0 < b) : 0 ≤ a % b ∧ a % b < b := ⟨Int.emod_nonneg _ (by omega), Int.emod_lt_of_pos _ h⟩
theorem cmul64 {i j : Int} (h1 : i.natAbs < 18446744073709551616) (h2 : j.natAbs < 18446744073709551616) : CMulW i j := wide_mul (a := 64) (b := 64) h1 h2 (by decide) (by decide) (by decide)
theorem cdiv64 {i j : Int} (h : 0 < j) (h2 : j.natAbs < 18446744073709551616) : CDivW i j := wide_div (b := 64) h h2 (by decide) (by decide)
theorem atI_ms {ms : List Int} {i : Int} (h0 : 0 ≤ i) (h : i < ms.length) : ∃ x, atI (ms.map Dt.int) i = some (.int x) := by
  obtain ⟨n, rfl⟩ : ∃ n : Nat, i = n := ⟨i.toNat, by omega⟩
  have hn : n < ms.length := by omega
  have e : (ms.map Dt.int)[n]? = some (.int ms[n]) := by rw [List.getElem?_map, List.getElem?_eq_getElem hn]; rfl
  exact ⟨ms[n], atI_nat e⟩
end
end D
set_option linter.all false
namespace G
structure Q4 where
  a : Int
  b : Int
  c : Int
  d : Int
deriving DecidableEq
namespace Q4
def Par (u : Q4) : Prop := u.a % 2 = u.b % 2 ∧ u.a % 2 = u.c % 2 ∧ u.a % 2 = u.d % 2
def add (u v : Q4) : Q4 := ⟨u.a + v.a, u.b + v.b, u.c + v.c, u.d + v.d⟩
def sub (u v : Q4) : Q4 := ⟨u.a - v.a, u.b - v.b, u.c - v.c, u.d - v.d⟩
def neg (u : Q4) : Q4 := ⟨-u.a, -u.b, -u.c, -u.d⟩
def mir (u : Q4) : Q4 := ⟨u.a, -u.b, -u.c, -u.d⟩
def mul (u v : Q4) : Q4 :=
  ⟨(u.a * v.a - u.b * v.b - u.c * v.c - u.d * v.d) / 2, (u.a * v.b + u.b * v.a + u.c * v.d - u.d * v.c) / 2,
   (u.a * v.c - u.b * v.d + u.c * v.a + u.d * v.b) / 2, (u.a * v.d + u.b * v.c - u.c * v.b + u.d * v.a) / 2⟩
def size (u : Q4) : Int := (u.a * u.a + u.b * u.b + u.c * u.c + u.d * u.d) / 4
theorem Par.wit {u : Q4} (h : u.Par) : ∃ x y z, u.b = u.a + 2 * x ∧ u.c = u.a + 2 * y ∧ u.d = u.a + 2 * z := by
  obtain ⟨h1, h2, h3⟩ := h
  exact ⟨(u.b - u.a) / 2, (u.c - u.a) / 2, (u.d - u.a) / 2, by omega, by omega, by omega⟩
theorem Par.mk' {u : Q4} {x y z : Int} (h1 : u.b = u.a + 2 * x) (h2 : u.c = u.a + 2 * y) (h3 : u.d = u.a + 2 * z) : u.Par := ⟨by omega, by omega, by omega⟩
theorem half_eq {n m : Int} (h : n = 2 * m) : n / 2 = m := by omega
structure Dbl (u v : Q4) : Prop where
  a : 2 * (mul u v).a = u.a * v.a - u.b * v.b - u.c * v.c - u.d * v.d
  b : 2 * (mul u v).b = u.a * v.b + u.b * v.a + u.c * v.d - u.d * v.c
  c : 2 * (mul u v).c = u.a * v.c - u.b * v.d + u.c * v.a + u.d * v.b
  d : 2 * (mul u v).d = u.a * v.d + u.b * v.c - u.c * v.b + u.d * v.a
theorem mul_all {u v : Q4} (hu : u.Par) (hv : v.Par) : Dbl u v ∧ (mul u v).Par := by
  obtain ⟨x, y, z, h1, h2, h3⟩ := hu.wit
  obtain ⟨p, q, r, k1, k2, k3⟩ := hv.wit
  have ea : u.a * v.a - u.b * v.b - u.c * v.c - u.d * v.d = 2 * (-(u.a * v.a) - u.a * p - x * v.a - 2 * x * p - u.a * q - y * v.a - 2 * y * q - u.a * r - z * v.a - 2 * z * r) := by rw [h1, h2, h3, k1, k2, k3]; grind
  have eb : u.a * v.b + u.b * v.a + u.c * v.d - u.d * v.c = 2 * (u.a * v.a + u.a * p + x * v.a + u.a * r + y * v.a + 2 * y * r - u.a * q - z * v.a - 2 * z * q) := by rw [h1, h2, h3, k1, k2, k3]; grind
  have ec : u.a * v.c - u.b * v.d + u.c * v.a + u.d * v.b = 2 * (u.a * v.a + u.a * q + y * v.a - u.a * r - x * v.a - 2 * x * r + u.a * p + z * v.a + 2 * z * p) := by rw [h1, h2, h3, k1, k2, k3]; grind
  have ed : u.a * v.d + u.b * v.c - u.c * v.b + u.d * v.a = 2 * (u.a * v.a + u.a * r + z * v.a + u.a * q + x * v.a + 2 * x * q - u.a * p - y * v.a - 2 * y * p) := by rw [h1, h2, h3, k1, k2, k3]; grind
  have fa := half_eq ea
  have fb := half_eq eb
  have fc := half_eq ec
  have fd := half_eq ed
  refine ⟨⟨?_, ?_, ?_, ?_⟩, Par.mk' (x := u.a * v.a + u.a * p + x * v.a + x * p + u.a * r + y * v.a + y * r + y * q - z * q + z * r) (y := u.a * v.a + u.a * q + y * v.a + y * q + x * p - x * r + u.a * p + z * v.a + z * p + z * r) (z := u.a * v.a + u.a * r + z * v.a + z * r + u.a * q + x * v.a + x * q + x * p + y * q - y * p) ?_ ?_ ?_⟩
  · show 2 * (_ / 2) = _; rw [fa, ea]
  · show 2 * (_ / 2) = _; rw [fb, eb]
  · show 2 * (_ / 2) = _; rw [fc, ec]
  · show 2 * (_ / 2) = _; rw [fd, ed]
  · show _ / 2 = _ / 2 + _; rw [fa, fb]; grind
  · show _ / 2 = _ / 2 + _; rw [fa, fc]; grind
  · show _ / 2 = _ / 2 + _; rw [fa, fd]; grind
theorem ext {u v : Q4} (h1 : u.a = v.a) (h2 : u.b = v.b) (h3 : u.c = v.c) (h4 : u.d = v.d) : u = v := by
  cases u; cases v; simp_all
theorem size4 {u : Q4} (hu : u.Par) : 4 * size u = u.a * u.a + u.b * u.b + u.c * u.c + u.d * u.d := by
  obtain ⟨x, y, z, h1, h2, h3⟩ := hu.wit
  have e : u.a * u.a + u.b * u.b + u.c * u.c + u.d * u.d = 4 * (u.a * u.a + u.a * x + u.a * y + u.a * z + x * x + y * y + z * z) := by rw [h1, h2, h3]; grind
  show 4 * (_ / 4) = _
  omega
theorem add_par {u v : Q4} (hu : u.Par) (hv : v.Par) : (add u v).Par := by
  obtain ⟨h1, h2, h3⟩ := hu; obtain ⟨k1, k2, k3⟩ := hv
  refine ⟨?_, ?_, ?_⟩ <;> simp only [add] <;> omega
theorem neg_par {u : Q4} (hu : u.Par) : (neg u).Par := by
  obtain ⟨h1, h2, h3⟩ := hu
  refine ⟨?_, ?_, ?_⟩ <;> simp only [neg] <;> omega
theorem mir_par {u : Q4} (hu : u.Par) : (mir u).Par := by
  obtain ⟨h1, h2, h3⟩ := hu
  refine ⟨?_, ?_, ?_⟩ <;> simp only [mir] <;> omega
def whole (n : Int) : Q4 := ⟨2 * n, 0, 0, 0⟩
theorem two_eq {x y : Int} (h : 2 * x = 2 * y) : x = y := by omega
theorem assoc {u v w : Q4} (hu : u.Par) (hv : v.Par) (hw : w.Par) : mul (mul u v) w = mul u (mul v w) := by
  obtain ⟨A, pA⟩ := mul_all hu hv
  obtain ⟨B, pB⟩ := mul_all hv hw
  obtain ⟨C, _⟩ := mul_all pA hw
  obtain ⟨D, _⟩ := mul_all hu pB
  have a1 := A.a; have a2 := A.b; have a3 := A.c; have a4 := A.d
  have b1 := B.a; have b2 := B.b; have b3 := B.c; have b4 := B.d
  have c1 := C.a; have c2 := C.b; have c3 := C.c; have c4 := C.d
  have d1 := D.a; have d2 := D.b; have d3 := D.c; have d4 := D.d
  generalize mul (mul u v) w = S at *
  generalize mul u (mul v w) = T at *
  generalize mul u v = m at *
  generalize mul v w = n at *
  have ea : S.a = T.a := by
    have h1 : 4 * S.a = (2 * m.a) * w.a - (2 * m.b) * w.b - (2 * m.c) * w.c - (2 * m.d) * w.d := by
      have : 4 * S.a = 2 * (2 * S.a) := by omega
      rw [this, c1]; grind
    have h2 : 4 * T.a = u.a * (2 * n.a) - u.b * (2 * n.b) - u.c * (2 * n.c) - u.d * (2 * n.d) := by
      have : 4 * T.a = 2 * (2 * T.a) := by omega
      rw [this, d1]; grind
    have h3 : 4 * S.a = 4 * T.a := by
      rw [h1, h2, a1, a2, a3, a4, b1, b2, b3, b4]; grind
    omega
  have eb : S.b = T.b := by
    have h1 : 4 * S.b = (2 * m.a) * w.b + (2 * m.b) * w.a + (2 * m.c) * w.d - (2 * m.d) * w.c := by
      have : 4 * S.b = 2 * (2 * S.b) := by omega
      rw [this, c2]; grind
    have h2 : 4 * T.b = u.a * (2 * n.b) + u.b * (2 * n.a) + u.c * (2 * n.d) - u.d * (2 * n.c) := by
      have : 4 * T.b = 2 * (2 * T.b) := by omega
      rw [this, d2]; grind
    have h3 : 4 * S.b = 4 * T.b := by
      rw [h1, h2, a1, a2, a3, a4, b1, b2, b3, b4]; grind
    omega
  have ec : S.c = T.c := by
    have h1 : 4 * S.c = (2 * m.a) * w.c - (2 * m.b) * w.d + (2 * m.c) * w.a + (2 * m.d) * w.b := by
      have : 4 * S.c = 2 * (2 * S.c) := by omega
      rw [this, c3]; grind
    have h2 : 4 * T.c = u.a * (2 * n.c) - u.b * (2 * n.d) + u.c * (2 * n.a) + u.d * (2 * n.b) := by
      have : 4 * T.c = 2 * (2 * T.c) := by omega
      rw [this, d3]; grind
    have h3 : 4 * S.c = 4 * T.c := by
      rw [h1, h2, a1, a2, a3, a4, b1, b2, b3, b4]; grind
    omega
  have ed : S.d = T.d := by
    have h1 : 4 * S.d = (2 * m.a) * w.d + (2 * m.b) * w.c - (2 * m.c) * w.b + (2 * m.d) * w.a := by
      have : 4 * S.d = 2 * (2 * S.d) := by omega
      rw [this, c4]; grind
    have h2 : 4 * T.d = u.a * (2 * n.d) + u.b * (2 * n.c) - u.c * (2 * n.b) + u.d * (2 * n.a) := by
      have : 4 * T.d = 2 * (2 * T.d) := by omega
      rw [this, d4]; grind
    have h3 : 4 * S.d = 4 * T.d := by
      rw [h1, h2, a1, a2, a3, a4, b1, b2, b3, b4]; grind
    omega
  exact ext ea eb ec ed
theorem dist {u v w : Q4} (hu : u.Par) (hv : v.Par) (hw : w.Par) : mul u (add v w) = add (mul u v) (mul u w) := by
  obtain ⟨A, _⟩ := mul_all hu hv
  obtain ⟨B, _⟩ := mul_all hu hw
  obtain ⟨C, _⟩ := mul_all hu (add_par hv hw)
  have a1 := A.a; have a2 := A.b; have a3 := A.c; have a4 := A.d
  have b1 := B.a; have b2 := B.b; have b3 := B.c; have b4 := B.d
  have c1 := C.a; have c2 := C.b; have c3 := C.c; have c4 := C.d
  generalize mul u (add v w) = S at *
  generalize mul u v = m at *
  generalize mul u w = n at *
  refine ext ?_ ?_ ?_ ?_ <;> simp only [add] at * <;> grind
theorem mir_mul {u v : Q4} (hu : u.Par) (hv : v.Par) : mir (mul u v) = mul (mir v) (mir u) := by
  obtain ⟨A, _⟩ := mul_all hu hv
  obtain ⟨B, _⟩ := mul_all (mir_par hv) (mir_par hu)
  have a1 := A.a; have a2 := A.b; have a3 := A.c; have a4 := A.d
  have b1 := B.a; have b2 := B.b; have b3 := B.c; have b4 := B.d
  generalize mul (mir v) (mir u) = S at *
  generalize mul u v = m at *
  refine ext ?_ ?_ ?_ ?_ <;> simp only [mir] at * <;> grind
theorem sub_add {u v : Q4} : add (sub u v) v = u := by refine ext ?_ ?_ ?_ ?_ <;> simp only [add, sub] <;> omega
theorem neg_neg {u : Q4} : neg (neg u) = u := by refine ext ?_ ?_ ?_ ?_ <;> simp only [neg] <;> omega
theorem size_mul {u v : Q4} (hu : u.Par) (hv : v.Par) : size (mul u v) = size u * size v := by
  obtain ⟨A, pA⟩ := mul_all hu hv
  have s1 := size4 hu; have s2 := size4 hv; have s3 := size4 pA
  have a1 := A.a; have a2 := A.b; have a3 := A.c; have a4 := A.d
  generalize size (mul u v) = S at *
  generalize mul u v = m at *
  have e : 16 * S = 16 * (size u * size v) := by
    have h : 16 * S = (2 * m.a) * (2 * m.a) + (2 * m.b) * (2 * m.b) + (2 * m.c) * (2 * m.c) + (2 * m.d) * (2 * m.d) := by grind
    have h2 : 16 * (size u * size v) = (4 * size u) * (4 * size v) := by grind
    rw [h, h2, a1, a2, a3, a4, s1, s2]
    grind
  omega
theorem size_mir {u : Q4} : size (mir u) = size u := by simp only [size, mir, Int.neg_mul_neg]
theorem mul_mir {u : Q4} (hu : u.Par) : mul u (mir u) = whole (size u) := by
  obtain ⟨A, _⟩ := mul_all hu (mir_par hu)
  have s1 := size4 hu
  have a1 := A.a; have a2 := A.b; have a3 := A.c; have a4 := A.d
  generalize mul u (mir u) = S at *
  generalize size u = s at *
  refine ext ?_ ?_ ?_ ?_ <;> simp only [mir, whole] at * <;> grind
def Bd (n : Nat) (u : Q4) : Prop := u.a.natAbs < 2 ^ n ∧ u.b.natAbs < 2 ^ n ∧ u.c.natAbs < 2 ^ n ∧ u.d.natAbs < 2 ^ n
theorem Bd.mono {n m : Nat} {u : Q4} (h : Bd n u) (hn : n ≤ m) : Bd m u := by
  have e : 2 ^ n ≤ 2 ^ m := Nat.pow_le_pow_right (by decide) hn
  exact ⟨Nat.lt_of_lt_of_le h.1 e, Nat.lt_of_lt_of_le h.2.1 e, Nat.lt_of_lt_of_le h.2.2.1 e, Nat.lt_of_lt_of_le h.2.2.2 e⟩
theorem mul_bd {i j : Int} {n : Nat} (h1 : i.natAbs < 2 ^ n) (h2 : j.natAbs < 2 ^ n) : (i * j).natAbs < 2 ^ n * 2 ^ n := by
  rw [Int.natAbs_mul]
  exact Nat.mul_lt_mul'' h1 h2
theorem pow4 (n : Nat) : 2 ^ (2 * n + 2) = 4 * (2 ^ n * 2 ^ n) := by
  rw [Nat.pow_add, Nat.two_mul, Nat.pow_add, Nat.mul_comm]
theorem Bd.mul {n : Nat} {u v : Q4} (h : Bd n u) (k : Bd n v) : Bd (2 * n + 2) (Q4.mul u v) := by
  obtain ⟨h1, h2, h3, h4⟩ := h
  obtain ⟨k1, k2, k3, k4⟩ := k
  have m := fun {i j : Int} (x : i.natAbs < 2 ^ n) (y : j.natAbs < 2 ^ n) => mul_bd x y
  refine ⟨?_, ?_, ?_, ?_⟩ <;> rw [pow4]
  · have a := m h1 k1; have b := m h2 k2; have c := m h3 k3; have d := m h4 k4
    simp only [Q4.mul]
    generalize 2 ^ n * 2 ^ n = P at *
    omega
  · have a := m h1 k2; have b := m h2 k1; have c := m h3 k4; have d := m h4 k3
    simp only [Q4.mul]
    generalize 2 ^ n * 2 ^ n = P at *
    omega
  · have a := m h1 k3; have b := m h2 k4; have c := m h3 k1; have d := m h4 k2
    simp only [Q4.mul]
    generalize 2 ^ n * 2 ^ n = P at *
    omega
  · have a := m h1 k4; have b := m h2 k3; have c := m h3 k2; have d := m h4 k1
    simp only [Q4.mul]
    generalize 2 ^ n * 2 ^ n = P at *
    omega
theorem Bd.add {n : Nat} {u v : Q4} (h : Bd n u) (k : Bd n v) : Bd (n + 1) (Q4.add u v) := by
  obtain ⟨h1, h2, h3, h4⟩ := h
  obtain ⟨k1, k2, k3, k4⟩ := k
  refine ⟨?_, ?_, ?_, ?_⟩ <;> rw [Nat.pow_succ] <;> simp only [Q4.add] <;> generalize 2 ^ n = P at * <;> omega
theorem Bd.mir {n : Nat} {u : Q4} (h : Bd n u) : Bd n (Q4.mir u) := by
  obtain ⟨h1, h2, h3, h4⟩ := h
  refine ⟨?_, ?_, ?_, ?_⟩ <;> simp only [Q4.mir, Int.natAbs_neg] <;> assumption
theorem Bd.size {n : Nat} {u : Q4} (h : Bd n u) : (Q4.size u).natAbs < 2 ^ (2 * n + 2) := by
  obtain ⟨h1, h2, h3, h4⟩ := h
  have a := mul_bd h1 h1; have b := mul_bd h2 h2; have c := mul_bd h3 h3; have d := mul_bd h4 h4
  rw [pow4]
  simp only [Q4.size]
  generalize 2 ^ n * 2 ^ n = P at *
  omega
end Q4
end G
set_option linter.all false
namespace G
def gcdL (ns : List Int) : Int := ns.foldl (fun g x => (Int.gcd g x : Int)) 0
theorem gcdF_dvd : ∀ (ns : List Int) (g : Int), ns.foldl (fun g x => (Int.gcd g x : Int)) g ∣ g ∧ ∀ x ∈ ns, ns.foldl (fun g x => (Int.gcd g x : Int)) g ∣ x
  | [], g => ⟨Int.dvd_refl _, fun x m => by cases m⟩
  | y :: ns, g => by
    obtain ⟨h1, h2⟩ := gcdF_dvd ns (Int.gcd g y)
    refine ⟨Int.dvd_trans h1 (Int.gcd_dvd_left _ _), fun x m => ?_⟩
    rcases List.mem_cons.mp m with rfl | m
    · exact Int.dvd_trans h1 (Int.gcd_dvd_right _ _)
    · exact h2 x m
theorem gcdF_great {d : Int} : ∀ (ns : List Int) (g : Int), d ∣ g → (∀ x ∈ ns, d ∣ x) → d ∣ ns.foldl (fun g x => (Int.gcd g x : Int)) g
  | [], g, h, _ => h
  | y :: ns, g, h, k => gcdF_great ns _ (Int.dvd_coe_gcd h (k y (.head _))) fun x m => k x (.tail _ m)
theorem gcdF_pos : ∀ (ns : List Int) (g : Int), 0 ≤ g → 0 ≤ ns.foldl (fun g x => (Int.gcd g x : Int)) g
  | [], _, h => h
  | y :: ns, g, h => gcdF_pos ns _ (Int.natCast_nonneg _)
theorem gcdL_dvd {ns : List Int} {x : Int} (m : x ∈ ns) : gcdL ns ∣ x := (gcdF_dvd ns 0).2 x m
theorem gcdL_great {ns : List Int} {d : Int} (h : ∀ x ∈ ns, d ∣ x) : d ∣ gcdL ns := gcdF_great ns 0 (Int.dvd_zero d) h
theorem gcdL_pos (ns : List Int) : 0 ≤ gcdL ns := gcdF_pos ns 0 (Int.le_refl _)
theorem gcdL_is {ns : List Int} {g : Int} (h0 : 0 ≤ g) (h1 : ∀ x ∈ ns, g ∣ x) (h2 : gcdL ns ∣ g) : gcdL ns = g := Int.dvd_antisymm (gcdL_pos ns) h0 h2 (gcdL_great h1)
theorem gcdL_mul {k : Int} (hk : 0 < k) (ns : List Int) : gcdL (ns.map (k * ·)) = k * gcdL ns := by
  refine gcdL_is (Int.mul_nonneg (by omega) (gcdL_pos ns)) (fun x m => ?_) ?_
  · obtain ⟨y, my, rfl⟩ := List.mem_map.mp m
    exact Int.mul_dvd_mul (Int.dvd_refl k) (gcdL_dvd my)
  · have hkd : k ∣ gcdL (ns.map (k * ·)) := gcdL_great fun x m => by
      obtain ⟨y, _, rfl⟩ := List.mem_map.mp m
      exact Int.dvd_mul_right _ _
    obtain ⟨e, he⟩ := hkd
    rw [he]
    refine Int.mul_dvd_mul (Int.dvd_refl k) (gcdL_great fun x m => ?_)
    have := gcdL_dvd (ns := ns.map (k * ·)) (List.mem_map.mpr ⟨x, m, rfl⟩)
    rw [he] at this
    exact Int.dvd_of_mul_dvd_mul_left (by omega) this
theorem dvd_mul_gcd {D k x y : Int} (h1 : D ∣ k * x) (h2 : D ∣ k * y) : D ∣ k * (Int.gcd x y : Int) := by
  have h := Int.dvd_coe_gcd h1 h2
  rw [Int.gcd_mul_left] at h
  have e : ((k.natAbs * Int.gcd x y : Nat) : Int) = (k.natAbs : Int) * (Int.gcd x y : Int) := Int.natCast_mul _ _
  rw [e] at h
  rcases Int.natAbs_eq k with q | q
  · rw [q]; exact h
  · rw [q, Int.neg_mul]; exact Int.dvd_neg.mpr h
namespace Q4
def g (u : Q4) : Int := Int.gcd (Int.gcd u.a u.b) (Int.gcd u.c u.d)
theorem g_pos (u : Q4) : 0 ≤ u.g := Int.natCast_nonneg _
theorem g_a (u : Q4) : u.g ∣ u.a := Int.dvd_trans (Int.gcd_dvd_left _ _) (Int.gcd_dvd_left _ _)
theorem g_b (u : Q4) : u.g ∣ u.b := Int.dvd_trans (Int.gcd_dvd_left _ _) (Int.gcd_dvd_right _ _)
theorem g_c (u : Q4) : u.g ∣ u.c := Int.dvd_trans (Int.gcd_dvd_right _ _) (Int.gcd_dvd_left _ _)
theorem g_d (u : Q4) : u.g ∣ u.d := Int.dvd_trans (Int.gcd_dvd_right _ _) (Int.gcd_dvd_right _ _)
theorem g_great {u : Q4} {D k : Int} (ha : D ∣ k * u.a) (hb : D ∣ k * u.b) (hc : D ∣ k * u.c) (hd : D ∣ k * u.d) : D ∣ k * u.g := dvd_mul_gcd (dvd_mul_gcd ha hb) (dvd_mul_gcd hc hd)
theorem g_great1 {u : Q4} {D : Int} (ha : D ∣ u.a) (hb : D ∣ u.b) (hc : D ∣ u.c) (hd : D ∣ u.d) : D ∣ u.g := by
  have := g_great (u := u) (D := D) (k := 1) (by rwa [Int.one_mul]) (by rwa [Int.one_mul]) (by rwa [Int.one_mul]) (by rwa [Int.one_mul])
  rwa [Int.one_mul] at this
theorem g_zero {u : Q4} (h : u.g = 0) : u = ⟨0, 0, 0, 0⟩ := by
  have h' : (Int.gcd (Int.gcd u.a u.b) (Int.gcd u.c u.d) : Int) = 0 := h
  have h2 := Int.gcd_eq_zero_iff.mp (Int.ofNat_eq_zero.mp h')
  have h3 := Int.gcd_eq_zero_iff.mp (Int.ofNat_eq_zero.mp h2.1)
  have h4 := Int.gcd_eq_zero_iff.mp (Int.ofNat_eq_zero.mp h2.2)
  exact ext h3.1 h3.2 h4.1 h4.2
def e11 (u : Q4) : Int := u.a * u.a + u.b * u.b - u.c * u.c - u.d * u.d
def e12 (u : Q4) : Int := 2 * (u.b * u.c - u.a * u.d)
def e13 (u : Q4) : Int := 2 * (u.b * u.d + u.a * u.c)
def e21 (u : Q4) : Int := 2 * (u.b * u.c + u.a * u.d)
def e22 (u : Q4) : Int := u.a * u.a - u.b * u.b + u.c * u.c - u.d * u.d
def e23 (u : Q4) : Int := 2 * (u.c * u.d - u.a * u.b)
def e31 (u : Q4) : Int := 2 * (u.b * u.d - u.a * u.c)
def e32 (u : Q4) : Int := 2 * (u.c * u.d + u.a * u.b)
def e33 (u : Q4) : Int := u.a * u.a - u.b * u.b - u.c * u.c + u.d * u.d
def nn (u : Q4) : Int := u.a * u.a + u.b * u.b + u.c * u.c + u.d * u.d
def ents (u : Q4) : List Int := [u.e11, u.e12, u.e13, u.e21, u.e22, u.e23, u.e31, u.e32, u.e33, u.nn]
theorem ents_g {u : Q4} {D : Int} (h : ∀ x ∈ u.ents, D ∣ x) : D ∣ 4 * u.g * u.g := by
  have h11 := h u.e11 (by simp [ents])
  have h12 := h u.e12 (by simp [ents])
  have h13 := h u.e13 (by simp [ents])
  have h21 := h u.e21 (by simp [ents])
  have h22 := h u.e22 (by simp [ents])
  have h23 := h u.e23 (by simp [ents])
  have h31 := h u.e31 (by simp [ents])
  have h32 := h u.e32 (by simp [ents])
  have h33 := h u.e33 (by simp [ents])
  have hn := h u.nn (by simp [ents])
  have aa : D ∣ 4 * u.a * u.a := by
    have := Int.dvd_add (Int.dvd_add h11 h22) (Int.dvd_add h33 hn)
    rwa [show u.e11 + u.e22 + (u.e33 + u.nn) = 4 * u.a * u.a by simp only [e11, e22, e33, nn]; grind] at this
  have bb : D ∣ 4 * u.b * u.b := by
    have := Int.dvd_sub (Int.dvd_add h11 hn) (Int.dvd_add h22 h33)
    rwa [show u.e11 + u.nn - (u.e22 + u.e33) = 4 * u.b * u.b by simp only [e11, e22, e33, nn]; grind] at this
  have cc : D ∣ 4 * u.c * u.c := by
    have := Int.dvd_sub (Int.dvd_add h22 hn) (Int.dvd_add h11 h33)
    rwa [show u.e22 + u.nn - (u.e11 + u.e33) = 4 * u.c * u.c by simp only [e11, e22, e33, nn]; grind] at this
  have dd : D ∣ 4 * u.d * u.d := by
    have := Int.dvd_sub (Int.dvd_add h33 hn) (Int.dvd_add h11 h22)
    rwa [show u.e33 + u.nn - (u.e11 + u.e22) = 4 * u.d * u.d by simp only [e11, e22, e33, nn]; grind] at this
  have bc : D ∣ 4 * u.b * u.c := by
    have := Int.dvd_add h12 h21
    rwa [show u.e12 + u.e21 = 4 * u.b * u.c by simp only [e12, e21]; grind] at this
  have ad : D ∣ 4 * u.a * u.d := by
    have := Int.dvd_sub h21 h12
    rwa [show u.e21 - u.e12 = 4 * u.a * u.d by simp only [e12, e21]; grind] at this
  have bd : D ∣ 4 * u.b * u.d := by
    have := Int.dvd_add h13 h31
    rwa [show u.e13 + u.e31 = 4 * u.b * u.d by simp only [e13, e31]; grind] at this
  have ac : D ∣ 4 * u.a * u.c := by
    have := Int.dvd_sub h13 h31
    rwa [show u.e13 - u.e31 = 4 * u.a * u.c by simp only [e13, e31]; grind] at this
  have cd : D ∣ 4 * u.c * u.d := by
    have := Int.dvd_add h23 h32
    rwa [show u.e23 + u.e32 = 4 * u.c * u.d by simp only [e23, e32]; grind] at this
  have ab : D ∣ 4 * u.a * u.b := by
    have := Int.dvd_sub h32 h23
    rwa [show u.e32 - u.e23 = 4 * u.a * u.b by simp only [e23, e32]; grind] at this
  have sw : ∀ {x y : Int}, D ∣ 4 * x * y → D ∣ 4 * y * x := fun {x y} q => by rwa [show 4 * y * x = 4 * x * y by grind]
  have ga := g_great (u := u) (k := 4 * u.a) aa ab ac ad
  have gb := g_great (u := u) (k := 4 * u.b) (sw ab) bb bc bd
  have gc := g_great (u := u) (k := 4 * u.c) (sw ac) (sw bc) cc cd
  have gd := g_great (u := u) (k := 4 * u.d) (sw ad) (sw bd) (sw cd) dd
  exact g_great (u := u) (k := 4 * u.g) (sw ga) (sw gb) (sw gc) (sw gd)
theorem sq4 (p : Int) : ∃ k, p * p = 4 * k + p % 2 := by
  rcases Int.emod_two_eq p with h | h
  · exact ⟨(p / 2) * (p / 2), by
      have : p = 2 * (p / 2) := by omega
      generalize p / 2 = q at this
      subst this
      rw [h]; grind⟩
  · exact ⟨(p / 2) * (p / 2) + p / 2, by
      have : p = 2 * (p / 2) + 1 := by omega
      generalize p / 2 = q at this
      subst this
      rw [h]; grind⟩
structure Prim (v : Q4) : Prop where
  par : v.Par
  one : (v.a % 2 = 1 ∧ v.g = 1) ∨ ∃ w : Q4, v = ⟨2 * w.a, 2 * w.b, 2 * w.c, 2 * w.d⟩ ∧ w.g = 1 ∧ ¬ (w.a % 2 = 1 ∧ w.b % 2 = 1 ∧ w.c % 2 = 1 ∧ w.d % 2 = 1)
def scale (v : Q4) : Int := if v.size % 2 = 1 then 4 else 8
def spr (v : Q4) : Int := if v.size % 2 = 1 then v.size else v.size / 2
theorem ents_two (w : Q4) : (⟨2 * w.a, 2 * w.b, 2 * w.c, 2 * w.d⟩ : Q4).ents = w.ents.map (4 * ·) := by
  simp only [ents, List.map_cons, List.map_nil, e11, e12, e13, e21, e22, e23, e31, e32, e33, nn]
  congr 1
  · grind
  congr 1
  · grind
  congr 1
  · grind
  congr 1
  · grind
  congr 1
  · grind
  congr 1
  · grind
  congr 1
  · grind
  congr 1
  · grind
  congr 1
  · grind
  congr 1
  grind
theorem odd_one {w : Q4} (h : w.g = 1) : w.a % 2 = 1 ∨ w.b % 2 = 1 ∨ w.c % 2 = 1 ∨ w.d % 2 = 1 := by
  rcases Int.emod_two_eq w.a with a | a <;> rcases Int.emod_two_eq w.b with b | b <;> rcases Int.emod_two_eq w.c with c | c <;> rcases Int.emod_two_eq w.d with d | d <;> first | (simp only [a, b, c, d]; decide) | skip
  exfalso
  have : (2 : Int) ∣ w.g := g_great1 (Int.dvd_of_emod_eq_zero a) (Int.dvd_of_emod_eq_zero b) (Int.dvd_of_emod_eq_zero c) (Int.dvd_of_emod_eq_zero d)
  rw [h] at this
  omega
theorem Prim.gcd {v : Q4} (h : Prim v) : gcdL v.ents = v.scale ∧ v.nn = 4 * v.size ∧ (v.size % 4 = 1 ∨ v.size % 4 = 3 ∨ v.size % 4 = 2) := by
  have hn : v.nn = 4 * v.size := (size4 h.par).symm
  rcases h.one with ⟨ho, hg⟩ | ⟨w, rfl, hg, hno⟩
  · obtain ⟨p1, p2, p3⟩ := h.par
    obtain ⟨x, hx⟩ : ∃ x, v.a = 2 * x + 1 := ⟨v.a / 2, by omega⟩
    obtain ⟨y, hy⟩ : ∃ y, v.b = 2 * y + 1 := ⟨v.b / 2, by omega⟩
    obtain ⟨z, hz⟩ : ∃ z, v.c = 2 * z + 1 := ⟨v.c / 2, by omega⟩
    obtain ⟨t, ht⟩ : ∃ t, v.d = 2 * t + 1 := ⟨v.d / 2, by omega⟩
    have hs : v.size = x * x + x + (y * y + y) + (z * z + z) + (t * t + t) + 1 := by
      have : 4 * v.size = 4 * (x * x + x + (y * y + y) + (z * z + z) + (t * t + t) + 1) := by
        rw [size4 h.par, hx, hy, hz, ht]; grind
      omega
    obtain ⟨kx, ex⟩ := sq4 x
    obtain ⟨ky, ey⟩ := sq4 y
    obtain ⟨kz, ez⟩ := sq4 z
    obtain ⟨kt, et⟩ := sq4 t
    have so : v.size % 2 = 1 := by omega
    have sc : v.scale = 4 := if_pos so
    refine ⟨?_, hn, by omega⟩
    rw [sc]
    refine gcdL_is (by decide) (fun q m => ?_) ?_
    · simp only [ents, List.mem_cons, List.not_mem_nil, or_false] at m
      have two : ∀ {n k : Int}, n = 4 * k → (4 : Int) ∣ n := fun {n k} e => ⟨k, e⟩
      rcases m with rfl | rfl | rfl | rfl | rfl | rfl | rfl | rfl | rfl | rfl
      · exact two (k := x * x + x + (y * y + y) - (z * z + z) - (t * t + t)) (by simp only [e11]; rw [hx, hy, hz, ht]; grind)
      · exact two (k := 2 * (y * z) + y + z - 2 * (x * t) - x - t) (by simp only [e12]; rw [hx, hy, hz, ht]; grind)
      · exact two (k := 2 * (y * t) + y + t + 2 * (x * z) + x + z + 1) (by simp only [e13]; rw [hx, hy, hz, ht]; grind)
      · exact two (k := 2 * (y * z) + y + z + 2 * (x * t) + x + t + 1) (by simp only [e21]; rw [hx, hy, hz, ht]; grind)
      · exact two (k := x * x + x - (y * y + y) + (z * z + z) - (t * t + t)) (by simp only [e22]; rw [hx, hy, hz, ht]; grind)
      · exact two (k := 2 * (z * t) + z + t - 2 * (x * y) - x - y) (by simp only [e23]; rw [hx, hy, hz, ht]; grind)
      · exact two (k := 2 * (y * t) + y + t - 2 * (x * z) - x - z) (by simp only [e31]; rw [hx, hy, hz, ht]; grind)
      · exact two (k := 2 * (z * t) + z + t + 2 * (x * y) + x + y + 1) (by simp only [e32]; rw [hx, hy, hz, ht]; grind)
      · exact two (k := x * x + x - (y * y + y) - (z * z + z) + (t * t + t)) (by simp only [e33]; rw [hx, hy, hz, ht]; grind)
      · exact two hn
    · have := ents_g (u := v) (D := gcdL v.ents) fun x m => gcdL_dvd m
      rw [hg] at this
      exact this
  · have hw : (⟨2 * w.a, 2 * w.b, 2 * w.c, 2 * w.d⟩ : Q4).size = w.nn := by
      have : 4 * (⟨2 * w.a, 2 * w.b, 2 * w.c, 2 * w.d⟩ : Q4).size = 4 * w.nn := by rw [← hn]; simp only [nn]; grind
      omega
    obtain ⟨ka, ea⟩ := sq4 w.a
    obtain ⟨kb, eb⟩ := sq4 w.b
    obtain ⟨kc, ec⟩ := sq4 w.c
    obtain ⟨kd, ed⟩ := sq4 w.d
    have hnn : w.nn = 4 * (ka + kb + kc + kd) + (w.a % 2 + w.b % 2 + w.c % 2 + w.d % 2) := by simp only [nn]; rw [ea, eb, ec, ed]; omega
    have h1 := odd_one hg
    have a2 := Int.emod_two_eq w.a
    have b2 := Int.emod_two_eq w.b
    have c2 := Int.emod_two_eq w.c
    have d2 := Int.emod_two_eq w.d
    have m4 : w.nn % 4 = 1 ∨ w.nn % 4 = 3 ∨ w.nn % 4 = 2 := by omega
    refine ⟨?_, hn, by rw [hw]; exact m4⟩
    rw [ents_two, gcdL_mul (by decide)]
    have h4 : gcdL w.ents ∣ 4 := by
      have := ents_g (u := w) (D := gcdL w.ents) fun x m => gcdL_dvd m
      rw [hg] at this
      exact this
    have hN : gcdL w.ents ∣ w.nn := gcdL_dvd (by simp [ents])
    have p0 := gcdL_pos w.ents
    generalize hG : gcdL w.ents = Gd at *
    have le : Gd ≤ 4 := Int.le_of_dvd (by decide) h4
    unfold scale
    rw [hw]
    have n3 : Gd ≠ 3 := by rintro rfl; omega
    have n0 : Gd ≠ 0 := by rintro rfl; omega
    have n4 : Gd ≠ 4 := by rintro rfl; omega
    by_cases so : w.nn % 2 = 1
    · rw [if_pos so]
      have n2 : Gd ≠ 2 := by rintro rfl; omega
      omega
    · rw [if_neg so]
      have e2 : (2 : Int) ∣ Gd := by
        rw [← hG]
        refine gcdL_great fun q m => ?_
        simp only [ents, List.mem_cons, List.not_mem_nil, or_false] at m
        rcases m with rfl | rfl | rfl | rfl | rfl | rfl | rfl | rfl | rfl | rfl
        · simp only [e11]; rw [ea, eb, ec, ed]; omega
        · exact Int.dvd_mul_right _ _
        · exact Int.dvd_mul_right _ _
        · exact Int.dvd_mul_right _ _
        · simp only [e22]; rw [ea, eb, ec, ed]; omega
        · exact Int.dvd_mul_right _ _
        · exact Int.dvd_mul_right _ _
        · exact Int.dvd_mul_right _ _
        · simp only [e33]; rw [ea, eb, ec, ed]; omega
        · omega
      omega
end Q4
end G
set_option linter.all false
namespace G
namespace Q4
def over (u : Q4) (n : Int) : Q4 := ⟨u.a / n, u.b / n, u.c / n, u.d / n⟩
def smul (k : Int) (u : Q4) : Q4 := ⟨k * u.a, k * u.b, k * u.c, k * u.d⟩
def Odd4 (w : Q4) : Prop := w.a % 2 = 1 ∧ w.b % 2 = 1 ∧ w.c % 2 = 1 ∧ w.d % 2 = 1
def Even4 (w : Q4) : Prop := w.a % 2 = 0 ∧ w.b % 2 = 0 ∧ w.c % 2 = 0 ∧ w.d % 2 = 0
instance (w : Q4) : Decidable (Odd4 w) := inferInstanceAs (Decidable (_ ∧ _ ∧ _ ∧ _))
instance (w : Q4) : Decidable (Even4 w) := inferInstanceAs (Decidable (_ ∧ _ ∧ _ ∧ _))
def con (u : Q4) : Int := if Odd4 (u.over u.g) ∨ Even4 (u.over u.g) then u.g else u.g / 2
theorem over_mul {u : Q4} {n : Int} (ha : n ∣ u.a) (hb : n ∣ u.b) (hc : n ∣ u.c) (hd : n ∣ u.d) : smul n (u.over n) = u := by
  unfold smul over
  exact ext (Int.mul_ediv_cancel' ha) (Int.mul_ediv_cancel' hb) (Int.mul_ediv_cancel' hc) (Int.mul_ediv_cancel' hd)
theorem smul_over {n : Int} (h : n ≠ 0) (u : Q4) : (smul n u).over n = u := by
  unfold smul over
  exact ext (Int.mul_ediv_cancel_left _ h) (Int.mul_ediv_cancel_left _ h) (Int.mul_ediv_cancel_left _ h) (Int.mul_ediv_cancel_left _ h)
theorem g_smul {k : Int} (hk : 0 ≤ k) (u : Q4) : (smul k u).g = k * u.g := by
  have e : (smul k u).g = (k.natAbs : Int) * u.g := by
    show ((Int.gcd (Int.gcd (k * u.a) (k * u.b)) (Int.gcd (k * u.c) (k * u.d)) : Nat) : Int) = _
    rw [Int.gcd_mul_left, Int.gcd_mul_left, Int.natCast_mul, Int.natCast_mul, Int.gcd_mul_left, Int.natCast_mul]
    rfl
  rw [e]
  congr 1
  omega
theorem g_over {u : Q4} (nu : u ≠ ⟨0, 0, 0, 0⟩) : 0 < u.g ∧ (u.over u.g).g = 1 ∧ smul u.g (u.over u.g) = u := by
  have g0 : 0 < u.g := by
    have := g_pos u
    rcases Int.lt_or_eq_of_le this with h | h
    · exact h
    · exact absurd (g_zero h.symm) nu
  have e := over_mul (g_a u) (g_b u) (g_c u) (g_d u)
  refine ⟨g0, ?_, e⟩
  have : u.g * (u.over u.g).g = u.g * 1 := by rw [← g_smul (by omega), e, Int.mul_one]
  exact Int.eq_of_mul_eq_mul_left (by omega) this
theorem not_even {w : Q4} (h : w.g = 1) : ¬ Even4 w := by
  rintro ⟨a, b, c, d⟩
  have := odd_one h
  omega
theorem con_all {u : Q4} (pu : u.Par) (nu : u ≠ ⟨0, 0, 0, 0⟩) : 0 < u.con ∧ Prim (u.over u.con) ∧ smul u.con (u.over u.con) = u ∧ u.con ≤ u.g := by
  obtain ⟨g0, g1, ge⟩ := g_over nu
  unfold con
  by_cases ho : Odd4 (u.over u.g) ∨ Even4 (u.over u.g)
  · rw [if_pos ho]
    have ho' : Odd4 (u.over u.g) := ho.resolve_right (not_even g1)
    obtain ⟨a, b, c, d⟩ := ho'
    exact ⟨g0, ⟨⟨by omega, by omega, by omega⟩, .inl ⟨a, g1⟩⟩, ge, Int.le_refl _⟩
  · rw [if_neg ho]
    generalize hw : u.over u.g = w at *
    -- what is shared is even
    have ev : u.g % 2 = 0 := by
      rcases Int.emod_two_eq u.g with h | h
      · exact h
      · exfalso
        obtain ⟨k, hk⟩ : ∃ k, u.g = 2 * k + 1 := ⟨u.g / 2, by omega⟩
        have ea : u.a = 2 * (k * w.a) + w.a := by have := congrArg Q4.a ge; simp only [smul] at this; rw [hk] at this; rw [← this]; grind
        have eb : u.b = 2 * (k * w.b) + w.b := by have := congrArg Q4.b ge; simp only [smul] at this; rw [hk] at this; rw [← this]; grind
        have ec : u.c = 2 * (k * w.c) + w.c := by have := congrArg Q4.c ge; simp only [smul] at this; rw [hk] at this; rw [← this]; grind
        have ed : u.d = 2 * (k * w.d) + w.d := by have := congrArg Q4.d ge; simp only [smul] at this; rw [hk] at this; rw [← this]; grind
        obtain ⟨p1, p2, p3⟩ := pu
        apply ho
        unfold Odd4 Even4
        omega
    obtain ⟨m, hm⟩ : ∃ m, u.g = 2 * m := ⟨u.g / 2, by omega⟩
    have em : u.g / 2 = m := by omega
    rw [em]
    have e2 : smul m ⟨2 * w.a, 2 * w.b, 2 * w.c, 2 * w.d⟩ = u := by
      rw [← ge, hm]
      unfold smul
      exact ext (by dsimp only; grind) (by dsimp only; grind) (by dsimp only; grind) (by dsimp only; grind)
    have e3 : u.over m = ⟨2 * w.a, 2 * w.b, 2 * w.c, 2 * w.d⟩ := by rw [← e2, smul_over (by omega)]
    refine ⟨by omega, ?_, by rw [e3, e2], by omega⟩
    rw [e3]
    exact ⟨⟨by dsimp only; omega, by dsimp only; omega, by dsimp only; omega⟩, .inr ⟨w, rfl, g1, fun h => ho (.inl h)⟩⟩
theorem g_neg (u : Q4) : u.neg.g = u.g := by
  show ((Int.gcd (Int.gcd (-u.a) (-u.b)) (Int.gcd (-u.c) (-u.d)) : Nat) : Int) = _
  rw [Int.gcd_neg, Int.neg_gcd, Int.gcd_neg, Int.neg_gcd]; rfl
theorem Prim.neg {v : Q4} (h : Prim v) : Prim v.neg := by
  refine ⟨neg_par h.par, ?_⟩
  rcases h.one with ⟨ho, hg⟩ | ⟨w, e, hg, hno⟩
  · exact .inl ⟨by show (-v.a) % 2 = 1; omega, by rw [g_neg]; exact hg⟩
  · refine .inr ⟨w.neg, ?_, by rw [g_neg]; exact hg, ?_⟩
    · rw [e]; unfold Q4.neg; exact ext (by dsimp only; omega) (by dsimp only; omega) (by dsimp only; omega) (by dsimp only; omega)
    · intro h
      apply hno
      obtain ⟨a, b, c, d⟩ := h
      simp only [Q4.neg] at a b c d
      omega
theorem ents_neg (v : Q4) : v.neg.ents = v.ents := by
  simp only [ents, e11, e12, e13, e21, e22, e23, e31, e32, e33, nn, Q4.neg, Int.neg_mul_neg]
theorem ents_smul (m : Int) (v : Q4) : (smul m v).ents = v.ents.map (m * m * ·) := by
  simp only [ents, List.map_cons, List.map_nil, e11, e12, e13, e21, e22, e23, e31, e32, e33, nn, smul]
  refine List.cons_eq_cons.mpr ⟨by grind, List.cons_eq_cons.mpr ⟨by grind, List.cons_eq_cons.mpr ⟨by grind, List.cons_eq_cons.mpr ⟨by grind, List.cons_eq_cons.mpr ⟨by grind, List.cons_eq_cons.mpr ⟨by grind, List.cons_eq_cons.mpr ⟨by grind, List.cons_eq_cons.mpr ⟨by grind, List.cons_eq_cons.mpr ⟨by grind, List.cons_eq_cons.mpr ⟨by grind, rfl⟩⟩⟩⟩⟩⟩⟩⟩⟩⟩
theorem size_neg (v : Q4) : v.neg.size = v.size := by simp only [size, Q4.neg, Int.neg_mul_neg]
theorem Prim.ne {v : Q4} (h : Prim v) : v ≠ ⟨0, 0, 0, 0⟩ := by
  rintro rfl
  rcases h.one with ⟨a, _⟩ | ⟨w, e, hg, _⟩
  · exact absurd a (by decide)
  · have e1 := congrArg Q4.a e
    have e2 := congrArg Q4.b e
    have e3 := congrArg Q4.c e
    have e4 := congrArg Q4.d e
    simp only at e1 e2 e3 e4
    have := odd_one hg
    omega
theorem sq_nn (x : Int) : 0 ≤ x * x := by rw [← Int.natAbs_mul_self]; exact Int.natCast_nonneg _
theorem size_pos {v : Q4} (h : Prim v) : 0 < v.size := by
  obtain ⟨_, hn, hm⟩ := h.gcd
  have : 0 ≤ v.nn := by
    unfold nn
    have a := sq_nn v.a
    have b := sq_nn v.b
    have c := sq_nn v.c
    have d := sq_nn v.d
    omega
  omega
theorem table_of {u v : Q4} {m : Int} (hm : 0 < m) (hv : Prim v) (hu : u.ents = v.ents.map (m * m * ·)) : gcdL u.ents = m * m * v.scale ∧ 0 < v.scale ∧ v.nn / v.scale = v.spr ∧ 0 < v.spr ∧ v.spr % 2 = 1 ∧ 4 * v.size / v.spr = v.scale := by
  obtain ⟨hg, hn, h4⟩ := hv.gcd
  have mm : 0 < m * m := Int.mul_pos hm hm
  have sp := size_pos hv
  refine ⟨by rw [hu, gcdL_mul mm, hg], ?_, ?_, ?_, ?_, ?_⟩
  · unfold scale; split <;> decide
  · rw [hn]; unfold scale spr; split <;> omega
  · unfold spr; split <;> omega
  · unfold spr; split <;> omega
  · unfold scale spr
    split
    · exact Int.mul_ediv_cancel _ (by omega)
    · obtain ⟨t, ht⟩ : ∃ t, v.size = 2 * t := ⟨v.size / 2, by omega⟩
      rw [ht, show 2 * t / 2 = t by omega, show 4 * (2 * t) = 8 * t by omega]
      exact Int.mul_ediv_cancel _ (by omega)
end Q4
end G
set_option linter.all false
namespace G
namespace Q4
theorem smul_par {k : Int} {u : Q4} (h : u.Par) : (smul k u).Par := by
  obtain ⟨x, y, z, a, b, c⟩ := h.wit
  exact Par.mk' (x := k * x) (y := k * y) (z := k * z) (by simp only [smul]; rw [a]; grind) (by simp only [smul]; rw [b]; grind) (by simp only [smul]; rw [c]; grind)
theorem smul_one (u : Q4) : smul 1 u = u := by unfold smul; exact ext (Int.one_mul _) (Int.one_mul _) (Int.one_mul _) (Int.one_mul _)
theorem smul_smul (k m : Int) (u : Q4) : smul k (smul m u) = smul (k * m) u := by unfold smul; exact ext (by grind) (by grind) (by grind) (by grind)
theorem smul_inj {k : Int} (h : k ≠ 0) {u v : Q4} (e : smul k u = smul k v) : u = v := by
  have a := congrArg Q4.a e
  have b := congrArg Q4.b e
  have c := congrArg Q4.c e
  have d := congrArg Q4.d e
  exact ext (Int.eq_of_mul_eq_mul_left h a) (Int.eq_of_mul_eq_mul_left h b) (Int.eq_of_mul_eq_mul_left h c) (Int.eq_of_mul_eq_mul_left h d)
theorem smul_mul {k : Int} {u v : Q4} (hu : u.Par) (hv : v.Par) : mul (smul k u) v = smul k (mul u v) := by
  obtain ⟨A, _⟩ := mul_all hu hv
  obtain ⟨B, _⟩ := mul_all (smul_par (k := k) hu) hv
  have a1 := A.a; have a2 := A.b; have a3 := A.c; have a4 := A.d
  have b1 := B.a; have b2 := B.b; have b3 := B.c; have b4 := B.d
  generalize mul (smul k u) v = S at *
  generalize mul u v = T at *
  simp only [smul] at b1 b2 b3 b4 ⊢
  refine ext (two_eq ?_) (two_eq ?_) (two_eq ?_) (two_eq ?_) <;> dsimp only
  · rw [b1]; have : 2 * (k * T.a) = k * (2 * T.a) := by grind
    rw [this, a1]; grind
  · rw [b2]; have : 2 * (k * T.b) = k * (2 * T.b) := by grind
    rw [this, a2]; grind
  · rw [b3]; have : 2 * (k * T.c) = k * (2 * T.c) := by grind
    rw [this, a3]; grind
  · rw [b4]; have : 2 * (k * T.d) = k * (2 * T.d) := by grind
    rw [this, a4]; grind
theorem mul_smul {k : Int} {u v : Q4} (hu : u.Par) (hv : v.Par) : mul u (smul k v) = smul k (mul u v) := by
  obtain ⟨A, _⟩ := mul_all hu hv
  obtain ⟨B, _⟩ := mul_all hu (smul_par (k := k) hv)
  have a1 := A.a; have a2 := A.b; have a3 := A.c; have a4 := A.d
  have b1 := B.a; have b2 := B.b; have b3 := B.c; have b4 := B.d
  generalize mul u (smul k v) = S at *
  generalize mul u v = T at *
  simp only [smul] at b1 b2 b3 b4 ⊢
  refine ext (two_eq ?_) (two_eq ?_) (two_eq ?_) (two_eq ?_) <;> dsimp only
  · rw [b1]; have : 2 * (k * T.a) = k * (2 * T.a) := by grind
    rw [this, a1]; grind
  · rw [b2]; have : 2 * (k * T.b) = k * (2 * T.b) := by grind
    rw [this, a2]; grind
  · rw [b3]; have : 2 * (k * T.c) = k * (2 * T.c) := by grind
    rw [this, a3]; grind
  · rw [b4]; have : 2 * (k * T.d) = k * (2 * T.d) := by grind
    rw [this, a4]; grind
theorem mir_smul (k : Int) (u : Q4) : (smul k u).mir = smul k u.mir := by unfold smul mir; exact ext rfl (by dsimp only; grind) (by dsimp only; grind) (by dsimp only; grind)
theorem mir_mir (u : Q4) : u.mir.mir = u := by unfold mir; exact ext rfl (by dsimp only; omega) (by dsimp only; omega) (by dsimp only; omega)
theorem mul_wholeS (u : Q4) (n : Int) : mul u (whole n) = smul n u := by
  have h : ∀ x y : Int, x = 2 * y → x / 2 = y := fun x y e => by omega
  unfold mul whole smul
  refine ext (h _ _ ?_) (h _ _ ?_) (h _ _ ?_) (h _ _ ?_) <;> dsimp only <;> grind
theorem whole_mul (u : Q4) (n : Int) : mul (whole n) u = smul n u := by
  have h : ∀ x y : Int, x = 2 * y → x / 2 = y := fun x y e => by omega
  unfold mul whole smul
  refine ext (h _ _ ?_) (h _ _ ?_) (h _ _ ?_) (h _ _ ?_) <;> dsimp only <;> grind
theorem size_smul {k : Int} {u : Q4} (hu : u.Par) : size (smul k u) = k * k * size u := by
  have a := size4 hu
  have b := size4 (smul_par (k := k) hu)
  simp only [smul] at b
  have : 4 * size (smul k u) = 4 * (k * k * size u) := by
    show 4 * size ⟨k * u.a, k * u.b, k * u.c, k * u.d⟩ = _
    rw [b]
    have : 4 * (k * k * size u) = k * k * (4 * size u) := by grind
    rw [this, a]; grind
  omega
theorem prim_dvd {v y : Q4} {c m : Int} (hv : Prim v) (py : y.Par) (c0 : 0 < c) (m0 : 0 < m) (e : smul c v = smul m y) : m ∣ c := by
  have eg : c * v.g = m * y.g := by rw [← g_smul (by omega), ← g_smul (by omega), e]
  rcases hv.one with ⟨_, hg⟩ | ⟨w, rfl, hg, hno⟩
  · rw [hg, Int.mul_one] at eg
    exact ⟨_, eg⟩
  · have g2 : (⟨2 * w.a, 2 * w.b, 2 * w.c, 2 * w.d⟩ : Q4).g = 2 := by
      have := g_smul (k := 2) (by decide) w
      rw [hg] at this
      exact this
    rw [g2] at eg
    rcases Int.emod_two_eq y.g with h | h
    · obtain ⟨k, hk⟩ : ∃ k, y.g = 2 * k := ⟨y.g / 2, by omega⟩
      refine ⟨k, ?_⟩
      have : 2 * c = 2 * (m * k) := by rw [show 2 * c = c * 2 by omega, eg, hk]; grind
      omega
    · exfalso
      obtain ⟨k, hk⟩ : ∃ k, y.g = 2 * k + 1 := ⟨y.g / 2, by omega⟩
      obtain ⟨m', hm⟩ : ∃ m', m = 2 * m' := by
        refine ⟨c - m * k, ?_⟩
        rw [hk] at eg
        have : m * (2 * k + 1) = 2 * (m * k) + m := by grind
        omega
      have ec : c = m' * y.g := by
        have : 2 * c = 2 * (m' * y.g) := by rw [show 2 * c = c * 2 by omega, eg, hm]; grind
        omega
      have m0' : m' ≠ 0 := by rintro rfl; omega
      have yo : y.a % 2 = 1 := by
        rcases Int.emod_two_eq y.a with q | q
        · exfalso
          obtain ⟨p1, p2, p3⟩ := py
          have : (2 : Int) ∣ y.g := g_great1 (Int.dvd_of_emod_eq_zero q) (Int.dvd_of_emod_eq_zero (by omega)) (Int.dvd_of_emod_eq_zero (by omega)) (Int.dvd_of_emod_eq_zero (by omega))
          omega
        · exact q
      have part : ∀ p q : Int, c * (2 * p) = m * q → y.g * p = q := fun p q h => by
        have : (2 * m') * (y.g * p) = (2 * m') * q := by rw [← hm, ← h, ec, hm]; grind
        exact Int.eq_of_mul_eq_mul_left (by omega) this
      have odd : ∀ p q : Int, y.g * p = q → q % 2 = 1 → p % 2 = 1 := fun p q h1 h2 => by
        rcases Int.emod_two_eq p with z | z
        · exfalso
          obtain ⟨t, ht⟩ : ∃ t, p = 2 * t := ⟨p / 2, by omega⟩
          rw [ht] at h1
          have : q = 2 * (y.g * t) := by rw [← h1]; grind
          omega
        · exact z
      obtain ⟨p1, p2, p3⟩ := py
      apply hno
      exact ⟨odd _ _ (part _ _ (congrArg Q4.a e)) yo, odd _ _ (part _ _ (congrArg Q4.b e)) (by omega), odd _ _ (part _ _ (congrArg Q4.c e)) (by omega), odd _ _ (part _ _ (congrArg Q4.d e)) (by omega)⟩
theorem prim_uniq {v v' : Q4} {c c' : Int} (hv : Prim v) (hv' : Prim v') (c0 : 0 < c) (c0' : 0 < c') (e : smul c v = smul c' v') : c = c' ∧ v = v' := by
  have h := Int.dvd_antisymm (by omega) (by omega) (prim_dvd hv' hv.par c0' c0 e.symm) (prim_dvd hv hv'.par c0 c0' e)
  subst h
  exact ⟨rfl, smul_inj (by omega) e⟩
theorem spr_neg (v : Q4) : v.neg.spr = v.spr := by unfold spr; rw [size_neg]
def Lo (x : Q4) (s : Int) : Prop := ∃ (v : Q4) (c : Int), Prim v ∧ 0 < c ∧ x = smul c v ∧ v.spr = s
theorem Lo.uniq {x : Q4} {s s' : Int} (h : Lo x s) (h' : Lo x s') : s = s' := by
  obtain ⟨v, c, pv, c0, e, rfl⟩ := h
  obtain ⟨v', c', pv', c0', e', rfl⟩ := h'
  rw [e] at e'
  rw [(prim_uniq pv pv' c0 c0' e').2]
theorem lo_of {x : Q4} (px : x.Par) (nx : x ≠ ⟨0, 0, 0, 0⟩) : Lo x (x.over x.con).spr := by
  obtain ⟨c0, pv, e, _⟩ := con_all px nx
  exact ⟨_, _, pv, c0, e.symm, rfl⟩
theorem Lo.par {x : Q4} {s : Int} (h : Lo x s) : x.Par := by
  obtain ⟨v, c, pv, c0, rfl, _⟩ := h
  exact smul_par pv.par
theorem smul_ne {k : Int} {x : Q4} (hk : k ≠ 0) (nx : x ≠ ⟨0, 0, 0, 0⟩) : smul k x ≠ ⟨0, 0, 0, 0⟩ := fun e => by
  apply nx
  have z : smul k ⟨0, 0, 0, 0⟩ = ⟨0, 0, 0, 0⟩ := by unfold smul; simp
  exact smul_inj hk (e.trans z.symm)
theorem Lo.ne {x : Q4} {s : Int} (h : Lo x s) : x ≠ ⟨0, 0, 0, 0⟩ := by
  obtain ⟨v, c, pv, c0, rfl, _⟩ := h
  exact smul_ne (by omega) pv.ne
theorem Lo.pos {x : Q4} {s : Int} (h : Lo x s) : 0 < s ∧ s % 2 = 1 := by
  obtain ⟨v, c, pv, c0, rfl, rfl⟩ := h
  obtain ⟨_, _, _, sp0, so, _⟩ := table_of (u := v) (m := 1) (by decide) pv (by simp)
  exact ⟨sp0, so⟩
theorem Lo.smul {x : Q4} {s k : Int} (h : Lo x s) (hk : k ≠ 0) : Lo (smul k x) s := by
  obtain ⟨v, c, pv, c0, rfl, e⟩ := h
  rcases Int.lt_trichotomy k 0 with q | q | q
  · refine ⟨v.neg, -k * c, pv.neg, Int.mul_pos (by omega) c0, ?_, by rw [spr_neg]; exact e⟩
    unfold Q4.smul Q4.neg
    exact ext (by dsimp only; grind) (by dsimp only; grind) (by dsimp only; grind) (by dsimp only; grind)
  · exact absurd q hk
  · exact ⟨v, k * c, pv, Int.mul_pos q c0, smul_smul _ _ _, e⟩
theorem Lo.unsmul {x : Q4} {s k : Int} (px : x.Par) (nx : x ≠ ⟨0, 0, 0, 0⟩) (hk : k ≠ 0) (h : Lo (Q4.smul k x) s) : Lo x s := by
  have l := lo_of px nx
  rw [← (l.smul hk).uniq h]
  exact l
theorem mir_mul_self {u : Q4} (hu : u.Par) : mul (mir u) u = whole (size u) := by
  have := mul_mir (mir_par hu)
  rw [mir_mir, size_mir] at this
  exact this
theorem prod_ne {u v : Q4} (hu : u.Par) (hv : v.Par) (h : 0 < size u) (h' : 0 < size v) : mul u v ≠ ⟨0, 0, 0, 0⟩ := fun e => by
  have q := size_mul hu hv
  rw [e] at q
  have := Int.mul_pos h h'
  have z : size ⟨0, 0, 0, 0⟩ = 0 := by decide
  omega
theorem spr_two {v v1 : Q4} {N c1 : Int} (pv : Prim v) (p1 : Prim v1) (hN : N = 1 ∨ N = 2) (c0 : 0 < c1) (hd : c1 ∣ N) (e : N * v.size = c1 * c1 * v1.size) : v1.spr = v.spr := by
  have h4 := pv.gcd.2.2
  have h4' := p1.gcd.2.2
  rcases hN with rfl | rfl
  · have : c1 = 1 := Int.eq_one_of_dvd_one (by omega) hd
    subst this
    unfold spr
    rw [show v1.size = v.size by omega]
  · have le := Int.le_of_dvd (by decide) hd
    rcases (by omega : c1 = 1 ∨ c1 = 2) with rfl | rfl
    · unfold spr
      rw [if_neg (by omega), if_pos (by omega)]
      omega
    · unfold spr
      rw [if_pos (by omega), if_neg (by omega)]
      omega
theorem Lo.mulR {x q : Q4} {s : Int} (h : Lo x s) (pq : q.Par) (hq : size q = 1 ∨ size q = 2) : Lo (mul x q) s := by
  obtain ⟨v, c, pv, c0, rfl, rfl⟩ := h
  rw [smul_mul pv.par pq]
  have pm := (mul_all pv.par pq).2
  have nm : mul v q ≠ ⟨0, 0, 0, 0⟩ := prod_ne pv.par pq (size_pos pv) (by omega)
  obtain ⟨c1, p1, e1, _⟩ := con_all pm nm
  refine Lo.smul ⟨_, _, p1, c1, e1.symm, ?_⟩ (by omega)
  refine spr_two pv p1 hq c1 ?_ ?_
  · refine prim_dvd (v := v) (y := mul ((mul v q).over (mul v q).con) (mir q)) pv (mul_all p1.par (mir_par pq)).2 (by omega) c1 ?_
    rw [← smul_mul p1.par (mir_par pq), e1, assoc pv.par pq (mir_par pq), mul_mir pq, mul_wholeS]
  · have := size_mul pv.par pq
    rw [← e1, size_smul p1.par] at this
    rw [Int.mul_comm, this]
theorem Lo.mulL {x q : Q4} {s : Int} (h : Lo x s) (pq : q.Par) (hq : size q = 1 ∨ size q = 2) : Lo (mul q x) s := by
  obtain ⟨v, c, pv, c0, rfl, rfl⟩ := h
  rw [mul_smul pq pv.par]
  have pm := (mul_all pq pv.par).2
  have nm : mul q v ≠ ⟨0, 0, 0, 0⟩ := prod_ne pq pv.par (by omega) (size_pos pv)
  obtain ⟨c1, p1, e1, _⟩ := con_all pm nm
  refine Lo.smul ⟨_, _, p1, c1, e1.symm, ?_⟩ (by omega)
  refine spr_two pv p1 hq c1 ?_ ?_
  · refine prim_dvd (v := v) (y := mul (mir q) ((mul q v).over (mul q v).con)) pv (mul_all (mir_par pq) p1.par).2 (by omega) c1 ?_
    rw [← mul_smul (mir_par pq) p1.par, e1, ← assoc (mir_par pq) pq pv.par, mir_mul_self pq, whole_mul]
  · have := size_mul pq pv.par
    rw [← e1, size_smul p1.par] at this
    exact this.symm
def Rel (t u : Q4) : Prop := ∃ (k m : Int) (q : Q4), k ≠ 0 ∧ m ≠ 0 ∧ q.Par ∧ (size q = 1 ∨ size q = 2) ∧ Q4.smul k t = Q4.smul m (mul u q)
end Q4
end G
set_option linter.all false
namespace G
namespace Q4
theorem g_mir (u : Q4) : u.mir.g = u.g := by
  show ((Int.gcd (Int.gcd u.a (-u.b)) (Int.gcd (-u.c) (-u.d)) : Nat) : Int) = _
  rw [Int.gcd_neg, Int.neg_gcd, Int.gcd_neg]; rfl
theorem Prim.mir {v : Q4} (h : Prim v) : Prim v.mir := by
  refine ⟨mir_par h.par, ?_⟩
  rcases h.one with ⟨ho, hg⟩ | ⟨w, e, hg, hno⟩
  · exact .inl ⟨ho, by rw [g_mir]; exact hg⟩
  · refine .inr ⟨w.mir, ?_, by rw [g_mir]; exact hg, ?_⟩
    · rw [e]; unfold Q4.mir; exact ext rfl (by dsimp only; omega) (by dsimp only; omega) (by dsimp only; omega)
    · intro h
      apply hno
      obtain ⟨a, b, c, d⟩ := h
      simp only [Q4.mir] at a b c d
      omega
theorem spr_mir (v : Q4) : v.mir.spr = v.spr := by unfold spr; rw [size_mir]
theorem Lo.mir {x : Q4} {s : Int} (h : Lo x s) : Lo x.mir s := by
  obtain ⟨v, c, pv, c0, rfl, e⟩ := h
  exact ⟨v.mir, c, pv.mir, c0, mir_smul c v, by rw [spr_mir]; exact e⟩
theorem lo_swap {p q : Q4} {s : Int} (pp : p.Par) (pq : q.Par) (h : Lo (mul (mir p) q) s) : Lo (mul (mir q) p) s := by
  have := h.mir
  rwa [mir_mul (mir_par pp) pq, mir_mir] at this
def ei : Q4 := ⟨2, 2, 0, 0⟩
theorem ei_par : ei.Par := ⟨rfl, rfl, rfl⟩
theorem ei_size : size ei = 2 := by decide
theorem con_ei {v : Q4} (pv : Prim v) (he : v.size % 2 = 0) : (mul v ei).con = 2 ∧ Prim ((mul v ei).over 2) ∧ smul 2 ((mul v ei).over 2) = mul v ei ∧ ((mul v ei).over 2).size % 2 = 1 ∧ mul v ei ≠ ⟨0, 0, 0, 0⟩ := by
  have pm := (mul_all pv.par ei_par).2
  have nm : mul v ei ≠ ⟨0, 0, 0, 0⟩ := prod_ne pv.par ei_par (size_pos pv) (by rw [ei_size]; decide)
  obtain ⟨c1, p1, e1, _⟩ := con_all pm nm
  have hd : (mul v ei).con ∣ 2 := by
    refine prim_dvd (v := v) (y := mul ((mul v ei).over (mul v ei).con) (mir ei)) pv (mul_all p1.par (mir_par ei_par)).2 (by decide) c1 ?_
    rw [← smul_mul p1.par (mir_par ei_par), e1, assoc pv.par ei_par (mir_par ei_par), mul_mir ei_par, mul_wholeS, ei_size]
  have sz := size_mul pv.par ei_par
  rw [← e1, size_smul p1.par, ei_size] at sz
  have h4 := pv.gcd.2.2
  have h4' := p1.gcd.2.2
  have le := Int.le_of_dvd (by decide) hd
  have c2 : (mul v ei).con = 2 := by
    rcases (by omega : (mul v ei).con = 1 ∨ (mul v ei).con = 2) with q | q
    · rw [q] at sz h4'
      omega
    · exact q
  rw [c2] at p1 e1 sz h4'
  exact ⟨c2, p1, e1, by omega, nm⟩
theorem Lo.odd {x : Q4} {s : Int} (h : Lo x s) (ho : x.size % 2 = 1) : ∃ (v : Q4) (c : Int), Prim v ∧ 0 < c ∧ x = Q4.smul c v ∧ s * (c * c) = x.size := by
  obtain ⟨v, c, pv, c0, rfl, rfl⟩ := h
  refine ⟨v, c, pv, c0, rfl, ?_⟩
  have e := size_smul (k := c) pv.par
  have vo : v.size % 2 = 1 := by
    rcases Int.emod_two_eq v.size with q | q
    · exfalso
      obtain ⟨t, ht⟩ : ∃ t, v.size = 2 * t := ⟨v.size / 2, by omega⟩
      rw [ht] at e
      have : size (Q4.smul c v) = 2 * (c * c * t) := by rw [e]; grind
      omega
    · exact q
  have : v.spr = v.size := if_pos vo
  rw [this, e, Int.mul_comm]
theorem rel_lo {t x : Q4} {s : Int} (pt : t.Par) (nt : t ≠ ⟨0, 0, 0, 0⟩) (h : Rel t x) (hl : Lo x s) : Lo t s := by
  obtain ⟨k, m, q, k0, m0, pq, hq, e⟩ := h
  have l := (hl.mulR pq hq).smul m0
  rw [← e] at l
  exact l.unsmul pt nt k0
theorem Rel.of {t x y : Q4} {m : Int} (px : x.Par) (h : Rel t x) (hm : m ≠ 0) (e : y = smul m x) : Rel t y := by
  obtain ⟨k, n, q, k0, n0, pq, hq, e'⟩ := h
  refine ⟨k * m, n, q, Int.mul_ne_zero k0 hm, n0, pq, hq, ?_⟩
  rw [e, smul_mul px pq, smul_smul, Int.mul_comm k m, ← smul_smul, e', smul_smul, Int.mul_comm]
end Q4
end G
set_option linter.all false
set_option maxRecDepth 100000
namespace G
open PySem PySem.Spec PyProof.Rows L2
theorem g_bd {u : Q4} {n : Nat} (h : u.Bd n) (nu : u ≠ ⟨0, 0, 0, 0⟩) : u.g.natAbs < 2 ^ n := by
  obtain ⟨ha, hb, hc, hd⟩ := h
  have key : ∀ x : Int, u.g ∣ x → x ≠ 0 → x.natAbs < 2 ^ n → u.g.natAbs < 2 ^ n := fun x dx nx hx => Nat.lt_of_le_of_lt (Nat.le_of_dvd (by omega) (Int.natAbs_dvd_natAbs.mpr dx)) hx
  by_cases a0 : u.a = 0
  · by_cases b0 : u.b = 0
    · by_cases c0 : u.c = 0
      · by_cases d0 : u.d = 0
        · exact absurd (Q4.ext a0 b0 c0 d0) nu
        · exact key _ (Q4.g_d u) d0 hd
      · exact key _ (Q4.g_c u) c0 hc
    · exact key _ (Q4.g_b u) b0 hb
  · exact key _ (Q4.g_a u) a0 ha
def Q4.lead (u : Q4) : Q4 := if HT.lexLt [(u.over u.con).a, (u.over u.con).b, (u.over u.con).c, (u.over u.con).d] [0, 0, 0, 0] = true then (u.over u.con).neg else u.over u.con
theorem Q4.over_bd {u : Q4} {n : Nat} {m : Int} (h : u.Bd n) (m0 : 0 < m) (e : Q4.smul m (u.over m) = u) : (u.over m).Bd n := by
  have key : ∀ x y : Int, m * x = y → y.natAbs < 2 ^ n → x.natAbs < 2 ^ n := fun x y e h => by
    refine Nat.lt_of_le_of_lt ?_ h
    rw [← e, Int.natAbs_mul]
    exact Nat.le_mul_of_pos_left _ (by omega)
  obtain ⟨a, b, c, d⟩ := h
  exact ⟨key _ _ (congrArg Q4.a e) a, key _ _ (congrArg Q4.b e) b, key _ _ (congrArg Q4.c e) c, key _ _ (congrArg Q4.d e) d⟩
theorem Q4.Bd.neg {n : Nat} {u : Q4} (h : u.Bd n) : u.neg.Bd n := by
  obtain ⟨a, b, c, d⟩ := h
  unfold Q4.Bd Q4.neg
  simp only [Int.natAbs_neg]
  exact ⟨a, b, c, d⟩
structure Q4.LeadOf (u v : Q4) : Prop where
  prim : Q4.Prim v
  ex : ∃ m : Int, 0 < m ∧ (u = Q4.smul m v ∨ u = Q4.smul m v.neg)
  ents : ∃ m : Int, 0 < m ∧ u.ents = v.ents.map (m * m * ·)
theorem Q4.lead_of {u : Q4} (pu : u.Par) (nu : u ≠ ⟨0, 0, 0, 0⟩) : Q4.LeadOf u u.lead := by
  obtain ⟨c0, pv', e, _⟩ := Q4.con_all pu nu
  unfold Q4.lead
  split
  · refine ⟨pv'.neg, ⟨u.con, c0, .inr ?_⟩, ⟨u.con, c0, ?_⟩⟩
    · rw [Q4.neg_neg]; exact e.symm
    · rw [Q4.ents_neg, ← Q4.ents_smul, e]
  · exact ⟨pv', ⟨u.con, c0, .inl e.symm⟩, ⟨u.con, c0, by rw [← Q4.ents_smul, e]⟩⟩
theorem Q4.lead_bd {u : Q4} {n : Nat} (pu : u.Par) (nu : u ≠ ⟨0, 0, 0, 0⟩) (h : u.Bd n) : u.lead.Bd n := by
  obtain ⟨c0, pv', e, _⟩ := Q4.con_all pu nu
  have := Q4.over_bd h c0 e
  unfold Q4.lead
  split
  · exact this.neg
  · exact this
end G
set_option linter.all false
set_option maxRecDepth 100000
namespace G
open PySem PySem.Spec PyProof.Rows L2
namespace Q4
theorem lex_pos {w : Q4} (n : w ≠ ⟨0, 0, 0, 0⟩) : HT.lexLt [w.a, w.b, w.c, w.d] [0, 0, 0, 0] = true ↔ HT.lexLt [w.neg.a, w.neg.b, w.neg.c, w.neg.d] [0, 0, 0, 0] = false := by
  obtain ⟨a, b, c, d⟩ := w
  simp only [neg, HT.lexLt]
  by_cases h1 : a = 0
  · by_cases h2 : b = 0
    · by_cases h3 : c = 0
      · by_cases h4 : d = 0
        · subst h1; subst h2; subst h3; subst h4; exact absurd rfl n
        · subst h1; subst h2; subst h3; simp [h4]; omega
      · subst h1; subst h2; simp [h3]; omega
    · subst h1; simp [h2]; omega
  · simp [h1]; omega
theorem con_smul {u : Q4} {k : Int} (pu : u.Par) (nu : u ≠ ⟨0, 0, 0, 0⟩) (hk : 0 < k) : (smul k u).over (smul k u).con = u.over u.con := by
  obtain ⟨c0, p0, e0, _⟩ := con_all pu nu
  obtain ⟨c1, p1, e1, _⟩ := con_all (smul_par (k := k) pu) (smul_ne (by omega) nu)
  have e : smul (smul k u).con ((smul k u).over (smul k u).con) = smul (k * u.con) (u.over u.con) := by rw [e1, ← smul_smul, e0]
  exact (prim_uniq p1 p0 c1 (Int.mul_pos hk c0) e).2
theorem neg_smul (u : Q4) (k : Int) : smul (-k) u = (smul k u).neg := by unfold smul neg; exact ext (by dsimp only; grind) (by dsimp only; grind) (by dsimp only; grind) (by dsimp only; grind)
theorem neg_ne {u : Q4} (nu : u ≠ ⟨0, 0, 0, 0⟩) : u.neg ≠ ⟨0, 0, 0, 0⟩ := fun e => nu (by rw [← neg_neg (u := u), e]; rfl)
theorem smul_neg' (u : Q4) (k : Int) : smul k u.neg = (smul k u).neg := by unfold smul neg; exact ext (by dsimp only; grind) (by dsimp only; grind) (by dsimp only; grind) (by dsimp only; grind)
theorem con_neg {u : Q4} (pu : u.Par) (nu : u ≠ ⟨0, 0, 0, 0⟩) : u.neg.over u.neg.con = (u.over u.con).neg := by
  obtain ⟨c0, p0, e0, _⟩ := con_all pu nu
  obtain ⟨c1, p1, e1, _⟩ := con_all (neg_par pu) (neg_ne nu)
  have e : smul u.neg.con (u.neg.over u.neg.con) = smul u.con (u.over u.con).neg := by rw [e1, smul_neg', e0]
  exact (prim_uniq p1 p0.neg c1 c0 e).2
theorem lead_smul {u : Q4} {k : Int} (pu : u.Par) (nu : u ≠ ⟨0, 0, 0, 0⟩) (hk : 0 < k) : (smul k u).lead = u.lead := by
  unfold lead
  rw [con_smul pu nu hk]
theorem lead_neg {u : Q4} (pu : u.Par) (nu : u ≠ ⟨0, 0, 0, 0⟩) : u.neg.lead = u.lead := by
  have pv := (con_all pu nu).2.1
  have h := lex_pos pv.ne
  unfold lead
  rw [con_neg pu nu]
  by_cases c : HT.lexLt [(u.over u.con).a, (u.over u.con).b, (u.over u.con).c, (u.over u.con).d] [0, 0, 0, 0] = true
  · rw [if_pos c, if_neg (by rw [h.mp c]; decide)]
  · rw [if_neg c, if_pos (by
      cases e : HT.lexLt [(u.over u.con).neg.a, (u.over u.con).neg.b, (u.over u.con).neg.c, (u.over u.con).neg.d] [0, 0, 0, 0] with
      | true => rfl
      | false => exact absurd (h.mpr e) c), neg_neg]
theorem lead_smul' {u : Q4} {k : Int} (pu : u.Par) (nu : u ≠ ⟨0, 0, 0, 0⟩) (hk : k ≠ 0) : (smul k u).lead = u.lead := by
  rcases Int.lt_or_gt_of_ne hk with h | h
  · have : smul k u = (smul (-k) u).neg := by rw [neg_smul, neg_neg]
    rw [this, lead_neg (smul_par pu) (smul_ne (by omega) nu), lead_smul pu nu (by omega)]
  · exact lead_smul pu nu h
theorem lead_ex {u : Q4} (pu : u.Par) (nu : u ≠ ⟨0, 0, 0, 0⟩) : ∃ k : Int, k ≠ 0 ∧ u = smul k u.lead := by
  obtain ⟨m, m0, e | e⟩ := (lead_of pu nu).ex
  · exact ⟨m, by omega, e⟩
  · exact ⟨-m, by omega, by rw [neg_smul, ← smul_neg']; exact e⟩
theorem lead_par {u : Q4} (pu : u.Par) (nu : u ≠ ⟨0, 0, 0, 0⟩) : u.lead.Par := (lead_of pu nu).prim.par
theorem lead_ne {u : Q4} (pu : u.Par) (nu : u ≠ ⟨0, 0, 0, 0⟩) : u.lead ≠ ⟨0, 0, 0, 0⟩ := (lead_of pu nu).prim.ne
theorem size0 {u : Q4} (pu : u.Par) (nu : u ≠ ⟨0, 0, 0, 0⟩) : 0 < u.size := by
  obtain ⟨k, k0, e⟩ := lead_ex pu nu
  rw [e, size_smul (lead_par pu nu)]
  have := size_pos (lead_of pu nu).prim
  exact Int.mul_pos (by rcases Int.lt_or_gt_of_ne k0 with h | h; exact Int.mul_pos_of_neg_of_neg h h; exact Int.mul_pos h h) this
theorem mul_ne {u v : Q4} (pu : u.Par) (nu : u ≠ ⟨0, 0, 0, 0⟩) (pv : v.Par) (nv : v ≠ ⟨0, 0, 0, 0⟩) : mul u v ≠ ⟨0, 0, 0, 0⟩ := prod_ne pu pv (size0 pu nu) (size0 pv nv)
theorem mir_ne {u : Q4} (nu : u ≠ ⟨0, 0, 0, 0⟩) : u.mir ≠ ⟨0, 0, 0, 0⟩ := fun e => nu (by rw [← mir_mir u, e]; rfl)
theorem lead_mul {u v : Q4} (pu : u.Par) (nu : u ≠ ⟨0, 0, 0, 0⟩) (pv : v.Par) (nv : v ≠ ⟨0, 0, 0, 0⟩) : (mul u.lead v.lead).lead = (mul u v).lead := by
  obtain ⟨k, k0, e⟩ := lead_ex pu nu
  obtain ⟨m, m0, e'⟩ := lead_ex pv nv
  have h1 := lead_par pu nu
  have h2 := lead_par pv nv
  have : mul u v = smul (k * m) (mul u.lead v.lead) := by
    conv => lhs; rw [e, e']
    rw [smul_mul h1 (smul_par h2), mul_smul h1 h2, smul_smul]
  rw [this, lead_smul' (mul_all h1 h2).2 (mul_ne h1 (lead_ne pu nu) h2 (lead_ne pv nv)) (Int.mul_ne_zero k0 m0)]
theorem lead_mir {u : Q4} (pu : u.Par) (nu : u ≠ ⟨0, 0, 0, 0⟩) : u.lead.mir.lead = u.mir.lead := by
  obtain ⟨k, k0, e⟩ := lead_ex pu nu
  have : u.mir = smul k u.lead.mir := by conv => lhs; rw [e]
                                         rw [mir_smul]
  rw [this, lead_smul' (mir_par (lead_par pu nu)) (mir_ne (lead_ne pu nu)) k0]
theorem lead_lead {u : Q4} (pu : u.Par) (nu : u ≠ ⟨0, 0, 0, 0⟩) : u.lead.lead = u.lead := by
  obtain ⟨k, k0, e⟩ := lead_ex pu nu
  conv => rhs; rw [e]
  rw [lead_smul' (lead_par pu nu) (lead_ne pu nu) k0]
end Q4
end G
set_option linter.all false
set_option maxRecDepth 100000
namespace G
namespace Q4
theorem Bd.mul' {n m : Nat} {u v : Q4} (h : Bd n u) (k : Bd m v) : Bd (n + m + 1) (Q4.mul u v) := by
  obtain ⟨a1, a2, a3, a4⟩ := h
  obtain ⟨b1, b2, b3, b4⟩ := k
  have q : ∀ {x y : Int}, x.natAbs < 2 ^ n → y.natAbs < 2 ^ m → (x * y).natAbs < 2 ^ (n + m) := fun hx hy => by
    rw [Int.natAbs_mul, Nat.pow_add]
    exact Nat.mul_lt_mul'' hx hy
  have s : ∀ {x y z w : Int}, x.natAbs < 2 ^ (n + m) → y.natAbs < 2 ^ (n + m) → z.natAbs < 2 ^ (n + m) → w.natAbs < 2 ^ (n + m) → ∀ r : Int, r.natAbs ≤ x.natAbs + y.natAbs + z.natAbs + w.natAbs → (r / 2).natAbs < 2 ^ (n + m + 1) := fun hx hy hz hw r hr => by
    rw [Nat.pow_succ]
    omega
  unfold Q4.mul
  refine ⟨s (q a1 b1) (q a2 b2) (q a3 b3) (q a4 b4) _ (by omega), s (q a1 b2) (q a2 b1) (q a3 b4) (q a4 b3) _ (by omega), s (q a1 b3) (q a2 b4) (q a3 b1) (q a4 b2) _ (by omega), s (q a1 b4) (q a2 b3) (q a3 b2) (q a4 b1) _ (by omega)⟩
structure Comp (u v w : Q4) : Prop where
  h11 : u.e11 * v.e11 + u.e12 * v.e21 + u.e13 * v.e31 = 4 * w.e11
  h12 : u.e11 * v.e12 + u.e12 * v.e22 + u.e13 * v.e32 = 4 * w.e12
  h13 : u.e11 * v.e13 + u.e12 * v.e23 + u.e13 * v.e33 = 4 * w.e13
  h21 : u.e21 * v.e11 + u.e22 * v.e21 + u.e23 * v.e31 = 4 * w.e21
  h22 : u.e21 * v.e12 + u.e22 * v.e22 + u.e23 * v.e32 = 4 * w.e22
  h23 : u.e21 * v.e13 + u.e22 * v.e23 + u.e23 * v.e33 = 4 * w.e23
  h31 : u.e31 * v.e11 + u.e32 * v.e21 + u.e33 * v.e31 = 4 * w.e31
  h32 : u.e31 * v.e12 + u.e32 * v.e22 + u.e33 * v.e32 = 4 * w.e32
  h33 : u.e31 * v.e13 + u.e32 * v.e23 + u.e33 * v.e33 = 4 * w.e33
  hn : u.nn * v.nn = 4 * w.nn
def pw (u : Q4) : Nat → Q4
  | 0 => ⟨2, 0, 0, 0⟩
  | k + 1 => mul (pw u k) u
theorem one_par : (⟨2, 0, 0, 0⟩ : Q4).Par := by unfold Par; decide
theorem mul_one' (u : Q4) : mul u ⟨2, 0, 0, 0⟩ = u := by
  have := mul_wholeS u 1
  rw [smul_one] at this
  exact this
end Q4
end G
set_option linter.all false
set_option maxRecDepth 100000
namespace G
def unitRows : List (List Int) := [[-2, 0, 0, 0], [-1, -1, -1, -1], [-1, -1, -1, 1], [-1, -1, 1, -1], [-1, -1, 1, 1], [-1, 1, -1, -1], [-1, 1, -1, 1], [-1, 1, 1, -1], [-1, 1, 1, 1], [0, -2, 0, 0], [0, 0, -2, 0], [0, 0, 0, -2], [0, 0, 0, 2], [0, 0, 2, 0], [0, 2, 0, 0], [1, -1, -1, -1], [1, -1, -1, 1], [1, -1, 1, -1], [1, -1, 1, 1], [1, 1, -1, -1], [1, 1, -1, 1], [1, 1, 1, -1], [1, 1, 1, 1], [2, 0, 0, 0]]
def q4of : List Int → Q4
  | [a, b, c, d] => ⟨a, b, c, d⟩
  | _ => ⟨0, 0, 0, 0⟩
def Q4.row (u : Q4) : List Int := [u.a, u.b, u.c, u.d]
def unitFours : List Q4 := unitRows.map q4of
theorem unit_bd {u : Q4} (h : u ∈ unitFours) : u.Bd 2 ∧ u.Par := by
  have key : ∀ u ∈ unitFours, (u.a.natAbs < 2 ^ 2 ∧ u.b.natAbs < 2 ^ 2 ∧ u.c.natAbs < 2 ^ 2 ∧ u.d.natAbs < 2 ^ 2) ∧ (u.a % 2 = u.b % 2 ∧ u.a % 2 = u.c % 2 ∧ u.a % 2 = u.d % 2) := by decide +kernel
  exact key u h
theorem unit_mul {u v : Q4} (h : u ∈ unitFours) (h' : v ∈ unitFours) : Q4.mul u v ∈ unitFours := by
  have key : ∀ u ∈ unitFours, ∀ v ∈ unitFours, Q4.mul u v ∈ unitFours := by decide +kernel
  exact key u h v h'
theorem unit_back' {u v : Q4} (h : u ∈ unitFours) (h' : v ∈ unitFours) : Q4.mul u.mir v ∈ unitFours ∧ Q4.mul u (Q4.mul u.mir v) = v := by
  have key : ∀ u ∈ unitFours, ∀ v ∈ unitFours, Q4.mul u.mir v ∈ unitFours ∧ Q4.mul u (Q4.mul u.mir v) = v := by decide +kernel
  exact key u h v h'
def IsTop (u v : Q4) : Prop := (∃ w ∈ unitFours, v = Q4.mul u w) ∧ ∀ w ∈ unitFours, rowLt v.row (Q4.mul u w).row = false
theorem row_inj {u v : Q4} (h : u.row = v.row) : u = v := by
  simp only [Q4.row, List.cons.injEq, and_true] at h
  exact Q4.ext h.1 h.2.1 h.2.2.1 h.2.2.2
theorem IsTop.uniq {u v v' : Q4} (h : IsTop u v) (h' : IsTop u v') : v = v' := by
  obtain ⟨⟨w, mw, rfl⟩, a⟩ := h
  obtain ⟨⟨w', mw', rfl⟩, a'⟩ := h'
  exact row_inj (rowLt_eq (a w' mw') (a' w mw))
theorem IsTop.unit {u v w : Q4} (pu : u.Par) (hw : w ∈ unitFours) (h : IsTop (Q4.mul u w) v) : IsTop u v := by
  obtain ⟨⟨x, mx, rfl⟩, a⟩ := h
  have pw := (unit_bd hw).2
  have asc : ∀ x ∈ unitFours, Q4.mul (Q4.mul u w) x = Q4.mul u (Q4.mul w x) := fun x m => Q4.assoc pu pw (unit_bd m).2
  refine ⟨⟨Q4.mul w x, unit_mul hw mx, asc x mx⟩, fun y my => ?_⟩
  obtain ⟨m, e⟩ := unit_back' hw my
  have := a _ m
  rw [asc _ m, e] at this
  exact this
theorem IsTop.par {u v : Q4} (pu : u.Par) (h : IsTop u v) : v.Par := by
  obtain ⟨⟨w, mw, rfl⟩, _⟩ := h
  exact (Q4.mul_all pu (unit_bd mw).2).2
theorem unit_size {u : Q4} (h : u ∈ unitFours) : u.size = 1 := by
  have key : ∀ u ∈ unitFours, u.size = 1 := by decide +kernel
  exact key u h
theorem unit_neg {u : Q4} (h : u ∈ unitFours) : u.neg ∈ unitFours := by
  have key : ∀ u ∈ unitFours, u.neg ∈ unitFours := by decide +kernel
  exact key u h
theorem unit_mir {u : Q4} (h : u ∈ unitFours) : u.mir ∈ unitFours := by
  have key : ∀ u ∈ unitFours, u.mir ∈ unitFours := by decide +kernel
  exact key u h
def small5 : List Int := [-2, -1, 0, 1, 2]
theorem small5_mem {x s : Int} (h : x * x ≤ 8) : x ∈ small5 := by
  have h1 : x.natAbs * x.natAbs ≤ 8 := by
    have := Int.natAbs_mul_self (a := x)
    omega
  have h2 : x.natAbs ≤ 2 := by
    rcases Nat.lt_or_ge x.natAbs 3 with q | q
    · omega
    · have := Nat.mul_le_mul q q; omega
  have : x = -2 ∨ x = -1 ∨ x = 0 ∨ x = 1 ∨ x = 2 := by omega
  unfold small5
  simp only [List.mem_cons, List.not_mem_nil, or_false]
  exact this
def smallFours : List Q4 := small5.flatMap fun a => small5.flatMap fun b => small5.flatMap fun c => small5.map fun d => ⟨a, b, c, d⟩
theorem small_mem {u : Q4} (pu : u.Par) (h : u.size ≤ 2) : u ∈ smallFours := by
  have h4 := Q4.size4 pu
  have := Q4.sq_nn u.a; have := Q4.sq_nn u.b; have := Q4.sq_nn u.c; have := Q4.sq_nn u.d
  unfold smallFours
  simp only [List.mem_flatMap, List.mem_map]
  exact ⟨u.a, small5_mem (s := 0) (by omega), u.b, small5_mem (s := 0) (by omega), u.c, small5_mem (s := 0) (by omega), u.d, small5_mem (s := 0) (by omega), rfl⟩
theorem size_one {u : Q4} (pu : u.Par) (h : u.size = 1) : u ∈ unitFours := by
  have key : ∀ u ∈ smallFours, (u.a % 2 = u.b % 2 ∧ u.a % 2 = u.c % 2 ∧ u.a % 2 = u.d % 2) → u.size = 1 → u ∈ unitFours := by decide +kernel
  exact key u (small_mem pu (by omega)) pu h
theorem size_two {u : Q4} (pu : u.Par) (h : u.size = 2) : ∃ w ∈ unitFours, u = Q4.mul w Q4.ei := by
  have key : ∀ u ∈ smallFours, (u.a % 2 = u.b % 2 ∧ u.a % 2 = u.c % 2 ∧ u.a % 2 = u.d % 2) → u.size = 2 → ∃ w ∈ unitFours, u = Q4.mul w Q4.ei := by decide +kernel
  exact key u (small_mem pu (by omega)) pu h
theorem two_two {x y : Q4} (hx : x ∈ unitFours) (hy : y ∈ unitFours) : ∃ w ∈ unitFours, Q4.mul (Q4.mul x Q4.ei) (Q4.mul y Q4.ei) = Q4.smul 2 w := by
  have key : ∀ x ∈ unitFours, ∀ y ∈ unitFours, ∃ w ∈ unitFours, Q4.mul (Q4.mul x Q4.ei) (Q4.mul y Q4.ei) = Q4.smul 2 w := by decide +kernel
  exact key x hx y hy
namespace Q4
theorem Rel.refl {v : Q4} : Rel v v := ⟨1, 1, whole 1, by decide, by decide, by unfold Par; decide, .inl (by decide), by rw [mul_wholeS, smul_one, smul_one]⟩
theorem Rel.ofS {x y : Q4} {k m : Int} (k0 : k ≠ 0) (m0 : m ≠ 0) (e : smul k x = smul m y) : Rel x y := ⟨k, m, whole 1, k0, m0, by unfold Par; decide, .inl (by decide), by rw [mul_wholeS, smul_one, e]⟩
theorem rel_ei {v z : Q4} (e : smul 2 z = mul v ei) : Rel z v := ⟨2, 1, ei, by decide, by decide, ei_par, .inr ei_size, by rw [smul_one, e]⟩
theorem rel_lead {x : Q4} (px : x.Par) (nx : x ≠ ⟨0, 0, 0, 0⟩) : Rel x.lead x := by
  obtain ⟨m, m0, e⟩ := lead_ex px nx
  exact .ofS m0 (by decide) (e.symm.trans (smul_one x).symm)
theorem Rel.symm {x y : Q4} (py : y.Par) (h : Rel x y) (px : x.Par) : Rel y x := by
  obtain ⟨k, m, q, k0, m0, pq, hq, e⟩ := h
  have hs : size q ≠ 0 := by omega
  refine ⟨m * size q, k, q.mir, Int.mul_ne_zero m0 hs, k0, mir_par pq, by rw [size_mir]; exact hq, ?_⟩
  have pyq := (mul_all py pq).2
  have this : mul (smul k x) q.mir = mul (smul m (mul y q)) q.mir := congrArg (fun z => mul z q.mir) e
  rw [smul_mul px (mir_par pq), smul_mul pyq (mir_par pq), assoc py pq (mir_par pq), mul_mir pq, mul_wholeS, smul_smul] at this
  exact this.symm
theorem Rel.trans {x y z : Q4} (px : x.Par) (py : y.Par) (pz : z.Par) (h : Rel x y) (h' : Rel y z) : Rel x z := by
  obtain ⟨k, m, q, k0, m0, pq, hq, e⟩ := h
  obtain ⟨k', m', q', k0', m0', pq', hq', e'⟩ := h'
  have e2 : smul (k * k') x = smul (m * m') (mul z (mul q' q)) := by
    have a : smul k' (mul y q) = mul (smul k' y) q := (smul_mul py pq).symm
    have b : smul (k' * k) x = smul m (smul k' (mul y q)) := by rw [← smul_smul, e, smul_smul, smul_smul, Int.mul_comm]
    rw [a, e', smul_mul (mul_all pz pq').2 pq, smul_smul, assoc pz pq' pq] at b
    rw [Int.mul_comm k k']
    exact b
  have pqq := (mul_all pq' pq).2
  have hs := size_mul pq' pq
  rcases hq with h1 | h1
  · exact ⟨_, _, _, Int.mul_ne_zero k0 k0', Int.mul_ne_zero m0 m0', pqq, by rw [hs, h1, Int.mul_one]; exact hq', e2⟩
  · rcases hq' with h2 | h2
    · exact ⟨_, _, _, Int.mul_ne_zero k0 k0', Int.mul_ne_zero m0 m0', pqq, by rw [hs, h1, h2]; exact .inr rfl, e2⟩
    · obtain ⟨w1, hw1, rfl⟩ := size_two pq h1
      obtain ⟨w2, hw2, rfl⟩ := size_two pq' h2
      obtain ⟨w, hw, ew⟩ := two_two hw2 hw1
      refine ⟨_, m * m' * 2, w, Int.mul_ne_zero k0 k0', Int.mul_ne_zero (Int.mul_ne_zero m0 m0') (by decide), (unit_bd hw).2, .inl (unit_size hw), ?_⟩
      rw [e2, ew, mul_smul pz (unit_bd hw).2, smul_smul]
theorem Rel.mulL {x y w : Q4} (px : x.Par) (py : y.Par) (pw : w.Par) (h : Rel x y) : Rel (mul w x) (mul w y) := by
  obtain ⟨k, m, q, k0, m0, pq, hq, e⟩ := h
  refine ⟨k, m, q, k0, m0, pq, hq, ?_⟩
  rw [← mul_smul pw px, e, mul_smul pw (mul_all py pq).2, assoc pw py pq]
theorem Rel.unit {x w : Q4} (hw : w.size = 1 ∨ w.size = 2) (pw : w.Par) : Rel (mul x w) x := ⟨1, 1, w, by decide, by decide, pw, hw, rfl⟩
theorem prim_unit {v w : Q4} (pv : Prim v) (hw : w ∈ unitFours) : Prim (mul v w) := by
  have pw := (unit_bd hw).2
  have pm := (mul_all pv.par pw).2
  have ne : mul v w ≠ ⟨0, 0, 0, 0⟩ := mul_ne pv.par pv.ne pw (by intro e; rw [e] at hw; revert hw; decide)
  obtain ⟨c0, p1, e1, _⟩ := con_all pm ne
  have d : (mul v w).con ∣ 1 := by
    refine prim_dvd (v := v) (y := mul ((mul v w).over (mul v w).con) w.mir) pv (mul_all p1.par (mir_par pw)).2 (by decide) c0 ?_
    rw [← smul_mul p1.par (mir_par pw), e1, assoc pv.par pw (mir_par pw), mul_mir pw, unit_size hw, mul_wholeS]
  have e : (mul v w).con = 1 := by have := Int.le_of_dvd (by decide) d; omega
  rw [e, smul_one] at e1
  rw [e] at p1
  rwa [e1] at p1
theorem no_two : ∀ (n : Nat) (k m s t : Int), k.natAbs ≤ n → k ≠ 0 → s % 2 = 1 → t % 2 = 1 → k * k * s = m * m * (t * 2) → False
  | 0, k, m, s, t, h, k0, _, _, _ => by omega
  | n + 1, k, m, s, t, h, k0, hs, ht, e => by
    have ek : k % 2 = 0 := by
      rcases Int.emod_two_eq k with q | q
      · exact q
      · have : (k * k * s) % 2 = 1 := by rw [Int.mul_emod, Int.mul_emod k k, q, hs]; rfl
        rw [e, show m * m * (t * 2) = 2 * (m * m * t) by grind] at this
        omega
    obtain ⟨a, rfl⟩ : ∃ a, k = 2 * a := ⟨k / 2, by omega⟩
    have e1 : 2 * (a * a * s) = m * m * t := by
      have : 2 * (2 * (a * a * s)) = 2 * (m * m * t) := by rw [show 2 * (2 * (a * a * s)) = 2 * a * (2 * a) * s by grind, e]; grind
      omega
    have em : m % 2 = 0 := by
      rcases Int.emod_two_eq m with q | q
      · exact q
      · have : (m * m * t) % 2 = 1 := by rw [Int.mul_emod, Int.mul_emod m m, q, ht]; rfl
        omega
    obtain ⟨b, rfl⟩ : ∃ b, m = 2 * b := ⟨m / 2, by omega⟩
    refine no_two n a b s t (by omega) (by omega) hs ht ?_
    have : 2 * (a * a * s) = 2 * (b * b * (t * 2)) := by rw [e1]; grind
    omega
theorem rel_odd {x y : Q4} (px : Prim x) (py : Prim y) (ox : x.size % 2 = 1) (oy : y.size % 2 = 1) (h : Rel x y) : ∃ w ∈ unitFours, x = mul y w := by
  obtain ⟨k, m, q, k0, m0, pq, hq, e⟩ := h
  have hs : k * k * x.size = m * m * (y.size * q.size) := by
    have := congrArg size e
    rwa [size_smul px.par, size_smul (mul_all py.par pq).2, size_mul py.par pq] at this
  have h1 : q.size = 1 := by
    rcases hq with q1 | q2
    · exact q1
    · rw [q2] at hs
      exact (no_two _ k m _ _ (Nat.le_refl _) k0 ox oy hs).elim
  have hw := size_one pq h1
  have p2 := prim_unit py hw
  have key : ∀ (a b : Int) (u v : Q4), Prim u → Prim v → 0 < a → b ≠ 0 → smul a u = smul b v → u = v ∨ u = v.neg := by
    intro a b u v hu hv a0 b0 e
    rcases Int.lt_or_gt_of_ne b0 with h | h
    · refine .inr (prim_uniq hu hv.neg a0 (show 0 < -b by omega) ?_).2
      rw [e, smul_neg', neg_smul, neg_neg]
    · exact .inl (prim_uniq hu hv a0 h e).2
  have hx : x = mul y q ∨ x = (mul y q).neg := by
    rcases Int.lt_or_gt_of_ne k0 with h | h
    · refine key (-k) (-m) x (mul y q) px p2 (by omega) (by omega) ?_
      rw [neg_smul, neg_smul, e]
    · exact key k m x (mul y q) px p2 h m0 e
  rcases hx with hx | hx
  · exact ⟨q, hw, hx⟩
  · refine ⟨q.neg, unit_neg hw, ?_⟩
    rw [hx]
    have := mul_smul (k := -1) py.par pq
    rw [neg_smul, smul_one, neg_smul, smul_one] at this
    exact this.symm
def oddF (v : Q4) : Q4 := if v.size % 2 = 1 then v else (mul v ei).over 2
theorem oddF_all {v : Q4} (pv : Prim v) : Prim v.oddF ∧ v.oddF.size % 2 = 1 ∧ Rel v.oddF v := by
  unfold oddF
  by_cases c : v.size % 2 = 1
  · rw [if_pos c]; exact ⟨pv, c, .refl⟩
  · rw [if_neg c]
    obtain ⟨h1, h2, h3, h4, _⟩ := con_ei pv (by omega)
    exact ⟨h2, h4, rel_ei h3⟩
end Q4
def IsOwn (u t : Q4) : Prop := IsTop u.lead.oddF t
theorem IsOwn.uniq {u t t' : Q4} (h : IsOwn u t) (h' : IsOwn u t') : t = t' := IsTop.uniq h h'
theorem IsOwn.all {u t : Q4} (pu : u.Par) (nu : u ≠ ⟨0, 0, 0, 0⟩) (h : IsOwn u t) : Q4.Prim t ∧ t.size % 2 = 1 ∧ Q4.Rel t u := by
  have pl := (Q4.lead_of pu nu).prim
  obtain ⟨h1, h2, h3⟩ := Q4.oddF_all pl
  obtain ⟨⟨w, hw, rfl⟩, _⟩ := h
  have pw := (unit_bd hw).2
  refine ⟨Q4.prim_unit h1 hw, by rw [Q4.size_mul h1.par pw, unit_size hw, Int.mul_one]; exact h2, ?_⟩
  have pm := (Q4.mul_all h1.par pw).2
  exact (Q4.Rel.unit (.inl (unit_size hw)) pw).trans pm h1.par pu (h3.trans h1.par pl.par pu (Q4.rel_lead pu nu))
theorem IsOwn.rel {u v t : Q4} (pu : u.Par) (nu : u ≠ ⟨0, 0, 0, 0⟩) (pv : v.Par) (nv : v ≠ ⟨0, 0, 0, 0⟩) (h : IsOwn u t) (r : Q4.Rel u v) : IsOwn v t := by
  have pl := (Q4.lead_of pu nu).prim
  have pl' := (Q4.lead_of pv nv).prim
  obtain ⟨h1, h2, h3⟩ := Q4.oddF_all pl
  obtain ⟨k1, k2, k3⟩ := Q4.oddF_all pl'
  have a : Q4.Rel u.lead.oddF u := h3.trans h1.par pl.par pu (Q4.rel_lead pu nu)
  have b : Q4.Rel v.lead.oddF v := k3.trans k1.par pl'.par pv (Q4.rel_lead pv nv)
  obtain ⟨w, hw, e⟩ := Q4.rel_odd h1 k1 h2 k2 (a.trans h1.par pu k1.par (r.trans pu pv k1.par (b.symm pv k1.par)))
  unfold IsOwn at h ⊢
  rw [e] at h
  exact IsTop.unit k1.par hw h
theorem IsTop.lead {z t : Q4} (pz : Q4.Prim z) (h : IsTop z t) : t.lead = t := by
  obtain ⟨⟨w, hw, e⟩, mx⟩ := h
  have pw := (unit_bd hw).2
  have pt : Q4.Prim t := by rw [e]; exact Q4.prim_unit pz hw
  have hn : t.neg = Q4.mul z w.neg := by
    have := Q4.mul_smul (k := -1) pz.par pw
    rw [Q4.neg_smul, Q4.smul_one, Q4.neg_smul, Q4.smul_one, ← e] at this
    exact this.symm
  have h1 : rowLt t.row t.neg.row = false := by rw [hn]; exact mx _ (unit_neg hw)
  obtain ⟨hcon, p1, e1, _⟩ := Q4.con_all pt.par pt.ne
  have eo : t.over t.con = t := (Q4.prim_uniq p1 pt hcon (by decide) (e1.trans (Q4.smul_one t).symm)).2
  unfold Q4.lead
  rw [eo, if_neg]
  intro hl
  have nt := pt.ne
  clear eo p1 e1 hcon hn pt e mx
  obtain ⟨a, b, c, d⟩ := t
  simp only [rowLt, Q4.row, Q4.neg] at h1 hl
  by_cases a0 : a = 0
  · by_cases b0 : b = 0
    · by_cases c0 : c = 0
      · by_cases d0 : d = 0
        · subst a0; subst b0; subst c0; subst d0; exact nt rfl
        · subst a0; subst b0; subst c0; simp [HT.lexLt] at h1 hl; omega
      · subst a0; subst b0; simp [HT.lexLt, c0] at h1 hl; rw [if_neg (by omega)] at h1; omega
    · subst a0; simp [HT.lexLt, b0] at h1 hl; rw [if_neg (by omega)] at h1; omega
  · simp [HT.lexLt, a0] at h1 hl; rw [if_neg (by omega)] at h1; omega
theorem IsOwn.lead {u t : Q4} (pu : u.Par) (nu : u ≠ ⟨0, 0, 0, 0⟩) (h : IsOwn u t) : t.lead = t := IsTop.lead (Q4.oddF_all (Q4.lead_of pu nu).prim).1 h
theorem IsOwn.mul {w u t s : Q4} (pw : w.Par) (nw : w ≠ ⟨0, 0, 0, 0⟩) (pu : u.Par) (nu : u ≠ ⟨0, 0, 0, 0⟩) (h : IsOwn u t) (h' : IsOwn (Q4.mul w t) s) : IsOwn (Q4.mul w u) s := by
  obtain ⟨pt, ot, r⟩ := h.all pu nu
  exact h'.rel (Q4.mul_all pw pt.par).2 (Q4.mul_ne pw nw pt.par pt.ne) (Q4.mul_all pw pu).2 (Q4.mul_ne pw nw pu nu) (r.mulL pt.par pu pw)
theorem one_own {t : Q4} (h : IsOwn ⟨2, 0, 0, 0⟩ t) : t = ⟨2, 0, 0, 0⟩ := by
  have key : IsOwn ⟨2, 0, 0, 0⟩ ⟨2, 0, 0, 0⟩ := by
    have e : (⟨2, 0, 0, 0⟩ : Q4).lead.oddF = ⟨2, 0, 0, 0⟩ := by decide +kernel
    unfold IsOwn IsTop
    rw [e]
    decide +kernel
  exact h.uniq key
end G
set_option Elab.async false
set_option linter.all false
set_option maxRecDepth 100000
namespace D
open PySem PySem.Spec PyProof.Rows L2 G
section
variable {WD : WDt} {ρ ρ' : List En} {te : TED} {P : Res → Prop} {E : EndsD}
theorem lc_mapG {α : Type} {g : TGC} {vs : List Nat} {R : List Dt → List En → Prop} (xs : List α) (f F : α → Dt) (hl : xs.length ≤ sizeLine) (hs : ∀ x ∈ xs, ∀ (k : Dt → List En → Prop), (∀ ρ', wipeD ρ' vs = ρ → k (F x) ρ') → g (f x) ρ fun ρ1 => te WDN ρ1 (kD k)) (h : R (xs.map F) ρ) : lcD g dYes te vs R (xs.map f) [] ρ := by
  refine lc_i (fun i acc ρ1 => ρ1 = ρ ∧ acc = (xs.take i).map F) ⟨rfl, by simp⟩ ?_ ?_
  · rintro i d acc ρ1 k hd ⟨rfl, rfl⟩ hk
    have hi := (List.getElem?_eq_some_iff.mp hd).1
    rw [List.length_map] at hi
    rw [List.getElem?_map, List.getElem?_eq_getElem hi] at hd
    cases hd
    refine hs xs[i] (List.getElem_mem hi) _ fun ρ' e => ?_
    refine ⟨by simp; omega, hk _ _ ⟨e, ?_⟩⟩
    rw [List.take_add_one, List.getElem?_eq_getElem hi]
    simp only [Option.toList, List.map_append, List.map_cons, List.map_nil]
  · rintro acc ρ1 ⟨rfl, rfl⟩
    rw [List.length_map, List.take_of_length_le (Nat.le_refl _)]
    exact h
theorem eqv4 {a b c d a' b' c' d' : Int} : (PyData.eqvAll [.int a, .int b, .int c, .int d] [.int a', .int b', .int c', .int d']) = decide (a = a' ∧ b = b' ∧ c = c' ∧ d = d') := by
  rw [Bool.eq_iff_iff]
  simp [PyData.eqv, PyData.eqvAll]
theorem fEq_L4 {a b c d a' b' c' d' : Int} (h : P (.dat (.bl (decide (a = a' ∧ b = b' ∧ c = c' ∧ d = d'))))) : fEq (.lst [.int a, .int b, .int c, .int d]) (.lst [.int a', .int b', .int c', .int d']) P := ⟨rfl, rfl, by
  rw [show PyData.eqv (.list [.int a, .int b, .int c, .int d]) (.list [.int a', .int b', .int c', .int d']) = _ from by simp only [PyData.eqv]; exact eqv4]; exact h⟩
theorem fEq_T4 {a b c d a' b' c' d' : Int} (h : P (.dat (.bl (decide (a = a' ∧ b = b' ∧ c = c' ∧ d = d'))))) : fEq (.tup [.int a, .int b, .int c, .int d]) (.tup [.int a', .int b', .int c', .int d']) P := ⟨rfl, rfl, by
  rw [show PyData.eqv (.tuple [.int a, .int b, .int c, .int d]) (.tuple [.int a', .int b', .int c', .int d']) = _ from by simp only [PyData.eqv]; exact eqv4]; exact h⟩
theorem fNe_T4 {a b c d a' b' c' d' : Int} (h : P (.dat (.bl (!decide (a = a' ∧ b = b' ∧ c = c' ∧ d = d'))))) : fNe (.tup [.int a, .int b, .int c, .int d]) (.tup [.int a', .int b', .int c', .int d']) P := ⟨rfl, rfl, by
  rw [show PyData.eqv (.tuple [.int a, .int b, .int c, .int d]) (.tuple [.int a', .int b', .int c', .int d']) = _ from by simp only [PyData.eqv]; exact eqv4]; exact h⟩
theorem fMul_t1 {x : Dt} {k : Int} {z : List Dt} (e : List.replicate k.toNat x = z) (hk : decide (0 ≤ k ∧ k ≤ 1000) = true) (h : P (.dat (.tup z))) : fMul (.tup [x]) (.int k) P := by
  have hk := of_decide_eq_true hk
  refine ⟨by simp, hk.1, hk.2, by simp, ?_⟩
  rw [show (List.replicate k.toNat [x]).flatten = List.replicate k.toNat x by induction k.toNat with
    | zero => rfl
    | succ n ih => rw [List.replicate_succ, List.flatten_cons, ih]; rfl, e]
  exact h
theorem fMul_t10 {x : Dt} {k : Int} (e : k = 0) (h : P (.dat (.tup []))) : fMul (.tup [x]) (.int k) P := by subst e; exact fMul_t1 rfl rfl h
theorem fMul_t11 {x : Dt} {k : Int} (e : k = 1) (h : P (.dat (.tup [x]))) : fMul (.tup [x]) (.int k) P := by subst e; exact fMul_t1 rfl rfl h
theorem fMul_t12 {x : Dt} {k : Int} (e : k = 2) (h : P (.dat (.tup [x, x]))) : fMul (.tup [x]) (.int k) P := by subst e; exact fMul_t1 rfl rfl h
theorem fMul_t13 {x : Dt} {k : Int} (e : k = 3) (h : P (.dat (.tup [x, x, x]))) : fMul (.tup [x]) (.int k) P := by subst e; exact fMul_t1 rfl rfl h
theorem lc_nz {ns : List Int} {R : List Dt → List En → Prop} {e0 e1 e2 e3 : En} (hl : ns.length ≤ 1000) (h : R ((ns.filter (· ≠ 0)).map .int) [e0, e1, e2, e3, .emp]) : lcD (gcN 4) (dTB (dOp fNe (dV 4) (dC (.int 0)))) (dV 4) [4] R (ns.map .int) [] [e0, e1, e2, e3, .emp] := by
  refine lc_i (fun i acc ρ1 => ρ1 = [e0, e1, e2, e3, .emp] ∧ acc = ((ns.take i).filter (· ≠ 0)).map .int) ⟨rfl, by simp⟩ ?_ ?_
  · rintro i d acc ρ1 k hd ⟨rfl, rfl⟩ hk
    have hi := (List.getElem?_eq_some_iff.mp hd).1
    rw [List.length_map] at hi
    rw [List.getElem?_map, List.getElem?_eq_getElem hi] at hd
    cases hd
    refine gcN_i (ρ' := [e0, e1, e2, e3, .dat (.int ns[i])]) rfl ?_
    refine dTB_i (dOp_i (dV_d rfl (dC_i (pk2_i pk_dat pk_dat (fNe_i (kB_i ?_))))))
    refine if_nt ?_
    have hlen : (((ns.take i).filter (· ≠ 0)).map Dt.int).length ≤ 1000 := by
      rw [List.length_map]
      exact Nat.le_trans (List.length_filter_le _ _) (by rw [List.length_take]; omega)
    refine if_d (fun h0 => ?_) (fun h0 => ?_)
    · refine hk _ _ ⟨rfl, ?_⟩
      rw [List.take_add_one, List.getElem?_eq_getElem hi, List.filter_append]
      simp [h0]
    · refine dV_d rfl (kD_dat ⟨Nat.lt_of_le_of_lt hlen (by decide), hk _ _ ⟨rfl, ?_⟩⟩)
      rw [List.take_add_one, List.getElem?_eq_getElem hi, List.filter_append]
      simp [h0]
  · rintro acc ρ1 ⟨rfl, rfl⟩
    rw [List.length_map, List.take_of_length_le (Nat.le_refl _)]
    exact h
theorem first_nz {a b c d : Int} (n : (⟨a, b, c, d⟩ : Q4) ≠ ⟨0, 0, 0, 0⟩) : ∃ f r, [a, b, c, d].filter (· ≠ 0) = f :: r ∧ (0 < f ↔ ¬ HT.lexLt [a, b, c, d] [0, 0, 0, 0] = true) := by
  by_cases a0 : a = 0
  · by_cases b0 : b = 0
    · by_cases c0 : c = 0
      · by_cases d0 : d = 0
        · subst a0; subst b0; subst c0; subst d0; exact absurd rfl n
        · exact ⟨d, [], by simp [a0, b0, c0, d0], by simp [HT.lexLt, a0, b0, c0, d0]; omega⟩
      · exact ⟨c, _, by rw [List.filter_cons_of_neg (by simpa using a0), List.filter_cons_of_neg (by simpa using b0), List.filter_cons_of_pos (by simpa using c0)], by simp [HT.lexLt, a0, b0, c0]; omega⟩
    · exact ⟨b, _, by rw [List.filter_cons_of_neg (by simpa using a0), List.filter_cons_of_pos (by simpa using b0)], by simp [HT.lexLt, a0, b0]; omega⟩
  · exact ⟨a, _, by rw [List.filter_cons_of_pos (by simpa using a0)], by simp [HT.lexLt, a0]; omega⟩
end
end D
set_option Elab.async false
set_option linter.all false
set_option maxRecDepth 100000
namespace D
open PySem PySem.Spec PyProof.Rows L2 G
section
variable {WD : WDt} {ρ ρ' : List En} {R : Res → List En → Prop} {ta tb : TED} {f : F2} {l : List Dt}
end
end D
namespace D
open PySem PySem.Spec PyProof.Rows L2 G
section
variable {P : Res → Prop}
end
end D
set_option Elab.async false
set_option linter.all false
set_option maxRecDepth 100000
set_option maxHeartbeats 2000000
namespace D
open PySem PySem.Spec PyProof.Rows L2
end D
namespace HF
open PySem PySem.Spec PyProof.Rows L2 D
end HF
namespace D
open PySem PySem.Spec PyProof.Rows L2
end D
set_option Elab.async false
set_option linter.all false
set_option maxRecDepth 100000
set_option maxHeartbeats 2000000
namespace D
open PySem PySem.Spec PyProof.Rows L2
variable {P : Res → Prop} {x y : Int}
end D
set_option Elab.async false
set_option linter.all false
set_option maxRecDepth 100000
set_option maxHeartbeats 2000000
namespace D
open PySem PySem.Spec PyProof.Rows L2
theorem putK_new {kvs : List (Key × V)} {k : Key} {v : V} (h : ∀ x ∈ kvs, x.1 ≠ k) : putK kvs k v = kvs ++ [(k, v)] := by
  unfold putK
  rw [if_neg]
  intro z
  obtain ⟨x, m, e⟩ := List.any_eq_true.mp z
  exact h x m (of_decide_eq_true e)
theorem merge_new : ∀ {ks : List Key} {vs : List V} {acc : List (Key × V)}, ks.length = vs.length → ks.Nodup → (∀ x ∈ acc, x.1 ∉ ks) → mergeK acc (ks.zip vs) = acc ++ ks.zip vs
  | [], [], acc, _, _, _ => (List.append_nil _).symm
  | k :: ks, v :: vs, acc, hl, hn, ha => by
    obtain ⟨n1, n2⟩ := List.nodup_cons.mp hn
    show mergeK (putK acc k v) (ks.zip vs) = _
    rw [putK_new fun x m e => ha x m (by rw [e]; exact List.mem_cons_self), merge_new (by simpa using hl) n2 fun x m => ?_]
    · rw [List.append_assoc]
      rfl
    · rcases List.mem_append.mp m with m | m
      · exact fun z => ha x m (List.mem_cons_of_mem _ z)
      · rw [List.mem_singleton.mp m]
        exact n1
section
variable {X : Cx} {c : Ct} {W : WX} {o e f : Expr} {td0 tk0 tx0 : TE} {td tk tx : TED} {apos cpos : Pos}
end
end D
set_option Elab.async false
set_option linter.all false
set_option maxRecDepth 100000
set_option maxHeartbeats 2000000
namespace D
open PySem PySem.Spec PyProof.Rows L2
def kJs (acc : Str) (k : Str → List En → Prop) : Dt → List En → Prop := fun d ρ => match d with
  | .str y => (acc ++ y).length ≤ sizeLine ∧ k (acc ++ y) ρ
  | _ => False
def dJs : List TED → Str → WDt → List En → (Str → List En → Prop) → Prop
  | [], acc, _, ρ, R => R acc ρ
  | t :: ts, acc, WD, ρ, R => t WD ρ (kP (kJs acc fun z ρ1 => dJs ts z WD ρ1 R))
section
variable {X : Cx} {c : Ct} {W : WX}
structure PJD (X : Cx) (c : Ct) (W : WX) (es : List Expr) (ts0 : List TE) (ts : List TED) : Prop where
  pj : PJ X es ts0
  sn : ∀ (WD : WDt) (ρ : List En) (σ : L2.St) (H : Hp) (S : Addr → Prop) (Q : Str → Hp → Prop) (R : Str → List En → Prop) (acc : Str), RelW X.K c W WD → Ok X.K c ρ σ H S → (∀ z ρ' H' S', R z ρ' → Step X.K c σ ρ H S ρ' H' S' → Q z H') → dJs ts acc WD ρ R → tJs ts0 acc σ H Q
theorem Env0.in1 {P : Program} {w : World} {K : PySem.W.Frag} {mg : Str → Option Value} {base : Heap} {A : Around} {outer : List Env} {s : Shared} {H : Hp} (e : Env0 P w K mg base A outer s H) : Env0 P w K mg base A.in1 outer s H := ⟨e.frames, e.mod, e.bs, e.bsz, e.funs, e.frf, e.hok, e.bare⟩
end
end D
set_option Elab.async false
set_option linter.all false
set_option maxRecDepth 100000
set_option maxHeartbeats 1000000
namespace ZS
open PySem PySem.Spec PyProof.Rows L2
def Src (t : Bool) (hp : Heap) (iT src : Addr) (k : Nat) (us : Array Value) : Prop := match t with
  | true => hp.IsTupleIter iT src k ∧ hp.IsTuple src us
  | false => hp.IsListIter iT src k ∧ hp.IsList src us
theorem Src.to {t : Bool} {hp hq : Heap} {iT src : Addr} {k : Nat} {us : Array Value} (z : Src t hp iT src k us)
    (k1 : ∀ o, hp.get? iT = some o → hq.get? iT = some o) (k2 : ∀ o, hp.get? src = some o → hq.get? src = some o) : Src t hq iT src k us := by
  cases t with
  | false => exact ⟨z.1.at k1, z.2.at k2⟩
  | true =>
    refine ⟨z.1.at k1, ?_⟩
    obtain ⟨o, e, r⟩ := z.2
    exact ⟨o, k2 o e, r⟩
section
variable {P : Program} {w : World} {A : Around} {E : Value → Shared → Prop} {s : Shared}
structure Zp (t1 t2 : Bool) (hp : Heap) (z TI TO i1 i2 l1 l2 : Addr) (f : Value) (k1 k2 : Nat) (us ws : Array Value) : Prop where
  zp : IsZip hp z TI TO f
  ins : IsPair hp TI (.ref i1) (.ref i2)
  out : ∃ a b, IsPair hp TO a b
  fst : Src t1 hp i1 l1 k1 us
  snd : Src t2 hp i2 l2 k2 ws
theorem Zp.to {t1 t2 : Bool} {hp hq : Heap} {z TI TO i1 i2 l1 l2 : Addr} {f : Value} {k1 k2 : Nat} {us ws : Array Value} (Z : Zp t1 t2 hp z TI TO i1 i2 l1 l2 f k1 k2 us ws)
    (k : ∀ b ∈ [z, TI, TO, i1, i2, l1, l2], ∀ o, hp.get? b = some o → hq.get? b = some o) : Zp t1 t2 hq z TI TO i1 i2 l1 l2 f k1 k2 us ws := by
  obtain ⟨a1, a2, ⟨x, y, a3⟩, a4, a5⟩ := Z
  exact ⟨k z (by simp) _ a1, k TI (by simp) _ a2, ⟨x, y, k TO (by simp) _ a3⟩, a4.to (k i1 (by simp)) (k l1 (by simp)), a5.to (k i2 (by simp)) (k l2 (by simp))⟩
end
end ZS
set_option Elab.async false
set_option linter.all false
set_option maxRecDepth 100000
set_option maxHeartbeats 1000000
namespace ZS
open PySem PySem.Spec PyProof.Rows L2
section
variable {t1 t2 : Bool} {P : Program} {w : World} {A : Around} {E : Value → Shared → Prop} {s : Shared} {z TI TO i1 i2 l1 l2 : Addr} {k1 k2 : Nat} {us ws : Array Value}
end
end ZS
set_option Elab.async false
set_option linter.all false
set_option maxRecDepth 100000
set_option maxHeartbeats 1000000
namespace ZS
open PySem PySem.Spec PyProof.Rows L2
section
variable {P : Program} {w : World} {A : Around} {E : Value → Shared → Prop} {s : Shared}
def hA (h : Heap) (l1 : Addr) : Heap := h.push { cls := .type "tuple_iterator", data := .fields #[.ref l1, .int 0 0] }
def hB (h : Heap) (l1 l2 : Addr) : Heap := (hA h l1).push { cls := .type "list_iterator", data := .fields #[.ref l2, .int 0 0] }
def hC (h : Heap) (l1 l2 : Addr) : Heap := (hB h l1 l2).push { cls := .type "tuple", data := .seq #[.ref h.objs.size, .ref (hA h l1).objs.size] }
def hD (h : Heap) (l1 l2 : Addr) : Heap := (hC h l1 l2).push { cls := .type "tuple", data := .seq #[.none, .none] }
def hE (h : Heap) (l1 l2 : Addr) : Heap := (hD h l1 l2).push { cls := .type "zip", data := .fields #[.none, .bool false, .bool false, .ref (hB h l1 l2).objs.size, .ref (hC h l1 l2).objs.size] }
end
structure Ztn (z TI TO i1 i2 a b : Addr) (i : Nat) (h : Heap) : Prop where
  zp : IsZip h z TI TO .none
  ins : IsPair h TI (.ref i1) (.ref i2)
  out : ∃ x y, IsPair h TO x y
  fst : h.IsTupleIter i1 a i
  snd : h.IsListIter i2 b i
theorem Ztn.to {z TI TO i1 i2 a b : Addr} {i : Nat} {h h' : Heap} (Z : Ztn z TI TO i1 i2 a b i h) (k : ∀ c ∈ [z, TI, TO, i1, i2], ∀ o, h.get? c = some o → h'.get? c = some o) : Ztn z TI TO i1 i2 a b i h' := by
  obtain ⟨a1, a2, ⟨x, y, a3⟩, a4, a5⟩ := Z
  exact ⟨k z (by simp) _ a1, k TI (by simp) _ a2, ⟨x, y, k TO (by simp) _ a3⟩, a4.at (k i1 (by simp)), a5.at (k i2 (by simp))⟩
end ZS
set_option Elab.async false
set_option linter.all false
set_option maxRecDepth 100000
namespace D
open PySem PySem.Spec PyProof.Rows L2 StX RZ ZS
section
variable {K : PySem.W.Frag} {c : Ct} {W : WX} {X : Cx} {σ : L2.St} {ρ ρ1 ρ' : List En} {H H1 H2 H' : Hp} {S S1 S2 S' : Addr → Prop}
end
end D
set_option Elab.async false
set_option linter.all false
set_option maxRecDepth 100000
set_option maxHeartbeats 2000000
namespace HF
open PySem PySem.Spec PyProof.Rows L2 D
def TopStrs (K : PySem.W.Frag) (x : Str) (bs : List Str) : Prop := ∃ (u : Addr) (d : Option Addr) (us : Array Value) (n : Nat) (sl : Array (Option Value)), PySem.W.nsIn K mainGlobals x = some (some (.ref u)) ∧ K.lookup u = some ⟨.type "tuple", d, .seq us n, sl⟩ ∧ Vals (bs.map V.str) us.toList
theorem reps_strs {K : PySem.W.Frag} {S : Addr → Prop} {H : Hp} : ∀ bs : List Str, Reps K S H (bs.map Dt.str) (bs.map V.str)
  | [] => rfl
  | b :: bs => ⟨.str b, _, rfl, rfl, reps_strs bs⟩
theorem TopStrs.glob {K : PySem.W.Frag} {h : Heap} {mg : Str → Option Value} {x : Str} {bs : List Str} (T : TopStrs K x bs) (X : K.In h) (G : h.Ns mainGlobals mg) (hn : bs.length ≤ 1000) : GlobD K mg x (.tup (bs.map Dt.str)) := by
  obtain ⟨u, d, us, n, sl, a, l, r⟩ := T
  refine ⟨.ref u, _, PySem.W.mg_of X G a, rfl, fun S H => ⟨u, bs.map V.str, rfl, .inr ⟨_, _, _, l, rfl, rfl, ?_, r⟩, reps_strs bs⟩⟩
  have e := r.length
  rw [List.length_map] at e
  rw [← Array.length_toList, ← e, sizeLine_eq]
  omega
end HF
namespace D
open PySem PySem.Spec PyProof.Rows L2
section
variable {X : Cx} {c : Ct} {W : WX} {a b : Expr} {ta0 tb0 : TE} {ta tb : TED} {rest : List Expr} {pos : Pos}
end
section
variable {WD : WDt} {ρ : List En} {R : Res → List En → Prop} {te to ta tb : TED} {x y a : Str}
end
end D
set_option Elab.async false
set_option linter.all false
set_option maxRecDepth 100000
namespace Tx
open PySem
def half : Str := ("/2" : String)
def zero : Str := ("0" : String)
end Tx
namespace Tx
open PySem
end Tx
set_option Elab.async false
set_option linter.all false
set_option maxRecDepth 100000
namespace Tx
open PySem
end Tx
namespace D
open PySem PySem.Spec PyProof.Rows L2 Tx
section
variable {P : Res → Prop} {x y : Str}
end
end D
set_option Elab.async false
set_option linter.all false
set_option maxRecDepth 100000
set_option maxHeartbeats 2000000
namespace HF
open PySem PySem.Spec PyProof.Rows L2
end HF
namespace D
open PySem PySem.Spec PyProof.Rows L2 StX RZ
structure IsiN (K : PySem.W.Frag) (C : Addr) (Cs : List Addr) (ts : List String) : Prop where
  own : ∀ C' ∈ Cs, IsiC K C' ∧ PySem.W.kitOne K (.ref C') (.ref C) = some false
  ty : ∀ t ∈ ts, PySem.W.kitOne K (.type t) (.ref C) = some false
def fIsiN (C : Addr) (Cs : List Addr) (ts : List String) : FL := fun ds R => match ds with
  | [.obj C' ns l, .val (.ref C2)] => C2 = C ∧ ((C' = C ∧ R (.dat (.bl true))) ∨ (C' ∈ Cs ∧ R (.dat (.bl false))))
  | [x, .val (.ref C2)] => C2 = C ∧ match tyN x with
    | some t => t ∈ ts ∧ R (.dat (.bl false))
    | none => False
  | _ => False
section
variable {P : Res → Prop} {C C' : Addr} {Cs : List Addr} {ts : List String} {ns : List Str} {l : List Dt}
theorem fIsiN_y (h : P (.dat (.bl true))) : fIsiN C Cs ts [.obj C ns l, .val (.ref C)] P := ⟨rfl, .inl ⟨rfl, h⟩⟩
theorem fIsiN_n (m : C' ∈ Cs) (h : P (.dat (.bl false))) : fIsiN C Cs ts [.obj C' ns l, .val (.ref C)] P := ⟨rfl, .inr ⟨m, h⟩⟩
theorem fIsiN_i {x : Int} (m : "int" ∈ ts) (h : P (.dat (.bl false))) : fIsiN C Cs ts [.int x, .val (.ref C)] P := ⟨rfl, m, h⟩
theorem fIsiN_t {x : List Dt} (m : "tuple" ∈ ts) (h : P (.dat (.bl false))) : fIsiN C Cs ts [.tup x, .val (.ref C)] P := ⟨rfl, m, h⟩
end
end D
set_option Elab.async false
set_option linter.all false
set_option maxRecDepth 100000
set_option maxHeartbeats 2000000
namespace D
open PySem PySem.Spec PyProof.Rows L2 StX RZ
section
variable {K : PySem.W.Frag} {c : Ct} {W : WX} {X : Cx} {a b : Expr} {pos : Pos} {ta0 tb0 : TE} {ta tb : TED} {C : Addr} {Cs : List Addr} {ts : List String} {sp : SpD}
end
section
variable {WD : WDt} {ρ : List En} {R : Res → List En → Prop} {ta tb : TED} {C C' : Addr} {Cs : List Addr} {ts : List String} {sp : SpD} {n : Str} {ns ns' : List Str} {l l' : List Dt}
end
end D
set_option Elab.async false
set_option linter.all false
set_option maxRecDepth 100000
set_option maxHeartbeats 2000000
namespace D
open PySem PySem.Spec PyProof.Rows L2 LamX
abbrev lamObj (q : Str) (pars : Arguments) (bd : Expr) (sc : Scope) (cl : List (Str × Addr)) (dV doc pm : Value) (c' : Addr) (ct : Value) : Obj := PySem.W.kdv_obj "<lambda>" q pars (.expr bd) sc cl dV doc pm c' ct
def LamO (q : Str) (pars : Arguments) (bd : Expr) (sc : Scope) (cl : List (Str × Addr)) (d : Bool) : Addr → Addr → Addr → HO := fun f c' t => .ext fun h => ∃ doc pm ct, h.get? f = some (lamObj q pars bd sc cl (if d = true then .ref t else .none) doc pm c' ct)
section
variable {X : Cx} {pins : List (Addr × Obj)} {σ : L2.St} {H : Hp} {s : Shared}
end
end D
set_option Elab.async false
set_option linter.all false
set_option maxRecDepth 100000
set_option maxHeartbeats 2000000
namespace D
open PySem PySem.Spec PyProof.Rows L2 LamX
structure LamN (N : List Str) (sc scope : Scope) : Prop where
  kind : scope.kind = .function
  co : scope.isCoroutine = false
  gen : scope.isGenerator = false
  nocell : ∀ y ∈ scope.names, y.2 ≠ .cell
  apart : ∀ y ∈ scope.names, y.2 = .local → y.1 ∉ N
  free : ∀ y ∈ scope.names, y.2 = .free → sc.names.lookup y.1 = some .cell ∨ sc.names.lookup y.1 = some .free
theorem LamN.cells {X : Cx} {scope : Scope} (L : LamN X.N X.env.scope scope) (ok : X.Ok) : ∀ y ∈ scope.names, y.2 = .free → ∃ c, X.env.cells.lookup y.1 = some c := fun y hy e => (L.free y hy e).elim (fun k => ok.has _ (.inl k)) fun k => ok.has _ (.inr k)
section
variable {X : Cx} {pins : List (Addr × Obj)} {σ : L2.St} {H HZ : Hp} {s s1 : Shared}
end
end D
set_option Elab.async false
set_option linter.all false
set_option maxRecDepth 100000
set_option maxHeartbeats 2000000
namespace D
open PySem PySem.Spec PyProof.Rows L2 LamX
section
variable {X : Cx}
end
end D
set_option Elab.async false
set_option linter.all false
set_option maxRecDepth 100000
set_option maxHeartbeats 2000000
namespace D
open PySem PySem.Spec PyProof.Rows L2 LamX
structure LamF (X : Cx) (k : Nat) (q : Str) (L : Lm) (t : XK → TE) : Prop where
  ex : ∃ (pars : Arguments) (bd : Expr) (sc : Scope), L = ⟨q, L.d, LamO q pars bd sc (cloFrom X.env.cells sc.names []) L.d⟩ ∧ LamN X.N X.env.scope sc ∧
    (∀ (s : Shared) (tt c' : Addr) (doc pm ct : Value), (L.d = true → ∃ u n, RelV (.int 0) u ∧ ∃ o, s.heap.get? tt = some o ∧ o.data = .seq #[u] n) → ∃ binds, BindsTo s (PySem.W.kdv_fn "<lambda>" q pars (.expr bd) sc (cloFrom X.env.cells sc.names []) (if L.d = true then .ref tt else .none) doc pm (.ref c') ct) ⟨[], []⟩ binds ∧ ∀ y ∈ binds, sc.names.lookup y.1 = some .local) ∧
    ∀ (A : Around) (outer : List Env) (s : Shared) (H : Hp) (E : XK) (f c' : Addr), Room k (A.deeper (lamEnv X sc s.heap.objs.size f c')) → PE (lamCx X A outer s H E sc f c') bd (t E)
section
variable {X : Cx}
end
end D
set_option Elab.async false
set_option linter.all false
set_option maxRecDepth 100000
set_option maxHeartbeats 2000000
namespace D
open PySem PySem.Spec PyProof.Rows L2 LamX
section
variable {K : PySem.W.Frag} {c : Ct} {σ : L2.St} {ρ : List En} {H : Hp} {S : Addr → Prop} {W : WX}
end
section
variable {X : Cx} {c : Ct} {W : WX}
def TabL (X : Cx) (k : Nat) (q : Str) (tbl : List (Lm × TED)) : Prop := ∀ e ∈ tbl, LamF X k q e.1 (liftL X.K e.2)
theorem TabL.nil {k : Nat} {q : Str} : TabL X k q [] := fun _ m => nomatch m
theorem TabL.cons {k : Nat} {q : Str} {L : Lm} {te : TED} {r : List (Lm × TED)} (h : LamF X k q L (liftL X.K te)) (t : TabL X k q r) : TabL X k q ((L, te) :: r) := fun e m => by
  rcases List.mem_cons.mp m with rfl | m
  · exact h
  · exact t e m
end
section
variable {WD : WDt} {ρ : List En} {R : Res → List En → Prop}
end
end D
set_option Elab.async false
set_option linter.all false
set_option maxRecDepth 100000
set_option maxHeartbeats 2000000
namespace G
open PySem PySem.SeqAt
open AutoSeq1 (wpAny_loadPart')
open MeetsSeq MeetsSeq2 MeetsSeq3 SeqRoads2
section
variable {prog : Program} {w : World} {A : Around} {R : Result → Shared → Prop}
end
end G
namespace G
open PySem PySem.Spec PyProof.Rows L2
end G
namespace D
open PySem PySem.Spec PyProof.Rows L2
section
variable {X : Cx} {k : Nat} {tbl : OTab} {K : PySem.W.Frag}
end
end D
set_option Elab.async false
set_option linter.all false
set_option maxRecDepth 100000
set_option maxHeartbeats 2000000
namespace G
open PySem
end G
namespace D
open PySem PySem.Spec PyProof.Rows L2
section
variable {X : Cx} {c : Ct} {W : WX}
end
end D
set_option Elab.async false
set_option linter.all false
set_option maxRecDepth 100000
set_option maxHeartbeats 2000000
namespace D
open PySem PySem.Spec PyProof.Rows L2 StX RZ
structure In2 (K : PySem.W.Frag) (c : Ct) (σ : L2.St) (ρ : List En) (H : Hp) (S : Addr → Prop) (S1 : Addr → Prop) (H1 : Hp) (D : Addr) (ρ' : List En) (H' : Hp) (S' : Addr → Prop) (acc : List Dt) (us : List V) : Prop where
  st : Step K c σ ρ H S ρ' H' S'
  kp : Keep S1 H1 S' H'
  nS : ¬ S' D
  hD : H' D = some (.lst us)
  ra : Reps K S' H' acc us
section
variable {K : PySem.W.Frag} {c : Ct} {W : WX} {σ σ4 : L2.St} {ρ ρ' ρ2 : List En} {H H' H2 H1 : Hp} {S S' S2 S1 : Addr → Prop} {D : Addr} {acc : List Dt} {us : List V}
theorem In2.noD (a : In2 K c σ ρ H S S1 H1 D ρ' H' S' acc us) (k : Ok K c ρ σ H S) (n : H D = none) : ¬ OwnA ρ' σ D := fun z => k.nown0 n (a.st.ow _ z)
theorem In2.lay (a : In2 K c σ ρ H S S1 H1 D ρ' H' S' acc us) (l : Lay H' S' H2 S2) : In2 K c σ ρ H S S1 H1 D ρ' H2 S2 acc us :=
  ⟨a.st.trans (Step.ofLay a.st.ok l), a.kp.trans l.keep, (fun s => by
    rcases l.2.2 D s with s | s
    · exact a.nS s
    · rw [a.hD] at s; cases s.1), l.1 D _ a.hD, l.reps a.ra⟩
theorem In2.step (a : In2 K c σ ρ H S S1 H1 D ρ' H' S' acc us) (k : Ok K c ρ σ H S) (n : H D = none) (s : Step K c σ ρ' H' S' ρ2 H2 S2) : In2 K c σ ρ H S S1 H1 D ρ2 H2 S2 acc us :=
  ⟨a.st.trans s, a.kp.trans (s.keep a.st.ok), (fun z => by
    rcases s.s1 D z with z | z | z
    · exact a.nS z
    · rw [a.hD] at z; cases z
    · exact a.noD k n z), s.fr D _ a.hD (a.noD k n), s.reps a.st.ok a.ra⟩
theorem In2.app {y : Dt} {v : V} (a : In2 K c σ ρ H S S1 H1 D ρ' H' S' acc us) (k : Ok K c ρ σ H S) (n : H D = none) (hy : Rep K S' H' y v) : In2 K c σ ρ H S S1 H1 D ρ' (upd H' D (.lst (us ++ [v]))) S' (acc ++ [y]) (us ++ [v]) ∧
    ∀ {ρ5 : List En} {σ5 : L2.St}, Ok K c ρ5 σ5 H' S' → ¬ OwnA ρ5 σ5 D → Ok K c ρ5 σ5 (upd H' D (.lst (us ++ [v]))) S' := by
  have m : ∀ b o, S' b → H' b = some o → S' b ∧ upd H' D (.lst (us ++ [v])) b = some o := fun b o s e => ⟨s, by rw [upd_ne (fun z : b = D => a.nS (by rw [← z]; exact s))]; exact e⟩
  have tr : ∀ b o, H' b = some o → ∃ o', upd H' D (.lst (us ++ [v])) b = some o' := fun b o e => by
    by_cases z : b = D
    · rw [z]; exact ⟨_, upd_same⟩
    · exact ⟨o, by rw [upd_ne z]; exact e⟩
  have kk : ∀ {ρ5 : List En} {σ5 : L2.St}, Ok K c ρ5 σ5 H' S' → ¬ OwnA ρ5 σ5 D → Ok K c ρ5 σ5 (upd H' D (.lst (us ++ [v]))) S' := fun {ρ5 σ5} k5 nO =>
    k5.over m (fun b z => ⟨upd_ne fun e => nO (by rw [← e]; exact z), fun s => k5.nown s z⟩) tr (fun b o e n2 e2 => by
      have : b ≠ D := fun z => by rw [z, k.free0 n] at e; cases e
      rw [upd_ne this]; exact e2) (fun b s => (k5.st b s).elim fun o e => tr b o e) (fun b s => s) (fun b s => .inl s)
  refine ⟨⟨⟨kk a.st.ok (a.noD k n), fun b o e nn => ?_, fun b o e => (a.st.tr b o e).elim fun o' e' => tr b o' e', a.st.s0, a.st.s1, a.st.ow⟩, a.kp.trans m, a.nS, upd_same, (Reps.mono m _ _ a.ra).append ⟨v, [], rfl, Rep.mono m _ _ hy, rfl⟩⟩, kk⟩
  have : b ≠ D := fun z => by rw [z, n] at e; cases e
  rw [upd_ne this]; exact a.st.fr b o e nn
end
section
variable {c : Ct} {W : WX} {X : Cx} {e tg iter tg1 iter1 : Expr} {ifs1 : List Expr} {scope : Scope} {own : List (Str × Nat)} {wi0 : TI} {wi ti : TID} {g g1 : TGC} {tt : TTD} {te : TED} {pos : Pos} {vs1 : List Nat}
end
end D
set_option Elab.async false
set_option linter.all false
set_option maxRecDepth 100000
set_option maxHeartbeats 2000000
namespace D
open PySem PySem.Spec PyProof.Rows L2 LamX
section
variable {X : Cx} {x1 x2 x3 x4 : Str} {c1 c2 c3 c4 : Value} {kk : Nat} {p1 p2 p3 p4 tp : Pos}
end
abbrev THs := Value → Option Addr → Ends → L2.St → Hp → Prop
section
variable {X : Cx} {n : Str} {cs : List Value} {i : Nat} {t : Expr} {suite : List Stmt} {first : Stmt} {more hds : List ExceptHandler} {pos' : Pos} {th : THs} {ts : Addr → Value → Option Addr → TS} {body : List Stmt} {pos : Pos} {tb : WX → TS}
end
abbrev Grp := List Value × Str
section
variable {X : Cx} {sg : Scope} {g : Addr} {cdg : Value} {s : Shared} {H : Hp}
end
end D
set_option Elab.async false
set_option linter.all false
set_option maxRecDepth 100000
set_option maxHeartbeats 2000000
namespace D
open PySem PySem.Spec PyProof.Rows L2 LamX
def ErrG (K : PySem.W.Frag) : List Grp → Addr → Str → Prop
  | [], _, _ => False
  | (cs, f) :: gs, C, fld => (PySem.W.exmAny K (.ref C) cs = some true ∧ f = fld ∧ XfC K C ∧ PySem.W.findIn K (.ref C) "tag" = some none ∧ PySem.W.findIn K (.ref C) fld = some none) ∨ (PySem.W.exmAny K (.ref C) cs = some false ∧ ErrG K gs C fld)
section
variable {K : PySem.W.Frag} {c : Ct} {σ : L2.St} {ρ : List En} {H : Hp} {S : Addr → Prop} {X : Cx}
end
section
variable {WD : WDt} {ρ : List En} {R : Res → List En → Prop}
end
end D
set_option Elab.async false
set_option linter.all false
set_option maxRecDepth 100000
namespace HF
open PySem PySem.Spec PyProof.Rows L2 D
structure ErrF (K : PySem.W.Frag) (gs : List Grp) (C : Addr) (fld : Str) : Prop where
  tag : PySem.W.findIn K (.ref C) "tag" = some none
  given : PySem.W.findIn K (.ref C) fld = some none
  err : ErrG K gs C fld
end HF
set_option Elab.async false
set_option linter.all false
set_option maxRecDepth 100000
set_option maxHeartbeats 1000000
namespace ZS
open PySem PySem.Spec PyProof.Rows L2
section
variable {P : Program} {w : World} {A : Around} {E : Value → Shared → Prop} {s : Shared}
end
end ZS
set_option Elab.async false
set_option linter.all false
set_option maxRecDepth 100000
set_option maxHeartbeats 2000000
namespace D
open PySem PySem.Spec PyProof.Rows L2 StX ZS
section
variable {K : PySem.W.Frag} {c : Ct} {W : WX} {X : Cx} {σ : L2.St} {ρ ρ1 ρ' : List En} {H H1 H2 H' : Hp} {S S1 S2 S' : Addr → Prop}
theorem Ok.updF (k : Ok K c ρ σ H S) {p : Addr} {x : HO} (hs : ¬ S p) (hn : ¬ OwnA ρ σ p) (h0 : c.H0 p = none) : Ok K c ρ σ (upd H p x) S := by
  have up : ∀ a, a ≠ p → upd H p x a = H a := fun a n => upd_ne n
  refine k.over (fun a o s e => ⟨s, ?_⟩) (fun a q => ⟨?_, fun s => k.nown s q⟩) (fun a o e => ?_) (fun a o z _ e => ?_) (fun a s => ?_) (fun a s => s) (fun a s => .inl s)
  · rw [up a fun z => hs (z ▸ s)]; exact e
  · exact up a fun z => hn (z ▸ q)
  · by_cases z : a = p
    · subst z; exact ⟨x, upd_same⟩
    · exact ⟨o, (up a z).trans e⟩
  · rw [up a fun q => by subst q; rw [h0] at z; cases z]; exact e
  · obtain ⟨o, e⟩ := k.st a s
    exact ⟨o, (up a fun z => hs (z ▸ s)).trans e⟩
structure DPs (X : Cx) (c : Ct) (W : WX) (pos : Pos) (keys : List (Option Expr)) (values : List Expr) (trs : List (TE × TE)) (ks : List Str) (t : TAD) : Prop where
  pps : PPs X pos keys values trs
  sn : ∀ WD ρ σ H S (Q : List (V × V) → Hp → Prop) (R : List Res → List En → Prop), RelW X.K c W WD → Ok X.K c ρ σ H S → (∀ rs ρ' vs H' S', R rs ρ' → Step X.K c σ ρ H S ρ' H' S' → vs.length = ks.length → RepRs X.K σ H H' S' rs vs → Q ((ks.zip vs).map fun z => (.str z.1, z.2)) H') → t WD ρ R → tPairs trs σ H Q
theorem dps_nil {pos : Pos} : DPs X c W pos [] [] [] [] dNil := ⟨pps_nil, fun WD ρ σ H S Q R hW k hR q => hR _ _ [] H S q (.refl k) rfl rfl⟩
theorem dps_cons {pos p2 : Pos} {x : Str} {j} {v : Expr} {ks : List (Option Expr)} {vs : List Expr} {tv0 : TE} {tv : TED} {trs : List (TE × TE)} {ns : List Str} {t : TAD} (hv : PED X c W v tv0 tv) (hr : DPs X c W pos ks vs trs ns t) :
    DPs X c W pos (some (.Constant (.str x) j p2) :: ks) (v :: vs) ((tC (.str x), tv0) :: trs) (x :: ns) (dCons tv t) := ⟨pps_cons pe_str hv.pe hr.pps, fun WD ρ σ H S Q R hW k hR q => by
  show tv0 σ H _
  refine hv.sn WD ρ σ H S _ _ hW k (fun r ρ1 v H1 S1 q a rr => ?_) q
  refine hr.sn WD ρ1 σ H1 S1 _ _ hW a.ok (fun rs ρ2 us H2 S2 q a2 hl rrs => ?_) q
  refine hR (r :: rs) ρ2 (v :: us) H2 S2 q (a.trans a2) (by rw [List.length_cons, List.length_cons, hl]) ⟨v, us, rfl, rr.held a2 a.ok (fun x hx q => k.nown0 hx (a.ow _ q)), rrs.later a, fun w ew j w' hj hv => ?_⟩
  subst ew
  obtain ⟨p, e1, _, _, ro⟩ := rr
  obtain ⟨o, z⟩ := ro.trk
  obtain ⟨v', e2, p', e3, h0, _⟩ := rrs.get hj
  rw [hv] at e2; cases e2
  rw [e1] at e3; cases e3
  rw [z] at h0; cases h0⟩
def strKs (ks : List Str) : List Key := ks.map Sum.inr
def dDisp (ks : List Str) (t : TAD) : TED := fun WD ρ R => t WD ρ fun rs ρ1 => kDs rs ρ1 fun ds ρ2 => ks.Nodup ∧ ks.length ≤ 15 ∧ ds.length = ks.length ∧ R (.new (.dic (strKs ks) ds)) ρ2
theorem disp_kvs : ∀ {ks : List Str} {vs : List V}, vs.length = ks.length → (ks.zip vs).map (fun z => ((V.str z.1, z.2) : V × V)) = ((strKs ks).zip vs).map fun kv => (kV kv.1, kv.2)
  | [], [], _ => rfl
  | k :: ks, v :: vs, h => by
    show _ :: (ks.zip vs).map _ = _ :: ((strKs ks).zip vs).map _
    rw [disp_kvs (by simpa using h)]
    rfl
theorem strKs_nodup {ks : List Str} (h : ks.Nodup) : (strKs ks).Nodup := by
  unfold strKs
  exact List.pairwise_map.mpr (h.imp fun n e => n (Sum.inr.inj e))
theorem ed_disp {pos : Pos} {keys : List (Option Expr)} {values : List Expr} {trs : List (TE × TE)} {ks : List Str} {t : TAD} (h : DPs X c W pos keys values trs ks t) (hall : keys.all (·.isSome) = true) (hl : keys.length = values.length) (h0 : keys ≠ []) (h15 : keys.length ≤ 15) :
    PED X c W (.Dict keys values pos) (tDisp trs) (dDisp ks t) := ⟨pe_disp h.pps hall hl h0 h15, fun WD ρ σ H S Q R hW k hR q => by
  intro p hp
  have hp0 := k.free0 hp
  have a0 := Step.lay (o := .dK []) k hp
  refine h.sn WD ρ σ _ S _ _ hW a0.ok (fun rs ρ1 vs H1 S1 q a hlen rr => ?_) q
  have nS : ¬ S p := fun s => by obtain ⟨o, e⟩ := k.st p s; rw [hp] at e; cases e
  have nO : ¬ OwnA ρ σ p := k.nown0 hp
  have later : ∀ {ρ2 : List En} {S2 : Addr → Prop}, Step X.K c σ ρ (upd H p (.dK [])) S ρ2 H1 S2 → H1 p = some (.dK []) ∧ ¬ S2 p ∧ ¬ OwnA ρ2 σ p := fun a2 => ⟨a2.fr p _ upd_same nO, fun s => by
    rcases a2.s1 p s with s | s | s
    · exact nS s
    · rw [upd_same] at s; cases s
    · exact nO s, fun q => nO (a2.ow _ q)⟩
  refine ⟨(later a).1, ?_⟩
  refine kDs_ok (Q := fun us H2 => us.length = ks.length → ∃ kvs : List (Key × V), (ks.zip us).map (fun z => ((V.str z.1, z.2) : V × V)) = kvs.map (fun kv => (kV kv.1, kv.2)) ∧ kvs.length ≤ 15 ∧ Q (.ref p) (upd H2 p (.dK (mergeK [] kvs)))) a0.ok a rr (fun ds ρ2 us S2 q a2 _ hd hlu => ?_) q hlen
  obtain ⟨nd, l15, ld, q⟩ := q
  refine ⟨(strKs ks).zip us, disp_kvs hlu, ?_, ?_⟩
  · rw [List.length_zip]
    unfold strKs
    rw [List.length_map]
    omega
  · obtain ⟨e1, e2, e3⟩ := later a2
    rw [merge_new (by unfold strKs; rw [List.length_map, hlu]) (strKs_nodup nd) (fun x m => by cases m), List.nil_append]
    have ne : ∀ {a : Addr} {o : HO}, H a = some o → a ≠ p := fun e z => by subst z; rw [hp] at e; cases e
    refine hR _ ρ2 _ _ S2 q ⟨a2.ok.updF e2 e3 hp0, fun b o e n => ?_, fun b o e => ?_, a2.s0, fun b s => ?_, a2.ow⟩ ⟨p, rfl, hp, e2, us, upd_same, ?_, ?_⟩
    · rw [upd_ne (ne e)]
      exact a2.fr b o (by rw [upd_ne (ne e)]; exact e) n
    · rw [upd_ne (ne e)]
      exact a2.tr b o (by rw [upd_ne (ne e)]; exact e)
    · rcases a2.s1 b s with s | s | s
      · exact .inl s
      · by_cases z : b = p
        · subst z; exact .inr (.inl hp)
        · rw [upd_ne z] at s; exact .inr (.inl s)
      · exact .inr (.inr s)
    · refine Reps.mono (fun b o s e => ⟨s, ?_⟩) _ _ hd
      rw [upd_ne (show b ≠ p from fun z => e2 (by rw [← z]; exact s))]
      exact e
    · unfold strKs
      rw [List.length_map, ld]⟩
theorem ed_disp0 {pos : Pos} : PED X c W (.Dict [] [] pos) tDNewK (dDisp [] dNil) := ⟨pe_dnewK, fun WD ρ σ H S Q R hW k hR q => by
  intro p hp
  obtain ⟨_, _, _, q⟩ := (show _ ∧ _ ∧ _ ∧ _ from q)
  exact hR _ ρ _ _ S q (Step.lay k hp) ⟨p, rfl, hp, (fun s => by obtain ⟨o, e⟩ := k.st p s; rw [hp] at e; cases e), [], upd_same, rfl, rfl⟩⟩
def dlook (ks : List Key) (l : List Dt) (k : Key) : Option Dt := ((ks.zip l).find? fun kv => decide (kv.1 = k)).map (·.2)
theorem dlook_ok {k : Key} : ∀ {ks : List Key} {l : List Dt} {vs : List V}, Reps K S H l vs → (∀ d, dlook ks l k = some d → ∃ v, valV (ks.zip vs) k = some v ∧ Rep K S H d v) ∧ (dlook ks l k = none → valV (ks.zip vs) k = none)
  | [], l, vs, _ => ⟨(fun d e => by cases e), fun _ => rfl⟩
  | _ :: _, [], vs, h => by
    obtain rfl : vs = [] := h
    exact ⟨(fun d e => by cases e), fun _ => rfl⟩
  | c :: ks, d :: l, _, ⟨y, ys, rfl, h1, h2⟩ => by
    by_cases e : c = k
    · have e1 : dlook (c :: ks) (d :: l) k = some d := by unfold dlook; simp [List.find?_cons, e]
      have e2 : valV ((c :: ks).zip (y :: ys)) k = some y := valV_pos (p := (c, y)) e
      rw [e1, e2]
      exact ⟨(fun d' q => by cases q; exact ⟨y, rfl, h1⟩), (fun q => by cases q)⟩
    · have e1 : dlook (c :: ks) (d :: l) k = dlook ks l k := by unfold dlook; simp [List.find?_cons, e]
      have e2 : valV ((c :: ks).zip (y :: ys)) k = valV (ks.zip ys) k := valV_neg (p := (c, y)) e
      rw [e1, e2]
      exact dlook_ok h2
def keyD : Dt → Option Key
  | .int i => some (.inl i)
  | .str x => some (.inr x)
  | _ => none
theorem keyD_ok {d : Dt} {k : Key} {v : V} (e : keyD d = some k) (h : RepP K S H d v) : v = kV k := by
  cases d with
  | int i => cases e; exact h.int
  | str x => cases e; exact h.str
  | _ => cases e
def kDg (R : Res → List En → Prop) (r : Res) (y : Dt) (ρ : List En) : Prop := match pk r ρ, keyD y with
  | some (.dic ks l), some k => ∃ d, dlook ks l k = some d ∧ R (.dat d) ρ
  | _, _ => False
def dDg (td tk : TED) : TED := fun WD ρ R => td WD ρ fun r ρ1 => tk WD ρ1 (kP fun y ρ2 => kDg R r y ρ2)
variable {o e : Expr} {td0 tk0 : TE} {td tk : TED} {pos : Pos}
theorem ed_dget (hu : X.A.units + 1 < cLine) (ho : PED X c W o td0 td) (he : PED X c W e tk0 tk) (hs : NoSl e) : PED X c W (.Subscript o e pos) (tDGet td0 tk0) (dDg td tk) := ⟨pe_dget hu ho.pe he.pe hs, fun WD ρ σ H S Q R hW k hR q => by
  refine ho.sn WD ρ σ H S _ _ hW k (fun r ρ1 v H1 S1 q a rr => ?_) q
  refine he.sn.pk hW a.ok (fun y ρ2 vy H2 S2 q a2 ry => ?_) q
  have rr2 := rr.held a2 a.ok (fun x hx q => k.nown0 hx (a.ow _ q))
  have b := a.trans a2
  unfold kDg at q
  cases e3 : pk r ρ2 with
  | none => rw [e3] at q; exact q.elim
  | some d =>
    rw [e3] at q
    have hd := pk_ok b.ok rr2 e3
    cases d with
    | dic ks l =>
      cases e4 : keyD y with
      | none => rw [e4] at q; exact q.elim
      | some kk =>
        rw [e4] at q
        obtain ⟨d, ed, q⟩ := q
        obtain ⟨p, vs, ep, hp, hl, _⟩ := hd.dic
        obtain ⟨u, eu, ru⟩ := (dlook_ok (k := kk) (ks := ks) hl).1 d ed
        refine ⟨p, u, ep, ?_, hR _ ρ2 _ H2 S2 q b ru⟩
        rw [keyD_ok e4 ry, ← eu]
        exact DGet.k hp
    | _ => exact q.elim⟩
def kDin (neg : Bool) (R : Res → List En → Prop) (y : Res) (r : Dt) (ρ : List En) : Prop := match pk y ρ, r with
  | some y, .dic ks l => match keyD y with
    | some k => R (.dat (.bl (if neg then !(dlook ks l k).isSome else (dlook ks l k).isSome))) ρ
    | none => False
  | _, _ => False
def dDin (neg : Bool) (tk td : TED) : TED := fun WD ρ R => tk WD ρ fun y ρ1 => td WD ρ1 (kP fun r ρ2 => kDin neg R y r ρ2)
theorem snd_din {neg : Bool} (ho : SndE K c W td0 td) (he : SndE K c W tk0 tk) : SndE K c W (fun σ H Q => tk0 σ H fun y H1 => td0 σ H1 fun x H2 => ∃ a o, x = .ref a ∧ DGet H2 a y o ∧ Q (.bl (if neg then !o.isSome else o.isSome)) H2) (dDin neg tk td) := by
  intro WD ρ σ H S Q R hW k hR q
  refine he WD ρ σ H S _ _ hW k (fun r ρ1 v H1 S1 q a rr => ?_) q
  refine ho.pk hW a.ok (fun y ρ2 vy H2 S2 q a2 ry => ?_) q
  have rr2 := rr.held a2 a.ok (fun x hx q => k.nown0 hx (a.ow _ q))
  have b := a.trans a2
  unfold kDin at q
  cases e3 : pk r ρ2 with
  | none => rw [e3] at q; exact q.elim
  | some d =>
    rw [e3] at q
    have hd := pk_ok b.ok rr2 e3
    cases y with
    | dic ks l =>
      dsimp only at q
      cases e4 : keyD d with
      | none => rw [e4] at q; exact q.elim
      | some kk =>
        rw [e4] at q
        obtain ⟨p, vs, ep, hp, hl, _⟩ := ry.dic
        have dl := dlook_ok (k := kk) (ks := ks) hl
        refine ⟨p, valV (ks.zip vs) kk, ep, by rw [keyD_ok e4 hd]; exact DGet.k hp, ?_⟩
        have e5 : (valV (ks.zip vs) kk).isSome = (dlook ks l kk).isSome := by
          cases e6 : dlook ks l kk with
          | none => rw [dl.2 e6]; rfl
          | some d => obtain ⟨u, eu, _⟩ := dl.1 d e6; rw [eu]; rfl
        rw [e5]
        exact hR _ ρ2 _ H2 S2 q b rfl
    | _ => exact q.elim
theorem td_dnin (hu : X.A.units + 1 < cLine) (ho : PED X c W o td0 td) (he : PED X c W e tk0 tk) (hm : behindInMarks .NotIn o = false := by rfl) : PTD X c W (.Compare e [.NotIn] [o] pos) (tB (tDNotIn tk0 td0)) (dTB (dDin true tk td)) := ⟨pt_cmp (pc_dnotin hu he.pe ho.pe) hm, snd_tb (snd_din (neg := true) ho.sn he.sn)⟩
def fMax2 : FL := fun ds R => match ds with
  | [.int i, .int j] => R (.dat (.int (if j > i then j else i)))
  | _ => False
end
end D
set_option Elab.async false
set_option linter.all false
set_option maxRecDepth 100000
set_option maxHeartbeats 2000000
namespace D
open PySem PySem.Spec PyProof.Rows L2 StX ZS
section
variable {K : PySem.W.Frag} {c : Ct} {W : WX} {X : Cx} {σ : L2.St} {ρ ρ1 ρ' : List En} {H H1 H2 H' : Hp} {S S1 S2 S' : Addr → Prop}
def kAsg2 (g1 g2 : TGD) (WD : WDt) (E : EndsD) : Res → List En → Prop := fun r ρ => match r with
  | .dat d => g1 WD (.dat d) ρ fun ρ1 => g2 WD (.dat d) ρ1 E.nx
  | _ => False
def dAsg2 (te : TED) (g1 g2 : TGD) : TSD := fun WD E ρ => te WD ρ (kAsg2 g1 g2 WD E)
theorem dAsg2_i {te : TED} {g1 g2 : TGD} {WD : WDt} {E : EndsD} {ρ : List En} (h : te WD ρ (kAsg2 g1 g2 WD E)) : dAsg2 te g1 g2 WD E ρ := h
theorem kAsg2_i {g1 g2 : TGD} {WD : WDt} {E : EndsD} {ρ : List En} {d : Dt} (h : g1 WD (.dat d) ρ fun ρ1 => g2 WD (.dat d) ρ1 (nxOf E)) : kAsg2 g1 g2 WD E (.dat d) ρ := h
end
section
variable {WD : WDt} {ρ : List En} {R : Res → List En → Prop} {P : Res → Prop} {ks : List Key} {l : List Dt}
theorem dDisp_i {ns : List Str} {t : TAD} (h : t WD ρ fun rs ρ1 => kDs rs ρ1 fun ds ρ2 => ns.Nodup ∧ ns.length ≤ 15 ∧ ds.length = ns.length ∧ R (.new (.dic (strKs ns) ds)) ρ2) : dDisp ns t WD ρ R := h
theorem and_disp {ns : List Str} {ds : List Dt} {p : Prop} (h1 : ns.Nodup) (h2 : ns.length ≤ 15) (h3 : ds.length = ns.length) (h : p) : ns.Nodup ∧ ns.length ≤ 15 ∧ ds.length = ns.length ∧ p := ⟨h1, h2, h3, h⟩
theorem dDg_i {td tk : TED} (h : td WD ρ fun r ρ1 => tk WD ρ1 (kP fun y ρ2 => kDg R r y ρ2)) : dDg td tk WD ρ R := h
theorem kDg_d {x : Str} {d : Dt} (e : dlook ks l (.inr x) = some d) (h : R (.dat d) ρ) : kDg R (.dat (.dic ks l)) (.str x) ρ := ⟨d, e, h⟩
theorem kDg_o {i : Nat} {x : Str} {d : Dt} (e0 : ρ[i]? = some (.own (.dic ks l))) (e : dlook ks l (.inr x) = some d) (h : R (.dat d) ρ) : kDg R (.ref i) (.str x) ρ := by
  unfold kDg
  rw [show pk (.ref i) ρ = some (.dic ks l) from by simp only [pk, e0]; rfl]
  exact ⟨d, e, h⟩
theorem dDin_i {neg : Bool} {tk td : TED} (h : tk WD ρ fun y ρ1 => td WD ρ1 (kP fun r ρ2 => kDin neg R y r ρ2)) : dDin neg tk td WD ρ R := h
theorem kDin_t {x : Str} (h : R (.dat (.bl (dlook ks l (.inr x)).isSome)) ρ) : kDin false R (.dat (.str x)) (.dic ks l) ρ := h
theorem kDin_f {x : Str} (h : R (.dat (.bl (!(dlook ks l (.inr x)).isSome))) ρ) : kDin true R (.dat (.str x)) (.dic ks l) ρ := h
theorem kP_newd {Q : Dt → List En → Prop} (h : Q (.dic ks l) ρ) : kP Q (.new (.dic ks l)) ρ := h
theorem kD_ownd {i : Nat} {ρ' : List En} {Q : Dt → List En → Prop} (e : ρ[i]? = some (.own (.dic ks l))) (e2 : ρ.set i (.dat (.dic ks l)) = ρ') (h : Q (.dic ks l) ρ') : kD Q (.ref i) ρ := by subst e2; unfold kD; simp only [e]; exact h
theorem kDs_newd {rs : List Res} {Q : List Dt → List En → Prop} (h : kDs rs ρ fun ds ρ2 => Q (.dic ks l :: ds) ρ2) : kDs (.new (.dic ks l) :: rs) ρ Q := h
theorem kDs_ownd {i : Nat} {ρ' : List En} {rs : List Res} {Q : List Dt → List En → Prop} (e : ρ[i]? = some (.own (.dic ks l))) (e2 : ρ.set i (.dat (.dic ks l)) = ρ') (h : kDs rs ρ' fun ds ρ2 => Q (.dic ks l :: ds) ρ2) : kDs (.ref i :: rs) ρ Q := kD_ownd (Q := fun d ρ1 => kDs rs ρ1 fun ds ρ2 => Q (d :: ds) ρ2) e e2 h
theorem fMax2_i {x y : Int} (h : P (.dat (.int (if y > x then y else x)))) : fMax2 [.int x, .int y] P := h
theorem fInt_b {b : Bool} (h : P (.dat (.int (if b = true then 1 else 0)))) : fInt [.bl b] P := h
end
end D
set_option Elab.async false
set_option linter.all false
set_option maxRecDepth 100000
set_option maxHeartbeats 2000000
namespace D
open PySem PySem.Spec PyProof.Rows L2 StX ZS
mutual
def noL : Dt → Bool
  | .lst _ => false
  | .scr _ => false
  | .lam _ => false
  | .dic _ _ => false
  | .tup l => noLs l
  | .obj _ _ l => noLs l
  | _ => true
def noLs : List Dt → Bool
  | [] => true
  | d :: l => noL d && noLs l
end
def Loose (H : Hp) (a : Addr) : Prop := (∃ us, H a = some (.lst us)) ∨ ∃ kv, H a = some (.dK kv)
section
variable {K : PySem.W.Frag} {S S' : Addr → Prop} {H : Hp}
mutual
theorem Rep.noL (h : ∀ a, S a → ¬ Loose H a → S' a) : ∀ (d : Dt) (v : V), noL d = true → Rep K S H d v → Rep K S' H d v
  | .non, _, _, e => e
  | .bl _, _, _, e => e
  | .int _, _, _, e => e
  | .str _, _, _, e => e
  | .lst l, _, q, _ => by cases q
  | .tup l, _, q, ⟨a, vs, e, ha, r⟩ => ⟨a, vs, e, ha.imp (fun z => ⟨z.1, h a z.2 (fun y => by rcases y with ⟨_, y⟩ | ⟨_, y⟩ <;> rw [z.1] at y <;> cases y)⟩) id, Reps.noLs h l vs q r⟩
  | .obj C ns l, _, q, ⟨a, dx, vs, e, ha, sa, r, n⟩ => ⟨a, dx, vs, e, ha, h a sa (fun y => by rcases y with ⟨_, y⟩ | ⟨_, y⟩ <;> rw [ha] at y <;> cases y), Reps.noLs h l vs q r, n⟩
  | .dic ks l, _, q, _ => by cases q
  | .val _, _, _, e => e
  | .scr _, _, q, _ => by cases q
  | .lam _, _, q, _ => by cases q
theorem Reps.noLs (h : ∀ a, S a → ¬ Loose H a → S' a) : ∀ (l : List Dt) (vs : List V), noLs l = true → Reps K S H l vs → Reps K S' H l vs
  | [], _, _, e => e
  | d :: l, _, q, ⟨v, r, e, h1, h2⟩ => by
    have q : (noL d && D.noLs l) = true := q
    rw [Bool.and_eq_true] at q
    exact ⟨v, r, e, Rep.noL h d v q.1 h1, Reps.noLs h l r q.2 h2⟩
end
end
def noLR : Res → Bool
  | .dat d => noL d
  | .new (.lst l) => noLs l
  | _ => false
def pkL : Res → List En → Option Dt
  | .dat d, _ => some d
  | .new (.lst l), _ => some (.lst l)
  | .new (.dic ks l), _ => some (.dic ks l)
  | .new _, _ => none
  | .ref i, ρ => match ρ[i]? with
    | some (.own (.lst l)) => some (.lst l)
    | some (.own (.dic ks l)) => some (.dic ks l)
    | some (.dat d) => some d
    | _ => none
def pksL : List Res → List En → Option (List Dt)
  | [], _ => some []
  | r :: rs, ρ => match pkL r ρ, pksL rs ρ with
    | some d, some ds => some (d :: ds)
    | _, _ => none
def kLend (sp : SpD) (R : Res → List En → Prop) (rs : List Res) (ρ : List En) : Prop := match pksL rs ρ with
  | some ds => sp (ds.map .dat) (fun r _ => noLR r = true ∧ R r ρ) (fun _ _ => False)
  | none => False
def dCallL (sp : SpD) (ta : TAD) : TED := fun WD ρ R => ta WD ρ (kLend sp R)
section
variable {K : PySem.W.Frag} {c : Ct} {W : WX} {X : Cx} {σ : L2.St} {ρ ρ1 ρ' : List En} {H H1 H2 H' : Hp} {S S1 S2 S' : Addr → Prop}
theorem pkL_ok {r : Res} {v : V} {d : Dt} (k : Ok K c ρ σ H S) (h : RepR K σ H1 H S r v) (e : pkL r ρ = some d) : Rep K (fun a => S a ∨ Loose H a) H d v := by
  have m : ∀ (a : Addr) (o : HO), S a → H a = some o → (S a ∨ Loose H a) ∧ H a = some o := fun a o s e => ⟨.inl s, e⟩
  have own : ∀ {w : Ow} {p : Addr}, RepO K S H w p → (∀ l, w = .lst l → Rep K (fun a => S a ∨ Loose H a) H (.lst l) (.ref p)) ∧ (∀ ks l, w = .dic ks l → Rep K (fun a => S a ∨ Loose H a) H (.dic ks l) (.ref p)) := fun {w p} ro => ⟨fun l q => by
    subst q
    obtain ⟨vs, e, r⟩ := ro
    exact ⟨p, vs, rfl, e, .inr (.inl ⟨_, e⟩), Reps.mono m _ _ r⟩, fun ks l q => by
    subst q
    obtain ⟨vs, e, r, n⟩ := ro
    exact ⟨p, vs, rfl, e, .inr (.inr ⟨_, e⟩), Reps.mono m _ _ r, n⟩⟩
  cases r with
  | dat d' => cases e; exact Rep.mono m _ _ h
  | new w =>
    obtain ⟨p, rfl, _, _, ro⟩ := h
    cases w with
    | lst l => cases e; exact (own ro).1 l rfl
    | dic ks l => cases e; exact (own ro).2 ks l rfl
    | _ => cases e
  | ref i =>
    have h : σ[i]? = some (some v) := h
    simp only [pkL] at e
    cases e1 : ρ[i]? with
    | none => rw [e1] at e; cases e
    | some en =>
      rw [e1] at e
      cases en with
      | emp => cases e
      | exc _ _ _ => cases e
      | dat d' =>
        cases e
        obtain ⟨v', e2, r⟩ := k.dat i d e1
        rw [h] at e2; cases e2
        exact Rep.mono m _ _ r
      | own w =>
        obtain ⟨p, e2, ro, _⟩ := k.own i w e1
        rw [h] at e2; cases e2
        cases w with
        | lst l => cases e; exact (own ro).1 l rfl
        | dic ks l => cases e; exact (own ro).2 ks l rfl
        | _ => cases e
theorem pksL_ok : ∀ {rs : List Res} {vs : List V} {ds : List Dt}, Ok K c ρ σ H S → RepRs K σ H1 H S rs vs → pksL rs ρ = some ds → Reps K (fun a => S a ∨ Loose H a) H ds vs
  | [], vs, ds, k, h, e => by cases e; exact h
  | r :: rs, vs, ds, k, ⟨v, us, e0, h1, h2, _⟩, e => by
    unfold pksL at e
    cases e1 : pkL r ρ with
    | none => rw [e1] at e; cases e
    | some d =>
      cases e2 : pksL rs ρ with
      | none => rw [e1, e2] at e; cases e
      | some ds' =>
        rw [e1, e2] at e
        cases e
        exact ⟨v, us, e0, pkL_ok k h1 e1, pksL_ok k h2 e2⟩
theorem snd_callL {sp : SpD} {t0 : TA} {t : TAD} (h : SndA K c W t0 t) : SndE K c W (tCallQ (toSpA K sp) W t0) (dCallL sp t) := by
  intro WD ρ σ H S Q R hW k hR q
  refine h WD ρ σ H S _ _ hW k (fun rs ρ1 vs H1 S1 q a rr => ?_) q
  unfold kLend at q
  cases e : pksL rs ρ1 with
  | none => rw [e] at q; exact q.elim
  | some ds =>
    rw [e] at q
    have hd := pksL_ok a.ok rr e
    refine run_callF (S := fun a => S1 a ∨ Loose H1 a) (fun b s => ?_) hd (fun r v H' S' q l rc => ?_) (fun x d H' S' q l rx => q.elim) q
    · rcases s with s | ⟨us, s⟩ | ⟨kv, s⟩
      · exact a.ok.st b s
      · exact ⟨_, s⟩
      · exact ⟨_, s⟩
    · obtain ⟨nl, q⟩ := q
      have up : ∀ b, Loose H1 b → Loose H' b := fun b z => z.imp (fun ⟨us, e⟩ => ⟨us, l.1 b _ e⟩) (fun ⟨kv, e⟩ => ⟨kv, l.1 b _ e⟩)
      have l2 : Lay H1 S1 H' (fun b => S' b ∧ (S1 b ∨ ¬ Loose H1 b)) := ⟨l.1, fun b s => ⟨l.2.1 b (.inl s), .inl s⟩, fun b s => by
        rcases l.2.2 b s.1 with z | z
        · rcases z with z | z
          · exact .inl z
          · exact .inl (s.2.resolve_right fun n => n z)
        · exact .inr z⟩
      have sub : ∀ b, S' b → ¬ Loose H' b → S' b ∧ (S1 b ∨ ¬ Loose H1 b) := fun b s n => ⟨s, .inr fun z => n (up b z)⟩
      refine hR r ρ1 v H' _ q (a.trans (.ofLay a.ok l2)) ?_
      have rc2 : RepC K H1 H' (fun b => S' b ∧ (S1 b ∨ ¬ Loose H1 b)) r v := by
        cases r with
        | dat d => exact Rep.noL sub d v nl rc
        | ref i => exact rc.elim
        | new w =>
          obtain ⟨p, e, h0, n, ro⟩ := rc
          refine ⟨p, e, h0, fun z => n z.1, ?_⟩
          cases w with
          | lst l => obtain ⟨us, e, r⟩ := ro; exact ⟨us, e, Reps.noLs sub l us nl r⟩
          | _ => cases nl
      exact rc2.r.later a
theorem ed_callL {k : Nat} {sp : SpD} {x : Str} {p pos : Pos} {e : Expr} {es : List Expr} {t0 : TA} {t : TAD} (De : DefA X.prog X.w X.K X.mg X.base x k sp) (hr : Room k X.A) (tk : Takes X W) (ha : PAD X c W (e :: es) t0 t) (hg : Gl X x := by rfl)
    (hdb : (x == ("__debug__" : Str)) = false := by decide) (he : starEach (e :: es) X.env = (false, eval e X.env) :: starEach es X.env := by rfl) (hpl : (backTo pos (starEach es X.env)).any (·.1) = false := by rfl) :
    PED X c W (.Call (.Name x p) (e :: es) [] pos) (tCallQ (toSpA X.K sp) W t0) (dCallL sp t) := ⟨(ed_callF De hr tk ha hg hdb he hpl).pe, snd_callL ha.sn⟩
def Ct.lend (c : Ct) (z : Nat) (p : Addr) : Ct := { c with P := fun i => if i = z then some p else c.P i }
theorem lend_at {c : Ct} {z : Nat} {p : Addr} : (c.lend z p).P z = some p := if_pos rfl
theorem lend_ne {c : Ct} {z i : Nat} {p : Addr} (h : i ≠ z) : (c.lend z p).P i = c.P i := if_neg h
theorem Ok.lend {z : Nat} {w : Ow} {p : Addr} (k : Ok K c ρ σ H S) (e : ρ[z]? = some (.own w)) (ep : σ[z]? = some (some (.ref p))) (hP : c.P z = none) : Ok K (c.lend z p) ρ σ H S ∧ c.H0 p = none := by
  obtain ⟨p', e2, ro, ns, h1, h2⟩ := k.own z w e
  rw [ep] at e2; cases e2
  have h0 := h2 hP
  refine ⟨⟨k.len, k.dat, fun i w' q => ?_, k.exc, k.inj, fun i q e => ?_, fun a o e n => k.fr a o e fun i z2 => ?_, k.st, k.s0, fun a s => ?_⟩, h0⟩
  · obtain ⟨p', e2, ro, ns, h1, h2⟩ := k.own i w' q
    refine ⟨p', e2, ro, ns, fun q' eq => ?_, fun en => ?_⟩
    · by_cases iz : i = z
      · subst iz
        rw [lend_at] at eq; cases eq
        rw [ep] at e2; cases e2; rfl
      · rw [lend_ne iz] at eq; exact h1 _ eq
    · by_cases iz : i = z
      · subst iz; rw [lend_at] at en; cases en
      · rw [lend_ne iz] at en; exact h2 en
  · by_cases iz : i = z
    · subst iz; rw [lend_at] at e; cases e; exact ro.trk
    · rw [lend_ne iz] at e; exact k.trk i q e
  · by_cases iz : i = z
    · subst iz; rw [hP] at z2; cases z2
    · exact n i (by rw [lend_ne iz]; exact z2)
  · rcases k.s1 a s with s | s | ⟨i, s⟩
    · exact .inl s
    · exact .inr (.inl s)
    · by_cases iz : i = z
      · subst iz; rw [hP] at s; cases s
      · exact .inr (.inr ⟨i, by rw [lend_ne iz]; exact s⟩)
theorem Ok.unlend {z : Nat} {p : Addr} (hP : c.P z = none) (h0 : c.H0 p = none) (k : Ok K (c.lend z p) ρ σ H S) : Ok K c ρ σ H S := by
  refine ⟨k.len, k.dat, fun i w' q => ?_, k.exc, k.inj, fun i q e => ?_, fun a o e n => k.fr a o e fun i z2 => ?_, k.st, k.s0, fun a s => ?_⟩
  · obtain ⟨p', e2, ro, ns, h1, h2⟩ := k.own i w' q
    refine ⟨p', e2, ro, ns, fun q' eq => ?_, fun en => ?_⟩
    · by_cases iz : i = z
      · subst iz; rw [hP] at eq; cases eq
      · exact h1 _ (by rw [lend_ne iz]; exact eq)
    · by_cases iz : i = z
      · subst iz; rw [h1 p lend_at]; exact h0
      · exact h2 (by rw [lend_ne iz]; exact en)
  · by_cases iz : i = z
    · subst iz; rw [hP] at e; cases e
    · exact k.trk i q (by rw [lend_ne iz]; exact e)
  · by_cases iz : i = z
    · subst iz; rw [lend_at] at z2; cases z2
      have e : c.H0 p = some o := e
      rw [h0] at e; cases e
    · rw [lend_ne iz] at z2; exact n i z2
  · rcases k.s1 a s with s | s | ⟨i, s⟩
    · exact .inl s
    · exact .inr (.inl s)
    · by_cases iz : i = z
      · subst iz; rw [lend_at] at s; cases s; exact .inr (.inl h0)
      · exact .inr (.inr ⟨i, by rw [lend_ne iz] at s; exact s⟩)
theorem RelW.lend {WD : WDt} {z : Nat} {p : Addr} (hP : c.P z = none) (h0 : c.H0 p = none) (h : RelW K c W WD) : RelW K (c.lend z p) W WD := fun ρ σ H S x d k rx q => h ρ σ H S x d (k.unlend hP h0) rx q
end
section
variable {WD : WDt} {ρ : List En} {R : Res → List En → Prop}
theorem pksL_nil : pksL [] ρ = some [] := rfl
theorem pksL_dat {d : Dt} {rs : List Res} {ds : List Dt} (e : pksL rs ρ = some ds) : pksL (.dat d :: rs) ρ = some (d :: ds) := by simp only [pksL, pkL, e]
theorem pksL_newl {l : List Dt} {rs : List Res} {ds : List Dt} (e : pksL rs ρ = some ds) : pksL (.new (.lst l) :: rs) ρ = some (.lst l :: ds) := by simp only [pksL, pkL, e]
theorem pksL_ownl {i : Nat} {l : List Dt} {rs : List Res} {ds : List Dt} (e0 : ρ[i]? = some (.own (.lst l))) (e : pksL rs ρ = some ds) : pksL (.ref i :: rs) ρ = some (.lst l :: ds) := by simp only [pksL, pkL, e0, e]
theorem dCallL_i {sp : SpD} {ta : TAD} (h : ta WD ρ (kLend sp R)) : dCallL sp ta WD ρ R := h
theorem kLend_i {sp : SpD} {rs : List Res} {ds : List Dt} (e : pksL rs ρ = some ds) (h : spF sp ds (fun r _ => noLR r = true ∧ R r ρ) (fun _ _ => False)) : kLend sp R rs ρ := by unfold kLend; rw [e]; exact h
end
end D
namespace D
end D
namespace D
open PySem PySem.Spec PyProof.Rows L2
theorem kCall_3l {WD : WDt} {ρ : List En} {R : Res → List En → Prop} {i : Nat} {w : Ow} {l : List Dt} {d' : Dt} {sp : SpD} (e : ρ[i]? = some (.own w)) (h : sp [.own w, .dat (.lst l), .dat d'] (kBack i [.lst l, d'] ρ R) (kBackX i [.lst l, d'] ρ WD)) : kCall [true] sp WD R [.ref i, .new (.lst l), .dat d'] ρ := by
  unfold kCall
  simp only [kAr, kD, insOf, e, slots, Option.map]
  exact ⟨by simp, h⟩
end D
set_option Elab.async false
set_option linter.all false
set_option maxRecDepth 100000
set_option maxHeartbeats 1000000
namespace ZS
open PySem PySem.Spec PyProof.Rows L2
section
variable {prog : Program} {w : World} {A : Around} {E : Value → Shared → Prop} {s : Shared}
end
end ZS
set_option Elab.async false
set_option linter.all false
set_option maxRecDepth 100000
set_option maxHeartbeats 2000000
namespace D
open PySem PySem.Spec PyProof.Rows L2 StX RZ ZS
section
variable {K : PySem.W.Frag} {c : Ct} {W : WX} {X : Cx} {σ : L2.St} {ρ ρ1 ρ' : List En} {H H1 H2 H' : Hp} {S S1 S2 S' : Addr → Prop}
end
section
variable {P : Program} {w : World} {K : PySem.W.Frag} {mg : Str → Option Value} {base : Heap}
end
section
variable {WD : WDt} {ρ : List En} {R : Res → List En → Prop} {P : Res → Prop} {l : List Dt}
end
end D
set_option Elab.async false
set_option linter.all false
set_option maxRecDepth 100000
set_option maxHeartbeats 2000000
namespace D
open PySem PySem.Spec PyProof.Rows L2 StX RZ ZS
section
variable {K : PySem.W.Frag}
end
end D
set_option Elab.async false
set_option linter.all false
set_option maxRecDepth 100000
set_option maxHeartbeats 2000000
namespace D
open PySem PySem.Spec PyProof.Rows L2 StX RZ ZS
theorem PSsD.any {X : Cx} {c : Ct} {W : WX} {b : List Stmt} {t0 : TS} {t : TSD} (h : PSsD X c W b t0 t) : PSsD X c W b (fun D σ H => ∃ t0, PSs X b t0 ∧ t0 D σ H) t :=
  ⟨⟨fun pins s σ H D I q => by
    obtain ⟨t0, h, q⟩ := q
    exact h.run pins s σ H D I q⟩, fun WD D E ρ σ H S hW hE k q => ⟨t0, h.pss, h.sn WD D E ρ σ H S hW hE k q⟩⟩
section
variable {K : PySem.W.Frag}
end
end D
set_option Elab.async false
set_option linter.all false
set_option maxRecDepth 100000
set_option maxHeartbeats 2000000
namespace G
open PySem PySem.Spec PyProof.Rows L2
end G
set_option Elab.async false
set_option linter.all false
set_option maxRecDepth 100000
set_option maxHeartbeats 2000000
namespace G
open PySem PySem.Spec PyProof.Rows L2
structure OexL (K : PySem.W.Frag) (C : Addr) : Prop where
  cls : ∃ nm q N bs bm sn sub ab col dd k0 k1 k2 k3 k5, List.lookup C K = some (excClassObj nm q C N bs bm true sn sub ab col dd k0 k1 k2 k3 k5 "LookupError.__new__") ∧ refsLE bm = true
  sa : PySem.W.findIn K (.ref C) "__setattr__" = some (some (.builtin "object.__setattr__"))
  exC : PySem.W.subIn K (.ref C) (.type "BaseException") = some true
  tyC : PySem.W.typeIn K (.ref C) = some (.type "type")
  kC : PySem.W.keepIn K (.ref C) = true
section
variable {X : Cx} {pins : List (Addr × Obj)} {σ : L2.St} {H : Hp} {s : Shared} {a C dx : Addr} {f : Str} {y : V} {u : Value} {fs : List (Str × V)} {E : Value → Shared → Prop} {A : Around}
end
end G
set_option Elab.async false
set_option linter.all false
set_option maxRecDepth 100000
set_option maxHeartbeats 2000000
namespace G
open PySem PySem.Spec PyProof.Rows L2
end G
set_option Elab.async false
set_option linter.all false
set_option maxRecDepth 100000
set_option maxHeartbeats 2000000
namespace G
open PySem PySem.Spec PyProof.Rows L2
def spErr1L (K : PySem.W.Frag) (tag fld : Str) : Sp := fun vs H Q _ => ∃ (a C : Addr) (y : V), vs = [.ref a, y] ∧ OexL K C ∧ PySem.W.findIn K (.ref C) "tag" = some none ∧ PySem.W.findIn K (.ref C) fld = some none ∧ H a = some (exo a C none) ∧
  ∀ dx, H dx = none → dx ≠ a → Q .non (upd (upd (upd H dx (exd dx [("tag", .str tag)])) a (exo a C (some dx))) dx (exd dx [(fld, y), ("tag", .str tag)]))
end G
namespace HF
open PySem PySem.Spec PyProof.Rows L2
end HF
namespace D
open PySem PySem.Spec PyProof.Rows L2 LamX
structure ErrMkL (P : Program) (w : World) (K : PySem.W.Frag) (mg : Str → Option Value) (base : Heap) (x : Str) (C : Addr) (tag fld : Str) (k : Nat) : Prop where
  ex : ∃ (fI : Addr) (fd : FuncData), FnOk P w K mg base C8.CX0 k fI fd ["self", fld] (G.spErr1L K tag fld) ∧ Binds K fd ["self", fld] [] ∧ PySem.W.findIn K (.ref C) "__init__" = some (some (.ref fI)) ∧ PySem.W.typeIn K (.ref fI) = some (.type "function")
  oex : G.OexL K C
  tag_ : PySem.W.findIn K (.ref C) "tag" = some none
  fld_ : PySem.W.findIn K (.ref C) fld = some none
  mg_ : mg x = some (.ref C)
  ne : ¬ fld = "tag"
section
variable {X : Cx} {c : Ct} {W : WX}
end
end D
set_option Elab.async false
set_option linter.all false
set_option maxRecDepth 100000
set_option maxHeartbeats 1000000
namespace D
open PySem PySem.W PySem.Calls PyProof.Rows
section
variable {prog : Program} {w : World} {A : Around} {E : Value → Shared → Prop} {s : Shared} {a kS : Addr} {b : Bool} {vs : List Value} {keys : Array Value} {e e1 : Nat} {P : PySem.Fin → Shared → Prop} {kz : List PyData}
end
end D
set_option Elab.async false
set_option linter.all false
set_option maxRecDepth 100000
set_option maxHeartbeats 1000000
namespace D
open PySem PySem.Spec PyProof.Rows L2
section
variable {X : Cx} {pins : List (Addr × Obj)} {σ : L2.St} {H : Hp} {s : Shared}
end
theorem rowLt_lt : ∀ c d : List Int, G.rowLt c d = decide (c < d)
  | [], [] => by simp [G.rowLt, HT.lexLt]
  | [], y :: d => by simp [G.rowLt, HT.lexLt]
  | x :: c, [] => by simp [G.rowLt, HT.lexLt]
  | x :: c, y :: d => by
    have ih := rowLt_lt c d
    have e : G.rowLt (x :: c) (y :: d) = if x = y then G.rowLt c d else decide (x < y) := rfl
    rw [e, ih]
    by_cases h : x = y <;> simp [h, List.cons_lt_cons_iff]
end D
namespace D
open PySem PySem.Spec PyProof.Rows L2
section
variable {K : PySem.W.Frag} {c : Ct} {W : WX} {X : Cx} {σ : L2.St} {ρ ρ1 ρ' : List En} {H H1 H2 H' : Hp} {S S1 S2 S' : Addr → Prop}
end
section
variable {c : Ct} {W : WX} {X : Cx}
end
end D
set_option Elab.async false
set_option linter.all false
set_option maxRecDepth 100000
set_option maxHeartbeats 1000000
namespace D
open PySem PySem.Spec PyProof.Rows L2
abbrev SmF := Str → List Dt → (Res → Prop) → Prop
section
variable {c : Ct} {W : WX} {X : Cx} {o e : Expr} {id : String} {name : Str} {apos pos : Pos} {r : V → List V → Hp → VK → Prop} {f : SmF} {to0 te0 : TE} {to te : TED}
end
section
variable {K : PySem.W.Frag}
theorem Wsh.val {H : Hp} {S : Addr → Prop} {Q : VK} {R : Res → Prop} (h : Wsh K H S Q R) {d : Dt} {v : V} (r : ∀ S H, Rep K S H d v) (q : R (.dat d)) : Q v H := h.2 _ _ H S q .refl (r S H)
end
section
variable {X : Cx} {c : Ct} {W : WX} {a b d : Str} {WD : WDt} {ρ : List En} {R : Res → List En → Prop} {to te : TED} {P : Res → Prop}
end
end D
set_option Elab.async false
set_option linter.all false
set_option maxRecDepth 100000
set_option maxHeartbeats 1000000
namespace D
open PySem PySem.Spec PyProof.Rows L2 CwR
structure PSDT (X : Cx) (c : Ct) (W : WX) (st : Stmt) (t0 : TS) (t : TSD) : Prop where
  pst : PST X st t0
  sn : SndS X.K c W t0 t
structure PSsDT (X : Cx) (c : Ct) (W : WX) (sts : List Stmt) (t0 : TS) (t : TSD) : Prop where
  psst : PSsT X sts t0
  sn : SndS X.K c W t0 t
section
variable {X : Cx} {c : Ct} {W : WX} {o e : Expr} {id : String} {name : Str} {apos pos : Pos} {r : V → List V → Hp → VK → Prop} {f : SmF} {to0 te0 : TE} {to te : TED} {y z y2 z2 b : Str}
end
section
variable {P : Program} {w : World} {K : PySem.W.Frag} {mg : Str → Option Value} {base : Heap}
end
end D
set_option Elab.async false
set_option linter.all false
set_option maxRecDepth 100000
set_option maxHeartbeats 1000000
namespace D
open PySem PySem.Spec PyProof.Rows L2
section
variable {K : PySem.W.Frag}
end
section
variable {X : Cx} {c : Ct} {W : WX} {x : Str} {ys : List Str} {e : Expr} {te0 : TE} {te : TED} {p apos pos : Pos}
end
end D
set_option Elab.async false
set_option linter.all false
set_option maxRecDepth 100000
set_option maxHeartbeats 1000000
namespace HF
open PySem PySem.Spec PyProof.Rows L2 D
end HF
set_option Elab.async false
set_option linter.all false
set_option maxRecDepth 100000
set_option maxHeartbeats 2000000
namespace D
open PySem PySem.Spec PyProof.Rows L2 LamX
section
variable {K : PySem.W.Frag} {c : Ct} {σ σ' : L2.St} {ρ ρ' : List En} {H H' : Hp} {S S' : Addr → Prop}
end
structure CaughtF (K : PySem.W.Frag) (C : Addr) (fld : Str) : Prop where
  mt : PySem.W.exmAny K (.ref C) [.ref C] = some true
  xf : XfC K C
  given : PySem.W.findIn K (.ref C) fld = some none
theorem ErrG.some {K : PySem.W.Frag} : ∀ {gs : List Grp} {C : Addr} {fld : Str}, ErrG K gs C fld → ∃ cs, (cs, fld) ∈ gs ∧ PySem.W.exmAny K (.ref C) cs = some true ∧ XfC K C ∧ PySem.W.findIn K (.ref C) fld = some none
  | [], _, _, h => h.elim
  | (cs, f) :: gs, C, fld, h => by
    rcases h with ⟨h1, rfl, h2, _, h3⟩ | ⟨_, h⟩
    · exact ⟨cs, List.mem_cons_self, h1, h2, h3⟩
    · obtain ⟨cs', m, r⟩ := ErrG.some h
      exact ⟨cs', List.mem_cons_of_mem _ m, r⟩
end D
set_option Elab.async false
set_option linter.all false
set_option maxRecDepth 100000
namespace D
open PySem PySem.Spec PyProof.Rows L2
end D
set_option Elab.async false
set_option linter.all false
set_option maxRecDepth 100000
namespace D
open PySem PySem.Spec PyProof.Rows L2
end D
set_option Elab.async false
set_option linter.all false
set_option maxRecDepth 100000
set_option maxHeartbeats 2000000
namespace G
open PySem PySem.Spec PyProof.Rows L2
end G
set_option Elab.async false
set_option linter.all false
set_option maxRecDepth 100000
set_option maxHeartbeats 2000000
namespace G
open PySem PySem.Spec PyProof.Rows L2
structure OexI (K : PySem.W.Frag) (C : Addr) : Prop where
  cls : ∃ nm q N bs bm sn sub ab col dd k0 k1 k2 k3 k5, List.lookup C K = some (excClassObj nm q C N bs bm true sn sub ab col dd k0 k1 k2 k3 k5 "IndexError.__new__") ∧ refsIE bm = true
  sa : PySem.W.findIn K (.ref C) "__setattr__" = some (some (.builtin "object.__setattr__"))
  exC : PySem.W.subIn K (.ref C) (.type "BaseException") = some true
  tyC : PySem.W.typeIn K (.ref C) = some (.type "type")
  kC : PySem.W.keepIn K (.ref C) = true
section
variable {X : Cx} {pins : List (Addr × Obj)} {σ : L2.St} {H : Hp} {s : Shared} {a C dx : Addr} {f : Str} {y : V} {u : Value} {fs : List (Str × V)} {E : Value → Shared → Prop} {A : Around}
end
end G
set_option Elab.async false
set_option linter.all false
set_option maxRecDepth 100000
set_option maxHeartbeats 2000000
namespace G
open PySem PySem.Spec PyProof.Rows L2
end G
set_option Elab.async false
set_option linter.all false
set_option maxRecDepth 100000
set_option maxHeartbeats 2000000
namespace G
open PySem PySem.Spec PyProof.Rows L2
def spErr0I (K : PySem.W.Frag) (tag : Str) : Sp := fun vs H Q _ => ∃ (a C : Addr), vs = [.ref a] ∧ OexI K C ∧ PySem.W.findIn K (.ref C) "tag" = some none ∧ H a = some (exo a C none) ∧
  ∀ dx, H dx = none → dx ≠ a → Q .non (upd (upd H dx (exd dx [("tag", .str tag)])) a (exo a C (some dx)))
end G
namespace HF
open PySem PySem.Spec PyProof.Rows L2
end HF
namespace D
open PySem PySem.Spec PyProof.Rows L2 LamX
structure ErrMkI (P : Program) (w : World) (K : PySem.W.Frag) (mg : Str → Option Value) (base : Heap) (x : Str) (C : Addr) (tag : Str) (k : Nat) : Prop where
  ex : ∃ (fI : Addr) (fd : FuncData), FnOk P w K mg base C8.CX0 k fI fd ["self"] (G.spErr0I K tag) ∧ Binds K fd ["self"] [] ∧ PySem.W.findIn K (.ref C) "__init__" = some (some (.ref fI)) ∧ PySem.W.typeIn K (.ref fI) = some (.type "function")
  oex : G.OexI K C
  tag_ : PySem.W.findIn K (.ref C) "tag" = some none
  mg_ : mg x = some (.ref C)
section
variable {X : Cx} {c : Ct} {W : WX}
end
end D
set_option Elab.async false
set_option linter.all false
set_option maxRecDepth 100000
set_option maxHeartbeats 2000000
namespace D
open PySem PySem.Spec PyProof.Rows L2
end D
set_option Elab.async false
set_option linter.all false
set_option maxRecDepth 100000
set_option maxHeartbeats 2000000
namespace D
open PySem PySem.Spec PyProof.Rows L2
end D
set_option Elab.async false
set_option linter.all false
set_option maxRecDepth 100000
namespace D
open PySem PySem.Spec PyProof.Rows L2 StX
section
variable {K : PySem.W.Frag} {c : Ct} {W : WX} {X : Cx} {σ : L2.St} {ρ ρ1 ρ' : List En} {H H1 H2 H' : Hp} {S S1 S2 S' : Addr → Prop}
end
end D
set_option Elab.async false
set_option linter.all false
set_option maxRecDepth 100000
namespace D
open PySem PySem.Spec PyProof.Rows L2 StX
section
variable {K : PySem.W.Frag} {c : Ct} {W : WX} {X : Cx}
theorem Keep.andThen {S S' S2 : Addr → Prop} {H H' H2 : Hp} (a : Keep S H S' H') (b : Keep S' H' S2 H2) : Keep S H S2 H2 := fun x o s e => b x o (a x o s e).1 (a x o s e).2
end
end D
set_option Elab.async false
set_option linter.all false
set_option maxRecDepth 100000
set_option maxHeartbeats 1000000
namespace ZS
open PySem PySem.Spec PyProof.Rows L2
structure Zxn (x : Str) (tx : Tok) (z TI TO i1 i2 b : Addr) (i : Nat) (h : Heap) : Prop where
  zp : IsZip h z TI TO .none
  ins : IsTupOf2 h TI (.ref i1) (.ref i2)
  out : ∃ a1 a2, IsTupOf2 h TO a1 a2
  fst : h.IsStrIter i1 (strIterType x) x tx i
  snd : h.IsListIter i2 b i
theorem Zxn.to {x : Str} {tx : Tok} {z TI TO i1 i2 b : Addr} {i : Nat} {h h' : Heap} (Z : Zxn x tx z TI TO i1 i2 b i h) (k : ∀ c ∈ [z, TI, TO, i1, i2], ∀ o, h.get? c = some o → h'.get? c = some o) : Zxn x tx z TI TO i1 i2 b i h' := by
  obtain ⟨a1, a2, ⟨u, v, a3⟩, ⟨o, ho, r⟩, a5⟩ := Z
  exact ⟨k z (by simp) _ a1, k TI (by simp) _ a2, ⟨u, v, k TO (by simp) _ a3⟩, ⟨o, k i1 (by simp) _ ho, r⟩, a5.at (k i2 (by simp))⟩
end ZS
set_option Elab.async false
set_option linter.all false
set_option maxRecDepth 100000
namespace D
open PySem PySem.Spec PyProof.Rows L2 StX RZ ZS
section
variable {K : PySem.W.Frag} {c : Ct} {W : WX} {X : Cx} {σ : L2.St} {ρ ρ1 ρ' : List En} {H H1 H2 H' : Hp} {S S1 S2 S' : Addr → Prop}
end
end D
set_option Elab.async false
set_option linter.all false
set_option maxRecDepth 100000
set_option maxHeartbeats 2000000
namespace L2
open PySem PySem.Spec PyProof.Rows
theorem bounds_tail (lo : Option Int) (n : Nat) : sliceBounds lo none none n = (((HT.sIx n 0 lo : Nat) : Int), (n : Int), 1) := by
  cases lo with
  | none => simp [sliceBounds, HT.sIx_none]
  | some v =>
    have e : max 0 (min (if v < 0 then v + (n : Int) else v) (n : Int)) = ((HT.sIx n 0 (some v) : Nat) : Int) := by
      rw [← HT.clip_eq v n 0]
      by_cases h : v < 0
      · rw [if_pos h, if_pos h]; omega
      · rw [if_neg h, if_neg h]; omega
    simp only [sliceBounds, Option.getD_none, show (1 : Int) > 0 by decide, if_true]
    rw [e]
theorem keep_take {p : Nat → Bool} {a : Nat} : ∀ (xs : List Value) (i : Nat), (∀ k, k < xs.length → p (i + k) = decide (a ≤ i + k)) → (xs.zipIdx i).filterMap (fun z => if p z.2 = true then none else some z.1) = xs.take (a - i)
  | [], i, _ => by simp
  | x :: xs, i, h => by
    have h0 := h 0 (by simp)
    rw [Nat.add_zero] at h0
    rw [List.zipIdx_cons, List.filterMap_cons]
    have ih := keep_take (p := p) (a := a) xs (i + 1) fun k hk => by
      have := h (k + 1) (by simp; omega)
      rw [show i + 1 + k = i + (k + 1) by omega]
      exact this
    dsimp only
    rw [ih, h0]
    by_cases q : a ≤ i
    · rw [decide_eq_true q, if_pos rfl, show a - i = 0 by omega, show a - (i + 1) = 0 by omega]
      simp
    · rw [decide_eq_false q, if_neg (by decide), show a - i = (a - (i + 1)) + 1 by omega, List.take_succ_cons]
section
variable {prog : Program} {w : World} {A : Around} {E : Value → Shared → Prop} {s : Shared}
theorem delItem_tail {l sl : Addr} {items : Array Value} {n : Nat} {vl : Value} {lo : Option Int} {Q : Unit → Shared → Prop}
    (e : s.heap.get? l = some { cls := .type "list", data := .seq items n }) (hs : s.heap.IsSliceOf sl vl .none .none) (pl : IsPart vl lo) (hsz : items.size ≤ sizeLine)
    (h : ∀ f : Array Value → Array Value, f items = (items.toList.take (HT.sIx items.size 0 lo)).toArray → Q () { s with heap := s.heap.update l (Obj.mapSeq f) }) :
    wpAny (model prog w) A (delItem (.ref l) (.ref sl)) Q E s := by
  have hl : s.heap.IsList l items := PySem.IsL.isList e
  obtain ⟨os, hos, hcs, hds⟩ := id hs
  have hTs : s.TypeIs (.ref sl) "slice" := ⟨os, hos, hcs⟩
  have hstep : ¬ ((rawPart none == rawInt 0) = true) := Bool.false_ne_true
  unfold delItem
  try with_reducible refine wpAny_holding ?_
  first | refine wpAny_bind (wpAny_pure ?_) | skip
  refine wpAny_bind (wpAny_sequenceKey hl.typeIs (by decide) ?_)
  refine wpAny_bind (wpAny_callSpecial?_slot (name := Str.ofString "__delitem__") hl.typeIs PySem.F.slot_list_delitem
    (wpAny_call_entry PySem.F.slot_list_delitem hl.typeIs PySem.F.entry_list_delitem ?_ (PySem.F.args_list_delitem_2 _ _)))
  show wpAny _ _ (Builtin.List.listSubscript? (.ref sl) >>= _) _ _ s
  refine wpAny_bind ?_
  unfold Builtin.List.listSubscript?
  refine wpAny_bind (wpAny_specialOf hTs slice_no_index ?_)
  simp only [Option.isNone_none, if_true]
  refine wpAny_pure ?_
  show wpAny _ _ (typeOf (.ref sl) >>= _) _ _ s
  refine wpAny_bind (wpAny_typeOf hTs ?_)
  first
    | rw [if_neg (by decide)]
    | refine PySem.W.KFB.if_not (by decide) ?_
  rw [listSliceParts_eq]
  refine wpAny_bind (wpAny_bind (wpAny_field hos hds (x := .none) rfl (wpAny_bind (wpAny_listPart .none ?_))))
  rw [if_neg hstep]
  refine wpAny_bind (wpAny_field hos hds (x := vl) rfl (wpAny_bind (wpAny_listPart pl ?_)))
  refine wpAny_bind (wpAny_field hos hds (x := .none) rfl (wpAny_bind (wpAny_listPart .none (wpAny_pure ?_))))
  dsimp only
  unfold Builtin.List.listItems
  refine wpAny_bind (wpAny_bind (wpAny_seqItems e rfl (wpAny_pure ?_)))
  refine wpAny_bind (wpAny_of_eq ((sliceIndices_raw lo none none items.size (by simp)).trans (congrArg (pure : Int × Int × Int → Sem (Int × Int × Int)) (bounds_tail lo items.size))) ?_)
  dsimp only
  refine wpAny_bind (wpAny_rule ?_)
  have key : ∀ p : Nat → Bool, (∀ k, k < items.size → p k = decide (HT.sIx items.size 0 lo ≤ k)) → ((items.toList.zipIdx.filterMap fun z => if p z.2 = true then none else some z.1)).toArray = (items.toList.take (HT.sIx items.size 0 lo)).toArray := fun p hp => by
    have := keep_take (p := p) (a := HT.sIx items.size 0 lo) items.toList 0 fun k hk => by
      rw [Nat.zero_add]
      exact hp k (by rw [← Array.length_toList]; exact hk)
    rw [Nat.sub_zero] at this
    rw [this]
  have sz : ∀ f : Array Value → Array Value, f items = (items.toList.take (HT.sIx items.size 0 lo)).toArray → (f items).size ≤ sizeLine + 1 := fun f hf => by
    rw [hf, List.size_toArray, List.length_take, Array.length_toList]
    omega
  refine wpAny_bind (m := Builtin.List.listUpdate (.ref l) _) ?_
  unfold Builtin.List.listUpdate
  dsimp only
  have tell : ∀ f : Array Value → Array Value, f items = (items.toList.take (HT.sIx items.size 0 lo)).toArray → ∀ {R : Unit → Shared → Prop}, R () { s with heap := s.heap.update l (Obj.mapSeq f) } → wpAny (model prog w) A.in1 (updateSeq l f) R E s := fun f hf R hR =>
    wpAny_updateSeq (hz := Nat.le_trans hsz (Nat.le_refl _)) (_hz' := sz f hf) e rfl hR
  refine tell _ ?_ ?_
  · refine key _ fun k hk => ?_
    show (if (1 : Int) > 0 then _ else _) = _
    rw [if_pos (by decide)]
    rw [Bool.eq_iff_iff]
    simp only [Bool.and_eq_true, decide_eq_true_eq, beq_iff_eq]
    omega
  · refine wpAny_bind (wpAny_letGo ?_)
    first
      | exact wpAny_pure ⟨.none, rfl, wpAny_pure (h _ (key _ fun k hk => by
          show (if (1 : Int) > 0 then _ else _) = _
          rw [if_pos (by decide)]
          rw [Bool.eq_iff_iff]
          simp only [Bool.and_eq_true, decide_eq_true_eq, beq_iff_eq]
          omega))⟩
end
section
variable {X : Cx}
def tDelT (to : TE) (tl : TO) : TS := fun D σ H => to σ H fun x H1 => tl σ H1 fun lo H2 => ∃ (l : Addr) (xs : List V), x = .ref l ∧ H2 l = some (.lst xs) ∧ D.nx σ (upd H2 l (.lst (xs.take (HT.sIx xs.length 0 lo))))
theorem ps_delT {o : Expr} {lo : Option Expr} {to : TE} {tl : TO} {p2 tpos pos : Pos} (ho : PE X o to) (hl : PO X lo tl) : PS X (.Delete [.Subscript o (.Slice lo none none p2) tpos] pos) (tDelT to tl) := by
  refine ⟨fun pins s σ H D I h => ?_⟩
  refine wpAny_Delete (wpAny_deleteEach_cons (wpAny_delete_Subscript (thn (ho.run pins s σ H _ I h) fun u s1 ⟨x, H1, I1, rx, q1⟩ => ?_)))
  refine wpAny_Slice (thn (hl.run pins s1 σ H1 _ I1 q1) fun vl s2 ⟨lo', H2, I2, pl, q2⟩ => ?_)
  rw [evalPart_none]
  refine wpAny_pure ?_
  refine wpAny_pure ?_
  obtain ⟨l, xs, rfl, hH, q⟩ := q2
  cases (show u = Value.ref l from rx)
  have I4 : Inv X pins σ H2 { s2 with heap := s2.heap.push { cls := .type "slice", data := .fields #[vl, .none, .none] } } := I2.kept (t' := s2.toks) fun b ob q => Heap.get?_push_of_some _ q
  obtain ⟨z, its, n, r, hl, e⟩ := I4.lstM hH
  refine delItem_tail (lo := lo') e (Heap.IsSliceOf.new ..) pl (by rw [List.size_toArray]; omega) fun f hf => ?_
  have el : its.length = xs.length := hl.symm
  rw [List.size_toArray, el] at hf
  refine wpAny_deleteEach_nil ⟨σ, _, I4.lset (its' := its.take (HT.sIx xs.length 0 lo')) (t' := s2.toks) hH e hf (r.take _) ?_, q⟩
  rw [List.length_take]
  omega
end
end L2
set_option Elab.async false
set_option linter.all false
set_option maxRecDepth 100000
set_option maxHeartbeats 2000000
namespace D
open PySem PySem.Spec PyProof.Rows L2
section
variable {K : PySem.W.Frag} {X : Cx} {c : Ct} {W : WX}
def kDelT (E : EndsD) (r : Res) (lo : Option Int) (ρ : List En) : Prop := match r with
  | .ref i => kOwnL ρ i fun l => nxOf E (ρ.set i (.own (.lst (l.take (HT.sIx l.length 0 lo)))))
  | _ => False
def dDelT (to : TED) (tl : TOD) : TSD := fun WD E ρ => to WD ρ fun r ρ1 => tl WD ρ1 fun lo ρ2 => kDelT E r lo ρ2
theorem sd_delT {o : Expr} {lo : Option Expr} {to0 : TE} {to : TED} {tl0 : TO} {tl : TOD} {p2 tpos pos : Pos} (ho : PED X c W o to0 to) (hl : POD X c W lo tl0 tl) : PSD X c W (.Delete [.Subscript o (.Slice lo none none p2) tpos] pos) (tDelT to0 tl0) (dDelT to tl) := ⟨ps_delT ho.pe hl.po, by
  intro WD D E ρ σ H S hW hE k q
  refine ho.sn WD ρ σ H S _ _ hW k (fun r1 ρ1 v H1 S1 q a rr => ?_) q
  refine hl.sn WD ρ1 σ H1 S1 _ _ hW a.ok (fun lo' ρ2 H2 S2 q a2 => ?_) q
  cases r1 with
  | dat d => exact q.elim
  | new w => exact q.elim
  | ref j =>
    have rr : σ[j]? = some (some v) := rr
    have b := a.trans a2
    obtain ⟨l, hj, q⟩ := kOwnL_elim q
    obtain ⟨p, e1, ⟨us, hp, hr⟩, ns, _⟩ := b.ok.own j _ hj
    rw [rr] at e1; cases e1
    have mm : ∀ a x, S2 a → H2 a = some x → S2 a ∧ upd H2 p (.lst (us.take (HT.sIx us.length 0 lo'))) a = some x := fun a x s e => ⟨s, (upd_ne (fun z : a = p => ns (by rw [← z]; exact s))).trans e⟩
    have w := b.trans (b.ok.warm (w' := .lst (l.take (HT.sIx l.length 0 lo'))) (o := .lst (us.take (HT.sIx us.length 0 lo'))) hj rr ⟨us.take (HT.sIx us.length 0 lo'), upd_same, by rw [show HT.sIx l.length 0 lo' = HT.sIx us.length 0 lo' by rw [hr.length]]; exact Reps.mono mm _ _ (hr.take _)⟩)
    exact ⟨p, us, rfl, hp, hE.nx _ _ _ _ w.ok (w.keep k) q⟩⟩
theorem dDelT_i {to : TED} {tl : TOD} {WD : WDt} {E : EndsD} {ρ : List En} (h : to WD ρ fun r ρ1 => tl WD ρ1 fun lo ρ2 => kDelT E r lo ρ2) : dDelT to tl WD E ρ := h
theorem kDelT_i {E : EndsD} {i : Nat} {l : List Dt} {lo : Option Int} {ρ : List En} (e : ρ[i]? = some (.own (.lst l))) (h : nxOf E (ρ.set i (.own (.lst (l.take (HT.sIx l.length 0 lo)))))) : kDelT E (.ref i) lo ρ := by
  show kOwnL ρ i _
  unfold kOwnL
  rw [e]
  exact h
end
end D
set_option Elab.async false
set_option linter.all false
set_option maxRecDepth 100000
set_option maxHeartbeats 2000000
namespace D
open PySem PySem.Spec PyProof.Rows L2
section
variable {K : PySem.W.Frag} {X : Cx}
def rInT (K : PySem.W.Frag) : R2 := fun x y H Q => ∃ d ds, Dp K H x d ∧ Dp K H y (.tuple ds) ∧ SeqAt.shaped d = true ∧ SeqAt.shaped (.tuple ds) = true ∧ Q (.bl (ds.any fun z => PyData.eqv z d)) H
theorem op_inT (hu : X.A.units + 65 < cLine) : OpR X (compareOp .In) (rInT X.K) := by
  intro pins s σ H x y v u Q I rx ry h
  obtain ⟨d, ds, hd, he, sd, se, q⟩ := h
  obtain ⟨as, r1⟩ := Dp.reads I d x v hd rx
  obtain ⟨bs, r2⟩ := Dp.reads I (.tuple ds) y u he ry
  exact SeqAt.in_tuple_reads r2 r1 (SeqAt.canLay_of_shaped se) (SeqAt.canLay_of_shaped sd) (room_in_shaped sd hu) ⟨.bl _, H, I, rfl, q⟩
def fInT : F2 := fun a b R => match toPy a, toPy b with
  | some p, some (.tuple qs) => SeqAt.shaped p = true ∧ SeqAt.shaped (.tuple qs) = true ∧ R (.dat (.bl (qs.any fun z => PyData.eqv z p)))
  | _, _ => False
theorem od_inT : OpD K (rInT K) fInT := fun S H x y a b Q R ha hb hw q => by
  unfold fInT at q
  split at q
  · rename_i p qs e1 e2
    exact ⟨p, qs, ha.dp e1, hb.dp e2, q.1, q.2.1, hw.dat q.2.2 rfl⟩
  · exact q.elim
end
end D
set_option Elab.async false
set_option linter.all false
set_option maxRecDepth 100000
set_option maxHeartbeats 2000000
namespace D
open PySem PySem.Spec PyProof.Rows L2 StX RZ G
structure Cs where
  Four : Addr
  Turn : Addr
def tr_Turn_four (A : Cs) : SpD := fun ins R EX => ins.length = 1 ∧ (
    (dRet (dFld A.Turn "lead" (dV 0))) : TSD) (fun x ρ => EX x (ρ.take 1)) (endsD 1 R) (rhoD 1 ins)
def tr_Four_halves (A : Cs) : SpD := fun ins R EX => ins.length = 1 ∧ (
    (dRet (dFld A.Four "doubled" (dV 0))) : TSD) (fun x ρ => EX x (ρ.take 1)) (endsD 1 R) (rhoD 1 ins)
def tr_is_number (A : Cs) : SpD := fun ins R EX => ins.length = 1 ∧ (
    (dRet (dAndV (dCB fIsi (dCons (dV 0) (dCons (dC (.val (.ty "int"))) dNil))) (dNotV (dCB fIsi (dCons (dV 0) (dCons (dC (.val (.ty "bool"))) dNil)))))) : TSD) (fun x ρ => EX x (ρ.take 1)) (endsD 1 R) (rhoD 1 ins)
def tr_are_halves (A : Cs) : SpD := fun ins R EX => ins.length = 1 ∧ (
    (dSeq (dIfS (dOr (dTB (dOp fNe (dCB fLen (dCons (dV 0) dNil)) (dC (.int 4)))) (dNot (dTB (dCB fAll (dCons (dLc (dItS (dV 0)) (gcN 1) dYes (dCallF (tr_is_number A) (dCons (dV 1) dNil)) [1]) dNil))))) (dRet (dC (.bl false))) dNext)
    (dRet (dOp (fInG false) (dCB fSum (dCons (dLc (dItS (dV 0)) (gcN 1) dYes (dOp fMod (dV 1) (dC (.int 2))) [1]) dNil)) (dTup (dCons (dC (.int 0)) (dCons (dC (.int 4)) dNil)))))) : TSD) (fun x ρ => EX x (ρ.take 1)) (endsD 1 R) (rhoD 2 ins)
def tr_Four_init (A : Cs) : SpD := fun ins R EX => ins.length = 2 ∧ (
    (dSeq (dIfS (dNot (dTB (dCallF (tr_are_halves A) (dCons (dV 1) dNil)))) dNever dNext)
    (dSelf 0 A.Four "doubled" (dV 1))) : TSD) (fun x ρ => EX x (ρ.take 2)) (endsD 2 R) (rhoD 2 ins)
def tr_Four_neg (A : Cs) : SpD := fun ins R EX => ins.length = 1 ∧ (
    (dSeq (dAsg (dFld A.Four "doubled" (dV 0)) (gTupD 4 (gConsD 1 (gConsD 2 (gConsD 3 (gConsD 4 gNilD))))))
    (dRet (dMake A.Four (star1 (tr_Four_init A)) (dCons (dUn fNeg (dV 1)) (dCons (dUn fNeg (dV 2)) (dCons (dUn fNeg (dV 3)) (dCons (dUn fNeg (dV 4)) dNil))))))) : TSD) (fun x ρ => EX x (ρ.take 1)) (endsD 1 R) (rhoD 5 ins)
def tr_common (A : Cs) : SpD := fun ins R EX => ins.length = 2 ∧ (
    (dSeq (dPar [2, 3] (dCons (dCB fAbs (dCons (dV 0) dNil)) (dCons (dCB fAbs (dCons (dV 1) dNil)) dNil)))
    (dSeq (dWhile (dTru (dV 3)) (dPar [2, 3] (dCons (dV 3) (dCons (dOp fMod (dV 2) (dV 3)) dNil))))
    (dRet (dV 2)))) : TSD) (fun x ρ => EX x (ρ.take 2)) (endsD 2 R) (rhoD 4 ins)
def tr_Four_content (A : Cs) : SpD := fun ins R EX => ins.length = 1 ∧ (
    (dSeq (dAsg (dFld A.Four "doubled" (dV 0)) (gTupD 4 (gConsD 1 (gConsD 2 (gConsD 3 (gConsD 4 gNilD))))))
    (dSeq (dAsg (dCallF (tr_common A) (dCons (dCallF (tr_common A) (dCons (dV 1) (dCons (dV 2) dNil))) (dCons (dCallF (tr_common A) (dCons (dV 3) (dCons (dV 4) dNil))) dNil))) (gN 5))
    (dSeq (dIfS (dAnd (dTru (dV 5)) (dNot (dTB (dCallF (tr_are_halves A) (dCons (dLc (dItS (dFld A.Four "doubled" (dV 0))) (gcN 6) dYes (dOp fDiv (dV 6) (dV 5)) [6]) dNil))))) (dRet (dOp fDiv (dV 5) (dC (.int 2)))) dNext)
    (dRet (dV 5))))) : TSD) (fun x ρ => EX x (ρ.take 1)) (endsD 1 R) (rhoD 7 ins)
def tr_Four_divided (A : Cs) : SpD := fun ins R EX => ins.length = 2 ∧ (
    (dSeq (dIfS (dOr (dNot (dTB (dCallF (tr_is_number A) (dCons (dV 1) dNil)))) (dOr (dTB (dOp fEq (dV 1) (dC (.int 0)))) (dTru (dOp fMod (dMeth [("doubled", A.Four, tr_Four_content A)] "content" (dV 0) dNil) (dV 1))))) dNever dNext)
    (dSeq (dAsg (dFld A.Four "doubled" (dV 0)) (gTupD 4 (gConsD 2 (gConsD 3 (gConsD 4 (gConsD 5 gNilD))))))
    (dRet (dMake A.Four (star1 (tr_Four_init A)) (dCons (dOp fDiv (dV 2) (dV 1)) (dCons (dOp fDiv (dV 3) (dV 1)) (dCons (dOp fDiv (dV 4) (dV 1)) (dCons (dOp fDiv (dV 5) (dV 1)) dNil)))))))) : TSD) (fun x ρ => EX x (ρ.take 2)) (endsD 2 R) (rhoD 6 ins)
def tr_lead_of (A : Cs) : SpD := fun ins R EX => ins.length = 1 ∧ (
    (dSeq (dAsg (dMeth [("doubled", A.Four, tr_Four_divided A)] "divided" (dV 0) (dCons (dMeth [("doubled", A.Four, tr_Four_content A)] "content" (dV 0) dNil) dNil)) (gN 1))
    (dRet (dIf (dTB (dOp fLtR (dProp [("doubled", A.Four, tr_Four_halves A)] "halves" (dV 1)) (dTup (dCons (dC (.int 0)) (dCons (dC (.int 0)) (dCons (dC (.int 0)) (dCons (dC (.int 0)) dNil))))))) (dNegO [("doubled", A.Four, tr_Four_neg A)] fNeg (dV 1)) (dV 1)))) : TSD) (fun x ρ => EX x (ρ.take 1)) (endsD 1 R) (rhoD 2 ins)
def tr_Four_bool (A : Cs) : SpD := fun ins R EX => ins.length = 1 ∧ (
    (dRet (dCB fAnyU (dCons (dFld A.Four "doubled" (dV 0)) dNil))) : TSD) (fun x ρ => EX x (ρ.take 1)) (endsD 1 R) (rhoD 1 ins)
def tr_Turn_init (A : Cs) : SpD := fun ins R EX => ins.length = 2 ∧ (
    (dSeq (dIfS (dNot (dTruO [("doubled", A.Four, tr_Four_bool A)] (dV 1))) dNever dNext)
    (dSelf 0 A.Turn "lead" (dCallF (tr_lead_of A) (dCons (dV 1) dNil)))) : TSD) (fun x ρ => EX x (ρ.take 2)) (endsD 2 R) (rhoD 2 ins)
def tr_turn_with (A : Cs) : SpD := fun ins R EX => ins.length = 1 ∧ (
    (dRet (dMake A.Turn (tr_Turn_init A) (dCons (dMakeS A.Four (star1 (tr_Four_init A)) (dV 0)) dNil))) : TSD) (fun x ρ => EX x (ρ.take 1)) (endsD 1 R) (rhoD 1 ins)
def tr_named_turn (A : Cs) : SpD := fun ins R EX => ins.length = 2 ∧ (
    (dSeq (dIfS (dTB (dDin true (dV 0) (dV 1))) dNever dNext)
    (dRet (dDg (dV 1) (dV 0)))) : TSD) (fun x ρ => EX x (ρ.take 2)) (endsD 2 R) (rhoD 2 ins)
def tr_last_of (A : Cs) : SpD := fun ins R EX => ins.length = 1 ∧ (
    (dSeq (dIfS (dNot (dTru (dV 0))) dNever dNext)
    (dRet (dMut mPop (dV 0) dNil))) : TSD) (fun x ρ => EX x (ρ.take 1)) (endsD 1 R) (rhoD 1 ins)
def tr_Four_mirrored (A : Cs) : SpD := fun ins R EX => ins.length = 1 ∧ (
    (dSeq (dAsg (dFld A.Four "doubled" (dV 0)) (gTupD 4 (gConsD 1 (gConsD 2 (gConsD 3 (gConsD 4 gNilD))))))
    (dRet (dMake A.Four (star1 (tr_Four_init A)) (dCons (dV 1) (dCons (dUn fNeg (dV 2)) (dCons (dUn fNeg (dV 3)) (dCons (dUn fNeg (dV 4)) dNil))))))) : TSD) (fun x ρ => EX x (ρ.take 1)) (endsD 1 R) (rhoD 5 ins)
def tr_Turn_neg (A : Cs) : SpD := fun ins R EX => ins.length = 1 ∧ (
    (dRet (dMake A.Turn (tr_Turn_init A) (dCons (dMeth [("doubled", A.Four, tr_Four_mirrored A)] "mirrored" (dFld A.Turn "lead" (dV 0)) dNil) dNil))) : TSD) (fun x ρ => EX x (ρ.take 1)) (endsD 1 R) (rhoD 1 ins)
def tr_Four_mul (A : Cs) : SpD := fun ins R EX => ins.length = 2 ∧ (
    (dSeq (dAsg (dFld A.Four "doubled" (dV 0)) (gTupD 4 (gConsD 2 (gConsD 3 (gConsD 4 (gConsD 5 gNilD))))))
    (dSeq (dAsg (dFld A.Four "doubled" (dV 1)) (gTupD 4 (gConsD 6 (gConsD 7 (gConsD 8 (gConsD 9 gNilD))))))
    (dRet (dMake A.Four (star1 (tr_Four_init A)) (dCons (dOp fDiv (dOp fSub (dOp fSub (dOp fSub (dOp fMul (dV 2) (dV 6)) (dOp fMul (dV 3) (dV 7))) (dOp fMul (dV 4) (dV 8))) (dOp fMul (dV 5) (dV 9))) (dC (.int 2))) (dCons (dOp fDiv (dOp fSub (dOp fAdd (dOp fAdd (dOp fMul (dV 2) (dV 7)) (dOp fMul (dV 3) (dV 6))) (dOp fMul (dV 4) (dV 9))) (dOp fMul (dV 5) (dV 8))) (dC (.int 2))) (dCons (dOp fDiv (dOp fAdd (dOp fAdd (dOp fSub (dOp fMul (dV 2) (dV 8)) (dOp fMul (dV 3) (dV 9))) (dOp fMul (dV 4) (dV 6))) (dOp fMul (dV 5) (dV 7))) (dC (.int 2))) (dCons (dOp fDiv (dOp fAdd (dOp fSub (dOp fAdd (dOp fMul (dV 2) (dV 9)) (dOp fMul (dV 3) (dV 8))) (dOp fMul (dV 4) (dV 7))) (dOp fMul (dV 5) (dV 6))) (dC (.int 2))) dNil)))))))) : TSD) (fun x ρ => EX x (ρ.take 2)) (endsD 2 R) (rhoD 10 ins)
def tr_Turn_mul (A : Cs) : SpD := fun ins R EX => ins.length = 2 ∧ (
    (dRet (dMake A.Turn (tr_Turn_init A) (dCons (dOpO [("doubled", A.Four, tr_Four_mul A)] "__mul__" fMul (dFld A.Turn "lead" (dV 0)) (dFld A.Turn "lead" (dV 1))) dNil))) : TSD) (fun x ρ => EX x (ρ.take 2)) (endsD 2 R) (rhoD 2 ins)
def tr_run (A : Cs) : SpD := fun ins R EX => ins.length = 2 ∧ (
    (dSeq (dAsg (dLst dNil) (gN 2))
    (dSeq (dFor (dItS (dV 0)) (gN 3) (dSeq (dAsg (dOp fIx (dV 3) (dC (.int 0))) (gN 4))
    (dIfS (dTB (dOp fEq (dV 4) (dC (.str "push")))) (dDrop (dMut mAppend (dV 2) (dCons (dCallF (tr_turn_with A) (dCons (dOp fIx (dV 3) (dC (.int 1))) dNil)) dNil))) (dIfS (dTB (dOp fEq (dV 4) (dC (.str "load")))) (dDrop (dMut mAppend (dV 2) (dCons (dCallF (tr_named_turn A) (dCons (dOp fIx (dV 3) (dC (.int 1))) (dCons (dV 1) dNil))) dNil))) (dIfS (dTB (dOp fEq (dV 4) (dC (.str "inv")))) (dDrop (dMut mAppend (dV 2) (dCons (dNegO [("lead", A.Turn, tr_Turn_neg A)] fNeg (dCall [true] (tr_last_of A) (dCons (dV 2) dNil))) dNil))) (dSeq (dAsg (dCall [true] (tr_last_of A) (dCons (dV 2) dNil)) (gN 5))
    (dSeq (dAsg (dCall [true] (tr_last_of A) (dCons (dV 2) dNil)) (gN 6))
    (dDrop (dMut mAppend (dV 2) (dCons (dOpO [("lead", A.Turn, tr_Turn_mul A)] "__mul__" fMul (dV 6) (dV 5)) dNil))))))))))
    (dSeq (dIfS (dTB (dOp fNe (dCB fLen (dCons (dV 2) dNil)) (dC (.int 1)))) dNever dNext)
    (dRet (dOp fIx (dV 2) (dC (.int 0))))))) : TSD) (fun x ρ => EX x (ρ.take 2)) (endsD 2 R) (rhoD 7 ins)
def tr_folding (A : Cs) : SpD := fun ins R EX => ins.length = 1 ∧ (
    (dSeq (dIfS (dTB (dOp fEq (dOp fIx (dV 0) (dC (.int 0))) (dTup (dCons (dC (.str "inv")) dNil)))) (dRet (dLst dNil)) dNext)
    (dSeq (dAsg (dCallF (tr_run A) (dCons (dV 0) (dCons (dDisp [] dNil) dNil))) (gN 1))
    (dRet (dLst (dCons (dTup (dCons (dC (.str "push")) (dCons (dProp [("doubled", A.Four, tr_Four_halves A)] "halves" (dProp [("lead", A.Turn, tr_Turn_four A)] "four" (dV 1))) dNil))) dNil))))) : TSD) (fun x ρ => EX x (ρ.take 1)) (endsD 1 R) (rhoD 2 ins)
def tr_foldable (A : Cs) : SpD := fun ins R EX => ins.length = 1 ∧ (
    (dSeq (dAsg (dLc (dItS (dSl (dV 0) (dPart (dUn fNeg (dC (.int 3)))) dNoPart)) (gcN 2) dYes (dOp fIx (dV 2) (dC (.int 0))) [2]) (gN 1))
    (dSeq (dIfS (dTB (dOp fInT (dSl (dV 1) (dPart (dUn fNeg (dC (.int 2)))) dNoPart) (dTup (dCons (dLst (dCons (dC (.str "inv")) (dCons (dC (.str "inv")) dNil))) (dCons (dLst (dCons (dC (.str "push")) (dCons (dC (.str "inv")) dNil))) dNil))))) (dRet (dC (.int 2))) dNext)
    (dSeq (dIfS (dTB (dOp fEq (dV 1) (dLst (dCons (dC (.str "push")) (dCons (dC (.str "push")) (dCons (dC (.str "mul")) dNil)))))) (dRet (dC (.int 3))) dNext)
    (dRet (dC (.int 0)))))) : TSD) (fun x ρ => EX x (ρ.take 1)) (endsD 1 R) (rhoD 3 ins)
def tr_shortened (A : Cs) : SpD := fun ins R EX => ins.length = 1 ∧ (
    (dSeq (dAsg (dLst dNil) (gN 1))
    (dSeq (dFor (dItS (dV 0)) (gN 2) (dSeq (dDrop (dMut mAppend (dV 1) (dCons (dV 2) dNil)))
    (dSeq (dAsg (dCallL (tr_foldable A) (dCons (dV 1) dNil)) (gN 3))
    (dIfS (dTru (dV 3)) (dSeq (dAsg (dCallF (tr_folding A) (dCons (dSl (dV 1) (dPart (dUn fNeg (dV 3))) dNoPart) dNil)) (gN 4))
    (dSeq (dDelT (dV 1) (dPart (dUn fNeg (dV 3))))
    (dDrop (dMut mExtend (dV 1) (dCons (dV 4) dNil))))) dNext))))
    (dRet (dV 1)))) : TSD) (fun x ρ => EX x (ρ.take 1)) (endsD 1 R) (rhoD 5 ins)
def tr_Four_eq (A : Cs) : SpD := fun ins R EX => ins.length = 2 ∧ (
    (dRet (dAndV (dCB (fIsiC A.Four) (dCons (dV 1) (dCons (dC (.val (.ref A.Four))) dNil))) (dOp fEq (dFld A.Four "doubled" (dV 0)) (dFld A.Four "doubled" (dV 1))))) : TSD) (fun x ρ => EX x (ρ.take 2)) (endsD 2 R) (rhoD 2 ins)
def tr_Turn_eq (A : Cs) : SpD := fun ins R EX => ins.length = 2 ∧ (
    (dRet (dAndV (dCB (fIsiC A.Turn) (dCons (dV 1) (dCons (dC (.val (.ref A.Turn))) dNil))) (dOpO [("doubled", A.Four, tr_Four_eq A)] "__eq__" fEq (dFld A.Turn "lead" (dV 0)) (dFld A.Turn "lead" (dV 1))))) : TSD) (fun x ρ => EX x (ρ.take 2)) (endsD 2 R) (rhoD 2 ins)
def tr_L_gcd (A : Cs) : SpD := fun ins R EX => ins.length = 2 ∧ (
    (dSeq (dParF [0, 1] (dCons (dCB fAbs (dCons (dV 0) dNil)) (dCons (dCB fAbs (dCons (dV 1) dNil)) dNil)))
    (dSeq (dWhile (dTB (dOp fNe (dV 1) (dC (.int 0)))) (dParF [0, 1] (dCons (dV 1) (dCons (dOp fMod (dCB fInt (dCons (dV 0) dNil)) (dV 1)) dNil))))
    (dRet (dV 0)))) : TSD) (fun x ρ => EX x (ρ.take 2)) (endsD 2 R) (rhoD 2 ins)
def tr_L_gcd_of (A : Cs) : SpD := fun ins R EX => ins.length = 1 ∧ (
    (dSeq (dAsg (dC (.int 0)) (gN 1))
    (dSeq (dFor (dItS (dV 0)) (gN 2) (dAsg (dCallF (tr_L_gcd A) (dCons (dV 1) (dCons (dV 2) dNil))) (gN 1)))
    (dRet (dV 1)))) : TSD) (fun x ρ => EX x (ρ.take 1)) (endsD 1 R) (rhoD 3 ins)
def tr_L_content (A : Cs) : SpD := fun ins R EX => ins.length = 1 ∧ (
    (dSeq (dAsg (dCallF (tr_L_gcd_of A) (dCons (dV 0) dNil)) (gN 1))
    (dSeq (dIfS (dTB (dOp fEq (dV 1) (dC (.int 0)))) (dRet (dC (.int 0))) dNext)
    (dSeq (dAsg (dLc (dItS (dV 0)) (gcN 3) dYes (dOp fMod (dOp fDiv (dV 3) (dCB fInt (dCons (dV 1) dNil))) (dC (.int 2))) [3]) (gN 2))
    (dRet (dIf (dTB (dOp fEq (dV 2) (dLst (dCons (dC (.int 1)) (dCons (dC (.int 1)) (dCons (dC (.int 1)) (dCons (dC (.int 1)) dNil))))))) (dV 1) (dOp fDiv (dV 1) (dC (.int 2)))))))) : TSD) (fun x ρ => EX x (ρ.take 1)) (endsD 1 R) (rhoD 4 ins)
def tr_L_lowest (A : Cs) : SpD := fun ins R EX => ins.length = 1 ∧ (
    (dSeq (dAsg (dCallF (tr_L_content A) (dCons (dV 0) dNil)) (gN 1))
    (dSeq (dAsg (dLc (dItS (dV 0)) (gcN 4) dYes (dOp fDiv (dV 4) (dV 1)) [4]) (gN 2))
    (dSeq (dAsg (dOp fIx (dLc (dItS (dV 2)) (gcN 4) (dTB (dOp fNe (dV 4) (dC (.int 0)))) (dV 4) [4]) (dC (.int 0))) (gN 3))
    (dRet (dCB fTuple (dCons (dLc (dItS (dV 2)) (gcN 4) dYes (dIf (dTB (dOp fGt (dV 3) (dC (.int 0)))) (dV 4) (dUn fNeg (dV 4))) [4]) dNil)))))) : TSD) (fun x ρ => EX x (ρ.take 1)) (endsD 1 R) (rhoD 5 ins)
def tr_L_times (A : Cs) : SpD := fun ins R EX => ins.length = 2 ∧ (
    (dSeq (dAsg (dV 0) (gTupD 4 (gConsD 2 (gConsD 3 (gConsD 4 (gConsD 5 gNilD))))))
    (dSeq (dAsg (dV 1) (gTupD 4 (gConsD 6 (gConsD 7 (gConsD 8 (gConsD 9 gNilD))))))
    (dSeq (dAsg (dOp fDiv (dOp fSub (dOp fSub (dOp fSub (dOp fMul (dV 2) (dV 6)) (dOp fMul (dV 3) (dV 7))) (dOp fMul (dV 4) (dV 8))) (dOp fMul (dV 5) (dV 9))) (dC (.int 2))) (gN 10))
    (dSeq (dAsg (dOp fDiv (dOp fSub (dOp fAdd (dOp fAdd (dOp fMul (dV 2) (dV 7)) (dOp fMul (dV 3) (dV 6))) (dOp fMul (dV 4) (dV 9))) (dOp fMul (dV 5) (dV 8))) (dC (.int 2))) (gN 11))
    (dSeq (dAsg (dOp fDiv (dOp fAdd (dOp fAdd (dOp fSub (dOp fMul (dV 2) (dV 8)) (dOp fMul (dV 3) (dV 9))) (dOp fMul (dV 4) (dV 6))) (dOp fMul (dV 5) (dV 7))) (dC (.int 2))) (gN 12))
    (dRet (dTup (dCons (dV 10) (dCons (dV 11) (dCons (dV 12) (dCons (dOp fDiv (dOp fAdd (dOp fSub (dOp fAdd (dOp fMul (dV 2) (dV 9)) (dOp fMul (dV 3) (dV 8))) (dOp fMul (dV 4) (dV 7))) (dOp fMul (dV 5) (dV 6))) (dC (.int 2))) dNil))))))))))) : TSD) (fun x ρ => EX x (ρ.take 2)) (endsD 2 R) (rhoD 13 ins)
def tr_L_back (A : Cs) : SpD := fun ins R EX => ins.length = 1 ∧ (
    (dRet (dTup (dCons (dOp fIx (dV 0) (dC (.int 0))) (dCons (dUn fNeg (dOp fIx (dV 0) (dC (.int 1)))) (dCons (dUn fNeg (dOp fIx (dV 0) (dC (.int 2)))) (dCons (dUn fNeg (dOp fIx (dV 0) (dC (.int 3)))) dNil)))))) : TSD) (fun x ρ => EX x (ρ.take 1)) (endsD 1 R) (rhoD 1 ins)
def tr_L_tree_four (A : Cs) (self_L_tree_four : SpD) : SpD := fun ins R EX => ins.length = 2 ∧ (
    (dSeq (dIfS (dTB (dOp fEq (dOp fIx (dV 0) (dC (.int 0))) (dC (.str "name")))) (dRet (dCallF (tr_L_lowest A) (dCons (dDg (dV 1) (dOp fIx (dV 0) (dC (.int 1)))) dNil))) dNext)
    (dSeq (dIfS (dTB (dOp fEq (dOp fIx (dV 0) (dC (.int 0))) (dC (.str "four")))) (dRet (dCallF (tr_L_lowest A) (dCons (dOp fIx (dV 0) (dC (.int 1))) dNil))) dNext)
    (dSeq (dAsg (dCallF self_L_tree_four (dCons (dOp fIx (dV 0) (dC (.int 1))) (dCons (dV 1) dNil))) (gN 2))
    (dSeq (dIfS (dTB (dOp fEq (dOp fIx (dV 0) (dC (.int 0))) (dC (.str "back")))) (dRet (dCallF (tr_L_lowest A) (dCons (dCallF (tr_L_back A) (dCons (dV 2) dNil)) dNil))) dNext)
    (dRet (dCallF (tr_L_lowest A) (dCons (dCallF (tr_L_times A) (dCons (dV 2) (dCons (dCallF self_L_tree_four (dCons (dOp fIx (dV 0) (dC (.int 2))) (dCons (dV 1) dNil))) dNil))) dNil))))))) : TSD) (fun x ρ => EX x (ρ.take 2)) (endsD 2 R) (rhoD 3 ins)
def tr_L_same (A : Cs) (self_L_same : SpD) : SpD := fun ins R EX => ins.length = 2 ∧ (
    (dSeq (dIfS (dTB (dOp fIsN (dV 1) (dC .non))) (dRet (dOp fIsN (dV 0) (dC .non))) dNext)
    (dSeq (dIfS (dOr (dTB (dCB fIsi (dCons (dV 1) (dCons (dC (.val (.ty "bool"))) dNil)))) (dTB (dCB fIsi (dCons (dV 0) (dCons (dC (.val (.ty "bool"))) dNil))))) (dRet (dAndV (dCB fIsi (dCons (dV 1) (dCons (dC (.val (.ty "bool"))) dNil))) (dAndV (dCB fIsi (dCons (dV 0) (dCons (dC (.val (.ty "bool"))) dNil))) (dOp fEq (dV 0) (dV 1))))) dNext)
    (dSeq (dIfS (dTB (dIsiT ["int", "str"] (dV 1))) (dRet (dAndV (dIsiT ["int", "str"] (dV 0)) (dAndV (dOp fEq (dCB fIsi (dCons (dV 0) (dCons (dC (.val (.ty "int"))) dNil))) (dCB fIsi (dCons (dV 1) (dCons (dC (.val (.ty "int"))) dNil)))) (dOp fEq (dV 0) (dV 1))))) dNext)
    (dSeq (dIfS (dOr (dTB (dOp fNe (dCB fIsi (dCons (dV 1) (dCons (dC (.val (.ty "tuple"))) dNil))) (dCB fIsi (dCons (dV 0) (dCons (dC (.val (.ty "tuple"))) dNil))))) (dTB (dOp fNe (dCB fIsi (dCons (dV 1) (dCons (dC (.val (.ty "list"))) dNil))) (dCB fIsi (dCons (dV 0) (dCons (dC (.val (.ty "list"))) dNil)))))) (dRet (dC (.bl false))) dNext)
    (dRet (dAndV (dOp fEq (dCB fLen (dCons (dV 0) dNil)) (dCB fLen (dCons (dV 1) dNil))) (dCB fAll (dCons (dLc (dZip (dCons (dV 0) (dCons (dV 1) dNil))) (gcTup 2 (gcCons 2 (gcCons 3 gcNil))) dYes (dCallF self_L_same (dCons (dV 2) (dCons (dV 3) dNil))) [2, 3]) dNil)))))))) : TSD) (fun x ρ => EX x (ρ.take 2)) (endsD 2 R) (rhoD 4 ins)
def tr_L_fold (A : Cs) : SpD := fun ins R EX => ins.length = 1 ∧ (
    (dSeq (dFor (dRng1 (dCons (dCB fLen (dCons (dV 0) dNil)) dNil)) (gN 1) (dSeq (dAsg (dIf (dTB (dOp fGt (dV 1) (dC (.int 0)))) (dOp fIx (dV 0) (dOp fSub (dV 1) (dC (.int 1)))) (dTup (dCons (dC (.str "none")) dNil))) (gN 2))
    (dSeq (dAsg (dIf (dTB (dOp fGt (dV 1) (dC (.int 1)))) (dOp fIx (dV 0) (dOp fSub (dV 1) (dC (.int 2)))) (dTup (dCons (dC (.str "none")) dNil))) (gN 3))
    (dSeq (dIfS (dAnd (dTB (dOp fEq (dOp fIx (dV 0) (dV 1)) (dTup (dCons (dC (.str "inv")) dNil)))) (dTB (dOp fEq (dV 2) (dTup (dCons (dC (.str "inv")) dNil))))) (dRet (dOp fAdd (dSl (dV 0) dNoPart (dPart (dOp fSub (dV 1) (dC (.int 1))))) (dSl (dV 0) (dPart (dOp fAdd (dV 1) (dC (.int 1)))) dNoPart))) dNext)
    (dSeq (dIfS (dAnd (dTB (dOp fEq (dOp fIx (dV 0) (dV 1)) (dTup (dCons (dC (.str "inv")) dNil)))) (dTB (dOp fEq (dOp fIx (dV 2) (dC (.int 0))) (dC (.str "push"))))) (dRet (dOp fAdd (dOp fAdd (dSl (dV 0) dNoPart (dPart (dOp fSub (dV 1) (dC (.int 1))))) (dLst (dCons (dTup (dCons (dC (.str "push")) (dCons (dCallF (tr_L_lowest A) (dCons (dCallF (tr_L_back A) (dCons (dOp fIx (dV 2) (dC (.int 1))) dNil)) dNil)) dNil))) dNil))) (dSl (dV 0) (dPart (dOp fAdd (dV 1) (dC (.int 1)))) dNoPart))) dNext)
    (dIfS (dAnd (dTB (dOp fEq (dOp fIx (dV 0) (dV 1)) (dTup (dCons (dC (.str "mul")) dNil)))) (dAnd (dTB (dOp fEq (dOp fIx (dV 2) (dC (.int 0))) (dC (.str "push")))) (dTB (dOp fEq (dOp fIx (dV 3) (dC (.int 0))) (dC (.str "push")))))) (dRet (dOp fAdd (dOp fAdd (dSl (dV 0) dNoPart (dPart (dOp fSub (dV 1) (dC (.int 2))))) (dLst (dCons (dTup (dCons (dC (.str "push")) (dCons (dCallF (tr_L_lowest A) (dCons (dCallF (tr_L_times A) (dCons (dOp fIx (dV 3) (dC (.int 1))) (dCons (dOp fIx (dV 2) (dC (.int 1))) dNil))) dNil)) dNil))) dNil))) (dSl (dV 0) (dPart (dOp fAdd (dV 1) (dC (.int 1)))) dNoPart))) dNext))))))
    (dRet (dV 0))) : TSD) (fun x ρ => EX x (ρ.take 1)) (endsD 1 R) (rhoD 4 ins)
def tr_L_tree_code (A : Cs) (self_L_tree_code : SpD) : SpD := fun ins R EX => ins.length = 1 ∧ (
    (dSeq (dIfS (dTB (dOp fEq (dOp fIx (dV 0) (dC (.int 0))) (dC (.str "name")))) (dRet (dLst (dCons (dTup (dCons (dC (.str "load")) (dCons (dOp fIx (dV 0) (dC (.int 1))) dNil))) dNil))) dNext)
    (dSeq (dIfS (dTB (dOp fEq (dOp fIx (dV 0) (dC (.int 0))) (dC (.str "four")))) (dRet (dLst (dCons (dTup (dCons (dC (.str "push")) (dCons (dOp fIx (dV 0) (dC (.int 1))) dNil))) dNil))) dNext)
    (dSeq (dIfS (dTB (dOp fEq (dOp fIx (dV 0) (dC (.int 0))) (dC (.str "back")))) (dRet (dOp fAdd (dCallF self_L_tree_code (dCons (dOp fIx (dV 0) (dC (.int 1))) dNil)) (dLst (dCons (dTup (dCons (dC (.str "inv")) dNil)) dNil)))) dNext)
    (dRet (dOp fAdd (dOp fAdd (dCallF self_L_tree_code (dCons (dOp fIx (dV 0) (dC (.int 1))) dNil)) (dCallF self_L_tree_code (dCons (dOp fIx (dV 0) (dC (.int 2))) dNil))) (dLst (dCons (dTup (dCons (dC (.str "mul")) dNil)) dNil))))))) : TSD) (fun x ρ => EX x (ρ.take 1)) (endsD 1 R) (rhoD 1 ins)
def tr_L_take (A : Cs) : SpD := fun ins R EX => ins.length = 2 ∧ (
    (dSeq (dIfS (dAnd (dTB (dOp fEq (dOp fIx (dV 0) (dC (.int 2))) (dC (.int 0)))) (dTB (dOp fLt (dOp fIx (dV 0) (dC (.int 1))) (dCB fLen (dCons (dOp fIx (dV 0) (dC (.int 0))) dNil))))) (dSeq (dAsg (dOp fIx (dOp fIx (dV 0) (dC (.int 0))) (dOp fIx (dV 0) (dC (.int 1)))) (gN 2))
    (dSeq (dAsg (dOp fAdd (dOp fIx (dV 0) (dC (.int 1))) (dC (.int 1))) (gSubD (dV 0) (dC (.int 1))))
    (dIfS (dTB (dOp fGe (dV 2) (dOp fPow (dC (.int 10)) (dC (.int 18))))) (dAsg (dV 2) (gSubD (dV 0) (dC (.int 2)))) (dSeq (dAsg (dOp fAdd (dOp fMul (dOp fIx (dV 0) (dC (.int 3))) (dC (.int 48271))) (dOp fMod (dCB fInt (dCons (dV 2) dNil)) (dC (.int 2147483563)))) (gN 3))
    (dAsg (dOp fMod (dOp fAdd (dV 3) (dOp fMul (dOp fIx (dV 0) (dC (.int 1))) (dC (.int 911)))) (dC (.int 2147483647))) (gSubD (dV 0) (dC (.int 3)))))))) dNext)
    (dSeq (dIfS (dTB (dOp fGt (dOp fIx (dV 0) (dC (.int 2))) (dC (.int 0)))) (dSeq (dAsg (dOp fMod (dCB fInt (dCons (dOp fIx (dV 0) (dC (.int 2))) dNil)) (dV 1)) (gN 4))
    (dSeq (dAsg (dOp fDiv (dOp fIx (dV 0) (dC (.int 2))) (dV 1)) (gSubD (dV 0) (dC (.int 2))))
    (dRet (dV 4)))) dNext)
    (dSeq (dAsg (dOp fMod (dOp fAdd (dOp fMul (dOp fIx (dV 0) (dC (.int 3))) (dC (.int 69621))) (dC (.int 13))) (dC (.int 2147483647))) (gSubD (dV 0) (dC (.int 3))))
    (dRet (dOp fMod (dOp fDiv (dOp fMod (dOp fMul (dOp fIx (dV 0) (dC (.int 3))) (dCB fInt (dCons (dOp fIx (dV 0) (dC (.int 3))) dNil))) (dC (.int 998244353))) (dC (.int 17))) (dV 1)))))) : TSD) (fun x ρ => EX x (ρ.take 2)) (endsD 2 R) (rhoD 5 ins)
def tr_L_halves (A : Cs) : SpD := fun ins R EX => ins.length = 2 ∧ (
    (dSeq (dAsg (dCall [true] (tr_L_take A) (dCons (dV 0) (dCons (dC (.int 2)) dNil))) (gN 2))
    (dSeq (dAsg (dLst dNil) (gN 3))
    (dSeq (dFor (dRng1 (dCons (dC (.int 4)) dNil)) (gN 4) (dDrop (dMut mAppend (dV 3) (dCons (dOp fAdd (dOp fMul (dC (.int 2)) (dOp fSub (dCall [true] (tr_L_take A) (dCons (dV 0) (dCons (dOp fAdd (dOp fMul (dC (.int 2)) (dV 1)) (dC (.int 1))) dNil))) (dV 1))) (dV 2)) dNil))))
    (dSeq (dIfS (dTB (dOp fEq (dV 3) (dLst (dCons (dC (.int 0)) (dCons (dC (.int 0)) (dCons (dC (.int 0)) (dCons (dC (.int 0)) dNil))))))) (dAsg (dLst (dCons (dC (.int 2)) (dCons (dC (.int 0)) (dCons (dC (.int 0)) (dCons (dC (.int 0)) dNil))))) (gN 3)) dNext)
    (dRet (dCB fTuple (dCons (dV 3) dNil))))))) : TSD) (fun x ρ => EX x (ρ.take 2)) (endsD 2 R) (rhoD 5 ins)
def tr_L_pick (A : Cs) : SpD := fun ins R EX => ins.length = 2 ∧ (
    (dRet (dOp fIx (dV 1) (dCall [true] (tr_L_take A) (dCons (dV 0) (dCons (dCB fLen (dCons (dV 1) dNil)) dNil))))) : TSD) (fun x ρ => EX x (ρ.take 2)) (endsD 2 R) (rhoD 2 ins)
def tr_L_tree (A : Cs) (self_L_tree : SpD) : SpD := fun ins R EX => ins.length = 3 ∧ (
    (dSeq (dAsg (dIf (dTB (dOp fGt (dV 2) (dC (.int 0)))) (dCall [true] (tr_L_take A) (dCons (dV 0) (dCons (dC (.int 6)) dNil))) (dCall [true] (tr_L_take A) (dCons (dV 0) (dCons (dC (.int 2)) dNil)))) (gN 3))
    (dSeq (dIfS (dTB (dOp fEq (dV 3) (dC (.int 0)))) (dRet (dTup (dCons (dC (.str "name")) (dCons (dCall [true] (tr_L_pick A) (dCons (dV 0) (dCons (dV 1) dNil))) dNil)))) dNext)
    (dSeq (dIfS (dTB (dOp fEq (dV 3) (dC (.int 1)))) (dRet (dTup (dCons (dC (.str "four")) (dCons (dCall [true] (tr_L_halves A) (dCons (dV 0) (dCons (dC (.int 2)) dNil))) dNil)))) dNext)
    (dSeq (dIfS (dTB (dOp fEq (dV 3) (dC (.int 2)))) (dRet (dTup (dCons (dC (.str "back")) (dCons (dCall [true] self_L_tree (dCons (dV 0) (dCons (dV 1) (dCons (dOp fSub (dV 2) (dC (.int 1))) dNil)))) dNil)))) dNext)
    (dSeq (dAsg (dCall [true] self_L_tree (dCons (dV 0) (dCons (dV 1) (dCons (dOp fSub (dV 2) (dC (.int 1))) dNil)))) (gN 4))
    (dRet (dTup (dCons (dC (.str "times")) (dCons (dV 4) (dCons (dCall [true] self_L_tree (dCons (dV 0) (dCons (dV 1) (dCons (dOp fSub (dV 2) (dC (.int 1))) dNil)))) dNil)))))))))) : TSD) (fun x ρ => EX x (ρ.take 3)) (endsD 3 R) (rhoD 5 ins)
def tr_L_four (A : Cs) : SpD := fun ins R EX => ins.length = 1 ∧ (
    (dSeq (dAsg (dV 0) (gTupD 4 (gConsD 1 (gConsD 2 (gConsD 3 (gConsD 4 gNilD))))))
    (dRet (dMake A.Four (star1 (tr_Four_init A)) (dCons (dV 1) (dCons (dV 2) (dCons (dV 3) (dCons (dV 4) dNil))))))) : TSD) (fun x ρ => EX x (ρ.take 1)) (endsD 1 R) (rhoD 5 ins)
def tr_L_turn (A : Cs) : SpD := fun ins R EX => ins.length = 1 ∧ (
    (dRet (dMake A.Turn (tr_Turn_init A) (dCons (dCallF (tr_L_four A) (dCons (dV 0) dNil)) dNil))) : TSD) (fun x ρ => EX x (ρ.take 1)) (endsD 1 R) (rhoD 1 ins)
def tr_L_feed (A : Cs) : SpD := fun ins R EX => ins.length = 1 ∧ (
    (dSeq (dAsg (dCB fList (dCons (dSl (dV 0) dNoPart (dPart (dC (.int 63)))) dNil)) (gN 1))
    (dSeq (dAsg (dOp fAdd (dC (.int 3819)) (dOp fMul (dC (.int 7)) (dCB fLen (dCons (dV 1) dNil)))) (gN 2))
    (dSeq (dFor (dItS (dV 1)) (gN 3) (dAsg (dOp fMod (dOp fAdd (dOp fAdd (dOp fMul (dV 2) (dC (.int 16807))) (dOp fMod (dCB fInt (dCons (dV 3) dNil)) (dC (.int 1000003)))) (dC (.int 5))) (dC (.int 2147483629))) (gN 2)))
    (dRet (dLst (dCons (dV 1) (dCons (dC (.int 0)) (dCons (dC (.int 0)) (dCons (dV 2) dNil))))))))) : TSD) (fun x ρ => EX x (ρ.take 1)) (endsD 1 R) (rhoD 4 ins)
def tr_law (A : Cs) (self_L_same : SpD) (self_L_tree : SpD) (self_L_tree_code : SpD) (self_L_tree_four : SpD) : SpD := fun ins R EX => ins.length = 1 ∧ (
    (dSeq (dAsg (dCallF (tr_L_feed A) (dCons (dV 0) dNil)) (gN 1))
    (dSeq (dFor (dRng1 (dCons (dC (.int 4)) dNil)) (gN 2) (dSeq (dAsg (dDisp ["a", "b"] (dCons (dCall [true] (tr_L_halves A) (dCons (dV 1) (dCons (dC (.int 3)) dNil))) (dCons (dCall [true] (tr_L_halves A) (dCons (dV 1) (dCons (dC (.int 2)) dNil))) dNil))) (gN 3))
    (dSeq (dAsg (dDisp ["a", "b"] (dCons (dCallF (tr_L_turn A) (dCons (dDg (dV 3) (dC (.str "a"))) dNil)) (dCons (dCallF (tr_L_turn A) (dCons (dDg (dV 3) (dC (.str "b"))) dNil)) dNil))) (gN 4))
    (dSeq (dAsg (dCall [true] self_L_tree (dCons (dV 1) (dCons (dLst (dCons (dC (.str "a")) (dCons (dC (.str "b")) dNil))) (dCons (dC (.int 3)) dNil)))) (gN 5))
    (dSeq (dIfS (dTB (dOp fEq (dCall [true] (tr_L_take A) (dCons (dV 1) (dCons (dC (.int 2)) dNil))) (dC (.int 0)))) (dAsg (dTup (dCons (dC (.str "back")) (dCons (dTup (dCons (dC (.str "back")) (dCons (dTup (dCons (dC (.str "times")) (dCons (dV 5) (dCons (dTup (dCons (dC (.str "times")) (dCons (dTup (dCons (dC (.str "four")) (dCons (dCall [true] (tr_L_halves A) (dCons (dV 1) (dCons (dC (.int 2)) dNil))) dNil))) (dCons (dTup (dCons (dC (.str "four")) (dCons (dCall [true] (tr_L_halves A) (dCons (dV 1) (dCons (dC (.int 2)) dNil))) dNil))) dNil)))) dNil)))) dNil))) dNil))) (gN 5)) dNext)
    (dSeq (dAsg (dCallF self_L_tree_code (dCons (dV 5) dNil)) (gN 6))
    (dSeq (dAsg (dV 6) (gN 7))
    (dSeq (dFor (dRng1 (dCons (dCB fLen (dCons (dV 6) dNil)) dNil)) (gN 8) (dAsg (dCallF (tr_L_fold A) (dCons (dV 7) dNil)) (gN 7)))
    (dSeq (dAsg (dCB fList (dCons (dV 6) dNil)) (gN 9))
    (dSeq (dAsg (dCallF (tr_shortened A) (dCons (dV 9) dNil)) (gN 10))
    (dSeq (dIfS (dOr (dNot (dTB (dCallF self_L_same (dCons (dLst (dCons (dV 10) (dCons (dCallF (tr_shortened A) (dCons (dV 10) dNil)) dNil))) (dCons (dLst (dCons (dV 7) (dCons (dV 7) dNil))) dNil))))) (dTB (dNeO [("doubled", A.Four, tr_Four_eq A), ("lead", A.Turn, tr_Turn_eq A)] "__eq__" fNe (dV 9) (dV 6)))) (dRet (dC (.bl false))) dNext)
    (dSeq (dIfS (dOr (dTB (dNeO [("doubled", A.Four, tr_Four_eq A), ("lead", A.Turn, tr_Turn_eq A)] "__eq__" fNe (dProp [("doubled", A.Four, tr_Four_halves A)] "halves" (dProp [("lead", A.Turn, tr_Turn_four A)] "four" (dCallF (tr_run A) (dCons (dV 10) (dCons (dV 4) dNil))))) (dCallF self_L_tree_four (dCons (dV 5) (dCons (dV 3) dNil))))) (dTB (dNeO [("doubled", A.Four, tr_Four_eq A), ("lead", A.Turn, tr_Turn_eq A)] "__eq__" fNe (dCallF (tr_run A) (dCons (dV 10) (dCons (dV 4) dNil))) (dCallF (tr_run A) (dCons (dV 6) (dCons (dV 4) dNil)))))) (dRet (dC (.bl false))) dNext)
    (dFor (dRng2 (dCons (dC (.int 1)) (dCons (dCB fLen (dCons (dV 10) dNil)) dNil))) (gN 8) (dIfS (dAnd (dTB (dOp fEq (dOp fIx (dV 10) (dV 8)) (dTup (dCons (dC (.str "inv")) dNil)))) (dTB (dOp (fInG false) (dOp fIx (dOp fIx (dV 10) (dOp fSub (dV 8) (dC (.int 1)))) (dC (.int 0))) (dTup (dCons (dC (.str "inv")) (dCons (dC (.str "push")) dNil)))))) (dRet (dC (.bl false))) dNext))))))))))))))
    (dRet (dAndV (dOp fEq (dCallF (tr_shortened A) (dCons (dLst dNil) dNil)) (dLst dNil)) (dOp fEq (dCallF (tr_shortened A) (dCons (dLst (dCons (dTup (dCons (dC (.str "load")) (dCons (dC (.str "a")) dNil))) dNil)) dNil)) (dLst (dCons (dTup (dCons (dC (.str "load")) (dCons (dC (.str "a")) dNil))) dNil))))))) : TSD) (fun x ρ => EX x (ρ.take 1)) (endsD 1 R) (rhoD 11 ins)
def rec_L_tree_four (A : Cs) : Nat → SpD
  | 0 => no_sp
  | j + 1 => tr_L_tree_four A (rec_L_tree_four A j)
def rec_L_same (A : Cs) : Nat → SpD
  | 0 => no_sp
  | j + 1 => tr_L_same A (rec_L_same A j)
def rec_L_tree_code (A : Cs) : Nat → SpD
  | 0 => no_sp
  | j + 1 => tr_L_tree_code A (rec_L_tree_code A j)
def rec_L_tree (A : Cs) : Nat → SpD
  | 0 => no_sp
  | j + 1 => tr_L_tree A (rec_L_tree A j)
structure Env (P : Program) (w : World) (K : PySem.W.Frag) (mg : Str → Option Value) (base : Heap) (A : Cs) : Prop where
  b_abs : mg "abs" = none
  b_all : mg "all" = none
  b_any : mg "any" = none
  b_bool : mg "bool" = none
  b_int : mg "int" = none
  b_isinstance : mg "isinstance" = none
  b_len : mg "len" = none
  b_list : mg "list" = none
  b_range : mg "range" = none
  b_str : mg "str" = none
  b_sum : mg "sum" = none
  b_tuple : mg "tuple" = none
  b_zip : mg "zip" = none
  c_Four : G.ClsFacts K mg "Four" A.Four
  ne_Four : PySem.W.findIn K (.ref A.Four) "__ne__" = some (some (.builtin "object.__ne__"))
  n_doubled : NoAttr K A.Four "doubled"
  c_Turn : G.ClsFacts K mg "Turn" A.Turn
  ne_Turn : PySem.W.findIn K (.ref A.Turn) "__ne__" = some (some (.builtin "object.__ne__"))
  n_lead : NoAttr K A.Turn "lead"
  i_Four : IsiC K A.Four
  i_Turn : IsiC K A.Turn
section
variable {P : Program} {w : World} {K : PySem.W.Frag} {mg : Str → Option Value} {base : Heap} {A : Cs}
theorem fn_Turn_four {f : Addr} {fd : FuncData} (E : Env P w K mg base A) (F : Fun K "four" "Turn.four" s_Turn_four f fd) : FnOk P w K mg base (L2.CX P w) 1 f fd ["self"] (toSp K 1 (tr_Turn_four A)) :=
  fnD F sc_Turn_four (fun cdv A_ outer s H E_ c hr hP => by
    exact ⟨_, (ss_one (sd_ret (ed_fld E.c_Turn.cl E.n_lead (dv 0))))⟩) (fun ins R EX hl h => h.2)
theorem fn_Four_halves {f : Addr} {fd : FuncData} (E : Env P w K mg base A) (F : Fun K "halves" "Four.halves" s_Four_halves f fd) : FnOk P w K mg base (L2.CX P w) 1 f fd ["self"] (toSp K 1 (tr_Four_halves A)) :=
  fnD F sc_Four_halves (fun cdv A_ outer s H E_ c hr hP => by
    exact ⟨_, (ss_one (sd_ret (ed_fld E.c_Four.cl E.n_doubled (dv 0))))⟩) (fun ins R EX hl h => h.2)
theorem fn_is_number {f : Addr} {fd : FuncData} (E : Env P w K mg base A) (F : Fun K "is_number" "is_number" s_is_number f fd) : FnOk P w K mg base (L2.CX P w) 1 f fd ["value"] (toSp K 1 (tr_is_number A)) :=
  fnD F sc_is_number (fun cdv A_ outer s H E_ c hr hP => by
    exact ⟨_, (ss_one (sd_ret (ed_and (ed_callB call_isi cd_isi E.b_isinstance (by decide +kernel) (ad_cons (dv 0) (ad_cons (ed_bltn (v := .ty "int") (u := .type "int") E.b_int (by decide +kernel) rfl) ad_nil))) (ed_one (ed_not (ed_callB call_isi cd_isi E.b_isinstance (by decide +kernel) (ad_cons (dv 0) (ad_cons (ed_bltn (v := .ty "bool") (u := .type "bool") E.b_bool (by decide +kernel) rfl) ad_nil))))))))⟩) (fun ins R EX hl h => h.2)
theorem fn_are_halves {f : Addr} {fd : FuncData} (E : Env P w K mg base A) (F : Fun K "are_halves" "are_halves" s_are_halves f fd) (H_is_number : DefA P w K mg base "is_number" 1 (tr_is_number A)) : FnOk P w K mg base (L2.CX P w) 2 f fd ["values"] (toSp K 1 (tr_are_halves A)) :=
  fnD F sc_are_halves (fun cdv A_ outer s H E_ c hr hP => by
    exact ⟨_, (ss_cons (sd_if (PWD.td (wd_or (td_cmp (op_neD (r64 hr)) od_ne (ed_callB call_len cd_len E.b_len PySem.boot_len (ad_cons (dv 0) ad_nil)) ed_int (nomark _)) (wd_or1 (td_not (td_val (ed_callB (cr_all rfl) cd_all E.b_all (by decide +kernel) (ad_cons (ed_lcL (own := [("value", 1)]) (g := (gcN 1)) (tt := dYes) (te := (dCallF (tr_is_number A) (dCons (dV 1) dNil))) (by rfl) sc_are_halves.nd (id_seq (dv 0)) (blkOk_by (own := [("value", 1)]) (N := ["values", "value"]) (sc := (defScope s_are_halves)) (by decide +kernel)) (fun _ _ _ _ _ => ⟨_, (gc_name (i := 1) sc_are_halves.nd rfl (Or.inl rfl))⟩) (fun _ _ _ _ _ => ⟨_, tts_nil⟩) (fun _ _ _ _ _ => ⟨_, (ed_callF H_is_number (hr.mono (by decide)) takesN (ad_cons (dv 1) ad_nil))⟩)) ad_nil))))))) (ss_one (sd_ret ed_bl)) ss_nil)
      (ss_one (sd_ret (ed_cmp (OpR.or op_in_seq (op_inD (r65 hr))) od_in (ed_callB (cr_sum rfl) cd_sum E.b_sum (by decide +kernel) (ad_cons (ed_lcL (own := [("value", 1)]) (g := (gcN 1)) (tt := dYes) (te := (dOp fMod (dV 1) (dC (.int 2)))) (by rfl) sc_are_halves.nd (id_seq (dv 0)) (blkOk_by (own := [("value", 1)]) (N := ["values", "value"]) (sc := (defScope s_are_halves)) (by decide +kernel)) (fun _ _ _ _ _ => ⟨_, (gc_name (i := 1) sc_are_halves.nd rfl (Or.inl rfl))⟩) (fun _ _ _ _ _ => ⟨_, tts_nil⟩) (fun _ _ _ _ _ => ⟨_, (ed_op op_mod od_mod (dv 1) ed_int)⟩)) ad_nil)) (ed_tup (ad_cons ed_int (ad_cons ed_int ad_nil))) (by rfl)))))⟩) (fun ins R EX hl h => h.2)
theorem fn_Four_init {f : Addr} {fd : FuncData} (E : Env P w K mg base A) (F : Fun K "__init__" "Four.__init__" s_Four_init f fd) (H_are_halves : DefA P w K mg base "are_halves" 2 (tr_are_halves A)) : FnD P w K mg base 3 f (star1 (tr_Four_init A)) :=
  fnD_star F sc_Four_init (fun dV kV doc pm cdv ct an u rest => by cases rest <;> rfl) (fun cdv A_ outer s H E_ c hr hP => by
    exact ⟨_, (ss_cons (sd_if (td_not (td_val (ed_callF H_are_halves (hr.mono (by decide)) takesC (ad_cons (dv 1) ad_nil)))) (ss_one sd_never) ss_nil)
      (ss_one (sd_self (i := 0) E.c_Four.cl E.n_doubled (dv 0) (dv 1))))⟩) (fun ins R EX hl h => h.2)
theorem fn_Four_neg {f : Addr} {fd : FuncData} (E : Env P w K mg base A) (F : Fun K "__neg__" "Four.__neg__" s_Four_neg f fd) (H_Four_init : InitA P w K mg base A.Four 3 (star1 (tr_Four_init A))) : FnOk P w K mg base (L2.CX P w) 5 f fd ["self"] (toSp K 1 (tr_Four_neg A)) :=
  fnD F sc_Four_neg (fun cdv A_ outer s H E_ c hr hP => by
    exact ⟨_, (ss_cons (sd_asg (ed_fld E.c_Four.cl E.n_doubled (dv 0)) (gd_tup (by rfl) (gs_cons (i := 1) sc_Four_neg.nd rfl (Or.inl rfl) (gs_cons (i := 2) sc_Four_neg.nd rfl (Or.inl rfl) (gs_cons (i := 3) sc_Four_neg.nd rfl (Or.inl rfl) (gs_cons (i := 4) sc_Four_neg.nd rfl (Or.inl rfl) gs_nil))))))
      (ss_one (sd_ret (ed_make H_Four_init E.c_Four.mgC (hr.mono (by decide)) takesC (ad_cons (ed_un un_neg ud_neg (dv 1)) (ad_cons (ed_un un_neg ud_neg (dv 2)) (ad_cons (ed_un un_neg ud_neg (dv 3)) (ad_cons (ed_un un_neg ud_neg (dv 4)) ad_nil))))))))⟩) (fun ins R EX hl h => h.2)
theorem fn_common {f : Addr} {fd : FuncData} (E : Env P w K mg base A) (F : Fun K "common" "common" s_common f fd) : FnOk P w K mg base (L2.CX P w) 1 f fd ["one", "other"] (toSp K 2 (tr_common A)) :=
  fnD F sc_common (fun cdv A_ outer s H E_ c hr hP => by
    exact ⟨_, (ss_cons (sd_par (i := 2) (j := 3) (by rfl) sc_common.nd rfl rfl (by decide) rfl rfl (fun m hm => by rcases List.mem_cons.mp hm with rfl | hm; exact hP _ (by decide); rcases List.mem_cons.mp hm with rfl | hm; exact hP _ (by decide); first | (rcases List.mem_cons.mp hm with rfl | hm; exact hP _ (by decide); cases hm) | cases hm) (ad_cons (ed_callB call_abs cd_abs E.b_abs (by decide +kernel) (ad_cons (dv 0) ad_nil)) (ad_cons (ed_callB call_abs cd_abs E.b_abs (by decide +kernel) (ad_cons (dv 1) ad_nil)) ad_nil)) (by rfl))
      (ss_cons (sd_while passesC (td_tru (dv 3)) (ss_one (sd_par (i := 2) (j := 3) (by rfl) sc_common.nd rfl rfl (by decide) rfl rfl (fun m hm => by rcases List.mem_cons.mp hm with rfl | hm; exact hP _ (by decide); rcases List.mem_cons.mp hm with rfl | hm; exact hP _ (by decide); first | (rcases List.mem_cons.mp hm with rfl | hm; exact hP _ (by decide); cases hm) | cases hm) (ad_cons (dv 3) (ad_cons (ed_op op_mod od_mod (dv 2) (dv 3)) ad_nil)) (by rfl))))
      (ss_one (sd_ret (dv 2)))))⟩) (fun ins R EX hl h => h.2)
theorem fn_Four_content {f : Addr} {fd : FuncData} (E : Env P w K mg base A) (F : Fun K "content" "Four.content" s_Four_content f fd) (H_are_halves : DefA P w K mg base "are_halves" 2 (tr_are_halves A)) (H_common : DefA P w K mg base "common" 1 (tr_common A)) : FnOk P w K mg base (L2.CX P w) 3 f fd ["self"] (toSp K 1 (tr_Four_content A)) :=
  fnD F sc_Four_content (fun cdv A_ outer s H E_ c hr hP => by
    exact ⟨_, (ss_cons (sd_asg (ed_fld E.c_Four.cl E.n_doubled (dv 0)) (gd_tup (by rfl) (gs_cons (i := 1) sc_Four_content.nd rfl (Or.inl rfl) (gs_cons (i := 2) sc_Four_content.nd rfl (Or.inl rfl) (gs_cons (i := 3) sc_Four_content.nd rfl (Or.inl rfl) (gs_cons (i := 4) sc_Four_content.nd rfl (Or.inl rfl) gs_nil))))))
      (ss_cons (sd_set (i := 5) sc_Four_content.nd rfl (Or.inr rfl) (hP 5 (by decide)) (ed_callF H_common (hr.mono (by decide)) takesC (ad_cons (ed_callF H_common (hr.mono (by decide)) takesC (ad_cons (dv 1) (ad_cons (dv 2) ad_nil))) (ad_cons (ed_callF H_common (hr.mono (by decide)) takesC (ad_cons (dv 3) (ad_cons (dv 4) ad_nil))) ad_nil))))
      (ss_cons (sd_if (PWD.td (wd_and (td_tru (dv 5)) (wd_and1 (td_not (td_val (ed_callF H_are_halves (hr.mono (by decide)) takesC (ad_cons (ed_lcL (own := [("half", 6)]) (g := (gcN 6)) (tt := dYes) (te := (dOp fDiv (dV 6) (dV 5))) (by rfl) sc_Four_content.nd (id_seq (ed_fld E.c_Four.cl E.n_doubled (dv 0))) (blkOk_by (own := [("half", 6)]) (N := ["self", "a", "b", "c", "d", "shared", "half"]) (sc := (defScope s_Four_content)) (by decide +kernel)) (fun _ _ _ _ _ => ⟨_, (gc_name (i := 6) sc_Four_content.nd rfl (Or.inl rfl))⟩) (fun _ _ _ _ _ => ⟨_, tts_nil⟩) (fun _ _ _ _ _ => ⟨_, (ed_op op_fdivW od_div (dv 6) (dv 5))⟩)) ad_nil))))))) (ss_one (sd_ret (ed_op op_fdivW od_div (dv 5) ed_int))) ss_nil)
      (ss_one (sd_ret (dv 5))))))⟩) (fun ins R EX hl h => h.2)
theorem fn_Four_divided {f : Addr} {fd : FuncData} (E : Env P w K mg base A) (F : Fun K "divided" "Four.divided" s_Four_divided f fd) (H_Four_init : InitA P w K mg base A.Four 3 (star1 (tr_Four_init A))) (H_Four_content : MethA P w K mg base A.Four "content" 3 (tr_Four_content A)) (H_is_number : DefA P w K mg base "is_number" 1 (tr_is_number A)) : FnOk P w K mg base (L2.CX P w) 5 f fd ["self", "number"] (toSp K 2 (tr_Four_divided A)) :=
  fnD F sc_Four_divided (fun cdv A_ outer s H E_ c hr hP => by
    exact ⟨_, (ss_cons (sd_if (PWD.td (wd_or (td_not (td_val (ed_callF H_is_number (hr.mono (by decide)) takesC (ad_cons (dv 1) ad_nil)))) (wd_or (td_cmp (op_eqD (r64 hr)) od_eq (dv 1) ed_int (nomark _)) (wd_or1 (td_tru (ed_op op_mod od_mod (ed_meth0 (show TabM P w K mg base "content" 3 _ from (TabM.cons "Four" E.c_Four (H_Four_content.mono (by decide)) TabM.nil)) (hr.mono (by decide)) takesC (dv 0)) (dv 1))))))) (ss_one sd_never) ss_nil)
      (ss_cons (sd_asg (ed_fld E.c_Four.cl E.n_doubled (dv 0)) (gd_tup (by rfl) (gs_cons (i := 2) sc_Four_divided.nd rfl (Or.inl rfl) (gs_cons (i := 3) sc_Four_divided.nd rfl (Or.inl rfl) (gs_cons (i := 4) sc_Four_divided.nd rfl (Or.inl rfl) (gs_cons (i := 5) sc_Four_divided.nd rfl (Or.inl rfl) gs_nil))))))
      (ss_one (sd_ret (ed_make H_Four_init E.c_Four.mgC (hr.mono (by decide)) takesC (ad_cons (ed_op op_fdivW od_div (dv 2) (dv 1)) (ad_cons (ed_op op_fdivW od_div (dv 3) (dv 1)) (ad_cons (ed_op op_fdivW od_div (dv 4) (dv 1)) (ad_cons (ed_op op_fdivW od_div (dv 5) (dv 1)) ad_nil)))))))))⟩) (fun ins R EX hl h => h.2)
theorem fn_lead_of {f : Addr} {fd : FuncData} (E : Env P w K mg base A) (F : Fun K "lead_of" "lead_of" s_lead_of f fd) (H_Four_halves : PropA P w K mg base A.Four "halves" 1 (tr_Four_halves A)) (H_Four_neg : MethA P w K mg base A.Four "__neg__" 5 (tr_Four_neg A)) (H_Four_divided : MethA P w K mg base A.Four "divided" 5 (tr_Four_divided A)) (H_Four_content : MethA P w K mg base A.Four "content" 3 (tr_Four_content A)) : FnOk P w K mg base (L2.CX P w) 6 f fd ["four"] (toSp K 1 (tr_lead_of A)) :=
  fnD F sc_lead_of (fun cdv A_ outer s H E_ c hr hP => by
    exact ⟨_, (ss_cons (sd_set (i := 1) sc_lead_of.nd rfl (Or.inl rfl) (hP 1 (by decide)) (ed_meth (show TabM P w K mg base "divided" 5 _ from (TabM.cons "Four" E.c_Four (H_Four_divided.mono (by decide)) TabM.nil)) (hr.mono (by decide)) takesC (dv 0) (ad_cons (ed_meth0 (show TabM P w K mg base "content" 3 _ from (TabM.cons "Four" E.c_Four (H_Four_content.mono (by decide)) TabM.nil)) (hr.mono (by decide)) takesC (dv 0)) ad_nil)))
      (ss_one (sd_ret (ed_if (td_cmp (op_ltR hr) od_ltR (ed_prop (show TabP P w K mg base "halves" 1 _ from (TabP.cons E.c_Four.cl (H_Four_halves.mono (by decide)) TabP.nil)) (hr.mono (by decide)) (dv 1)) (ed_tup (ad_cons ed_int (ad_cons ed_int (ad_cons ed_int (ad_cons ed_int ad_nil))))) (nomark _)) (ed_negO (show TabM P w K mg base "__neg__" 5 _ from (TabM.cons "Four" E.c_Four (H_Four_neg.mono (by decide)) TabM.nil)) (hr.mono (by decide)) un_neg ud_neg (dv 1)) (dv 1)))))⟩) (fun ins R EX hl h => h.2)
theorem fn_Four_bool {f : Addr} {fd : FuncData} (E : Env P w K mg base A) (F : Fun K "__bool__" "Four.__bool__" s_Four_bool f fd) : FnOk P w K mg base (L2.CX P w) 1 f fd ["self"] (toSp K 1 (tr_Four_bool A)) :=
  fnD F sc_Four_bool (fun cdv A_ outer s H E_ c hr hP => by
    exact ⟨_, (ss_one (sd_ret (ed_callB (CallR.or (cr_any rfl) (G.cr_anyT rfl)) cd_anyU E.b_any (by decide +kernel) (ad_cons (ed_fld E.c_Four.cl E.n_doubled (dv 0)) ad_nil))))⟩) (fun ins R EX hl h => h.2)
theorem fn_Turn_init {f : Addr} {fd : FuncData} (E : Env P w K mg base A) (F : Fun K "__init__" "Turn.__init__" s_Turn_init f fd) (H_lead_of : DefA P w K mg base "lead_of" 6 (tr_lead_of A)) (H_Four_bool : MethA P w K mg base A.Four "__bool__" 1 (tr_Four_bool A)) : FnOk P w K mg base (L2.CX P w) 7 f fd ["self", "four"] (toSp K 2 (tr_Turn_init A)) :=
  fnD F sc_Turn_init (fun cdv A_ outer s H E_ c hr hP => by
    exact ⟨_, (ss_cons (sd_if (td_not (td_truO (show TabM P w K mg base "__bool__" 1 _ from (TabM.cons "Four" E.c_Four (H_Four_bool.mono (by decide)) TabM.nil)) (hr.mono (by decide)) (dv 1))) (ss_one sd_never) ss_nil)
      (ss_one (sd_self (i := 0) E.c_Turn.cl E.n_lead (dv 0) (ed_callF H_lead_of (hr.mono (by decide)) takesC (ad_cons (dv 1) ad_nil)))))⟩) (fun ins R EX hl h => h.2)
theorem fn_turn_with {f : Addr} {fd : FuncData} (E : Env P w K mg base A) (F : Fun K "turn_with" "turn_with" s_turn_with f fd) (H_Turn_init : InitA P w K mg base A.Turn 7 (tr_Turn_init A)) (H_Four_init : InitA P w K mg base A.Four 3 (star1 (tr_Four_init A))) : FnOk P w K mg base (L2.CX P w) 9 f fd ["halves"] (toSp K 1 (tr_turn_with A)) :=
  fnD F sc_turn_with (fun cdv A_ outer s H E_ c hr hP => by
    exact ⟨_, (ss_one (sd_ret (ed_make H_Turn_init E.c_Turn.mgC (hr.mono (by decide)) takesC (ad_cons (ed_makeS H_Four_init E.c_Four.mgC (hr.mono (by decide)) takesC (dv 0)) ad_nil))))⟩) (fun ins R EX hl h => h.2)
theorem fn_named_turn {f : Addr} {fd : FuncData} (E : Env P w K mg base A) (F : Fun K "named_turn" "named_turn" s_named_turn f fd) : FnOk P w K mg base (L2.CX P w) 1 f fd ["name", "turns"] (toSp K 2 (tr_named_turn A)) :=
  fnD F sc_named_turn (fun cdv A_ outer s H E_ c hr hP => by
    exact ⟨_, (ss_cons (sd_if (td_dnin (hu_of hr) (dv 1) (dv 0)) (ss_one sd_never) ss_nil)
      (ss_one (sd_ret (ed_dget (hu_of hr) (dv 1) (dv 0) (fun _ _ => rfl)))))⟩) (fun ins R EX hl h => h.2)
theorem fn_last_of {f : Addr} {fd : FuncData} (E : Env P w K mg base A) (F : Fun K "last_of" "last_of" s_last_of f fd) : FnOk P w K mg base (L2.CX P w) 1 f fd ["stack"] (toSp K 1 (tr_last_of A)) :=
  fnD F sc_last_of (fun cdv A_ outer s H E_ c hr hP => by
    exact ⟨_, (ss_cons (sd_if (td_not (td_tru (dv 0))) (ss_one sd_never) ss_nil)
      (ss_one (sd_ret (ed_mut0 PySem.F.slot_list_pop PySem.F.type_list_pop mt_pop md_pop (dv 0)))))⟩) (fun ins R EX hl h => h.2)
theorem fn_Four_mirrored {f : Addr} {fd : FuncData} (E : Env P w K mg base A) (F : Fun K "mirrored" "Four.mirrored" s_Four_mirrored f fd) (H_Four_init : InitA P w K mg base A.Four 3 (star1 (tr_Four_init A))) : FnOk P w K mg base (L2.CX P w) 5 f fd ["self"] (toSp K 1 (tr_Four_mirrored A)) :=
  fnD F sc_Four_mirrored (fun cdv A_ outer s H E_ c hr hP => by
    exact ⟨_, (ss_cons (sd_asg (ed_fld E.c_Four.cl E.n_doubled (dv 0)) (gd_tup (by rfl) (gs_cons (i := 1) sc_Four_mirrored.nd rfl (Or.inl rfl) (gs_cons (i := 2) sc_Four_mirrored.nd rfl (Or.inl rfl) (gs_cons (i := 3) sc_Four_mirrored.nd rfl (Or.inl rfl) (gs_cons (i := 4) sc_Four_mirrored.nd rfl (Or.inl rfl) gs_nil))))))
      (ss_one (sd_ret (ed_make H_Four_init E.c_Four.mgC (hr.mono (by decide)) takesC (ad_cons (dv 1) (ad_cons (ed_un un_neg ud_neg (dv 2)) (ad_cons (ed_un un_neg ud_neg (dv 3)) (ad_cons (ed_un un_neg ud_neg (dv 4)) ad_nil))))))))⟩) (fun ins R EX hl h => h.2)
theorem fn_Turn_neg {f : Addr} {fd : FuncData} (E : Env P w K mg base A) (F : Fun K "__neg__" "Turn.__neg__" s_Turn_neg f fd) (H_Turn_init : InitA P w K mg base A.Turn 7 (tr_Turn_init A)) (H_Four_mirrored : MethA P w K mg base A.Four "mirrored" 5 (tr_Four_mirrored A)) : FnOk P w K mg base (L2.CX P w) 9 f fd ["self"] (toSp K 1 (tr_Turn_neg A)) :=
  fnD F sc_Turn_neg (fun cdv A_ outer s H E_ c hr hP => by
    exact ⟨_, (ss_one (sd_ret (ed_make H_Turn_init E.c_Turn.mgC (hr.mono (by decide)) takesC (ad_cons (ed_meth0 (show TabM P w K mg base "mirrored" 5 _ from (TabM.cons "Four" E.c_Four (H_Four_mirrored.mono (by decide)) TabM.nil)) (hr.mono (by decide)) takesC (ed_fld E.c_Turn.cl E.n_lead (dv 0))) ad_nil))))⟩) (fun ins R EX hl h => h.2)
theorem fn_Four_mul {f : Addr} {fd : FuncData} (E : Env P w K mg base A) (F : Fun K "__mul__" "Four.__mul__" s_Four_mul f fd) (H_Four_init : InitA P w K mg base A.Four 3 (star1 (tr_Four_init A))) : FnOk P w K mg base (L2.CX P w) 5 f fd ["self", "other"] (toSp K 2 (tr_Four_mul A)) :=
  fnD F sc_Four_mul (fun cdv A_ outer s H E_ c hr hP => by
    exact ⟨_, (ss_cons (sd_asg (ed_fld E.c_Four.cl E.n_doubled (dv 0)) (gd_tup (by rfl) (gs_cons (i := 2) sc_Four_mul.nd rfl (Or.inl rfl) (gs_cons (i := 3) sc_Four_mul.nd rfl (Or.inl rfl) (gs_cons (i := 4) sc_Four_mul.nd rfl (Or.inl rfl) (gs_cons (i := 5) sc_Four_mul.nd rfl (Or.inl rfl) gs_nil))))))
      (ss_cons (sd_asg (ed_fld E.c_Four.cl E.n_doubled (dv 1)) (gd_tup (by rfl) (gs_cons (i := 6) sc_Four_mul.nd rfl (Or.inl rfl) (gs_cons (i := 7) sc_Four_mul.nd rfl (Or.inl rfl) (gs_cons (i := 8) sc_Four_mul.nd rfl (Or.inl rfl) (gs_cons (i := 9) sc_Four_mul.nd rfl (Or.inl rfl) gs_nil))))))
      (ss_one (sd_ret (ed_make H_Four_init E.c_Four.mgC (hr.mono (by decide)) takesC (ad_cons (ed_op op_fdivW od_div (ed_op op_sub od_sub (ed_op op_sub od_sub (ed_op op_sub od_sub (ed_op op_mulU od_mul (dv 2) (dv 6)) (ed_op op_mulU od_mul (dv 3) (dv 7))) (ed_op op_mulU od_mul (dv 4) (dv 8))) (ed_op op_mulU od_mul (dv 5) (dv 9))) ed_int) (ad_cons (ed_op op_fdivW od_div (ed_op op_sub od_sub (ed_op op_addU od_add (ed_op op_addU od_add (ed_op op_mulU od_mul (dv 2) (dv 7)) (ed_op op_mulU od_mul (dv 3) (dv 6))) (ed_op op_mulU od_mul (dv 4) (dv 9))) (ed_op op_mulU od_mul (dv 5) (dv 8))) ed_int) (ad_cons (ed_op op_fdivW od_div (ed_op op_addU od_add (ed_op op_addU od_add (ed_op op_sub od_sub (ed_op op_mulU od_mul (dv 2) (dv 8)) (ed_op op_mulU od_mul (dv 3) (dv 9))) (ed_op op_mulU od_mul (dv 4) (dv 6))) (ed_op op_mulU od_mul (dv 5) (dv 7))) ed_int) (ad_cons (ed_op op_fdivW od_div (ed_op op_addU od_add (ed_op op_sub od_sub (ed_op op_addU od_add (ed_op op_mulU od_mul (dv 2) (dv 9)) (ed_op op_mulU od_mul (dv 3) (dv 8))) (ed_op op_mulU od_mul (dv 4) (dv 7))) (ed_op op_mulU od_mul (dv 5) (dv 6))) ed_int) ad_nil)))))))))⟩) (fun ins R EX hl h => h.2)
theorem fn_Turn_mul {f : Addr} {fd : FuncData} (E : Env P w K mg base A) (F : Fun K "__mul__" "Turn.__mul__" s_Turn_mul f fd) (H_Turn_init : InitA P w K mg base A.Turn 7 (tr_Turn_init A)) (H_Four_mul : MethA P w K mg base A.Four "__mul__" 5 (tr_Four_mul A)) : FnOk P w K mg base (L2.CX P w) 9 f fd ["self", "other"] (toSp K 2 (tr_Turn_mul A)) :=
  fnD F sc_Turn_mul (fun cdv A_ outer s H E_ c hr hP => by
    exact ⟨_, (ss_one (sd_ret (ed_make H_Turn_init E.c_Turn.mgC (hr.mono (by decide)) takesC (ad_cons (ed_opO (show TabM P w K mg base "__mul__" 5 _ from (TabM.cons "Four" E.c_Four (H_Four_mul.mono (by decide)) TabM.nil)) (hr.mono (by decide)) op_mulU od_mul (ed_fld E.c_Turn.cl E.n_lead (dv 0)) (ed_fld E.c_Turn.cl E.n_lead (dv 1))) ad_nil))))⟩) (fun ins R EX hl h => h.2)
theorem fn_run {f : Addr} {fd : FuncData} (E : Env P w K mg base A) (F : Fun K "run" "run" s_run f fd) (H_turn_with : DefA P w K mg base "turn_with" 9 (tr_turn_with A)) (H_named_turn : DefA P w K mg base "named_turn" 1 (tr_named_turn A)) (H_last_of : DefA P w K mg base "last_of" 1 (tr_last_of A)) (H_Turn_neg : MethA P w K mg base A.Turn "__neg__" 9 (tr_Turn_neg A)) (H_Turn_mul : MethA P w K mg base A.Turn "__mul__" 9 (tr_Turn_mul A)) : FnOk P w K mg base (L2.CX P w) 10 f fd ["code", "turns"] (toSp K 2 (tr_run A)) :=
  fnD F sc_run (fun cdv A_ outer s H E_ c hr hP => by
    exact ⟨_, (ss_cons (sd_set (i := 2) sc_run.nd rfl (Or.inl rfl) (hP 2 (by decide)) (ed_lst ad_nil))
      (ss_cons (sd_for passesC rfl (id_seq (dv 0)) (gd_name (i := 3) sc_run.nd rfl (Or.inl rfl) (hP 3 (by decide))) (ss_cons (sd_set (i := 4) sc_run.nd rfl (Or.inl rfl) (hP 4 (by decide)) (ed_ix ix_seq od_ix (dv 3) ed_int (fun _ _ => rfl)))
      (ss_one (sd_if (td_cmp (op_eqD (r64 hr)) od_eq (dv 4) ed_str (nomark _)) (ss_one (sd_expr (ed_mut PySem.F.slot_list_append PySem.F.type_list_append mt_append md_append (dv 2) (ad_cons (ed_callF H_turn_with (hr.mono (by decide)) takesC (ad_cons (ed_ix ix_seq od_ix (dv 3) ed_int (fun _ _ => rfl)) ad_nil)) ad_nil)))) (ss_one (sd_if (td_cmp (op_eqD (r64 hr)) od_eq (dv 4) ed_str (nomark _)) (ss_one (sd_expr (ed_mut PySem.F.slot_list_append PySem.F.type_list_append mt_append md_append (dv 2) (ad_cons (ed_callF H_named_turn (hr.mono (by decide)) takesC (ad_cons (ed_ix ix_seq od_ix (dv 3) ed_int (fun _ _ => rfl)) (ad_cons (dv 1) ad_nil))) ad_nil)))) (ss_one (sd_if (td_cmp (op_eqD (r64 hr)) od_eq (dv 4) ed_str (nomark _)) (ss_one (sd_expr (ed_mut PySem.F.slot_list_append PySem.F.type_list_append mt_append md_append (dv 2) (ad_cons (ed_negO (show TabM P w K mg base "__neg__" 9 _ from (TabM.cons "Turn" E.c_Turn (H_Turn_neg.mono (by decide)) TabM.nil)) (hr.mono (by decide)) un_neg ud_neg (ed_callA [true] H_last_of (hr.mono (by decide)) takesC (ad_cons (dv 2) ad_nil))) ad_nil)))) (ss_cons (sd_set (i := 5) sc_run.nd rfl (Or.inl rfl) (hP 5 (by decide)) (ed_callA [true] H_last_of (hr.mono (by decide)) takesC (ad_cons (dv 2) ad_nil)))
      (ss_cons (sd_set (i := 6) sc_run.nd rfl (Or.inl rfl) (hP 6 (by decide)) (ed_callA [true] H_last_of (hr.mono (by decide)) takesC (ad_cons (dv 2) ad_nil)))
      (ss_one (sd_expr (ed_mut PySem.F.slot_list_append PySem.F.type_list_append mt_append md_append (dv 2) (ad_cons (ed_opO (show TabM P w K mg base "__mul__" 9 _ from (TabM.cons "Turn" E.c_Turn (H_Turn_mul.mono (by decide)) TabM.nil)) (hr.mono (by decide)) op_mulU od_mul (dv 6) (dv 5)) ad_nil))))))))))))))
      (ss_cons (sd_if (td_cmp (op_neD (r64 hr)) od_ne (ed_callB call_len cd_len E.b_len PySem.boot_len (ad_cons (dv 2) ad_nil)) ed_int (nomark _)) (ss_one sd_never) ss_nil)
      (ss_one (sd_ret (ed_ix ix_seq od_ix (dv 2) ed_int (fun _ _ => rfl)))))))⟩) (fun ins R EX hl h => h.2)
theorem fn_folding {f : Addr} {fd : FuncData} (E : Env P w K mg base A) (F : Fun K "folding" "folding" s_folding f fd) (H_Turn_four : PropA P w K mg base A.Turn "four" 1 (tr_Turn_four A)) (H_Four_halves : PropA P w K mg base A.Four "halves" 1 (tr_Four_halves A)) (H_run : DefA P w K mg base "run" 10 (tr_run A)) : FnOk P w K mg base (L2.CX P w) 11 f fd ["place"] (toSp K 1 (tr_folding A)) :=
  fnD F sc_folding (fun cdv A_ outer s H E_ c hr hP => by
    exact ⟨_, (ss_cons (sd_if (td_cmp (op_eqD (r64 hr)) od_eq (ed_ix ix_seq od_ix (dv 0) ed_int (fun _ _ => rfl)) (ed_tup (ad_cons ed_str ad_nil)) (nomark _)) (ss_one (sd_ret (ed_lst ad_nil))) ss_nil)
      (ss_cons (sd_set (i := 1) sc_folding.nd rfl (Or.inl rfl) (hP 1 (by decide)) (ed_callF H_run (hr.mono (by decide)) takesC (ad_cons (dv 0) (ad_cons (ed_disp0) ad_nil))))
      (ss_one (sd_ret (ed_lst (ad_cons (ed_tup (ad_cons ed_str (ad_cons (ed_prop (show TabP P w K mg base "halves" 1 _ from (TabP.cons E.c_Four.cl (H_Four_halves.mono (by decide)) TabP.nil)) (hr.mono (by decide)) (ed_prop (show TabP P w K mg base "four" 1 _ from (TabP.cons E.c_Turn.cl (H_Turn_four.mono (by decide)) TabP.nil)) (hr.mono (by decide)) (dv 1))) ad_nil))) ad_nil))))))⟩) (fun ins R EX hl h => h.2)
theorem fn_foldable {f : Addr} {fd : FuncData} (E : Env P w K mg base A) (F : Fun K "foldable" "foldable" s_foldable f fd) : FnOk P w K mg base (L2.CX P w) 1 f fd ["code"] (toSp K 1 (tr_foldable A)) :=
  fnD F sc_foldable (fun cdv A_ outer s H E_ c hr hP => by
    exact ⟨_, (ss_cons (sd_setLcL (i := 1) (own := [("instruction", 2)]) (g := (gcN 2)) (tt := dYes) (te := (dOp fIx (dV 2) (dC (.int 0)))) (by rfl) sc_foldable.nd rfl rfl (hP 1 (by decide)) (sw_true rfl rfl rfl (by decide +kernel)) (id_seq (ed_slice (dv 0) (od_some (ed_un un_neg ud_neg ed_int)) od_none)) (blkOk_by (own := [("instruction", 2)]) (N := ["code", "kinds", "instruction"]) (sc := (defScope s_foldable)) (by decide +kernel)) (fun _ _ _ _ _ => ⟨_, (gc_name (i := 2) sc_foldable.nd rfl (Or.inl rfl))⟩) (fun _ _ _ _ _ => ⟨_, tts_nil⟩) (fun _ _ _ _ _ => ⟨_, (ed_ix ix_seq od_ix (dv 2) ed_int (fun _ _ => rfl))⟩))
      (ss_cons (sd_if (td_cmp (op_inT (r65 hr)) od_inT (ed_slice (dv 1) (od_some (ed_un un_neg ud_neg ed_int)) od_none) (ed_tup (ad_cons (ed_lst (ad_cons ed_str (ad_cons ed_str ad_nil))) (ad_cons (ed_lst (ad_cons ed_str (ad_cons ed_str ad_nil))) ad_nil))) (by rfl)) (ss_one (sd_ret ed_int)) ss_nil)
      (ss_cons (sd_if (td_cmp (op_eqD (r64 hr)) od_eq (dv 1) (ed_lst (ad_cons ed_str (ad_cons ed_str (ad_cons ed_str ad_nil)))) (nomark _)) (ss_one (sd_ret ed_int)) ss_nil)
      (ss_one (sd_ret ed_int)))))⟩) (fun ins R EX hl h => h.2)
theorem fn_shortened {f : Addr} {fd : FuncData} (E : Env P w K mg base A) (F : Fun K "shortened" "shortened" s_shortened f fd) (H_folding : DefA P w K mg base "folding" 11 (tr_folding A)) (H_foldable : DefA P w K mg base "foldable" 1 (tr_foldable A)) : FnOk P w K mg base (L2.CX P w) 12 f fd ["code"] (toSp K 1 (tr_shortened A)) :=
  fnD F sc_shortened (fun cdv A_ outer s H E_ c hr hP => by
    exact ⟨_, (ss_cons (sd_set (i := 1) sc_shortened.nd rfl (Or.inl rfl) (hP 1 (by decide)) (ed_lst ad_nil))
      (ss_cons (sd_for passesC rfl (id_seq (dv 0)) (gd_name (i := 2) sc_shortened.nd rfl (Or.inl rfl) (hP 2 (by decide))) (ss_cons (sd_expr (ed_mut PySem.F.slot_list_append PySem.F.type_list_append mt_append md_append (dv 1) (ad_cons (dv 2) ad_nil)))
      (ss_cons (sd_set (i := 3) sc_shortened.nd rfl (Or.inl rfl) (hP 3 (by decide)) (ed_callL H_foldable (hr.mono (by decide)) takesC (ad_cons (dv 1) ad_nil)))
      (ss_one (sd_if (td_tru (dv 3)) (ss_cons (sd_set (i := 4) sc_shortened.nd rfl (Or.inl rfl) (hP 4 (by decide)) (ed_callF H_folding (hr.mono (by decide)) takesC (ad_cons (ed_slice (dv 1) (od_some (ed_un un_neg ud_neg (dv 3))) od_none) ad_nil)))
      (ss_cons (sd_delT (dv 1) (od_some (ed_un un_neg ud_neg (dv 3))))
      (ss_one (sd_expr (ed_mut PySem.F.slot_list_extend PySem.F.type_list_extend mt_extend md_extend (dv 1) (ad_cons (dv 4) ad_nil)))))) ss_nil)))))
      (ss_one (sd_ret (dv 1)))))⟩) (fun ins R EX hl h => h.2)
theorem fn_Four_eq {f : Addr} {fd : FuncData} (E : Env P w K mg base A) (F : Fun K "__eq__" "Four.__eq__" s_Four_eq f fd) : FnOk P w K mg base (L2.CX P w) 1 f fd ["self", "other"] (toSp K 2 (tr_Four_eq A)) :=
  fnD F sc_Four_eq (fun cdv A_ outer s H E_ c hr hP => by
    exact ⟨_, (ss_one (sd_ret (ed_and (ed_callB call_isi (cd_isiC E.i_Four) E.b_isinstance (by decide +kernel) (ad_cons (dv 1) (ad_cons (ed_glob (v := .ref A.Four) (d := .val (.ref A.Four)) E.c_Four.mgC rfl (fun _ _ => rfl)) ad_nil))) (ed_one (ed_cmp (op_eqD (r64 hr)) od_eq (ed_fld E.c_Four.cl E.n_doubled (dv 0)) (ed_fld E.c_Four.cl E.n_doubled (dv 1)) (nomark _))))))⟩) (fun ins R EX hl h => h.2)
theorem fn_Turn_eq {f : Addr} {fd : FuncData} (E : Env P w K mg base A) (F : Fun K "__eq__" "Turn.__eq__" s_Turn_eq f fd) (H_Four_eq : MethA P w K mg base A.Four "__eq__" 1 (tr_Four_eq A)) : FnOk P w K mg base (L2.CX P w) 2 f fd ["self", "other"] (toSp K 2 (tr_Turn_eq A)) :=
  fnD F sc_Turn_eq (fun cdv A_ outer s H E_ c hr hP => by
    exact ⟨_, (ss_one (sd_ret (ed_and (ed_callB call_isi (cd_isiC E.i_Turn) E.b_isinstance (by decide +kernel) (ad_cons (dv 1) (ad_cons (ed_glob (v := .ref A.Turn) (d := .val (.ref A.Turn)) E.c_Turn.mgC rfl (fun _ _ => rfl)) ad_nil))) (ed_one (ed_eqO (show TabM P w K mg base "__eq__" 1 _ from (TabM.cons "Four" E.c_Four (H_Four_eq.mono (by decide)) TabM.nil)) (hr.mono (by decide)) (op_eqD (r64 hr)) od_eq (ed_fld E.c_Turn.cl E.n_lead (dv 0)) (ed_fld E.c_Turn.cl E.n_lead (dv 1)))))))⟩) (fun ins R EX hl h => h.2)
theorem fn_L_gcd {f : Addr} {fd : FuncData} (E : Env P w K mg base A) (F : Fun K "_law_gcd" "_law_gcd" s_L_gcd f fd) : FnOk P w K mg base (L2.CX P w) 1 f fd ["_law_one", "_law_other"] (toSp K 2 (tr_L_gcd A)) :=
  fnD F sc_L_gcd (fun cdv A_ outer s H E_ c hr hP => by
    exact ⟨_, (ss_cons (sd_parF (i := 0) (j := 1) (by rfl) sc_L_gcd.nd rfl rfl (by decide) rfl rfl (ad_cons (ed_callB call_abs cd_abs E.b_abs (by decide +kernel) (ad_cons (dv 0) ad_nil)) (ad_cons (ed_callB call_abs cd_abs E.b_abs (by decide +kernel) (ad_cons (dv 1) ad_nil)) ad_nil)) (by rfl))
      (ss_cons (sd_while passesC (td_cmp (op_neD (r64 hr)) od_ne (dv 1) ed_int (nomark _)) (ss_one (sd_parF (i := 0) (j := 1) (by rfl) sc_L_gcd.nd rfl rfl (by decide) rfl rfl (ad_cons (dv 1) (ad_cons (ed_op op_mod od_mod (ed_callTy call_int1 cd_int E.b_int (by decide +kernel) (ad_cons (dv 0) ad_nil)) (dv 1)) ad_nil)) (by rfl))))
      (ss_one (sd_ret (dv 0)))))⟩) (fun ins R EX hl h => h.2)
theorem fn_L_gcd_of {f : Addr} {fd : FuncData} (E : Env P w K mg base A) (F : Fun K "_law_gcd_of" "_law_gcd_of" s_L_gcd_of f fd) (H_L_gcd : DefA P w K mg base "_law_gcd" 1 (tr_L_gcd A)) : FnOk P w K mg base (L2.CX P w) 2 f fd ["_law_row"] (toSp K 1 (tr_L_gcd_of A)) :=
  fnD F sc_L_gcd_of (fun cdv A_ outer s H E_ c hr hP => by
    exact ⟨_, (ss_cons (sd_set (i := 1) sc_L_gcd_of.nd rfl (Or.inl rfl) (hP 1 (by decide)) ed_int)
      (ss_cons (sd_for passesC rfl (id_seq (dv 0)) (gd_name (i := 2) sc_L_gcd_of.nd rfl (Or.inl rfl) (hP 2 (by decide))) (ss_one (sd_set (i := 1) sc_L_gcd_of.nd rfl (Or.inl rfl) (hP 1 (by decide)) (ed_callF H_L_gcd (hr.mono (by decide)) takesC (ad_cons (dv 1) (ad_cons (dv 2) ad_nil))))))
      (ss_one (sd_ret (dv 1)))))⟩) (fun ins R EX hl h => h.2)
theorem fn_L_content {f : Addr} {fd : FuncData} (E : Env P w K mg base A) (F : Fun K "_law_content" "_law_content" s_L_content f fd) (H_L_gcd_of : DefA P w K mg base "_law_gcd_of" 2 (tr_L_gcd_of A)) : FnOk P w K mg base (L2.CX P w) 3 f fd ["_law_halves_here"] (toSp K 1 (tr_L_content A)) :=
  fnD F sc_L_content (fun cdv A_ outer s H E_ c hr hP => by
    exact ⟨_, (ss_cons (sd_set (i := 1) sc_L_content.nd rfl (Or.inr rfl) (hP 1 (by decide)) (ed_callF H_L_gcd_of (hr.mono (by decide)) takesC (ad_cons (dv 0) ad_nil)))
      (ss_cons (sd_if (td_cmp (op_eqD (r64 hr)) od_eq (dv 1) ed_int (nomark _)) (ss_one (sd_ret ed_int)) ss_nil)
      (ss_cons (sd_setLcL (i := 2) (own := [("_law_one", 3)]) (g := (gcN 3)) (tt := dYes) (te := (dOp fMod (dOp fDiv (dV 3) (dCB fInt (dCons (dV 1) dNil))) (dC (.int 2)))) (by rfl) sc_L_content.nd rfl rfl (hP 2 (by decide)) (sw_true rfl rfl rfl (by decide +kernel)) (id_seq (dv 0)) (blkOk_by (own := [("_law_one", 3)]) (N := ["_law_halves_here", "_law_both", "_law_odd", "_law_one"]) (sc := (defScope s_L_content)) (by decide +kernel)) (fun _ _ _ _ _ => ⟨_, (gc_name (i := 3) sc_L_content.nd rfl (Or.inl rfl))⟩) (fun _ _ _ _ _ => ⟨_, tts_nil⟩) (fun _ _ _ _ _ => ⟨_, (ed_op op_mod od_mod (ed_op op_fdivW od_div (dv 3) (ed_callTy call_int1 cd_int E.b_int (by decide +kernel) (ad_cons (dv 1) ad_nil))) ed_int)⟩))
      (ss_one (sd_ret (ed_if (td_cmp (op_eqD (r64 hr)) od_eq (dv 2) (ed_lst (ad_cons ed_int (ad_cons ed_int (ad_cons ed_int (ad_cons ed_int ad_nil))))) (nomark _)) (dv 1) (ed_op op_fdivW od_div (dv 1) ed_int)))))))⟩) (fun ins R EX hl h => h.2)
theorem fn_L_lowest {f : Addr} {fd : FuncData} (E : Env P w K mg base A) (F : Fun K "_law_lowest" "_law_lowest" s_L_lowest f fd) (H_L_content : DefA P w K mg base "_law_content" 3 (tr_L_content A)) : FnOk P w K mg base (L2.CX P w) 4 f fd ["_law_halves_here"] (toSp K 1 (tr_L_lowest A)) :=
  fnD F sc_L_lowest (fun cdv A_ outer s H E_ c hr hP => by
    exact ⟨_, (ss_cons (sd_set (i := 1) sc_L_lowest.nd rfl (Or.inr rfl) (hP 1 (by decide)) (ed_callF H_L_content (hr.mono (by decide)) takesC (ad_cons (dv 0) ad_nil)))
      (ss_cons (sd_setLcL (i := 2) (own := [("_law_one", 4)]) (g := (gcN 4)) (tt := dYes) (te := (dOp fDiv (dV 4) (dV 1))) (by rfl) sc_L_lowest.nd rfl rfl (hP 2 (by decide)) (sw_true rfl rfl rfl (by decide +kernel)) (id_seq (dv 0)) (blkOk_by (own := [("_law_one", 4)]) (N := ["_law_halves_here", "_law_both", "_law_row", "_law_first", "_law_one"]) (sc := (defScope s_L_lowest)) (by decide +kernel)) (fun _ _ _ _ _ => ⟨_, (gc_name (i := 4) sc_L_lowest.nd rfl (Or.inl rfl))⟩) (fun _ _ _ _ _ => ⟨_, tts_nil⟩) (fun _ _ _ _ _ => ⟨_, (ed_op op_fdivW od_div (dv 4) (dv 1))⟩))
      (ss_cons (sd_set (i := 3) sc_L_lowest.nd rfl (Or.inr rfl) (hP 3 (by decide)) (ed_ix ix_seq od_ix (ed_lcL (own := [("_law_one", 4)]) (g := (gcN 4)) (tt := (dTB (dOp fNe (dV 4) (dC (.int 0))))) (te := (dV 4)) (by rfl) sc_L_lowest.nd (id_seq (dv 2)) (blkOk_by (own := [("_law_one", 4)]) (N := ["_law_halves_here", "_law_both", "_law_row", "_law_first", "_law_one"]) (sc := (defScope s_L_lowest)) (by decide +kernel)) (fun _ _ _ _ _ => ⟨_, (gc_name (i := 4) sc_L_lowest.nd rfl (Or.inl rfl))⟩) (fun _ _ _ _ _ => ⟨_, (tts_one (td_cmp (op_neD (r64 hr)) od_ne (dv 4) ed_int (nomark _)))⟩) (fun _ _ _ _ _ => ⟨_, (dv 4)⟩)) ed_int (fun _ _ => rfl)))
      (ss_one (sd_ret (ed_callTy call_tuple_of cd_tuple E.b_tuple (by decide +kernel) (ad_cons (ed_lcL (own := [("_law_one", 4)]) (g := (gcN 4)) (tt := dYes) (te := (dIf (dTB (dOp fGt (dV 3) (dC (.int 0)))) (dV 4) (dUn fNeg (dV 4)))) (by rfl) sc_L_lowest.nd (id_seq (dv 2)) (blkOk_by (own := [("_law_one", 4)]) (N := ["_law_halves_here", "_law_both", "_law_row", "_law_first", "_law_one"]) (sc := (defScope s_L_lowest)) (by decide +kernel)) (fun _ _ _ _ _ => ⟨_, (gc_name (i := 4) sc_L_lowest.nd rfl (Or.inl rfl))⟩) (fun _ _ _ _ _ => ⟨_, tts_nil⟩) (fun _ _ _ _ _ => ⟨_, (ed_if (td_cmp op_gt od_gt (dv 3) ed_int (nomark _)) (dv 4) (ed_un un_neg ud_neg (dv 4)))⟩)) ad_nil)))))))⟩) (fun ins R EX hl h => h.2)
theorem fn_L_times {f : Addr} {fd : FuncData} (E : Env P w K mg base A) (F : Fun K "_law_times" "_law_times" s_L_times f fd) : FnOk P w K mg base (L2.CX P w) 1 f fd ["_law_one", "_law_other"] (toSp K 2 (tr_L_times A)) :=
  fnD F sc_L_times (fun cdv A_ outer s H E_ c hr hP => by
    exact ⟨_, (ss_cons (sd_asg (dv 0) (gd_tup (by rfl) (gs_cons (i := 2) sc_L_times.nd rfl (Or.inl rfl) (gs_cons (i := 3) sc_L_times.nd rfl (Or.inl rfl) (gs_cons (i := 4) sc_L_times.nd rfl (Or.inl rfl) (gs_cons (i := 5) sc_L_times.nd rfl (Or.inl rfl) gs_nil))))))
      (ss_cons (sd_asg (dv 1) (gd_tup (by rfl) (gs_cons (i := 6) sc_L_times.nd rfl (Or.inl rfl) (gs_cons (i := 7) sc_L_times.nd rfl (Or.inl rfl) (gs_cons (i := 8) sc_L_times.nd rfl (Or.inl rfl) (gs_cons (i := 9) sc_L_times.nd rfl (Or.inl rfl) gs_nil))))))
      (ss_cons (sd_set (i := 10) sc_L_times.nd rfl (Or.inl rfl) (hP 10 (by decide)) (ed_op op_fdivW od_div (ed_op op_sub od_sub (ed_op op_sub od_sub (ed_op op_sub od_sub (ed_op op_mulU od_mul (dv 2) (dv 6)) (ed_op op_mulU od_mul (dv 3) (dv 7))) (ed_op op_mulU od_mul (dv 4) (dv 8))) (ed_op op_mulU od_mul (dv 5) (dv 9))) ed_int))
      (ss_cons (sd_set (i := 11) sc_L_times.nd rfl (Or.inl rfl) (hP 11 (by decide)) (ed_op op_fdivW od_div (ed_op op_sub od_sub (ed_op op_addU od_add (ed_op op_addU od_add (ed_op op_mulU od_mul (dv 2) (dv 7)) (ed_op op_mulU od_mul (dv 3) (dv 6))) (ed_op op_mulU od_mul (dv 4) (dv 9))) (ed_op op_mulU od_mul (dv 5) (dv 8))) ed_int))
      (ss_cons (sd_set (i := 12) sc_L_times.nd rfl (Or.inl rfl) (hP 12 (by decide)) (ed_op op_fdivW od_div (ed_op op_addU od_add (ed_op op_addU od_add (ed_op op_sub od_sub (ed_op op_mulU od_mul (dv 2) (dv 8)) (ed_op op_mulU od_mul (dv 3) (dv 9))) (ed_op op_mulU od_mul (dv 4) (dv 6))) (ed_op op_mulU od_mul (dv 5) (dv 7))) ed_int))
      (ss_one (sd_ret (ed_tup (ad_cons (dv 10) (ad_cons (dv 11) (ad_cons (dv 12) (ad_cons (ed_op op_fdivW od_div (ed_op op_addU od_add (ed_op op_sub od_sub (ed_op op_addU od_add (ed_op op_mulU od_mul (dv 2) (dv 9)) (ed_op op_mulU od_mul (dv 3) (dv 8))) (ed_op op_mulU od_mul (dv 4) (dv 7))) (ed_op op_mulU od_mul (dv 5) (dv 6))) ed_int) ad_nil))))))))))))⟩) (fun ins R EX hl h => h.2)
theorem fn_L_back {f : Addr} {fd : FuncData} (E : Env P w K mg base A) (F : Fun K "_law_back" "_law_back" s_L_back f fd) : FnOk P w K mg base (L2.CX P w) 1 f fd ["_law_halves_here"] (toSp K 1 (tr_L_back A)) :=
  fnD F sc_L_back (fun cdv A_ outer s H E_ c hr hP => by
    exact ⟨_, (ss_one (sd_ret (ed_tup (ad_cons (ed_ix ix_seq od_ix (dv 0) ed_int (fun _ _ => rfl)) (ad_cons (ed_un un_neg ud_neg (ed_ix ix_seq od_ix (dv 0) ed_int (fun _ _ => rfl))) (ad_cons (ed_un un_neg ud_neg (ed_ix ix_seq od_ix (dv 0) ed_int (fun _ _ => rfl))) (ad_cons (ed_un un_neg ud_neg (ed_ix ix_seq od_ix (dv 0) ed_int (fun _ _ => rfl))) ad_nil)))))))⟩) (fun ins R EX hl h => h.2)
theorem fn_L_tree_four {f : Addr} {fd : FuncData} (E : Env P w K mg base A) (F : Fun K "_law_tree_four" "_law_tree_four" s_L_tree_four f fd) {j : Nat} (hj : 4 ≤ j) {self_L_tree_four : SpD} (H_L_lowest : DefA P w K mg base "_law_lowest" 4 (tr_L_lowest A)) (H_L_times : DefA P w K mg base "_law_times" 1 (tr_L_times A)) (D_self : DefA P w K mg base "_law_tree_four" j self_L_tree_four) (H_L_back : DefA P w K mg base "_law_back" 1 (tr_L_back A)) : FnOk P w K mg base (L2.CX P w) (j + 1) f fd ["_law_tree_here", "_law_fours"] (toSp K 2 (tr_L_tree_four A self_L_tree_four)) :=
  fnD F sc_L_tree_four (fun cdv A_ outer s H E_ c hr hP => by
    exact ⟨_, (ss_cons (sd_if (td_cmp (op_eqD (r64 hr)) od_eq (ed_ix ix_seq od_ix (dv 0) ed_int (fun _ _ => rfl)) ed_str (nomark _)) (ss_one (sd_ret (ed_callF H_L_lowest (hr.mono (Nat.le_trans (by decide) hj)) takesC (ad_cons (ed_dget (hu_of hr) (dv 1) (ed_ix ix_seq od_ix (dv 0) ed_int (fun _ _ => rfl)) (fun _ _ => rfl)) ad_nil)))) ss_nil)
      (ss_cons (sd_if (td_cmp (op_eqD (r64 hr)) od_eq (ed_ix ix_seq od_ix (dv 0) ed_int (fun _ _ => rfl)) ed_str (nomark _)) (ss_one (sd_ret (ed_callF H_L_lowest (hr.mono (Nat.le_trans (by decide) hj)) takesC (ad_cons (ed_ix ix_seq od_ix (dv 0) ed_int (fun _ _ => rfl)) ad_nil)))) ss_nil)
      (ss_cons (sd_set (i := 2) sc_L_tree_four.nd rfl (Or.inl rfl) (hP 2 (by decide)) (ed_callF D_self (hr.mono (by omega)) takesC (ad_cons (ed_ix ix_seq od_ix (dv 0) ed_int (fun _ _ => rfl)) (ad_cons (dv 1) ad_nil))))
      (ss_cons (sd_if (td_cmp (op_eqD (r64 hr)) od_eq (ed_ix ix_seq od_ix (dv 0) ed_int (fun _ _ => rfl)) ed_str (nomark _)) (ss_one (sd_ret (ed_callF H_L_lowest (hr.mono (Nat.le_trans (by decide) hj)) takesC (ad_cons (ed_callF H_L_back (hr.mono (Nat.le_trans (by decide) hj)) takesC (ad_cons (dv 2) ad_nil)) ad_nil)))) ss_nil)
      (ss_one (sd_ret (ed_callF H_L_lowest (hr.mono (Nat.le_trans (by decide) hj)) takesC (ad_cons (ed_callF H_L_times (hr.mono (Nat.le_trans (by decide) hj)) takesC (ad_cons (dv 2) (ad_cons (ed_callF D_self (hr.mono (by omega)) takesC (ad_cons (ed_ix ix_seq od_ix (dv 0) ed_int (fun _ _ => rfl)) (ad_cons (dv 1) ad_nil))) ad_nil))) ad_nil))))))))⟩) (fun ins R EX hl h => h.2)
theorem fn_L_same {f : Addr} {fd : FuncData} (E : Env P w K mg base A) (F : Fun K "_law_same" "_law_same" s_L_same f fd) {j : Nat} (hj : 0 ≤ j) {self_L_same : SpD} (D_self : DefA P w K mg base "_law_same" j self_L_same) : FnOk P w K mg base (L2.CX P w) (j + 1) f fd ["_law_found", "_law_due"] (toSp K 2 (tr_L_same A self_L_same)) :=
  fnD F sc_L_same (fun cdv A_ outer s H E_ c hr hP => by
    exact ⟨_, (ss_cons (sd_if (td_cmp op_isN od_isN (dv 1) ed_non (nomark _)) (ss_one (sd_ret (ed_cmp op_isN od_isN (dv 0) ed_non (nomark _)))) ss_nil)
      (ss_cons (sd_if (PWD.td (wd_or (td_val (ed_callB call_isi cd_isi E.b_isinstance (by decide +kernel) (ad_cons (dv 1) (ad_cons (ed_bltn (v := .ty "bool") (u := .type "bool") E.b_bool (by decide +kernel) rfl) ad_nil)))) (wd_or1 (td_val (ed_callB call_isi cd_isi E.b_isinstance (by decide +kernel) (ad_cons (dv 0) (ad_cons (ed_bltn (v := .ty "bool") (u := .type "bool") E.b_bool (by decide +kernel) rfl) ad_nil))))))) (ss_one (sd_ret (ed_and (ed_callB call_isi cd_isi E.b_isinstance (by decide +kernel) (ad_cons (dv 1) (ad_cons (ed_bltn (v := .ty "bool") (u := .type "bool") E.b_bool (by decide +kernel) rfl) ad_nil))) (ed_and (ed_callB call_isi cd_isi E.b_isinstance (by decide +kernel) (ad_cons (dv 0) (ad_cons (ed_bltn (v := .ty "bool") (u := .type "bool") E.b_bool (by decide +kernel) rfl) ad_nil))) (ed_one (ed_cmp (op_eqD (r64 hr)) od_eq (dv 0) (dv 1) (nomark _))))))) ss_nil)
      (ss_cons (sd_if (td_val (ed_isiT (Ts := ["int", "str"]) (dv 1) (show PA _ _ (tTys ["int", "str"]) from (pa_cons (pe_bltn (v := .ty "int") (u := .type "int") (by rfl) E.b_int (by decide +kernel) rfl) (pa_cons (pe_bltn (v := .ty "str") (u := .type "str") (by rfl) E.b_str (by decide +kernel) rfl) pa_nil))) (by show 2 ≤ sizeLine; decide) E.b_isinstance)) (ss_one (sd_ret (ed_and (ed_isiT (Ts := ["int", "str"]) (dv 0) (show PA _ _ (tTys ["int", "str"]) from (pa_cons (pe_bltn (v := .ty "int") (u := .type "int") (by rfl) E.b_int (by decide +kernel) rfl) (pa_cons (pe_bltn (v := .ty "str") (u := .type "str") (by rfl) E.b_str (by decide +kernel) rfl) pa_nil))) (by show 2 ≤ sizeLine; decide) E.b_isinstance) (ed_and (ed_cmp (op_eqD (r64 hr)) od_eq (ed_callB call_isi cd_isi E.b_isinstance (by decide +kernel) (ad_cons (dv 0) (ad_cons (ed_bltn (v := .ty "int") (u := .type "int") E.b_int (by decide +kernel) rfl) ad_nil))) (ed_callB call_isi cd_isi E.b_isinstance (by decide +kernel) (ad_cons (dv 1) (ad_cons (ed_bltn (v := .ty "int") (u := .type "int") E.b_int (by decide +kernel) rfl) ad_nil))) (nomark _)) (ed_one (ed_cmp (op_eqD (r64 hr)) od_eq (dv 0) (dv 1) (nomark _))))))) ss_nil)
      (ss_cons (sd_if (PWD.td (wd_or (td_cmp (op_neD (r64 hr)) od_ne (ed_callB call_isi cd_isi E.b_isinstance (by decide +kernel) (ad_cons (dv 1) (ad_cons (ed_bltn (v := .ty "tuple") (u := .type "tuple") E.b_tuple (by decide +kernel) rfl) ad_nil))) (ed_callB call_isi cd_isi E.b_isinstance (by decide +kernel) (ad_cons (dv 0) (ad_cons (ed_bltn (v := .ty "tuple") (u := .type "tuple") E.b_tuple (by decide +kernel) rfl) ad_nil))) (nomark _)) (wd_or1 (td_cmp (op_neD (r64 hr)) od_ne (ed_callB call_isi cd_isi E.b_isinstance (by decide +kernel) (ad_cons (dv 1) (ad_cons (ed_bltn (v := .ty "list") (u := .type "list") E.b_list (by decide +kernel) rfl) ad_nil))) (ed_callB call_isi cd_isi E.b_isinstance (by decide +kernel) (ad_cons (dv 0) (ad_cons (ed_bltn (v := .ty "list") (u := .type "list") E.b_list (by decide +kernel) rfl) ad_nil))) (nomark _))))) (ss_one (sd_ret ed_bl)) ss_nil)
      (ss_one (sd_ret (ed_and (ed_cmp (op_eqD (r64 hr)) od_eq (ed_callB call_len cd_len E.b_len PySem.boot_len (ad_cons (dv 0) ad_nil)) (ed_callB call_len cd_len E.b_len PySem.boot_len (ad_cons (dv 1) ad_nil)) (nomark _)) (ed_one (ed_callB (cr_all rfl) cd_all E.b_all (by decide +kernel) (ad_cons (ed_lcL (own := [("_law_one", 2), ("_law_other", 3)]) (g := (gcTup 2 (gcCons 2 (gcCons 3 gcNil)))) (tt := dYes) (te := (dCallF self_L_same (dCons (dV 2) (dCons (dV 3) dNil)))) (by rfl) sc_L_same.nd (id_zip E.b_zip (ad_cons (dv 0) (ad_cons (dv 1) ad_nil))) (blkOk_by (own := [("_law_one", 2), ("_law_other", 3)]) (N := ["_law_found", "_law_due", "_law_one", "_law_other"]) (sc := (defScope s_L_same)) (by decide +kernel)) (fun _ _ _ _ _ => ⟨_, (gc_tup (by rfl) (gcs_cons (i := 2) sc_L_same.nd rfl (Or.inl rfl) (gcs_cons (i := 3) sc_L_same.nd rfl (Or.inl rfl) gcs_nil)))⟩) (fun _ _ _ _ _ => ⟨_, tts_nil⟩) (fun _ _ _ _ _ => ⟨_, (ed_callF D_self (hr.mono (by omega)) takesN (ad_cons (dv 2) (ad_cons (dv 3) ad_nil)))⟩)) ad_nil))))))))))⟩) (fun ins R EX hl h => h.2)
theorem fn_L_fold {f : Addr} {fd : FuncData} (E : Env P w K mg base A) (F : Fun K "_law_fold" "_law_fold" s_L_fold f fd) (H_L_lowest : DefA P w K mg base "_law_lowest" 4 (tr_L_lowest A)) (H_L_times : DefA P w K mg base "_law_times" 1 (tr_L_times A)) (H_L_back : DefA P w K mg base "_law_back" 1 (tr_L_back A)) : FnOk P w K mg base (L2.CX P w) 5 f fd ["_law_code"] (toSp K 1 (tr_L_fold A)) :=
  fnD F sc_L_fold (fun cdv A_ outer s H E_ c hr hP => by
    exact ⟨_, (ss_cons (sd_for passesC rfl (id_range1 E.b_range (ad_cons (ed_callB call_len cd_len E.b_len PySem.boot_len (ad_cons (dv 0) ad_nil)) ad_nil)) (gd_name (i := 1) sc_L_fold.nd rfl (Or.inl rfl) (hP 1 (by decide))) (ss_cons (sd_set (i := 2) sc_L_fold.nd rfl (Or.inl rfl) (hP 2 (by decide)) (ed_if (td_cmp op_gt od_gt (dv 1) ed_int (nomark _)) (ed_ix ix_seq od_ix (dv 0) (ed_op op_sub od_sub (dv 1) ed_int) (fun _ _ => rfl)) (ed_tup (ad_cons ed_str ad_nil))))
      (ss_cons (sd_set (i := 3) sc_L_fold.nd rfl (Or.inl rfl) (hP 3 (by decide)) (ed_if (td_cmp op_gt od_gt (dv 1) ed_int (nomark _)) (ed_ix ix_seq od_ix (dv 0) (ed_op op_sub od_sub (dv 1) ed_int) (fun _ _ => rfl)) (ed_tup (ad_cons ed_str ad_nil))))
      (ss_cons (sd_if (PWD.td (wd_and (td_cmp (op_eqD (r64 hr)) od_eq (ed_ix ix_seq od_ix (dv 0) (dv 1) (fun _ _ => rfl)) (ed_tup (ad_cons ed_str ad_nil)) (nomark _)) (wd_and1 (td_cmp (op_eqD (r64 hr)) od_eq (dv 2) (ed_tup (ad_cons ed_str ad_nil)) (nomark _))))) (ss_one (sd_ret (ed_op op_addU od_add (ed_slice (dv 0) od_none (od_some (ed_op op_sub od_sub (dv 1) ed_int))) (ed_slice (dv 0) (od_some (ed_op op_addU od_add (dv 1) ed_int)) od_none)))) ss_nil)
      (ss_cons (sd_if (PWD.td (wd_and (td_cmp (op_eqD (r64 hr)) od_eq (ed_ix ix_seq od_ix (dv 0) (dv 1) (fun _ _ => rfl)) (ed_tup (ad_cons ed_str ad_nil)) (nomark _)) (wd_and1 (td_cmp (op_eqD (r64 hr)) od_eq (ed_ix ix_seq od_ix (dv 2) ed_int (fun _ _ => rfl)) ed_str (nomark _))))) (ss_one (sd_ret (ed_op op_addU od_add (ed_op op_addU od_add (ed_slice (dv 0) od_none (od_some (ed_op op_sub od_sub (dv 1) ed_int))) (ed_lst (ad_cons (ed_tup (ad_cons ed_str (ad_cons (ed_callF H_L_lowest (hr.mono (by decide)) takesC (ad_cons (ed_callF H_L_back (hr.mono (by decide)) takesC (ad_cons (ed_ix ix_seq od_ix (dv 2) ed_int (fun _ _ => rfl)) ad_nil)) ad_nil)) ad_nil))) ad_nil))) (ed_slice (dv 0) (od_some (ed_op op_addU od_add (dv 1) ed_int)) od_none)))) ss_nil)
      (ss_one (sd_if (PWD.td (wd_and (td_cmp (op_eqD (r64 hr)) od_eq (ed_ix ix_seq od_ix (dv 0) (dv 1) (fun _ _ => rfl)) (ed_tup (ad_cons ed_str ad_nil)) (nomark _)) (wd_and (td_cmp (op_eqD (r64 hr)) od_eq (ed_ix ix_seq od_ix (dv 2) ed_int (fun _ _ => rfl)) ed_str (nomark _)) (wd_and1 (td_cmp (op_eqD (r64 hr)) od_eq (ed_ix ix_seq od_ix (dv 3) ed_int (fun _ _ => rfl)) ed_str (nomark _)))))) (ss_one (sd_ret (ed_op op_addU od_add (ed_op op_addU od_add (ed_slice (dv 0) od_none (od_some (ed_op op_sub od_sub (dv 1) ed_int))) (ed_lst (ad_cons (ed_tup (ad_cons ed_str (ad_cons (ed_callF H_L_lowest (hr.mono (by decide)) takesC (ad_cons (ed_callF H_L_times (hr.mono (by decide)) takesC (ad_cons (ed_ix ix_seq od_ix (dv 3) ed_int (fun _ _ => rfl)) (ad_cons (ed_ix ix_seq od_ix (dv 2) ed_int (fun _ _ => rfl)) ad_nil))) ad_nil)) ad_nil))) ad_nil))) (ed_slice (dv 0) (od_some (ed_op op_addU od_add (dv 1) ed_int)) od_none)))) ss_nil)))))))
      (ss_one (sd_ret (dv 0))))⟩) (fun ins R EX hl h => h.2)
theorem fn_L_tree_code {f : Addr} {fd : FuncData} (E : Env P w K mg base A) (F : Fun K "_law_tree_code" "_law_tree_code" s_L_tree_code f fd) {j : Nat} (hj : 0 ≤ j) {self_L_tree_code : SpD} (D_self : DefA P w K mg base "_law_tree_code" j self_L_tree_code) : FnOk P w K mg base (L2.CX P w) (j + 1) f fd ["_law_tree_here"] (toSp K 1 (tr_L_tree_code A self_L_tree_code)) :=
  fnD F sc_L_tree_code (fun cdv A_ outer s H E_ c hr hP => by
    exact ⟨_, (ss_cons (sd_if (td_cmp (op_eqD (r64 hr)) od_eq (ed_ix ix_seq od_ix (dv 0) ed_int (fun _ _ => rfl)) ed_str (nomark _)) (ss_one (sd_ret (ed_lst (ad_cons (ed_tup (ad_cons ed_str (ad_cons (ed_ix ix_seq od_ix (dv 0) ed_int (fun _ _ => rfl)) ad_nil))) ad_nil)))) ss_nil)
      (ss_cons (sd_if (td_cmp (op_eqD (r64 hr)) od_eq (ed_ix ix_seq od_ix (dv 0) ed_int (fun _ _ => rfl)) ed_str (nomark _)) (ss_one (sd_ret (ed_lst (ad_cons (ed_tup (ad_cons ed_str (ad_cons (ed_ix ix_seq od_ix (dv 0) ed_int (fun _ _ => rfl)) ad_nil))) ad_nil)))) ss_nil)
      (ss_cons (sd_if (td_cmp (op_eqD (r64 hr)) od_eq (ed_ix ix_seq od_ix (dv 0) ed_int (fun _ _ => rfl)) ed_str (nomark _)) (ss_one (sd_ret (ed_op op_addU od_add (ed_callF D_self (hr.mono (by omega)) takesC (ad_cons (ed_ix ix_seq od_ix (dv 0) ed_int (fun _ _ => rfl)) ad_nil)) (ed_lst (ad_cons (ed_tup (ad_cons ed_str ad_nil)) ad_nil))))) ss_nil)
      (ss_one (sd_ret (ed_op op_addU od_add (ed_op op_addU od_add (ed_callF D_self (hr.mono (by omega)) takesC (ad_cons (ed_ix ix_seq od_ix (dv 0) ed_int (fun _ _ => rfl)) ad_nil)) (ed_callF D_self (hr.mono (by omega)) takesC (ad_cons (ed_ix ix_seq od_ix (dv 0) ed_int (fun _ _ => rfl)) ad_nil))) (ed_lst (ad_cons (ed_tup (ad_cons ed_str ad_nil)) ad_nil))))))))⟩) (fun ins R EX hl h => h.2)
theorem fn_L_take {f : Addr} {fd : FuncData} (E : Env P w K mg base A) (F : Fun K "_law_take" "_law_take" s_L_take f fd) : FnOk P w K mg base (L2.CX P w) 1 f fd ["_law_feed_here", "_law_many"] (toSp K 2 (tr_L_take A)) :=
  fnD F sc_L_take (fun cdv A_ outer s H E_ c hr hP => by
    exact ⟨_, (ss_cons (sd_if (PWD.td (wd_and (td_cmp (op_eqD (r64 hr)) od_eq (ed_ix ix_seq od_ix (dv 0) ed_int (fun _ _ => rfl)) ed_int (nomark _)) (wd_and1 (td_cmp op_lt od_lt (ed_ix ix_seq od_ix (dv 0) ed_int (fun _ _ => rfl)) (ed_callB call_len cd_len E.b_len PySem.boot_len (ad_cons (ed_ix ix_seq od_ix (dv 0) ed_int (fun _ _ => rfl)) ad_nil)) (nomark _))))) (ss_cons (sd_set (i := 2) sc_L_take.nd rfl (Or.inl rfl) (hP 2 (by decide)) (ed_ix ix_seq od_ix (ed_ix ix_seq od_ix (dv 0) ed_int (fun _ _ => rfl)) (ed_ix ix_seq od_ix (dv 0) ed_int (fun _ _ => rfl)) (fun _ _ => rfl)))
      (ss_cons (sd_asg (ed_op op_addU od_add (ed_ix ix_seq od_ix (dv 0) ed_int (fun _ _ => rfl)) ed_int) (gd_sub (dv 0) ed_int))
      (ss_one (sd_if (td_cmp op_ge od_ge (dv 2) (ed_op op_pow od_pow ed_int ed_int) (nomark _)) (ss_one (sd_asg (dv 2) (gd_sub (dv 0) ed_int))) (ss_cons (sd_set (i := 3) sc_L_take.nd rfl (Or.inl rfl) (hP 3 (by decide)) (ed_op op_addU od_add (ed_op op_mulU od_mul (ed_ix ix_seq od_ix (dv 0) ed_int (fun _ _ => rfl)) ed_int) (ed_op op_mod od_mod (ed_callTy call_int1 cd_int E.b_int (by decide +kernel) (ad_cons (dv 2) ad_nil)) ed_int)))
      (ss_one (sd_asg (ed_op op_mod od_mod (ed_op op_addU od_add (dv 3) (ed_op op_mulU od_mul (ed_ix ix_seq od_ix (dv 0) ed_int (fun _ _ => rfl)) ed_int)) ed_int) (gd_sub (dv 0) ed_int)))))))) ss_nil)
      (ss_cons (sd_if (td_cmp op_gt od_gt (ed_ix ix_seq od_ix (dv 0) ed_int (fun _ _ => rfl)) ed_int (nomark _)) (ss_cons (sd_set (i := 4) sc_L_take.nd rfl (Or.inl rfl) (hP 4 (by decide)) (ed_op op_mod od_mod (ed_callTy call_int1 cd_int E.b_int (by decide +kernel) (ad_cons (ed_ix ix_seq od_ix (dv 0) ed_int (fun _ _ => rfl)) ad_nil)) (dv 1)))
      (ss_cons (sd_asg (ed_op op_fdivW od_div (ed_ix ix_seq od_ix (dv 0) ed_int (fun _ _ => rfl)) (dv 1)) (gd_sub (dv 0) ed_int))
      (ss_one (sd_ret (dv 4))))) ss_nil)
      (ss_cons (sd_asg (ed_op op_mod od_mod (ed_op op_addU od_add (ed_op op_mulU od_mul (ed_ix ix_seq od_ix (dv 0) ed_int (fun _ _ => rfl)) ed_int) ed_int) ed_int) (gd_sub (dv 0) ed_int))
      (ss_one (sd_ret (ed_op op_mod od_mod (ed_op op_fdivW od_div (ed_op op_mod od_mod (ed_op op_mulU od_mul (ed_ix ix_seq od_ix (dv 0) ed_int (fun _ _ => rfl)) (ed_callTy call_int1 cd_int E.b_int (by decide +kernel) (ad_cons (ed_ix ix_seq od_ix (dv 0) ed_int (fun _ _ => rfl)) ad_nil))) ed_int) ed_int) (dv 1)))))))⟩) (fun ins R EX hl h => h.2)
theorem fn_L_halves {f : Addr} {fd : FuncData} (E : Env P w K mg base A) (F : Fun K "_law_halves" "_law_halves" s_L_halves f fd) (H_L_take : DefA P w K mg base "_law_take" 1 (tr_L_take A)) : FnOk P w K mg base (L2.CX P w) 2 f fd ["_law_feed_here", "_law_most"] (toSp K 2 (tr_L_halves A)) :=
  fnD F sc_L_halves (fun cdv A_ outer s H E_ c hr hP => by
    exact ⟨_, (ss_cons (sd_set (i := 2) sc_L_halves.nd rfl (Or.inl rfl) (hP 2 (by decide)) (ed_callA [true] H_L_take (hr.mono (by decide)) takesC (ad_cons (dv 0) (ad_cons ed_int ad_nil))))
      (ss_cons (sd_set (i := 3) sc_L_halves.nd rfl (Or.inl rfl) (hP 3 (by decide)) (ed_lst ad_nil))
      (ss_cons (sd_for passesC rfl (id_range1 E.b_range (ad_cons ed_int ad_nil)) (gd_name (i := 4) sc_L_halves.nd rfl (Or.inl rfl) (hP 4 (by decide))) (ss_one (sd_expr (ed_mut PySem.F.slot_list_append PySem.F.type_list_append mt_append md_append (dv 3) (ad_cons (ed_op op_addU od_add (ed_op op_mulU od_mul ed_int (ed_op op_sub od_sub (ed_callA [true] H_L_take (hr.mono (by decide)) takesC (ad_cons (dv 0) (ad_cons (ed_op op_addU od_add (ed_op op_mulU od_mul ed_int (dv 1)) ed_int) ad_nil))) (dv 1))) (dv 2)) ad_nil)))))
      (ss_cons (sd_if (td_cmp (op_eqD (r64 hr)) od_eq (dv 3) (ed_lst (ad_cons ed_int (ad_cons ed_int (ad_cons ed_int (ad_cons ed_int ad_nil))))) (nomark _)) (ss_one (sd_set (i := 3) sc_L_halves.nd rfl (Or.inl rfl) (hP 3 (by decide)) (ed_lst (ad_cons ed_int (ad_cons ed_int (ad_cons ed_int (ad_cons ed_int ad_nil))))))) ss_nil)
      (ss_one (sd_ret (ed_callTy call_tuple_of cd_tuple E.b_tuple (by decide +kernel) (ad_cons (dv 3) ad_nil))))))))⟩) (fun ins R EX hl h => h.2)
theorem fn_L_pick {f : Addr} {fd : FuncData} (E : Env P w K mg base A) (F : Fun K "_law_pick" "_law_pick" s_L_pick f fd) (H_L_take : DefA P w K mg base "_law_take" 1 (tr_L_take A)) : FnOk P w K mg base (L2.CX P w) 2 f fd ["_law_feed_here", "_law_things"] (toSp K 2 (tr_L_pick A)) :=
  fnD F sc_L_pick (fun cdv A_ outer s H E_ c hr hP => by
    exact ⟨_, (ss_one (sd_ret (ed_ix ix_seq od_ix (dv 1) (ed_callA [true] H_L_take (hr.mono (by decide)) takesC (ad_cons (dv 0) (ad_cons (ed_callB call_len cd_len E.b_len PySem.boot_len (ad_cons (dv 1) ad_nil)) ad_nil))) (fun _ _ => rfl))))⟩) (fun ins R EX hl h => h.2)
theorem fn_L_tree {f : Addr} {fd : FuncData} (E : Env P w K mg base A) (F : Fun K "_law_tree" "_law_tree" s_L_tree f fd) {j : Nat} (hj : 2 ≤ j) {self_L_tree : SpD} (D_self : DefA P w K mg base "_law_tree" j self_L_tree) (H_L_halves : DefA P w K mg base "_law_halves" 2 (tr_L_halves A)) (H_L_pick : DefA P w K mg base "_law_pick" 2 (tr_L_pick A)) (H_L_take : DefA P w K mg base "_law_take" 1 (tr_L_take A)) : FnOk P w K mg base (L2.CX P w) (j + 1) f fd ["_law_feed_here", "_law_names", "_law_level"] (toSp K 3 (tr_L_tree A self_L_tree)) :=
  fnD F sc_L_tree (fun cdv A_ outer s H E_ c hr hP => by
    exact ⟨_, (ss_cons (sd_set (i := 3) sc_L_tree.nd rfl (Or.inl rfl) (hP 3 (by decide)) (ed_if (td_cmp op_gt od_gt (dv 2) ed_int (nomark _)) (ed_callA [true] H_L_take (hr.mono (Nat.le_trans (by decide) hj)) takesC (ad_cons (dv 0) (ad_cons ed_int ad_nil))) (ed_callA [true] H_L_take (hr.mono (Nat.le_trans (by decide) hj)) takesC (ad_cons (dv 0) (ad_cons ed_int ad_nil)))))
      (ss_cons (sd_if (td_cmp (op_eqD (r64 hr)) od_eq (dv 3) ed_int (nomark _)) (ss_one (sd_ret (ed_tup (ad_cons ed_str (ad_cons (ed_callA [true] H_L_pick (hr.mono (Nat.le_trans (by decide) hj)) takesC (ad_cons (dv 0) (ad_cons (dv 1) ad_nil))) ad_nil))))) ss_nil)
      (ss_cons (sd_if (td_cmp (op_eqD (r64 hr)) od_eq (dv 3) ed_int (nomark _)) (ss_one (sd_ret (ed_tup (ad_cons ed_str (ad_cons (ed_callA [true] H_L_halves (hr.mono (Nat.le_trans (by decide) hj)) takesC (ad_cons (dv 0) (ad_cons ed_int ad_nil))) ad_nil))))) ss_nil)
      (ss_cons (sd_if (td_cmp (op_eqD (r64 hr)) od_eq (dv 3) ed_int (nomark _)) (ss_one (sd_ret (ed_tup (ad_cons ed_str (ad_cons (ed_callA [true] D_self (hr.mono (by omega)) takesC (ad_cons (dv 0) (ad_cons (dv 1) (ad_cons (ed_op op_sub od_sub (dv 2) ed_int) ad_nil)))) ad_nil))))) ss_nil)
      (ss_cons (sd_set (i := 4) sc_L_tree.nd rfl (Or.inl rfl) (hP 4 (by decide)) (ed_callA [true] D_self (hr.mono (by omega)) takesC (ad_cons (dv 0) (ad_cons (dv 1) (ad_cons (ed_op op_sub od_sub (dv 2) ed_int) ad_nil)))))
      (ss_one (sd_ret (ed_tup (ad_cons ed_str (ad_cons (dv 4) (ad_cons (ed_callA [true] D_self (hr.mono (by omega)) takesC (ad_cons (dv 0) (ad_cons (dv 1) (ad_cons (ed_op op_sub od_sub (dv 2) ed_int) ad_nil)))) ad_nil)))))))))))⟩) (fun ins R EX hl h => h.2)
theorem fn_L_four {f : Addr} {fd : FuncData} (E : Env P w K mg base A) (F : Fun K "_law_four" "_law_four" s_L_four f fd) (H_Four_init : InitA P w K mg base A.Four 3 (star1 (tr_Four_init A))) : FnOk P w K mg base (L2.CX P w) 5 f fd ["_law_halves_here"] (toSp K 1 (tr_L_four A)) :=
  fnD F sc_L_four (fun cdv A_ outer s H E_ c hr hP => by
    exact ⟨_, (ss_cons (sd_asg (dv 0) (gd_tup (by rfl) (gs_cons (i := 1) sc_L_four.nd rfl (Or.inl rfl) (gs_cons (i := 2) sc_L_four.nd rfl (Or.inl rfl) (gs_cons (i := 3) sc_L_four.nd rfl (Or.inl rfl) (gs_cons (i := 4) sc_L_four.nd rfl (Or.inl rfl) gs_nil))))))
      (ss_one (sd_ret (ed_make H_Four_init E.c_Four.mgC (hr.mono (by decide)) takesC (ad_cons (dv 1) (ad_cons (dv 2) (ad_cons (dv 3) (ad_cons (dv 4) ad_nil))))))))⟩) (fun ins R EX hl h => h.2)
theorem fn_L_turn {f : Addr} {fd : FuncData} (E : Env P w K mg base A) (F : Fun K "_law_turn" "_law_turn" s_L_turn f fd) (H_Turn_init : InitA P w K mg base A.Turn 7 (tr_Turn_init A)) (H_L_four : DefA P w K mg base "_law_four" 5 (tr_L_four A)) : FnOk P w K mg base (L2.CX P w) 9 f fd ["_law_halves_here"] (toSp K 1 (tr_L_turn A)) :=
  fnD F sc_L_turn (fun cdv A_ outer s H E_ c hr hP => by
    exact ⟨_, (ss_one (sd_ret (ed_make H_Turn_init E.c_Turn.mgC (hr.mono (by decide)) takesC (ad_cons (ed_callF H_L_four (hr.mono (by decide)) takesC (ad_cons (dv 0) ad_nil)) ad_nil))))⟩) (fun ins R EX hl h => h.2)
theorem fn_L_feed {f : Addr} {fd : FuncData} (E : Env P w K mg base A) (F : Fun K "_law_feed" "_law_feed" s_L_feed f fd) : FnOk P w K mg base (L2.CX P w) 1 f fd ["_law_script"] (toSp K 1 (tr_L_feed A)) :=
  fnD F sc_L_feed (fun cdv A_ outer s H E_ c hr hP => by
    exact ⟨_, (ss_cons (sd_set (i := 1) sc_L_feed.nd rfl (Or.inl rfl) (hP 1 (by decide)) (ed_callTy call_list_of cd_list E.b_list (by decide +kernel) (ad_cons (ed_slice (dv 0) od_none (od_some ed_int)) ad_nil)))
      (ss_cons (sd_set (i := 2) sc_L_feed.nd rfl (Or.inl rfl) (hP 2 (by decide)) (ed_op op_addU od_add ed_int (ed_op op_mulU od_mul ed_int (ed_callB call_len cd_len E.b_len PySem.boot_len (ad_cons (dv 1) ad_nil)))))
      (ss_cons (sd_for passesC rfl (id_seq (dv 1)) (gd_name (i := 3) sc_L_feed.nd rfl (Or.inl rfl) (hP 3 (by decide))) (ss_one (sd_set (i := 2) sc_L_feed.nd rfl (Or.inl rfl) (hP 2 (by decide)) (ed_op op_mod od_mod (ed_op op_addU od_add (ed_op op_addU od_add (ed_op op_mulU od_mul (dv 2) ed_int) (ed_op op_mod od_mod (ed_callTy call_int1 cd_int E.b_int (by decide +kernel) (ad_cons (dv 3) ad_nil)) ed_int)) ed_int) ed_int))))
      (ss_one (sd_ret (ed_lst (ad_cons (dv 1) (ad_cons ed_int (ad_cons ed_int (ad_cons (dv 2) ad_nil))))))))))⟩) (fun ins R EX hl h => h.2)
theorem fn_law {f : Addr} {fd : FuncData} (E : Env P w K mg base A) (F : Fun K "law" "law" s_law f fd) {self_L_same : SpD} {self_L_tree : SpD} {self_L_tree_code : SpD} {self_L_tree_four : SpD} (H_shortened : DefA P w K mg base "shortened" 12 (tr_shortened A)) (H_run : DefA P w K mg base "run" 10 (tr_run A)) (H_Turn_eq : MethA P w K mg base A.Turn "__eq__" 2 (tr_Turn_eq A)) (H_Four_eq : MethA P w K mg base A.Four "__eq__" 1 (tr_Four_eq A)) (H_Turn_four : PropA P w K mg base A.Turn "four" 1 (tr_Turn_four A)) (H_Four_halves : PropA P w K mg base A.Four "halves" 1 (tr_Four_halves A)) (H_L_tree_four : DefA P w K mg base "_law_tree_four" 12 self_L_tree_four) (H_L_same : DefA P w K mg base "_law_same" 8 self_L_same) (H_L_fold : DefA P w K mg base "_law_fold" 5 (tr_L_fold A)) (H_L_tree_code : DefA P w K mg base "_law_tree_code" 8 self_L_tree_code) (H_L_take : DefA P w K mg base "_law_take" 1 (tr_L_take A)) (H_L_halves : DefA P w K mg base "_law_halves" 2 (tr_L_halves A)) (H_L_tree : DefA P w K mg base "_law_tree" 6 self_L_tree) (H_L_turn : DefA P w K mg base "_law_turn" 9 (tr_L_turn A)) (H_L_feed : DefA P w K mg base "_law_feed" 1 (tr_L_feed A)) : FnOk P w K mg base (L2.CX P w) 13 f fd ["_law_script"] (toSp K 1 (tr_law A self_L_same self_L_tree self_L_tree_code self_L_tree_four)) :=
  fnD F sc_law (fun cdv A_ outer s H E_ c hr hP => by
    exact ⟨_, (ss_cons (sd_set (i := 1) sc_law.nd rfl (Or.inl rfl) (hP 1 (by decide)) (ed_callF H_L_feed (hr.mono (by decide)) takesC (ad_cons (dv 0) ad_nil)))
      (ss_cons (sd_for passesC rfl (id_range1 E.b_range (ad_cons ed_int ad_nil)) (gd_name (i := 2) sc_law.nd rfl (Or.inl rfl) (hP 2 (by decide))) (ss_cons (sd_set (i := 3) sc_law.nd rfl (Or.inl rfl) (hP 3 (by decide)) (ed_disp (ks := ["a", "b"]) (dps_cons (ed_callA [true] H_L_halves (hr.mono (by decide)) takesC (ad_cons (dv 1) (ad_cons ed_int ad_nil))) (dps_cons (ed_callA [true] H_L_halves (hr.mono (by decide)) takesC (ad_cons (dv 1) (ad_cons ed_int ad_nil))) dps_nil)) rfl rfl (fun z => by cases z) (by decide)))
      (ss_cons (sd_set (i := 4) sc_law.nd rfl (Or.inl rfl) (hP 4 (by decide)) (ed_disp (ks := ["a", "b"]) (dps_cons (ed_callF H_L_turn (hr.mono (by decide)) takesC (ad_cons (ed_dget (hu_of hr) (dv 3) ed_str (fun _ _ => rfl)) ad_nil)) (dps_cons (ed_callF H_L_turn (hr.mono (by decide)) takesC (ad_cons (ed_dget (hu_of hr) (dv 3) ed_str (fun _ _ => rfl)) ad_nil)) dps_nil)) rfl rfl (fun z => by cases z) (by decide)))
      (ss_cons (sd_set (i := 5) sc_law.nd rfl (Or.inl rfl) (hP 5 (by decide)) (ed_callA [true] H_L_tree (hr.mono (by decide)) takesC (ad_cons (dv 1) (ad_cons (ed_lst (ad_cons ed_str (ad_cons ed_str ad_nil))) (ad_cons ed_int ad_nil)))))
      (ss_cons (sd_if (td_cmp (op_eqD (r64 hr)) od_eq (ed_callA [true] H_L_take (hr.mono (by decide)) takesC (ad_cons (dv 1) (ad_cons ed_int ad_nil))) ed_int (nomark _)) (ss_one (sd_set (i := 5) sc_law.nd rfl (Or.inl rfl) (hP 5 (by decide)) (ed_tup (ad_cons ed_str (ad_cons (ed_tup (ad_cons ed_str (ad_cons (ed_tup (ad_cons ed_str (ad_cons (dv 5) (ad_cons (ed_tup (ad_cons ed_str (ad_cons (ed_tup (ad_cons ed_str (ad_cons (ed_callA [true] H_L_halves (hr.mono (by decide)) takesC (ad_cons (dv 1) (ad_cons ed_int ad_nil))) ad_nil))) (ad_cons (ed_tup (ad_cons ed_str (ad_cons (ed_callA [true] H_L_halves (hr.mono (by decide)) takesC (ad_cons (dv 1) (ad_cons ed_int ad_nil))) ad_nil))) ad_nil)))) ad_nil)))) ad_nil))) ad_nil))))) ss_nil)
      (ss_cons (sd_set (i := 6) sc_law.nd rfl (Or.inl rfl) (hP 6 (by decide)) (ed_callF H_L_tree_code (hr.mono (by decide)) takesC (ad_cons (dv 5) ad_nil)))
      (ss_cons (sd_set (i := 7) sc_law.nd rfl (Or.inl rfl) (hP 7 (by decide)) (dv 6))
      (ss_cons (sd_for passesC rfl (id_range1 E.b_range (ad_cons (ed_callB call_len cd_len E.b_len PySem.boot_len (ad_cons (dv 6) ad_nil)) ad_nil)) (gd_name (i := 8) sc_law.nd rfl (Or.inl rfl) (hP 8 (by decide))) (ss_one (sd_set (i := 7) sc_law.nd rfl (Or.inl rfl) (hP 7 (by decide)) (ed_callF H_L_fold (hr.mono (by decide)) takesC (ad_cons (dv 7) ad_nil)))))
      (ss_cons (sd_set (i := 9) sc_law.nd rfl (Or.inl rfl) (hP 9 (by decide)) (ed_callTy call_list_of cd_list E.b_list (by decide +kernel) (ad_cons (dv 6) ad_nil)))
      (ss_cons (sd_set (i := 10) sc_law.nd rfl (Or.inl rfl) (hP 10 (by decide)) (ed_callF H_shortened (hr.mono (by decide)) takesC (ad_cons (dv 9) ad_nil)))
      (ss_cons (sd_if (PWD.td (wd_or (td_not (td_val (ed_callF H_L_same (hr.mono (by decide)) takesC (ad_cons (ed_lst (ad_cons (dv 10) (ad_cons (ed_callF H_shortened (hr.mono (by decide)) takesC (ad_cons (dv 10) ad_nil)) ad_nil))) (ad_cons (ed_lst (ad_cons (dv 7) (ad_cons (dv 7) ad_nil))) ad_nil))))) (wd_or1 (td_neO (show TabM P w K mg base "__eq__" 2 _ from (TabM.cons "Four" E.c_Four (H_Four_eq.mono (by decide)) (TabM.cons "Turn" E.c_Turn (H_Turn_eq.mono (by decide)) TabM.nil))) (NeT.cons E.ne_Four (NeT.cons E.ne_Turn NeT.nil)) (hr.mono (by decide)) (op_neD (r64 hr)) od_ne (dv 9) (dv 6))))) (ss_one (sd_ret ed_bl)) ss_nil)
      (ss_cons (sd_if (PWD.td (wd_or (td_neO (show TabM P w K mg base "__eq__" 2 _ from (TabM.cons "Four" E.c_Four (H_Four_eq.mono (by decide)) (TabM.cons "Turn" E.c_Turn (H_Turn_eq.mono (by decide)) TabM.nil))) (NeT.cons E.ne_Four (NeT.cons E.ne_Turn NeT.nil)) (hr.mono (by decide)) (op_neD (r64 hr)) od_ne (ed_prop (show TabP P w K mg base "halves" 1 _ from (TabP.cons E.c_Four.cl (H_Four_halves.mono (by decide)) TabP.nil)) (hr.mono (by decide)) (ed_prop (show TabP P w K mg base "four" 1 _ from (TabP.cons E.c_Turn.cl (H_Turn_four.mono (by decide)) TabP.nil)) (hr.mono (by decide)) (ed_callF H_run (hr.mono (by decide)) takesC (ad_cons (dv 10) (ad_cons (dv 4) ad_nil))))) (ed_callF H_L_tree_four (hr.mono (by decide)) takesC (ad_cons (dv 5) (ad_cons (dv 3) ad_nil)))) (wd_or1 (td_neO (show TabM P w K mg base "__eq__" 2 _ from (TabM.cons "Four" E.c_Four (H_Four_eq.mono (by decide)) (TabM.cons "Turn" E.c_Turn (H_Turn_eq.mono (by decide)) TabM.nil))) (NeT.cons E.ne_Four (NeT.cons E.ne_Turn NeT.nil)) (hr.mono (by decide)) (op_neD (r64 hr)) od_ne (ed_callF H_run (hr.mono (by decide)) takesC (ad_cons (dv 10) (ad_cons (dv 4) ad_nil))) (ed_callF H_run (hr.mono (by decide)) takesC (ad_cons (dv 6) (ad_cons (dv 4) ad_nil))))))) (ss_one (sd_ret ed_bl)) ss_nil)
      (ss_one (sd_for passesC rfl (id_range2 E.b_range (ad_cons ed_int (ad_cons (ed_callB call_len cd_len E.b_len PySem.boot_len (ad_cons (dv 10) ad_nil)) ad_nil))) (gd_name (i := 8) sc_law.nd rfl (Or.inl rfl) (hP 8 (by decide))) (ss_one (sd_if (PWD.td (wd_and (td_cmp (op_eqD (r64 hr)) od_eq (ed_ix ix_seq od_ix (dv 10) (dv 8) (fun _ _ => rfl)) (ed_tup (ad_cons ed_str ad_nil)) (nomark _)) (wd_and1 (td_cmp (OpR.or op_in_seq (op_inD (r65 hr))) od_in (ed_ix ix_seq od_ix (ed_ix ix_seq od_ix (dv 10) (ed_op op_sub od_sub (dv 8) ed_int) (fun _ _ => rfl)) ed_int (fun _ _ => rfl)) (ed_tup (ad_cons ed_str (ad_cons ed_str ad_nil))) (by rfl))))) (ss_one (sd_ret ed_bl)) ss_nil))))))))))))))))
      (ss_one (sd_ret (ed_and (ed_cmp (op_eqD (r64 hr)) od_eq (ed_callF H_shortened (hr.mono (by decide)) takesC (ad_cons (ed_lst ad_nil) ad_nil)) (ed_lst ad_nil) (nomark _)) (ed_one (ed_cmp (op_eqD (r64 hr)) od_eq (ed_callF H_shortened (hr.mono (by decide)) takesC (ad_cons (ed_lst (ad_cons (ed_tup (ad_cons ed_str (ad_cons ed_str ad_nil))) ad_nil)) ad_nil)) (ed_lst (ad_cons (ed_tup (ad_cons ed_str (ad_cons ed_str ad_nil))) ad_nil)) (nomark _))))))))⟩) (fun ins R EX hl h => h.2)
end
end D
section
open D PySem PySem.Spec PyProof.Rows L2 G
local macro_rules | `(tactic| infer_instance) => `(tactic| array_get_dec)
local macro_rules | `(tactic| infer_instance) => `(tactic| first
  | ((with_reducible refine D.kNegO_n ?_ ?_); (exact rfl))
  | with_reducible refine D.dTruO_i ?_
  | ((with_reducible refine D.kTruO_i ?_ ?_); (decide))
  | ((with_reducible refine D.kTruO_n ?_ ?_); (exact rfl))
  | with_reducible refine D.kBl_i ?_
  | with_reducible refine D.fLen_t ?_
  | with_reducible refine D.fTuple_t ?_
  | with_reducible refine D.fIsiC_i ?_
  | with_reducible refine D.fIsiN_y ?_
  | ((with_reducible refine D.fIsiN_n ?_ ?_); (first | exact List.mem_cons_self | exact List.mem_cons_of_mem _ List.mem_cons_self))
  | ((with_reducible refine D.fIsiN_i ?_ ?_); (first | exact List.mem_cons_self | exact List.mem_cons_of_mem _ List.mem_cons_self))
  | ((with_reducible refine D.fIsiN_t ?_ ?_); (first | exact List.mem_cons_self | exact List.mem_cons_of_mem _ List.mem_cons_self))
  | ((with_reducible refine D.fAny_t (ns := ?_) ?_ ?_); rotate_left 1; (exact rfl))
  | ((with_reducible refine D.fLtR_i (ns := ?_) (ms := ?_) ?_ ?_ ?_); rotate_left 2; (exact rfl); (exact rfl))
  | with_reducible refine D.dTru_i ?_
  | with_reducible refine D.tru_int ?_
  | with_reducible refine D.tru_bl ?_
  | with_reducible refine D.tru_lst ?_
  | with_reducible refine D.dAnd_i ?_
  | with_reducible refine D.dAndV_i ?_
  | with_reducible refine D.dOrV_i ?_
  | with_reducible refine D.dNotV_i ?_
  | with_reducible refine D.if_ta ?_
  | with_reducible refine D.if_fa ?_
  | with_reducible refine D.if_f ?_
  | with_reducible refine D.rt_seq ?_
  | with_reducible refine D.bk_seq ?_
  | with_reducible refine D.ct_seq ?_
  | with_reducible refine D.rt_loop ?_
  | with_reducible refine D.bk_loop ?_
  | with_reducible refine D.ct_loop ?_
  | with_reducible refine D.dBreak_i ?_
  | with_reducible refine D.dCont_i ?_
  | with_reducible refine D.dRetN_i ?_
  | ((with_reducible refine D.nx_end (o := ?_) ?_ ?_); rotate_left 1; (repeat (first | with_reducible exact D.take_z | ((with_reducible refine D.take_s (l' := ?_) ?_); rotate_left 1))))
  | ((with_reducible refine D.fin_ref (d := ?_) ?_ ?_); rotate_left 1; (exact rfl))
  | ((with_reducible refine D.fin_own (w := ?_) ?_ ?_ ?_); rotate_left 1; (exact rfl); (decide))
  | ((with_reducible refine D.gN_own (ρ' := ?_) (l := ?_) (ρ2 := ?_) ?_ ?_ ?_ ?_); rotate_left 3; (exact rfl); (repeat (first | with_reducible exact D.set_z | ((with_reducible refine D.set_s (l' := ?_) ?_); rotate_left 1))); (repeat (first | with_reducible exact D.set_z | ((with_reducible refine D.set_s (l' := ?_) ?_); rotate_left 1))))
  | with_reducible refine D.gNF_i ?_
  | ((with_reducible refine D.gUnlD_i ?_ ?_); (exact rfl))
  | ((with_reducible refine D.gUnlD_d ?_ ?_); (exact rfl))
  | ((with_reducible refine D.kPar_3 (ρ' := ?_) (ρ2 := ?_) (ρ3 := ?_) ?_ ?_ ?_ ?_); rotate_left 3; (repeat (first | with_reducible exact D.set_z | ((with_reducible refine D.set_s (l' := ?_) ?_); rotate_left 1))); (repeat (first | with_reducible exact D.set_z | ((with_reducible refine D.set_s (l' := ?_) ?_); rotate_left 1))); (repeat (first | with_reducible exact D.set_z | ((with_reducible refine D.set_s (l' := ?_) ?_); rotate_left 1))))
  | with_reducible refine D.dParF_i ?_
  | ((with_reducible refine D.kParF_i (ρ' := ?_) (ρ2 := ?_) ?_ ?_ ?_); rotate_left 2; (repeat (first | with_reducible exact D.set_z | ((with_reducible refine D.set_s (l' := ?_) ?_); rotate_left 1))); (repeat (first | with_reducible exact D.set_z | ((with_reducible refine D.set_s (l' := ?_) ?_); rotate_left 1))))
  | ((with_reducible refine D.dAug_i (d := ?_) ?_ ?_); rotate_left 1; (exact rfl))
  | with_reducible refine D.kAug_i ?_
  | with_reducible refine D.gSubD_i ?_
  | with_reducible refine D.kSub_i ?_
  | ((with_reducible refine D.kSub2_i (ρ' := ?_) (l := ?_) (m := ?_) (l' := ?_) ?_ ?_ ?_ ?_ ?_); rotate_left 4; (exact rfl); (exact rfl); (repeat (first | with_reducible exact D.dset_z | ((with_reducible refine D.dset_s (l' := ?_) ?_); rotate_left 1))); (repeat (first | with_reducible exact D.set_z | ((with_reducible refine D.set_s (l' := ?_) ?_); rotate_left 1))))
  | with_reducible refine D.kRng_i ?_ ?_
  | with_reducible refine D.dZip_i ?_
  | ((with_reducible refine D.kZip_lE (z := ?_) ?_ ?_); rotate_left 1; (repeat (first | with_reducible exact D.zip_nil | ((with_reducible refine D.zip_cons (z := ?_) ?_); rotate_left 1))))
  | ((with_reducible refine D.kZip_tE (z := ?_) ?_ ?_); rotate_left 1; (repeat (first | with_reducible exact D.zip_nil | ((with_reducible refine D.zip_cons (z := ?_) ?_); rotate_left 1))))
  | ((with_reducible refine D.gcTup_i ?_ ?_); (exact rfl))
  | ((with_reducible refine D.gcCons_i (ρ' := ?_) ?_ ?_); rotate_left 1; (repeat (first | with_reducible exact D.set_z | ((with_reducible refine D.set_s (l' := ?_) ?_); rotate_left 1))))
  | with_reducible refine D.gcNil_i ?_
  | with_reducible refine D.dYes_i ?_
  | with_reducible refine D.isi_int_int ?_
  | with_reducible refine D.isi_int_bool ?_
  | with_reducible refine D.isi_int_str ?_
  | with_reducible refine D.isi_int_list ?_
  | with_reducible refine D.isi_int_tuple ?_
  | with_reducible refine D.isi_bool_int ?_
  | with_reducible refine D.isi_bool_bool ?_
  | with_reducible refine D.isi_str_int ?_
  | with_reducible refine D.isi_str_bool ?_
  | with_reducible refine D.isi_str_str ?_
  | with_reducible refine D.isi_str_list ?_
  | with_reducible refine D.isi_str_tuple ?_
  | with_reducible refine D.isi_NoneType_int ?_
  | with_reducible refine D.isi_NoneType_bool ?_
  | with_reducible refine D.isi_NoneType_str ?_
  | with_reducible refine D.isi_list_int ?_
  | with_reducible refine D.isi_list_bool ?_
  | with_reducible refine D.isi_list_str ?_
  | with_reducible refine D.isi_list_list ?_
  | with_reducible refine D.isi_list_tuple ?_
  | with_reducible refine D.isi_tuple_int ?_
  | with_reducible refine D.isi_tuple_bool ?_
  | with_reducible refine D.isi_tuple_str ?_
  | with_reducible refine D.isi_tuple_list ?_
  | with_reducible refine D.isi_tuple_tuple ?_
  | with_reducible refine D.dIsiT_i ?_
  | with_reducible refine D.isiT_int ?_
  | with_reducible refine D.isiT_str ?_
  | with_reducible refine D.isiT_list ?_
  | with_reducible refine D.isiT_tuple ?_
  | with_reducible refine D.isiT_NoneType ?_
  | with_reducible refine D.lcK_cons ?_
  | with_reducible refine D.fIn_04 ?_
  | with_reducible refine D.sum4 ?_
  | with_reducible refine D.sum3 ?_
  | with_reducible refine D.all4 ?_
  | ((with_reducible refine D.if_dy ?_ ?_); (with_reducible assumption))
  | ((with_reducible refine D.if_dn ?_ ?_); (with_reducible assumption))
  | ((with_reducible refine D.kSet_i (ρ' := ?_) ?_ ?_); rotate_left 1; (repeat (first | with_reducible exact D.set_z | ((with_reducible refine D.set_s (l' := ?_) ?_); rotate_left 1))))
  | ((with_reducible refine D.kW0_i (ρ' := ?_) ?_ ?_); rotate_left 1; (repeat (first | with_reducible exact D.wipe_nil | ((with_reducible refine D.wipe_cons (ρ1 := ?_) ?_ ?_); rotate_left 1) | with_reducible exact D.set_z | ((with_reducible refine D.set_s (l' := ?_) ?_); rotate_left 1))))
  | with_reducible refine D.dSelf_i ?_
  | ((with_reducible refine D.kSelf_i (ρ' := ?_) (l := ?_) (ns := ?_) (ns' := ?_) (l' := ?_) ?_ ?_ ?_ ?_ ?_); rotate_left 5; (exact rfl); (decide); (exact rfl); (repeat (first | with_reducible exact D.set_z | ((with_reducible refine D.set_s (l' := ?_) ?_); rotate_left 1)))))
local macro_rules | `(tactic| infer_instance) => `(tactic| first
  | with_reducible refine D.kRng_4 ?_
  | ((with_reducible refine D.kCall_2l (w := ?_) ?_ ?_); rotate_left 1; (exact rfl))
  | with_reducible refine D.fInt_i ?_
  | with_reducible refine D.fList_l ?_
  | with_reducible refine D.fList_t ?_
  | with_reducible refine D.fin_new ?_
  | with_reducible refine D.kItS_t ?_
  | with_reducible refine D.kRng_3 ?_
  | ((with_reducible refine D.fAdd_tE (z := ?_) ?_ ?_ ?_); rotate_left 1; (repeat (first | with_reducible exact D.app_nil | ((with_reducible refine D.app_cons (z := ?_) ?_); rotate_left 1))); (exact rfl))
  | with_reducible refine D.fLt_i ?_
  | with_reducible refine D.fLe_i ?_
  | with_reducible refine D.fGe_i ?_
  | with_reducible refine D.fEq_i ?_
  | with_reducible refine D.fNe_i ?_
  | with_reducible refine D.kP_newl ?_
  | ((with_reducible refine D.kP_ownl (l := ?_) ?_ ?_); rotate_left 1; (exact rfl))
  | with_reducible refine D.kD_newl ?_
  | ((with_reducible refine D.kDs_ownl (l := ?_) (ρ' := ?_) ?_ ?_ ?_); rotate_left 2; (exact rfl); (repeat (first | with_reducible exact D.set_z | ((with_reducible refine D.set_s (l' := ?_) ?_); rotate_left 1))))
  | ((with_reducible refine D.kCall_1 (w := ?_) ?_ ?_); rotate_left 1; (exact rfl))
  | ((with_reducible refine D.kCall_3 (w := ?_) ?_ ?_); rotate_left 1; (exact rfl))
  | with_reducible refine D.dFld_i ?_
  | ((with_reducible refine D.kFld_i (d := ?_) ?_ ?_); rotate_left 1; (first | exact D.look_hit | exact D.look_skip (by decide) D.look_hit))
  | ((with_reducible refine D.kMeth_s ?_ ?_); (decide))
  | with_reducible refine D.dProp_i ?_
  | ((with_reducible refine D.kProp_i ?_ ?_); (decide))
  | ((with_reducible refine D.kProp_s ?_ ?_); (decide))
  | with_reducible refine D.dMakeS_i ?_
  | with_reducible refine D.kMakeS_t ?_
  | with_reducible refine D.kMakeS_l ?_
  | ((with_reducible refine D.kOpO_s ?_ ?_); (decide))
  | ((with_reducible refine D.kOpO_n ?_ ?_); (exact rfl))
  | ((with_reducible refine D.kNeO_s ?_ ?_); (decide))
  | ((with_reducible refine D.kNeO_n ?_ ?_); (exact rfl)))
local macro_rules | `(tactic| infer_instance) => `(tactic| first
  | with_reducible refine D.dMut_i ?_
  | ((with_reducible refine D.kMut_i (l := ?_) ?_ ?_); rotate_left 1; (exact rfl))
  | ((with_reducible refine D.kMut3_i (l := ?_) ?_ ?_); rotate_left 1; (exact rfl))
  | ((with_reducible refine D.mAppend_E (z := ?_) ?_ ?_ ?_); rotate_left 1; (repeat (first | with_reducible exact D.app_nil | ((with_reducible refine D.app_cons (z := ?_) ?_); rotate_left 1))); (exact rfl))
  | with_reducible refine D.dFor_i ?_
  | with_reducible refine D.dRng1_i ?_
  | ((with_reducible refine D.kPut_i (ρ' := ?_) ?_ ?_); rotate_left 1; (repeat (first | with_reducible exact D.set_z | ((with_reducible refine D.set_s (l' := ?_) ?_); rotate_left 1))))
  | ((with_reducible refine D.fAdd_lE (z := ?_) ?_ ?_ ?_); rotate_left 1; (repeat (first | with_reducible exact D.app_nil | ((with_reducible refine D.app_cons (z := ?_) ?_); rotate_left 1))); (exact rfl))
  | with_reducible refine D.dTup_i ?_
  | with_reducible refine D.dOCall_i ?_
  | ((with_reducible refine D.kOCall_i ?_ ?_); (decide))
  | ((with_reducible refine D.gTupD_i ?_ ?_); (exact rfl))
  | with_reducible refine D.gNilD_i ?_
  | ((with_reducible refine D.kD_ownl (l := ?_) (ρ' := ?_) ?_ ?_ ?_); rotate_left 2; (exact rfl); (repeat (first | with_reducible exact D.set_z | ((with_reducible refine D.set_s (l' := ?_) ?_); rotate_left 1))))
  | with_reducible refine D.fAbs_i ?_
  | ((with_reducible refine D.fIx_l (d := ?_) ?_ ?_); rotate_left 1; (exact rfl))
  | with_reducible refine D.dNot_i ?_
  | with_reducible refine D.if_t ?_
  | with_reducible refine D.fMod_i ?_ ?_
  | with_reducible refine D.fGt_i ?_
  | with_reducible refine D.dMake_i ?_
  | with_reducible refine D.fLen_l ?_
  | with_reducible refine D.dIf_i ?_
  | with_reducible refine D.dPar_i ?_
  | ((with_reducible refine D.kPar_2 (ρ' := ?_) (ρ2 := ?_) ?_ ?_ ?_); rotate_left 2; (repeat (first | with_reducible exact D.set_z | ((with_reducible refine D.set_s (l' := ?_) ?_); rotate_left 1))); (repeat (first | with_reducible exact D.set_z | ((with_reducible refine D.set_s (l' := ?_) ?_); rotate_left 1)))))
local macro_rules | `(tactic| infer_instance) => `(tactic| first
  | ((with_reducible refine D.kNeO_i ?_ ?_); (decide))
  | with_reducible refine D.kNot_i ?_
  | with_reducible refine D.fTuple_l ?_
  | with_reducible refine D.dLc_i ?_
  | with_reducible refine D.dItS_i ?_
  | with_reducible refine D.lcK_nil ?_
  | ((with_reducible refine D.kLc_i (ρ' := ?_) ?_ ?_); rotate_left 1; (repeat (first | with_reducible exact D.wipe_nil | ((with_reducible refine D.wipe_cons (ρ1 := ?_) ?_ ?_); rotate_left 1) | with_reducible exact D.set_z | ((with_reducible refine D.set_s (l' := ?_) ?_); rotate_left 1))))
  | ((with_reducible refine D.fIx_t (d := ?_) ?_ ?_); rotate_left 1; (exact rfl))
  | ((with_reducible refine D.gN_new (ρ' := ?_) ?_ ?_); rotate_left 1; (repeat (first | with_reducible exact D.set_z | ((with_reducible refine D.set_s (l' := ?_) ?_); rotate_left 1))))
  | with_reducible refine D.kItS_l ?_
  | with_reducible refine D.fNeg_i ?_
  | with_reducible refine D.dUn_i ?_
  | with_reducible refine D.kP_dat ?_
  | with_reducible refine D.dMeth_i ?_
  | ((with_reducible refine D.kMeth_i ?_ ?_); (decide))
  | with_reducible refine D.dOr_i ?_
  | with_reducible refine D.dNext_i ?_
  | with_reducible refine D.dDrop_i ?_
  | with_reducible refine D.dIfS_i ?_)
local macro_rules | `(tactic| infer_instance) => `(tactic| first
  | with_reducible refine D.dLst_i ?_
  | ((with_reducible refine D.kCall_2 (w := ?_) ?_ ?_); rotate_left 1; (exact rfl))
  | with_reducible refine D.dTB_i ?_
  | with_reducible refine D.kB_i ?_
  | with_reducible refine D.dRet_i ?_
  | ((with_reducible refine D.rt_end (o := ?_) ?_ ?_); rotate_left 1; (repeat (first | with_reducible exact D.take_z | ((with_reducible refine D.take_s (l' := ?_) ?_); rotate_left 1))))
  | with_reducible refine D.fin_dat ?_
  | ((with_reducible refine D.gConsD_i (ρ' := ?_) ?_ ?_); rotate_left 1; (repeat (first | with_reducible exact D.set_z | ((with_reducible refine D.set_s (l' := ?_) ?_); rotate_left 1))))
  | with_reducible refine D.dOpO_i ?_
  | ((with_reducible refine D.kOpO_i ?_ ?_); (decide))
  | with_reducible refine D.if_nt ?_
  | with_reducible refine D.dNegO_i ?_
  | ((with_reducible refine D.kNegO_i ?_ ?_); (decide))
  | with_reducible refine D.kDs_newl ?_
  | with_reducible refine D.nx_loop ?_
  | with_reducible refine D.dNeO_i ?_)
local macro_rules | `(tactic| infer_instance) => `(tactic| first
  | ((with_reducible refine D.gN_dat (ρ' := ?_) ?_ ?_); rotate_left 1; (repeat (first | with_reducible exact D.set_z | ((with_reducible refine D.set_s (l' := ?_) ?_); rotate_left 1))))
  | ((with_reducible refine D.gcN_i (ρ' := ?_) ?_ ?_); rotate_left 1; (repeat (first | with_reducible exact D.set_z | ((with_reducible refine D.set_s (l' := ?_) ?_); rotate_left 1))))
  | with_reducible refine D.lcK_yes ?_
  | ((with_reducible refine D.kW_i (ρ' := ?_) ?_ ?_); rotate_left 1; (repeat (first | with_reducible exact D.wipe_nil | ((with_reducible refine D.wipe_cons (ρ1 := ?_) ?_ ?_); rotate_left 1) | with_reducible exact D.set_z | ((with_reducible refine D.set_s (l' := ?_) ?_); rotate_left 1))))
  | with_reducible refine D.fAdd_i ?_
  | ((with_reducible refine D.and_len ?_ ?_); (exact rfl))
  | with_reducible refine D.fSub_i ?_
  | with_reducible refine D.fDiv_i ?_ ?_
  | with_reducible refine D.dCB_i ?_
  | ((with_reducible refine D.kCB_i (ds := ?_) ?_ ?_); rotate_left 1; (repeat (first | with_reducible exact D.pks_nil | ((with_reducible refine D.pks_dat (ds := ?_) ?_); rotate_left 1) | ((with_reducible refine D.pks_newl (ds := ?_) ?_); rotate_left 1) | ((with_reducible refine D.pks_ownl (l := ?_) (ds := ?_) ?_ ?_); rotate_left 2; (exact rfl)))))
  | with_reducible refine D.dCall_i ?_
  | ((with_reducible refine D.kBack_i (ρ' := ?_) (w := ?_) ?_ ?_ ?_); rotate_left 2; (exact rfl); (repeat (first | with_reducible exact D.set_z | ((with_reducible refine D.set_s (l' := ?_) ?_); rotate_left 1)))))
local macro_rules | `(tactic| infer_instance) => `(tactic| first
  | with_reducible refine D.kDs_nil ?_
  | with_reducible refine D.fMul_i ?_ ?_
  | with_reducible refine D.dSeq_k fun K hK => ?_
  | with_reducible refine D.nx_seq ?_
  | with_reducible refine D.cont_i (by assumption) ?_
  | with_reducible refine D.kD_dat ?_
  | ((with_reducible refine D.dV_o (w := ?_) ?_ ?_); rotate_left 1; (exact rfl))
  | with_reducible refine D.dAsg_i ?_
  | with_reducible refine D.dCallF_i ?_)
local macro_rules | `(tactic| infer_instance) => `(tactic| first
  | ((with_reducible refine D.dV_d (d := ?_) ?_ ?_); rotate_left 1; (exact rfl))
  | with_reducible refine D.dCons_i ?_
  | with_reducible refine D.dOp_i ?_
  | with_reducible refine D.pk2_i D.pk_dat D.pk_dat ?_
  | ((with_reducible refine D.pk2_i (b := ?_) D.pk_dat ?_ ?_); rotate_left 1; (first | with_reducible exact D.pk_newl | ((with_reducible refine D.pk_ownl (l := ?_) ?_); rotate_left 1; exact rfl)))
  | ((with_reducible refine D.pk2_i (a := ?_) (b := ?_) ?_ ?_ ?_); rotate_left 2; (first | with_reducible exact D.pk_newl | ((with_reducible refine D.pk_ownl (l := ?_) ?_); rotate_left 1; exact rfl)); (first | with_reducible exact D.pk_dat | with_reducible exact D.pk_newl | ((with_reducible refine D.pk_ownl (l := ?_) ?_); rotate_left 1; exact rfl)))
  | with_reducible refine D.dNil_i ?_
  | with_reducible refine D.kDs_dat ?_
  | with_reducible refine D.dC_i ?_)
set_option Elab.async false
set_option linter.all false
set_option maxRecDepth 100000
set_option maxHeartbeats 1000000
namespace D
open PySem PySem.Spec PyProof.Rows L2 G
local macro_rules | `(tactic| infer_instance) => `(tactic| first | (with_reducible refine forD_nil ?_) | (with_reducible refine forD_cons ?_))
local macro_rules | `(tactic| infer_instance) => `(tactic| first | ((with_reducible refine lcD_i ?_ ?_); (exact rfl)))
abbrev rowD (u : Q4) : Dt := .tup [.int u.a, .int u.b, .int u.c, .int u.d]
abbrev fourD (A : Cs) (u : Q4) : Dt := .obj A.Four ["doubled"] [.tup [.int u.a, .int u.b, .int u.c, .int u.d]]
section
variable {A : Cs} {R : Res → List En → Prop} {EX : Xc → List En → Prop} {u v : Q4} {n m : Nat}
theorem pr_common {a b : Int} (h : ∀ o, R (.dat (.int (Int.gcd a b))) o) : spF (tr_common A) [.int a, .int b] R EX := by
  unfold spF tr_common
  refine ⟨rfl, ?_⟩
  simp only [List.map_cons, List.map_nil, rhoD_cons, rhoD_nil, rhoD_z]
  repeat infer_instance
  refine while_i (fun m ρ => ∃ g l : Nat, m = l ∧ Nat.gcd g l = Int.gcd a b ∧ ρ = [.dat (.int a), .dat (.int b), .dat (.int g), .dat (.int l)]) b.natAbs ⟨a.natAbs, b.natAbs, rfl, rfl, rfl⟩ ?_
  rintro m ρ ⟨g, l, rfl, hg, rfl⟩
  repeat infer_instance
  refine if_n0 (fun h0 => ?_) (fun h0 => ?_)
  · repeat infer_instance
    · have : 0 < m := by omega
      exact ⟨g % m, Nat.mod_lt _ this, m, g % m, rfl, by rw [← hg, Nat.gcd_comm g, Nat.gcd_rec m g]; exact Nat.gcd_comm _ _, rfl⟩
    · omega
  · have : m = 0 := by omega
    subst this
    repeat infer_instance
    have := h [.dat (.int a), .dat (.int b)]
    rw [← hg, Nat.gcd_zero_right] at this
    exact this
theorem pr_isnum {x : Int} (h : ∀ o, R (.dat (.bl true)) o) : spF (tr_is_number A) [.int x] R EX := by
  unfold spF tr_is_number
  refine ⟨rfl, ?_⟩
  simp only [List.map_cons, List.map_nil, rhoD_cons, rhoD_nil, rhoD_z]
  repeat infer_instance
  exact h _
local macro_rules | `(tactic| infer_instance) => `(tactic| first | (with_reducible refine pr_common fun o => ?_) | (with_reducible refine pr_isnum fun o => ?_))
theorem four_ok (a b c d : Int) : decide (a % 2 + b % 2 + c % 2 + d % 2 = 0 ∨ a % 2 + b % 2 + c % 2 + d % 2 = 4) = decide (Q4.Odd4 ⟨a, b, c, d⟩ ∨ Q4.Even4 ⟨a, b, c, d⟩) := by
  rw [Bool.eq_iff_iff, decide_eq_true_eq, decide_eq_true_eq]
  simp only [Q4.Odd4, Q4.Even4]
  omega
theorem pr_halvesT {a b c d : Int} (h : ∀ o, R (.dat (.bl (decide (Q4.Odd4 ⟨a, b, c, d⟩ ∨ Q4.Even4 ⟨a, b, c, d⟩)))) o) : spF (tr_are_halves A) [.tup [.int a, .int b, .int c, .int d]] R EX := by
  unfold spF tr_are_halves
  refine ⟨rfl, ?_⟩
  simp only [List.map_cons, List.map_nil, rhoD_cons, rhoD_nil, rhoD_z]
  repeat infer_instance
  apply if_dy
  · rfl
  repeat infer_instance
  · rw [four_ok]; exact h _
  all_goals decide
theorem pr_halvesL {a b c d : Int} (h : ∀ o, R (.dat (.bl (decide (Q4.Odd4 ⟨a, b, c, d⟩ ∨ Q4.Even4 ⟨a, b, c, d⟩)))) o) : spF (tr_are_halves A) [.lst [.int a, .int b, .int c, .int d]] R EX := by
  unfold spF tr_are_halves
  refine ⟨rfl, ?_⟩
  simp only [List.map_cons, List.map_nil, rhoD_cons, rhoD_nil, rhoD_z]
  repeat infer_instance
  apply if_dy
  · rfl
  repeat infer_instance
  · rw [four_ok]; exact h _
  all_goals decide
local macro_rules | `(tactic| infer_instance) => `(tactic| first | (with_reducible refine pr_halvesT fun o => ?_) | (with_reducible refine pr_halvesL fun o => ?_))
end
end D
set_option Elab.async false
set_option linter.all false
set_option maxRecDepth 100000
set_option maxHeartbeats 1000000
namespace D
open PySem PySem.Spec PyProof.Rows L2 G
local macro_rules | `(tactic| infer_instance) => `(tactic| first | (with_reducible refine forD_nil ?_) | (with_reducible refine forD_cons ?_))
local macro_rules | `(tactic| infer_instance) => `(tactic| first | ((with_reducible refine lcD_i ?_ ?_); (exact rfl)))
local macro_rules | `(tactic| array_get_dec) => `(tactic| first | (with_reducible refine pr_common fun o => ?_) | (with_reducible refine pr_isnum fun o => ?_) | (with_reducible refine pr_halvesT fun o => ?_) | (with_reducible refine pr_halvesL fun o => ?_))
section
variable {A : Cs} {R : Res → List En → Prop} {EX : Xc → List En → Prop} {u v : Q4} {n m : Nat}
theorem par_oe (p : u.Par) : Q4.Odd4 u ∨ Q4.Even4 u := by unfold Q4.Odd4 Q4.Even4; unfold Q4.Par at p; omega
theorem mk_Four {a b c d : Int} {R : Dt → Prop} {EX : Xc → Prop} (p : Q4.Par ⟨a, b, c, d⟩) (h : R (fourD A ⟨a, b, c, d⟩)) : mkF A.Four (star1 (tr_Four_init A)) [.int a, .int b, .int c, .int d] R EX := by
  refine star1_i (ds := [.int a, .int b, .int c, .int d]) (Nat.le_of_ble_eq_true rfl) ?_
  unfold tr_Four_init
  refine ⟨rfl, ?_⟩
  simp only [List.map_cons, List.map_nil, rhoD_cons, rhoD_nil, rhoD_z]
  repeat infer_instance
  refine if_dy (par_oe p) ?_
  repeat infer_instance
  exact h
local macro_rules | `(tactic| array_get_dec) => `(tactic| first | (with_reducible refine mk_Four ?_ ?_))
theorem pr_fhalves (h : ∀ o, R (.dat (rowD u)) o) : spF (tr_Four_halves A) [fourD A u] R EX := by
  unfold spF tr_Four_halves
  refine ⟨rfl, ?_⟩
  simp only [List.map_cons, List.map_nil, rhoD_cons, rhoD_nil, rhoD_z]
  repeat infer_instance
  exact h _
theorem pr_neg (p : u.Par) (h : ∀ o, R (.dat (fourD A u.neg)) o) : spF (tr_Four_neg A) [fourD A u] R EX := by
  unfold spF tr_Four_neg
  refine ⟨rfl, ?_⟩
  simp only [List.map_cons, List.map_nil, rhoD_cons, rhoD_nil, rhoD_z]
  repeat infer_instance
  · exact Q4.neg_par p
  · exact h _
theorem pr_mir (p : u.Par) (h : ∀ o, R (.dat (fourD A u.mir)) o) : spF (tr_Four_mirrored A) [fourD A u] R EX := by
  unfold spF tr_Four_mirrored
  refine ⟨rfl, ?_⟩
  simp only [List.map_cons, List.map_nil, rhoD_cons, rhoD_nil, rhoD_z]
  repeat infer_instance
  · exact Q4.mir_par p
  · exact h _
theorem cdiv2 (x : Int) : CDivW x 2 := cdivW (n := 2) (by decide) (by unfold Bt; decide) (by decide)
theorem pr_mul (p : u.Par) (q : v.Par) (hu : u.Bd n) (hv : v.Bd m) (l : n + m ≤ 100000) (h : ∀ o, R (.dat (fourD A (Q4.mul u v))) o) : spF (tr_Four_mul A) [fourD A u, fourD A v] R EX := by
  obtain ⟨a1, a2, a3, a4⟩ := hu
  obtain ⟨b1, b2, b3, b4⟩ := hv
  unfold spF tr_Four_mul
  refine ⟨rfl, ?_⟩
  simp only [List.map_cons, List.map_nil, rhoD_cons, rhoD_nil, rhoD_z]
  repeat infer_instance
  · exact (Q4.mul_all p q).2
  · exact h _
  all_goals first | exact cdiv2 _ | exact cmulW (n := n) (m := m) (by assumption) (by assumption) (by omega)
theorem pr_bool (h : ∀ o, R (.dat (.bl (decide (u ≠ ⟨0, 0, 0, 0⟩)))) o) : spF (tr_Four_bool A) [fourD A u] R EX := by
  unfold spF tr_Four_bool
  refine ⟨rfl, ?_⟩
  simp only [List.map_cons, List.map_nil, rhoD_cons, rhoD_nil, rhoD_z]
  repeat infer_instance
  have e : ([u.a, u.b, u.c, u.d].any (· != 0)) = decide (u ≠ ⟨0, 0, 0, 0⟩) := by
    rw [Bool.eq_iff_iff, decide_eq_true_eq]
    obtain ⟨a, b, c, d⟩ := u
    simp
    by_cases h1 : a = 0 <;> by_cases h2 : b = 0 <;> by_cases h3 : c = 0 <;> by_cases h4 : d = 0 <;> simp [*]
  show R (.dat (.bl ([u.a, u.b, u.c, u.d].any (· != 0)))) _
  rw [e]
  exact h _
theorem pr_eq (h : ∀ o, R (.dat (.bl (decide (u = v)))) o) : spF (tr_Four_eq A) [fourD A u, fourD A v] R EX := by
  unfold spF tr_Four_eq
  refine ⟨rfl, ?_⟩
  simp only [List.map_cons, List.map_nil, rhoD_cons, rhoD_nil, rhoD_z]
  repeat infer_instance
  refine ⟨rfl, rfl, ?_⟩
  have e : PyData.eqv (.tuple [.int u.a, .int u.b, .int u.c, .int u.d]) (.tuple [.int v.a, .int v.b, .int v.c, .int v.d]) = decide (u = v) := by
    rw [Bool.eq_iff_iff, decide_eq_true_eq]
    obtain ⟨a, b, c, d⟩ := u
    obtain ⟨a', b', c', d'⟩ := v
    simp [PyData.eqv, PyData.eqvAll]
  rw [e]
  repeat infer_instance
  exact h _
end
end D
set_option Elab.async false
set_option linter.all false
set_option maxRecDepth 100000
set_option maxHeartbeats 1000000
namespace D
open PySem PySem.Spec PyProof.Rows L2 G
local macro_rules | `(tactic| infer_instance) => `(tactic| first | (with_reducible refine forD_nil ?_) | (with_reducible refine forD_cons ?_))
local macro_rules | `(tactic| infer_instance) => `(tactic| first | ((with_reducible refine lcD_i ?_ ?_); (exact rfl)))
local macro_rules | `(tactic| array_get_dec) => `(tactic| first | (with_reducible refine pr_common fun o => ?_) | (with_reducible refine pr_isnum fun o => ?_) | (with_reducible refine pr_halvesT fun o => ?_) | (with_reducible refine pr_halvesL fun o => ?_) | (with_reducible refine mk_Four ?_ ?_) | (with_reducible refine pr_fhalves fun o => ?_) | (with_reducible refine pr_bool fun o => ?_) | (with_reducible refine pr_eq fun o => ?_))
abbrev turnD (A : Cs) (u : Q4) : Dt := .obj A.Turn ["lead"] [fourD A u]
abbrev z4 : Q4 := ⟨0, 0, 0, 0⟩
section
variable {A : Cs} {R : Res → List En → Prop} {EX : Xc → List En → Prop} {u v : Q4} {n m : Nat}
theorem pr_content (p : u.Par) (nu : u ≠ ⟨0, 0, 0, 0⟩) (hu : u.Bd n) (l : n ≤ 8000) (h : ∀ o, R (.dat (.int u.con)) o) : spF (tr_Four_content A) [fourD A u] R EX := by
  have g0 := (Q4.g_over nu).1
  have gb : Bt n u.g := g_bd hu nu
  have dv : ∀ x, CDivW x u.g := fun x => cdivW g0 gb l
  unfold spF tr_Four_content
  refine ⟨rfl, ?_⟩
  simp only [List.map_cons, List.map_nil, rhoD_cons, rhoD_nil, rhoD_z]
  repeat infer_instance
  refine if_n0 (fun h0 => ?_) (fun h0 => absurd h0 (by show u.g ≠ 0; omega))
  repeat infer_instance
  · refine if_d (fun hc => ?_) (fun hc => ?_)
    · repeat infer_instance
      have e : u.con = u.g := by unfold Q4.con; exact if_pos hc
      have := h [.dat (fourD A u)]
      rw [e] at this
      exact this
    · repeat infer_instance
      · have e : u.con = u.g / 2 := by unfold Q4.con; exact if_neg hc
        have := h [.dat (fourD A u)]
        rw [e] at this
        exact this
      · exact cdiv2 _
  all_goals exact dv _
theorem pr_divided (p : u.Par) (nu : u ≠ ⟨0, 0, 0, 0⟩) (hu : u.Bd n) (l : n ≤ 8000) (h : ∀ o, R (.dat (fourD A (u.over u.con))) o) : spF (tr_Four_divided A) [fourD A u, .int u.con] R EX := by
  obtain ⟨c0, pv, e, cg⟩ := Q4.con_all p nu
  have g0 := (Q4.g_over nu).1
  have gb : Bt n u.g := g_bd hu nu
  have cb : Bt n u.con := by unfold Bt at *; omega
  have dv : ∀ x, CDivW x u.con := fun x => cdivW c0 cb l
  unfold spF tr_Four_divided
  refine ⟨rfl, ?_⟩
  simp only [List.map_cons, List.map_nil, rhoD_cons, rhoD_nil, rhoD_z]
  repeat infer_instance
  refine if_dn (by omega) ?_
  repeat infer_instance
  refine pr_content p nu hu l fun o => ?_
  repeat infer_instance
  · refine if_n0 (fun h0 => absurd (Int.emod_self) h0) (fun h0 => ?_)
    repeat infer_instance
    · exact pv.par
    · exact h _
    all_goals exact dv _
  all_goals exact c0
theorem pr_lead (p : u.Par) (nu : u ≠ ⟨0, 0, 0, 0⟩) (hu : u.Bd n) (l : n ≤ 8000) (h : ∀ o, R (.dat (fourD A u.lead)) o) : spF (tr_lead_of A) [fourD A u] R EX := by
  unfold spF tr_lead_of
  refine ⟨rfl, ?_⟩
  simp only [List.map_cons, List.map_nil, rhoD_cons, rhoD_nil, rhoD_z]
  repeat infer_instance
  refine pr_content p nu hu l fun o => ?_
  repeat infer_instance
  refine pr_divided p nu hu l fun o => ?_
  repeat infer_instance
  have e : u.lead = _ := rfl
  conv at e => rhs; unfold Q4.lead
  by_cases c : HT.lexLt [(u.over u.con).a, (u.over u.con).b, (u.over u.con).c, (u.over u.con).d] [0, 0, 0, 0] = true
  · rw [if_pos c] at e
    rw [if_pos c]
    repeat infer_instance
    refine pr_neg (Q4.con_all p nu).2.1.par fun o => ?_
    rw [e] at h
    repeat infer_instance
    exact h _
  · rw [if_neg c] at e
    rw [if_neg c]
    rw [e] at h
    repeat infer_instance
    exact h _
theorem mk_Turn {R : Dt → Prop} {EX : Xc → Prop} (p : u.Par) (nu : u ≠ ⟨0, 0, 0, 0⟩) (hu : u.Bd n) (l : n ≤ 8000) (h : R (turnD A u.lead)) : mkF A.Turn (tr_Turn_init A) [fourD A u] R EX := by
  unfold mkF
  unfold tr_Turn_init
  refine ⟨rfl, ?_⟩
  simp only [List.map_cons, List.map_nil, rhoD_cons, rhoD_nil, rhoD_z]
  repeat infer_instance
  refine pr_lead p nu hu l fun o => ?_
  repeat infer_instance
  exact h
theorem pr_tmul (p : u.Par) (nu : u ≠ ⟨0, 0, 0, 0⟩) (hu : u.Bd n) (q : v.Par) (nv : v ≠ ⟨0, 0, 0, 0⟩) (hv : v.Bd n) (l : n ≤ 3900) (h : ∀ o, R (.dat (turnD A (Q4.mul u v).lead)) o) : spF (tr_Turn_mul A) [turnD A u.lead, turnD A v.lead] R EX := by
  have h1 := Q4.lead_par p nu
  have h2 := Q4.lead_par q nv
  have b1 := Q4.lead_bd p nu hu
  have b2 := Q4.lead_bd q nv hv
  unfold spF tr_Turn_mul
  refine ⟨rfl, ?_⟩
  simp only [List.map_cons, List.map_nil, rhoD_cons, rhoD_nil, rhoD_z]
  repeat infer_instance
  refine pr_mul h1 h2 b1 b2 (by omega) fun o => ?_
  repeat infer_instance
  refine mk_Turn (Q4.mul_all h1 h2).2 (Q4.mul_ne h1 (Q4.lead_ne p nu) h2 (Q4.lead_ne q nv)) (b1.mul b2) (by omega) ?_
  rw [Q4.lead_mul p nu q nv]
  repeat infer_instance
  exact h _
theorem pr_tneg (p : u.Par) (nu : u ≠ ⟨0, 0, 0, 0⟩) (hu : u.Bd n) (l : n ≤ 8000) (h : ∀ o, R (.dat (turnD A u.mir.lead)) o) : spF (tr_Turn_neg A) [turnD A u.lead] R EX := by
  have h1 := Q4.lead_par p nu
  have b1 := Q4.lead_bd p nu hu
  unfold spF tr_Turn_neg
  refine ⟨rfl, ?_⟩
  simp only [List.map_cons, List.map_nil, rhoD_cons, rhoD_nil, rhoD_z]
  repeat infer_instance
  refine pr_mir h1 fun o => ?_
  repeat infer_instance
  refine mk_Turn (Q4.mir_par h1) (Q4.mir_ne (Q4.lead_ne p nu)) b1.mir l ?_
  rw [Q4.lead_mir p nu]
  repeat infer_instance
  exact h _
theorem pr_teq (h : ∀ o, R (.dat (.bl (decide (u = v)))) o) : spF (tr_Turn_eq A) [turnD A u, turnD A v] R EX := by
  unfold spF tr_Turn_eq
  refine ⟨rfl, ?_⟩
  simp only [List.map_cons, List.map_nil, rhoD_cons, rhoD_nil, rhoD_z]
  repeat infer_instance
  exact h _
end
end D
set_option Elab.async false
set_option linter.all false
set_option maxRecDepth 100000
set_option maxHeartbeats 1000000
namespace D
open PySem PySem.Spec PyProof.Rows L2 G
local macro_rules | `(tactic| infer_instance) => `(tactic| first | (with_reducible refine forD_nil ?_) | (with_reducible refine forD_cons ?_))
local macro_rules | `(tactic| infer_instance) => `(tactic| first | ((with_reducible refine lcD_i ?_ ?_); (exact rfl)))
local macro_rules | `(tactic| infer_instance) => `(tactic| first | with_reducible refine fPow_1018 ?_ | ((with_reducible refine kSub4_1 (ρ' := ?_) (a := ?_) (b := ?_) (c := ?_) (e := ?_) ?_ ?_ ?_); rotate_left 5; (exact rfl); (repeat (first | with_reducible exact set_z | ((with_reducible refine set_s (l' := ?_) ?_); rotate_left 1)))) | ((with_reducible refine kSub4_2 (ρ' := ?_) (a := ?_) (b := ?_) (c := ?_) (e := ?_) ?_ ?_ ?_); rotate_left 5; (exact rfl); (repeat (first | with_reducible exact set_z | ((with_reducible refine set_s (l' := ?_) ?_); rotate_left 1)))) | ((with_reducible refine kSub4_3 (ρ' := ?_) (a := ?_) (b := ?_) (c := ?_) (e := ?_) ?_ ?_ ?_); rotate_left 5; (exact rfl); (repeat (first | with_reducible exact set_z | ((with_reducible refine set_s (l' := ?_) ?_); rotate_left 1)))))
section
variable {A : Cs} {R : Res → List En → Prop} {EX : Xc → List En → Prop}
theorem pr_take {f : Feed} {n : Int} (h : ∀ r f', 0 ≤ r → r < n → Feed.ok f' → R (.dat (.int r)) [.own f'.w, .dat (.int n)]) (ok : f.ok) (n0 : 0 < n) (n1 : n.natAbs < 18446744073709551616) : tr_L_take A [.own f.w, .dat (.int n)] R EX := by
  obtain ⟨ms, i, u, m⟩ := f
  obtain ⟨l63, i0, il, u0, m0, m1⟩ := ok
  dsimp only at l63 i0 il u0 m0 m1
  unfold tr_L_take
  refine ⟨rfl, ?_⟩
  simp only [rhoD_cons, rhoD_nil, rhoD_z]
  dsimp only [Feed.w]
  refine dSeq_cut (fun ρ => ∃ f x y z, Feed.ok f ∧ ρ = [.own f.w, .dat (.int n), x, y, z]) ?_ ?_
  · rintro ρ ⟨⟨ms, i, u, m⟩, x, y, z, ⟨l63, i0, il, u0, m0, m1⟩, rfl⟩
    dsimp only [Feed.w] at l63 i0 il u0 m0 m1 ⊢
    repeat infer_instance
    refine if_d (fun h0 => ?_) (fun h0 => ?_)
    · repeat infer_instance
      · exact h _ ⟨ms, i, u / n, m⟩ (em' _ n0).1 (em' _ n0).2 ⟨l63, i0, il, Int.ediv_nonneg u0 (by omega), m0, m1⟩
      all_goals first | exact n0 | exact cdiv64 n0 n1
    · have e3 := em' (m * 69621 + 13) (b := 2147483647) (by decide)
      repeat infer_instance
      · exact h _ ⟨ms, i, u, _⟩ (em' _ n0).1 (em' _ n0).2 ⟨l63, i0, il, u0, e3.1, e3.2⟩
      all_goals first | exact n0 | decide | exact cdiv64 (by decide) (by decide) | exact cmul64 (by omega) (by omega)
  · intro k hk
    have fin : ∀ f x y z, Feed.ok f → k [.own f.w, .dat (.int n), x, y, z] := fun f x y z o => hk _ ⟨f, x, y, z, o, rfl⟩
    repeat infer_instance
    refine if_d (fun h0 => ?_) (fun h0 => ?_)
    · repeat infer_instance
      refine if_d (fun h1 => ?_) (fun h1 => ?_)
      · rw [List.length_map] at h1
        obtain ⟨x, hx⟩ := atI_ms i0 h1
        repeat infer_instance
        refine fIx_l hx ?_
        repeat infer_instance
        refine if_d (fun h3 => ?_) (fun h3 => ?_)
        · repeat infer_instance
          exact fin ⟨ms, i + 1, x, m⟩ _ _ _ ⟨l63, by dsimp only; omega, by dsimp only; omega, by dsimp only; omega, m0, m1⟩
        · have e3 := fun a => em' a (b := 2147483647) (by decide)
          repeat infer_instance
          · exact fin ⟨ms, i + 1, u, _⟩ _ _ _ ⟨l63, by dsimp only; omega, by dsimp only; omega, u0, (e3 _).1, (e3 _).2⟩
          all_goals first | decide | exact cmul64 (by omega) (by omega)
      · repeat infer_instance
        exact fin ⟨ms, i, u, m⟩ _ _ _ ⟨l63, i0, il, u0, m0, m1⟩
    · repeat infer_instance
      exact fin ⟨ms, i, u, m⟩ _ _ _ ⟨l63, i0, il, u0, m0, m1⟩
end
end D
set_option Elab.async false
set_option linter.all false
set_option maxRecDepth 100000
set_option maxHeartbeats 1000000
namespace D
open PySem PySem.Spec PyProof.Rows L2 G
local macro_rules | `(tactic| infer_instance) => `(tactic| first | (with_reducible refine forD_nil ?_) | (with_reducible refine forD_cons ?_))
local macro_rules | `(tactic| infer_instance) => `(tactic| first | ((with_reducible refine lcD_i ?_ ?_); (exact rfl)))
section
variable {A : Cs} {R : Res → List En → Prop} {EX : Xc → List En → Prop}
theorem sl63 {WD : WDt} {ρ : List En} {ns : List Int} (h : R (.new (.lst ((ns.take 63).map .int))) (.dat (.scr ns) :: ρ)) : dSl (dV 0) dNoPart (dPart (dC (.int 63))) WD (.dat (.scr ns) :: ρ) R := by
  show R (.new (.lst (cutD (ns.map .int) none (some 63)))) (.dat (.scr ns) :: ρ)
  have e : cutD (ns.map Dt.int) none (some 63) = (ns.take 63).map .int := by
    unfold cutD
    rw [show HT.sIx (ns.map Dt.int).length (ns.map Dt.int).length (some 63) = min 63 (ns.map Dt.int).length from HT.sIx_nat _ _ 63, HT.sIx_none]
    show (List.take (min 63 (ns.map Dt.int).length - 0) (ns.map Dt.int)) = _
    rw [Nat.sub_zero, ← List.take_take, List.take_length, List.map_take]
  rw [e]
  exact h
theorem pr_feed {ns : List Int} (h : ∀ f o, Feed.ok f → R (.new f.w) o) : spF (tr_L_feed A) [.scr ns] R EX := by
  unfold spF tr_L_feed
  refine ⟨rfl, ?_⟩
  simp only [List.map_cons, List.map_nil, rhoD_cons, rhoD_nil, rhoD_z]
  repeat infer_instance
  refine sl63 ?_
  repeat infer_instance
  · have hl : (ns.take 63).length ≤ 63 := by rw [List.length_take]; omega
    generalize ns.take 63 = ms at hl
    refine for_i (fun i ρ => ∃ m x, 0 ≤ m ∧ m < 2147483647 ∧ ρ = [.dat (.scr ns), .dat (.lst (ms.map .int)), .dat (.int m), x]) ⟨_, _, ?_, ?_, rfl⟩ ?_ ?_
    · rw [List.length_map]; omega
    · rw [List.length_map]; omega
    · rintro i d ρ k hd ⟨m, x, m0, m1, rfl⟩ hk
      obtain ⟨y, rfl⟩ : ∃ y, d = .int y := by
        rw [List.getElem?_map] at hd
        cases e : ms[i]? with
        | none => rw [e] at hd; cases hd
        | some y => rw [e] at hd; exact ⟨y, (Option.some.inj hd).symm⟩
      have e3 := em' (m * 16807 + y % 1000003 + 5) (b := 2147483629) (by decide)
      repeat infer_instance
      · exact hk _ ⟨_, _, e3.1, by omega, rfl⟩
      all_goals first | decide | exact cmul64 (by omega) (by decide)
    · rintro ρ ⟨m, x, m0, m1, rfl⟩
      repeat infer_instance
      exact h ⟨ms, 0, 0, m⟩ _ ⟨hl, by dsimp only; omega, by dsimp only; omega, by dsimp only; omega, m0, m1⟩
  · refine cmul64 (by decide) ?_
    rw [List.length_map, List.length_take]
    omega
theorem fEq_l4 {P : Res → Prop} {a b c d : Int} (h : P (.dat (.bl (decide (a = 0 ∧ b = 0 ∧ c = 0 ∧ d = 0))))) : fEq (.lst [.int a, .int b, .int c, .int d]) (.lst [.int 0, .int 0, .int 0, .int 0]) P := ⟨rfl, rfl, by
  have : PyData.eqv (.list [.int a, .int b, .int c, .int d]) (.list [.int 0, .int 0, .int 0, .int 0]) = decide (a = 0 ∧ b = 0 ∧ c = 0 ∧ d = 0) := by
    rw [Bool.eq_iff_iff]
    simp [PyData.eqv, PyData.eqvAll]
  rw [this]; exact h⟩
local macro_rules | `(tactic| infer_instance) => `(tactic| first | with_reducible refine fEq_l4 ?_)
def QIn (u : Q4) (m : Int) : Prop := (-(2 * m) ≤ u.a ∧ u.a ≤ 2 * m + 1) ∧ (-(2 * m) ≤ u.b ∧ u.b ≤ 2 * m + 1) ∧ (-(2 * m) ≤ u.c ∧ u.c ≤ 2 * m + 1) ∧ (-(2 * m) ≤ u.d ∧ u.d ≤ 2 * m + 1)
theorem pr_halves {f : Feed} {m : Int} (h : ∀ (u : Q4) f', u.Par → u ≠ ⟨0, 0, 0, 0⟩ → QIn u m → Feed.ok f' → R (.dat (.tup [.int u.a, .int u.b, .int u.c, .int u.d])) [.own f'.w, .dat (.int m)]) (ok : f.ok) (m0 : 0 < m) (m1 : m < 1000000000) : tr_L_halves A [.own f.w, .dat (.int m)] R EX := by
  unfold tr_L_halves
  refine ⟨rfl, ?_⟩
  simp only [rhoD_cons, rhoD_nil, rhoD_z]
  repeat infer_instance
  refine pr_take (fun z f1 z0 z1 ok1 => ?_) ok (by decide) (by decide)
  clear ok
  repeat infer_instance
  · refine pr_take (fun r1 f2 p1 q1 ok2 => ?_) ok1 (by omega) (by omega)
    clear ok1
    repeat infer_instance
    · refine pr_take (fun r2 f3 p2 q2 ok3 => ?_) ok2 (by omega) (by omega)
      clear ok2
      repeat infer_instance
      · refine pr_take (fun r3 f4 p3 q3 ok4 => ?_) ok3 (by omega) (by omega)
        clear ok3
        repeat infer_instance
        · refine pr_take (fun r4 f5 p4 q4 ok5 => ?_) ok4 (by omega) (by omega)
          clear ok4
          repeat infer_instance
          · refine if_d (fun h0 => ?_) (fun h0 => ?_)
            · repeat infer_instance
              exact h ⟨2, 0, 0, 0⟩ f5 (by unfold Q4.Par; decide) (by decide) (by unfold QIn; dsimp only; omega) ok5
            · repeat infer_instance
              refine h ⟨_, _, _, _⟩ f5 (by unfold Q4.Par; dsimp only; omega) (fun e => h0 ?_) (by unfold QIn; dsimp only; omega) ok5
              exact ⟨congrArg Q4.a e, congrArg Q4.b e, congrArg Q4.c e, congrArg Q4.d e⟩
          all_goals exact cmul64 (by decide) (by omega)
        all_goals exact cmul64 (by decide) (by omega)
      all_goals exact cmul64 (by decide) (by omega)
    all_goals exact cmul64 (by decide) (by omega)
  all_goals exact cmul64 (by decide) (by omega)
end
end D
set_option Elab.async false
set_option linter.all false
set_option maxRecDepth 100000
set_option maxHeartbeats 4000000
namespace D
open PySem PySem.Spec PyProof.Rows L2 G
local macro_rules | `(tactic| infer_instance) => `(tactic| first | (with_reducible refine forD_nil ?_) | (with_reducible refine forD_cons ?_))
local macro_rules | `(tactic| infer_instance) => `(tactic| first | ((with_reducible refine lcD_i ?_ ?_); (exact rfl)))
local macro_rules | `(tactic| array_get_dec) => `(tactic| first | (with_reducible refine pr_isnum fun o => ?_) | (with_reducible refine pr_halvesT fun o => ?_) | (with_reducible refine pr_halvesL fun o => ?_) | (with_reducible refine mk_Four ?_ ?_) | (with_reducible refine pr_fhalves fun o => ?_) | (with_reducible refine pr_bool fun o => ?_) | (with_reducible refine pr_eq fun o => ?_))
local macro_rules | `(tactic| infer_instance) => `(tactic| first | with_reducible refine dNotU_i ?_ | with_reducible refine dMinK_i ?_)
local macro_rules | `(tactic| infer_instance) => `(tactic| first | ((with_reducible refine fMul_t10 ?_ ?_); (exact rfl)) | ((with_reducible refine fMul_t11 ?_ ?_); (exact rfl)) | ((with_reducible refine fMul_t12 ?_ ?_); (exact rfl)) | ((with_reducible refine fMul_t13 ?_ ?_); (exact rfl)))
section
variable {A : Cs} {R : Res → List En → Prop} {EX : Xc → List En → Prop} {u v f g q r a b : Q4} {n m : Nat}
theorem pr_Lfour (p : u.Par) (h : ∀ o, R (.dat (fourD A u)) o) : spF (tr_L_four A) [rowD u] R EX := by
  unfold spF tr_L_four
  refine ⟨rfl, ?_⟩
  simp only [List.map_cons, List.map_nil, rhoD_cons, rhoD_nil, rhoD_z]
  repeat infer_instance
  · exact p
  · exact h _
theorem pr_Lgcd {a b : Int} (h : ∀ o, R (.dat (.int (Int.gcd a b))) o) : spF (tr_L_gcd A) [.int a, .int b] R EX := by
  unfold spF tr_L_gcd
  refine ⟨rfl, ?_⟩
  simp only [List.map_cons, List.map_nil, rhoD_cons, rhoD_nil, rhoD_z]
  repeat infer_instance
  refine while_i (fun m ρ => ∃ g l : Nat, m = l ∧ Nat.gcd g l = Int.gcd a b ∧ ρ = [.dat (.int g), .dat (.int l)]) b.natAbs ⟨a.natAbs, b.natAbs, rfl, rfl, rfl⟩ ?_
  rintro m ρ ⟨g, l, rfl, hg, rfl⟩
  repeat infer_instance
  refine if_d (fun h0 => ?_) (fun h0 => ?_)
  · have : m = 0 := by omega
    subst this
    repeat infer_instance
    have := h [.dat (.int g), .dat (.int 0)]
    rw [← hg, Nat.gcd_zero_right] at this
    exact this
  · repeat infer_instance
    · have : 0 < m := by omega
      exact ⟨g % m, Nat.mod_lt _ this, m, g % m, rfl, by rw [← hg, Nat.gcd_comm g, Nat.gcd_rec m g]; exact Nat.gcd_comm _ _, rfl⟩
    · omega
theorem pr_pick {f : Feed} {l : List Dt} (h : ∀ d f', d ∈ l → Feed.ok f' → R (.dat d) [.own f'.w, .dat (.lst l)]) (ok : f.ok) (l0 : 0 < l.length) (l1 : l.length ≤ 1000) : tr_L_pick A [.own f.w, .dat (.lst l)] R EX := by
  unfold tr_L_pick
  refine ⟨rfl, ?_⟩
  simp only [List.map_cons, List.map_nil, rhoD_cons, rhoD_nil, rhoD_z]
  repeat infer_instance
  refine pr_take (fun r f' r0 r1 ok' => ?_) ok (by omega) (by omega)
  repeat infer_instance
  have hr : r.toNat < l.length := by omega
  have e : atI l r = some l[r.toNat] := by
    have := atI_nat (xs := l) (j := r.toNat) (v := l[r.toNat]) (List.getElem?_eq_getElem hr)
    rwa [show ((r.toNat : Nat) : Int) = r by omega] at this
  refine fIx_l e ?_
  repeat infer_instance
  exact h _ f' (List.getElem_mem hr) ok'
end
end D
set_option Elab.async false
set_option linter.all false
set_option maxRecDepth 100000
set_option maxHeartbeats 4000000
namespace D
open PySem PySem.Spec PyProof.Rows L2 G
local macro_rules | `(tactic| infer_instance) => `(tactic| first | (with_reducible refine forD_nil ?_) | (with_reducible refine forD_cons ?_))
local macro_rules | `(tactic| infer_instance) => `(tactic| first | ((with_reducible refine lcD_i ?_ ?_); (exact rfl)))
local macro_rules | `(tactic| array_get_dec) => `(tactic| first | (with_reducible refine pr_isnum fun o => ?_) | (with_reducible refine pr_Lgcd fun o => ?_))
local macro_rules | `(tactic| infer_instance) => `(tactic| first | with_reducible refine fEq_L4 ?_ | with_reducible refine fEq_T4 ?_ | with_reducible refine fNe_T4 ?_)
section
variable {A : Cs} {R : Res → List En → Prop} {EX : Xc → List En → Prop} {u v w t t' : Q4} {n m : Nat}
theorem pr_Ltimes (p : u.Par) (q : v.Par) (hu : u.Bd n) (hv : v.Bd m) (l : n + m ≤ 100000) (h : ∀ o, R (.dat (rowD (Q4.mul u v))) o) : spF (tr_L_times A) [rowD u, rowD v] R EX := by
  obtain ⟨a1, a2, a3, a4⟩ := hu
  obtain ⟨b1, b2, b3, b4⟩ := hv
  unfold spF tr_L_times
  refine ⟨rfl, ?_⟩
  simp only [List.map_cons, List.map_nil, rhoD_cons, rhoD_nil, rhoD_z]
  repeat infer_instance
  · exact h _
  all_goals first | exact cdiv2 _ | exact cmulW (n := n) (m := m) (by assumption) (by assumption) (by omega)
theorem pr_Lgcd4t {a b c d : Int} (h : ∀ o, R (.dat (.int (gcdL [a, b, c, d]))) o) : spF (tr_L_gcd_of A) [.tup [.int a, .int b, .int c, .int d]] R EX := by
  unfold spF tr_L_gcd_of
  refine ⟨rfl, ?_⟩
  simp only [List.map_cons, List.map_nil, rhoD_cons, rhoD_nil, rhoD_z]
  repeat infer_instance
  exact h _
theorem gcdL4 (u : Q4) : gcdL [u.a, u.b, u.c, u.d] = u.g := by
  refine gcdL_is u.g_pos (fun x m => ?_) ?_
  · simp only [List.mem_cons, List.not_mem_nil, or_false] at m
    rcases m with rfl | rfl | rfl | rfl
    · exact u.g_a
    · exact u.g_b
    · exact u.g_c
    · exact u.g_d
  · exact Q4.g_great1 (gcdL_dvd (by simp)) (gcdL_dvd (by simp)) (gcdL_dvd (by simp)) (gcdL_dvd (by simp))
theorem pr_Lcontent (p : u.Par) (nu : u ≠ ⟨0, 0, 0, 0⟩) (hu : u.Bd n) (l : n ≤ 8000) (h : ∀ o, R (.dat (.int u.con)) o) : spF (tr_L_content A) [rowD u] R EX := by
  obtain ⟨g0, g1, ge⟩ := Q4.g_over nu
  have gb : Bt n u.g := g_bd hu nu
  have dv : ∀ x, CDivW x u.g := fun x => cdivW g0 gb l
  unfold spF tr_L_content
  refine ⟨rfl, ?_⟩
  simp only [List.map_cons, List.map_nil, rhoD_cons, rhoD_nil, rhoD_z]
  repeat infer_instance
  refine pr_Lgcd4t fun o => ?_
  rw [gcdL4]
  repeat infer_instance
  refine if_dn (by omega) ?_
  repeat infer_instance
  · refine if_d (fun hc => ?_) (fun hc => ?_)
    · have e : u.con = u.g := by unfold Q4.con; exact if_pos (.inl hc)
      rw [e] at h
      repeat infer_instance
      exact h _
    · have e : u.con = u.g / 2 := by
        unfold Q4.con
        refine if_neg ?_
        rintro (q | q)
        · exact hc q
        · exact Q4.not_even g1 q
      rw [e] at h
      repeat infer_instance
      · exact h _
      · exact cdiv2 _
  all_goals first | decide | exact dv _
end
end D
set_option Elab.async false
set_option linter.all false
set_option maxRecDepth 100000
set_option maxHeartbeats 4000000
namespace D
open PySem PySem.Spec PyProof.Rows L2 G
local macro_rules | `(tactic| array_get_dec) => `(tactic| first | (with_reducible refine pr_isnum fun o => ?_) | (with_reducible refine pr_Lgcd fun o => ?_))
local macro_rules | `(tactic| infer_instance) => `(tactic| first | with_reducible refine fEq_L4 ?_ | with_reducible refine fEq_T4 ?_ | with_reducible refine fNe_T4 ?_)
section
variable {A : Cs} {R : Res → List En → Prop} {EX : Xc → List En → Prop} {u v w t t' : Q4} {n m : Nat}
theorem rowmap {f : Int → Int} {a b c d : Int} {ρ : List En} {g : TGC} {te : TED} {vs : List Nat} {R : List Dt → List En → Prop} (hs : ∀ x, ∀ (k : Dt → List En → Prop), (∀ ρ', wipeD ρ' vs = ρ → k (.int (f x)) ρ') → g (.int x) ρ fun ρ1 => te WDN ρ1 (kD k)) (h : R [.int (f a), .int (f b), .int (f c), .int (f d)] ρ) : lcD g dYes te vs R [.int a, .int b, .int c, .int d] [] ρ :=
  lc_mapG [a, b, c, d] Dt.int (fun x => .int (f x)) (by show 4 ≤ sizeLine; decide) (fun x _ => hs x) h
theorem pr_Llowest (p : u.Par) (nu : u ≠ ⟨0, 0, 0, 0⟩) (hu : u.Bd n) (l : n ≤ 8000) (h : ∀ o, R (.dat (rowD u.lead)) o) : spF (tr_L_lowest A) [rowD u] R EX := by
  obtain ⟨c0, pv, e, cg⟩ := Q4.con_all p nu
  have g0 := (Q4.g_over nu).1
  have gb : Bt n u.g := g_bd hu nu
  have cb : Bt n u.con := by unfold Bt at *; omega
  have dv : ∀ x, CDivW x u.con := fun x => cdivW c0 cb l
  have e1 : u.lead = if HT.lexLt [(u.over u.con).a, (u.over u.con).b, (u.over u.con).c, (u.over u.con).d] [0, 0, 0, 0] = true then (u.over u.con).neg else u.over u.con := rfl
  obtain ⟨f, r, ef, hf⟩ := first_nz (a := (u.over u.con).a) (b := (u.over u.con).b) (c := (u.over u.con).c) (d := (u.over u.con).d) pv.ne
  unfold spF tr_L_lowest
  refine ⟨rfl, ?_⟩
  simp only [List.map_cons, List.map_nil, rhoD_cons, rhoD_nil, rhoD_z]
  repeat infer_instance
  refine pr_Lcontent p nu hu l fun o => ?_
  repeat infer_instance
  refine rowmap (f := fun x => x / u.con) (fun x k hk => ?_) ?_
  · repeat infer_instance
    · exact hk _ rfl
    · exact dv _
  repeat infer_instance
  refine lc_nz (ns := [(u.over u.con).a, (u.over u.con).b, (u.over u.con).c, (u.over u.con).d]) (by simp) ?_
  rw [ef, List.map_cons]
  repeat infer_instance
  refine fIx_l (atI_nat (j := 0) rfl) ?_
  repeat infer_instance
  refine rowmap (f := fun x => if 0 < f then x else -x) (fun x k hk => ?_) ?_
  · repeat infer_instance
    refine if_d (fun h0 => ?_) (fun h0 => ?_)
    · repeat infer_instance
      rw [if_pos h0] at hk
      exact hk _ rfl
    · repeat infer_instance
      rw [if_neg h0] at hk
      exact hk _ rfl
  have ee : u.lead = ⟨if 0 < f then u.a / u.con else -(u.a / u.con), if 0 < f then u.b / u.con else -(u.b / u.con), if 0 < f then u.c / u.con else -(u.c / u.con), if 0 < f then u.d / u.con else -(u.d / u.con)⟩ := by
    rw [e1]
    by_cases q : 0 < f
    · rw [if_neg (hf.mp q)]
      simp only [if_pos q]
      rfl
    · have : HT.lexLt [(u.over u.con).a, (u.over u.con).b, (u.over u.con).c, (u.over u.con).d] [0, 0, 0, 0] = true := by
        cases z : HT.lexLt [(u.over u.con).a, (u.over u.con).b, (u.over u.con).c, (u.over u.con).d] [0, 0, 0, 0] with
        | true => rfl
        | false => exact absurd (hf.mpr (by rw [z]; decide)) q
      rw [if_pos this]
      simp only [if_neg q]
      rfl
  rw [ee] at h
  repeat infer_instance
  exact h _
end
end D
set_option Elab.async false
set_option linter.all false
set_option maxRecDepth 100000
set_option maxHeartbeats 1000000
namespace D
open PySem PySem.Spec PyProof.Rows L2 G
local macro_rules | `(tactic| infer_instance) => `(tactic| first | (with_reducible refine forD_nil ?_) | (with_reducible refine forD_cons ?_))
local macro_rules | `(tactic| infer_instance) => `(tactic| first | ((with_reducible refine lcD_i ?_ ?_); (exact rfl)))
section
variable {A : Cs} {R : Res → List En → Prop} {EX : Xc → List En → Prop}
theorem fEq_str {P : Res → Prop} {x y : Str} (hx : SeqAt.shaped (.str x) = true) (hy : SeqAt.shaped (.str y) = true) (h : P (.dat (.bl (x == y)))) : fEq (.str x) (.str y) P := ⟨hx, hy, h⟩
theorem fEq_bl {P : Res → Prop} {x y : Bool} (h : P (.dat (.bl (x == y)))) : fEq (.bl x) (.bl y) P := ⟨rfl, rfl, h⟩
theorem fNe_bl {P : Res → Prop} {x y : Bool} (h : P (.dat (.bl (!(x == y))))) : fNe (.bl x) (.bl y) P := ⟨rfl, rfl, h⟩
theorem fIsN_non' {P : Res → Prop} (h : P (.dat (.bl true))) : fIsN .non .non P := h
theorem fIsN_int {P : Res → Prop} {x : Int} (h : P (.dat (.bl false))) : fIsN (.int x) .non P := h
theorem fIsN_str {P : Res → Prop} {x : Str} (h : P (.dat (.bl false))) : fIsN (.str x) .non P := h
theorem fIsN_bl {P : Res → Prop} {x : Bool} (h : P (.dat (.bl false))) : fIsN (.bl x) .non P := h
theorem fIsN_lst {P : Res → Prop} {x : List Dt} (h : P (.dat (.bl false))) : fIsN (.lst x) .non P := h
theorem fIsN_tup {P : Res → Prop} {x : List Dt} (h : P (.dat (.bl false))) : fIsN (.tup x) .non P := h
theorem if_bq {p q : Prop} {b : Bool} (h : p) : if (b == b) = true then p else q := by rw [if_pos (by simp)]; exact h
variable {P : Res → Prop}
theorem fEq_ii {x : Int} (h : P (.dat (.bl true))) : fEq (.int x) (.int x) P := fEq_i (by rw [decide_eq_true rfl]; exact h)
theorem kZip_sl {l : List Dt} {ρ : List En} {R : List Dt → List En → Prop} (h : R (zipD l l) ρ) : kZip R [.lst l, .lst l] ρ := h
theorem kZip_st {l : List Dt} {ρ : List En} {R : List Dt → List En → Prop} (h : R (zipD l l) ρ) : kZip R [.tup l, .tup l] ρ := h
def plain : Nat → Dt → Bool
  | _, .non => true
  | _, .bl _ => true
  | _, .int _ => true
  | _, .str x => SeqAt.shaped (.str x)
  | j + 1, .lst l => decide (l.length ≤ 1000) && l.all (plain j)
  | j + 1, .tup l => decide (l.length ≤ 1000) && l.all (plain j)
  | _, _ => false
local macro_rules | `(tactic| infer_instance) => `(tactic| first | with_reducible refine kZip_sl ?_ | with_reducible refine kZip_st ?_ | with_reducible refine if_bq ?_ | with_reducible refine fEq_ii ?_ | with_reducible refine fEq_bl ?_ | with_reducible refine fNe_bl ?_ | with_reducible refine fIsN_non' ?_ | with_reducible refine fIsN_int ?_ | with_reducible refine fIsN_str ?_ | with_reducible refine fIsN_bl ?_ | with_reducible refine fIsN_lst ?_ | with_reducible refine fIsN_tup ?_)
theorem fAll_rep {P : Res → Prop} (n : Nat) (h : P (.dat (.bl true))) : fAll [.lst (List.replicate n (.bl true))] P := fAll_i (bs := List.replicate n true) (by rw [← List.map_replicate, bls_map]) (by simpa using h)
theorem zip_self : ∀ l : List Dt, zipD l l = l.map fun d => .tup [d, d]
  | [] => rfl
  | d :: l => by rw [zip_cons (zip_self l)]; rfl
def selfOk (self : SpD) (x : Dt) : Prop := ∀ (R : Res → List En → Prop) (EX : Xc → List En → Prop), (∀ o, R (.dat (.bl true)) o) → self [.dat x, .dat x] R EX
theorem same_seq {self : SpD} {l : List Dt} {ρ : List En} {k : List Dt → List En → Prop} {a b : Dt} (hρ : ρ = [.dat a, .dat b, .emp, .emp]) (hl : l.length ≤ 1000) (ih : ∀ d ∈ l, selfOk self d) (h : k (List.replicate l.length (.bl true)) ρ) :
    lcD (gcTup 2 (gcCons 2 (gcCons 3 gcNil))) dYes (dCallF self (dCons (dV 2) (dCons (dV 3) dNil))) [2, 3] k (zipD l l) [] ρ := by
  rw [zip_self]
  refine lc_map (fun _ => .bl true) (by rw [List.length_map]; exact Nat.le_trans hl (by decide)) (fun d hd k' hk => ?_) ?_
  · obtain ⟨x, mx, rfl⟩ := List.mem_map.mp hd
    subst hρ
    repeat infer_instance
    refine ih x mx _ _ fun o => ?_
    repeat infer_instance
    exact hk _ rfl
  · rw [List.map_map, show ((fun x => Dt.bl true) ∘ fun d => Dt.tup [d, d]) = fun _ => Dt.bl true from rfl, List.map_const']
    exact h
def plain1 (self : SpD) : Dt → Prop
  | .non => True
  | .bl _ => True
  | .int _ => True
  | .str x => SeqAt.shaped (.str x) = true
  | .lst l => l.length ≤ 1000 ∧ ∀ x ∈ l, selfOk self x
  | .tup l => l.length ≤ 1000 ∧ ∀ x ∈ l, selfOk self x
  | _ => False
theorem same_at {self : SpD} {d : Dt} (hp : plain1 self d) (h : ∀ o, R (.dat (.bl true)) o) : tr_L_same A self [.dat d, .dat d] R EX := by
  unfold tr_L_same
  refine ⟨rfl, ?_⟩
  simp only [List.map_cons, List.map_nil, rhoD_cons, rhoD_nil, rhoD_z]
  repeat infer_instance
  cases d with
  | non => repeat infer_instance
           exact h _
  | bl b => 
    repeat infer_instance
    rw [beq_self_eq_true]
    exact h _
  | int i => 
    repeat infer_instance
    exact h _
  | str z => 
    repeat infer_instance
    refine fEq_str hp hp ?_
    repeat infer_instance
    rw [beq_self_eq_true]
    exact h _
  | lst l => 
    repeat infer_instance
    refine same_seq rfl hp.1 hp.2 ?_
    repeat infer_instance
    refine fAll_rep _ ?_
    repeat infer_instance
    exact h _
  | tup l => 
    repeat infer_instance
    refine same_seq rfl hp.1 hp.2 ?_
    repeat infer_instance
    refine fAll_rep _ ?_
    repeat infer_instance
    exact h _
  | _ => exact hp.elim
theorem same_dd : ∀ (j : Nat) (d : Dt), plain j d = true → selfOk (rec_L_same A (j + 1)) d := by
  intro j
  induction j with
  | zero =>
    intro d hp R EX h
    refine same_at (self := rec_L_same A 0) ?_ h
    cases d <;> first | trivial | exact hp | (cases hp)
  | succ j ih =>
    intro d hp R EX h
    refine same_at (self := rec_L_same A (j + 1)) ?_ h
    cases d with
    | lst l =>
      have hp : (decide (l.length ≤ 1000) && l.all (plain j)) = true := hp
      rw [Bool.and_eq_true, decide_eq_true_eq, List.all_eq_true] at hp
      exact ⟨hp.1, fun x m => ih x (hp.2 x m)⟩
    | tup l =>
      have hp : (decide (l.length ≤ 1000) && l.all (plain j)) = true := hp
      rw [Bool.and_eq_true, decide_eq_true_eq, List.all_eq_true] at hp
      exact ⟨hp.1, fun x m => ih x (hp.2 x m)⟩
    | _ => first | trivial | exact hp | (cases hp)
theorem pr_same {j : Nat} {d e : Dt} (he : d = e) (hp : plain j d = true) (h : ∀ o, R (.dat (.bl true)) o) : spF (rec_L_same A (j + 1)) [d, e] R EX := by
  subst he
  exact same_dd j d hp R EX h
end
end D
set_option linter.all false
set_option maxRecDepth 100000
namespace G
namespace Q4
theorem Prim.lo {v : Q4} (h : Prim v) : Lo v v.spr := ⟨v, 1, h, by decide, (smul_one v).symm, rfl⟩
theorem lead_lo {x : Q4} (px : x.Par) (nx : x ≠ ⟨0, 0, 0, 0⟩) : Lo x x.lead.spr := by
  obtain ⟨m, m0, e⟩ := lead_ex px nx
  have h := (lead_of px nx).prim.lo.smul m0
  rwa [← e] at h
theorem lo_lead {x : Q4} {s : Int} (px : x.Par) (nx : x ≠ ⟨0, 0, 0, 0⟩) (h : Lo x s) : x.lead.spr = s := (lead_lo px nx).uniq h
end Q4
structure Own (u t : Q4) : Prop where
  par : u.Par
  ne : u ≠ ⟨0, 0, 0, 0⟩
  own : IsOwn u t
namespace Own
variable {u t u' t' w s : Q4}
theorem prim (h : Own u t) : Q4.Prim t := (h.own.all h.par h.ne).1
theorem odd (h : Own u t) : t.size % 2 = 1 := (h.own.all h.par h.ne).2.1
theorem rel (h : Own u t) : Q4.Rel t u := (h.own.all h.par h.ne).2.2
theorem lead (h : Own u t) : t.lead = t := h.own.lead h.par h.ne
theorem tpar (h : Own u t) : t.Par := h.prim.par
theorem tne (h : Own u t) : t ≠ ⟨0, 0, 0, 0⟩ := h.prim.ne
theorem self (h : Own u t) : IsOwn t t := h.own.rel h.par h.ne h.tpar h.tne (h.rel.symm h.par h.tpar)
theorem uniq (h : Own u t) (h' : IsOwn u t') : t' = t := h'.uniq h.own
theorem betw (h : Own u t) (h' : Own u' t') : (Q4.mul t.mir t').Par ∧ Q4.mul t.mir t' ≠ ⟨0, 0, 0, 0⟩ := ⟨(Q4.mul_all (Q4.mir_par h.tpar) h'.tpar).2, Q4.mul_ne (Q4.mir_par h.tpar) (Q4.mir_ne h.tne) h'.tpar h'.tne⟩
theorem swap (h : Own u t) (h' : Own u' t') : (Q4.mul t'.mir t).lead.spr = (Q4.mul t.mir t').lead.spr := by
  obtain ⟨p1, n1⟩ := h.betw h'
  obtain ⟨p2, n2⟩ := h'.betw h
  exact Q4.lo_lead p2 n2 (Q4.lo_swap h.tpar h'.tpar (Q4.lead_lo p1 n1))
theorem spr (h : Own u t) : t.spr = u.lead.spr := by
  have := Q4.rel_lo h.tpar h.tne h.rel (Q4.lead_lo h.par h.ne)
  have e := Q4.lo_lead h.tpar h.tne this
  rwa [h.lead] at e
theorem one (h : Own ⟨2, 0, 0, 0⟩ t) : t = ⟨2, 0, 0, 0⟩ := one_own h.own
end Own
end G
set_option linter.all false
set_option maxRecDepth 100000
namespace G
namespace Q4
theorem size_nn {u : Q4} (pu : u.Par) : 0 ≤ u.size := by
  rcases Classical.em (u = ⟨0, 0, 0, 0⟩) with q | q
  · subst q; decide
  · have := size0 pu q; omega
theorem zero_par : (⟨0, 0, 0, 0⟩ : Q4).Par := by unfold Par; decide
def LDiv (d f : Q4) : Prop := ∃ x : Q4, x.Par ∧ f = mul d x
theorem LDiv.trans {a b c : Q4} (pa : a.Par) (h : LDiv a b) (h' : LDiv b c) : LDiv a c := by
  obtain ⟨x, px, rfl⟩ := h
  obtain ⟨y, py, rfl⟩ := h'
  exact ⟨mul x y, (mul_all px py).2, assoc pa px py⟩
theorem LDiv.refl (a : Q4) : LDiv a a := ⟨⟨2, 0, 0, 0⟩, one_par, (mul_one' a).symm⟩
theorem LDiv.zero (a : Q4) : LDiv a ⟨0, 0, 0, 0⟩ := ⟨⟨0, 0, 0, 0⟩, zero_par, by unfold mul; simp⟩
theorem LDiv.add {a b c : Q4} (pa : a.Par) (h : LDiv a b) (h' : LDiv a c) : LDiv a (add b c) := by
  obtain ⟨x, px, rfl⟩ := h
  obtain ⟨y, py, rfl⟩ := h'
  exact ⟨_, add_par px py, (dist pa px py).symm⟩
theorem neg_one (u : Q4) (pu : u.Par) : u.neg = mul u (neg ⟨2, 0, 0, 0⟩) := by
  have := mul_smul (k := -1) pu one_par
  rw [neg_smul, smul_one, neg_smul, smul_one, mul_one'] at this
  exact this.symm
theorem sub_eq {a b : Q4} : sub a b = add a b.neg := by unfold sub add neg; exact ext (by dsimp only; omega) (by dsimp only; omega) (by dsimp only; omega) (by dsimp only; omega)
theorem LDiv.sub {a b c : Q4} (pa : a.Par) (pc : c.Par) (h : LDiv a b) (h' : LDiv a c) : LDiv a (sub b c) := by
  rw [sub_eq]
  refine h.add pa ?_
  rw [neg_one c pc]
  exact h'.trans pa ⟨_, neg_par one_par, rfl⟩
theorem LDiv.mulR {a b x : Q4} (pa : a.Par) (px : x.Par) (h : LDiv a b) : LDiv a (mul b x) := h.trans pa ⟨x, px, rfl⟩
structure Gen (g a b : Q4) : Prop where
  par : g.Par
  l : LDiv g a
  r : LDiv g b
  m : ∀ d : Q4, d.Par → LDiv d a → LDiv d b → LDiv d g
theorem Gen.swap {g a b : Q4} (h : Gen g a b) : Gen g b a := ⟨h.par, h.r, h.l, fun d pd h1 h2 => h.m d pd h2 h1⟩
theorem Gen.zero {a : Q4} (pa : a.Par) : Gen a a ⟨0, 0, 0, 0⟩ := ⟨pa, .refl a, .zero a, fun _ _ h _ => h⟩
theorem Gen.step {g a b q : Q4} (pa : a.Par) (pb : b.Par) (pq : q.Par) (h : Gen g b (sub a (mul b q))) : Gen g a b := by
  have pbq := (mul_all pb pq).2
  refine ⟨h.par, ?_, h.l, fun d pd h1 h2 => h.m d pd h2 (h1.sub pd pbq (h2.mulR pd pq))⟩
  have := h.r.add h.par (h.l.mulR h.par pq)
  rwa [sub_add] at this
theorem Gen.uniq {g g' a b : Q4} (h : Gen g a b) (h' : Gen g' a b) : g = ⟨0, 0, 0, 0⟩ ∧ g' = ⟨0, 0, 0, 0⟩ ∨ ∃ w ∈ unitFours, g' = mul g w := by
  obtain ⟨x, px, ex⟩ := h'.m g h.par h.l h.r
  obtain ⟨y, py, ey⟩ := h.m g' h'.par h'.l h'.r
  rcases Classical.em (g = ⟨0, 0, 0, 0⟩) with q | q
  · subst q
    refine .inl ⟨rfl, ?_⟩
    rw [ex]; unfold mul; simp
  · right
    have s0 := size0 h.par q
    have h1 : g.size = g'.size * y.size := by rw [← size_mul h'.par py, ← ey]
    have h2 : g'.size = g.size * x.size := by rw [← size_mul h.par px, ← ex]
    have h3 : g.size * (x.size * y.size) = g.size * 1 := by rw [Int.mul_one, ← Int.mul_assoc, ← h2]; exact h1.symm
    have h4 := Int.eq_of_mul_eq_mul_left (by omega) h3
    have xn := size_nn px
    have e : x.size = 1 := Int.eq_one_of_mul_eq_one_right xn h4
    exact ⟨x, size_one px e, ex⟩
end Q4
def CL (a b t : Q4) : Prop := ∃ g, Q4.Gen g a b ∧ IsTop g t
theorem CL.uniq {a b t t' : Q4} (h : CL a b t) (h' : CL a b t') : t = t' := by
  obtain ⟨g, hg, ht⟩ := h
  obtain ⟨g', hg', ht'⟩ := h'
  rcases hg.uniq hg' with ⟨e, e'⟩ | ⟨w, hw, e⟩
  · rw [e] at ht; rw [e'] at ht'; exact ht.uniq ht'
  · rw [e] at ht'
    exact ht.uniq (IsTop.unit hg.par hw ht')
theorem IsTop.gen {g t : Q4} (pg : g.Par) (h : IsTop g t) : ∃ w ∈ unitFours, t = Q4.mul g w ∧ g = Q4.mul t w.mir := by
  obtain ⟨⟨w, hw, e⟩, _⟩ := h
  have pw := (unit_bd hw).2
  refine ⟨w, hw, e, ?_⟩
  rw [e, Q4.assoc pg pw (Q4.mir_par pw), Q4.mul_mir pw, unit_size hw, Q4.mul_wholeS, Q4.smul_one]
theorem Gen_unit {g a b w : Q4} (h : Q4.Gen g a b) (hw : w ∈ unitFours) : Q4.Gen (Q4.mul g w) a b := by
  have pw := (unit_bd hw).2
  have pm := (Q4.mul_all h.par pw).2
  have back : Q4.LDiv (Q4.mul g w) g := ⟨w.mir, Q4.mir_par pw, by rw [Q4.assoc h.par pw (Q4.mir_par pw), Q4.mul_mir pw, unit_size hw, Q4.mul_wholeS, Q4.smul_one]⟩
  exact ⟨pm, back.trans pm h.l, back.trans pm h.r, fun d pd h1 h2 => (h.m d pd h1 h2).mulR pd pw⟩
theorem CL.gen {a b t : Q4} (h : CL a b t) : Q4.Gen t a b := by
  obtain ⟨g, hg, ht⟩ := h
  obtain ⟨w, hw, e, _⟩ := ht.gen hg.par
  rw [e]
  exact Gen_unit hg hw
theorem CL.top {a b t : Q4} (h : CL a b t) : IsTop t t := by
  obtain ⟨g, hg, ht⟩ := h
  obtain ⟨w, hw, e, e2⟩ := ht.gen hg.par
  have pw := (unit_bd hw).2
  have pt := ht.par hg.par
  refine IsTop.unit (w := w.mir) pt (unit_mir hw) ?_
  rwa [← e2]
end G
set_option linter.all false
set_option maxRecDepth 100000
namespace G
inductive PTree where
  | name (b : Bool) | four (u : Q4) | back (t : PTree) | times (s t : PTree)
inductive Ins where
  | load (b : Bool) | push (u : Q4) | inv | mul
deriving DecidableEq
namespace PTree
def ht : PTree → Nat
  | name _ => 0
  | four _ => 0
  | back t => t.ht + 1
  | times s t => max s.ht t.ht + 1
def Ok : PTree → Prop
  | name _ => True
  | four u => u.Par ∧ u ≠ ⟨0, 0, 0, 0⟩ ∧ u.Bd 3
  | back t => t.Ok
  | times s t => s.Ok ∧ t.Ok
def qv (x y : Q4) : PTree → Q4
  | name b => if b then x else y
  | four u => u
  | back t => (t.qv x y).mir
  | times s t => Q4.mul (s.qv x y) (t.qv x y)
def code : PTree → List Ins
  | name b => [.load b]
  | four u => [.push u]
  | back t => t.code ++ [.inv]
  | times s t => s.code ++ t.code ++ [.mul]
theorem code_len : ∀ t : PTree, t.code.length + 1 ≤ 2 ^ (t.ht + 1)
  | name _ => Nat.le_refl _
  | four _ => Nat.le_refl _
  | back t => by
    have h := code_len t
    show (t.code ++ [Ins.inv]).length + 1 ≤ 2 ^ (t.ht + 1 + 1)
    rw [List.length_append, Nat.pow_succ]
    show t.code.length + 1 + 1 ≤ _
    have := Nat.two_pow_pos (t.ht + 1)
    omega
  | times s t => by
    have h1 := code_len s
    have h2 := code_len t
    show (s.code ++ t.code ++ [Ins.mul]).length + 1 ≤ 2 ^ (max s.ht t.ht + 1 + 1)
    have m1 : 2 ^ (s.ht + 1) ≤ 2 ^ (max s.ht t.ht + 1) := Nat.pow_le_pow_right (by decide) (by omega)
    have m2 : 2 ^ (t.ht + 1) ≤ 2 ^ (max s.ht t.ht + 1) := Nat.pow_le_pow_right (by decide) (by omega)
    rw [List.length_append, List.length_append, Nat.pow_succ]
    show s.code.length + t.code.length + 1 + 1 ≤ _
    omega
structure Fit (n : Nat) (u : Q4) : Prop where
  par : u.Par
  ne : u ≠ ⟨0, 0, 0, 0⟩
  bd : u.Bd n
theorem Fit.mono {n m : Nat} {u : Q4} (h : Fit n u) (l : n ≤ m) : Fit m u := ⟨h.par, h.ne, h.bd.mono l⟩
end PTree
end G
set_option Elab.async false
set_option linter.all false
set_option maxRecDepth 100000
set_option maxHeartbeats 4000000
namespace D
open PySem PySem.Spec PyProof.Rows L2 G
def nm (b : Bool) : Str := if b then "a" else "b"
def treeD : PTree → Dt
  | .name b => .tup [.str "name", .str (nm b)]
  | .four u => .tup [.str "four", rowD u]
  | .back t => .tup [.str "back", treeD t]
  | .times s t => .tup [.str "times", treeD s, treeD t]
theorem fEq_litT {x y : Str} {P : Res → Prop} (e : (SeqAt.shaped (.str x) && SeqAt.shaped (.str y) && (x == y)) = true) (h : P (.dat (.bl true))) : fEq (.str x) (.str y) P := by
  rw [Bool.and_eq_true, Bool.and_eq_true] at e
  refine ⟨e.1.1, e.1.2, ?_⟩
  show P (.dat (.bl (x == y)))
  rw [e.2]
  exact h
theorem fEq_litF {x y : Str} {P : Res → Prop} (e : (SeqAt.shaped (.str x) && SeqAt.shaped (.str y) && !(x == y)) = true) (h : P (.dat (.bl false))) : fEq (.str x) (.str y) P := by
  rw [Bool.and_eq_true, Bool.and_eq_true, Bool.not_eq_true'] at e
  refine ⟨e.1.1, e.1.2, ?_⟩
  show P (.dat (.bl (x == y)))
  rw [e.2]
  exact h
structure Two (ks : List Key) (l : List Dt) (x y : Dt) : Prop where
  a : dlook ks l (.inr "a") = some x
  b : dlook ks l (.inr "b") = some y
theorem Two.nm {ks : List Key} {l : List Dt} {x y : Dt} (h : Two ks l x y) (b : Bool) : dlook ks l (.inr (D.nm b)) = some (if b then x else y) := by
  cases b
  · exact h.b
  · exact h.a
theorem ne_ab : ("a" : Str) ≠ "b" := by decide +kernel
theorem two_ab {x y : Dt} : Two (strKs ["a", "b"]) [x, y] x y := by
  have n1 := ne_ab
  have n2 := ne_ab.symm
  refine ⟨?_, ?_⟩ <;> simp [dlook, strKs, List.find?_cons, n1, n2]
local macro_rules | `(tactic| infer_instance) => `(tactic| first | ((with_reducible refine lcD_i ?_ ?_); (exact rfl)))
local macro_rules | `(tactic| array_get_dec) => `(tactic| first | (with_reducible refine pr_isnum fun o => ?_) | (with_reducible refine pr_halvesT fun o => ?_) | (with_reducible refine pr_halvesL fun o => ?_) | (with_reducible refine mk_Four ?_ ?_) | (with_reducible refine pr_fhalves fun o => ?_) | (with_reducible refine pr_bool fun o => ?_) | (with_reducible refine pr_eq fun o => ?_))
local macro_rules | `(tactic| infer_instance) => `(tactic| first | with_reducible refine dDg_i ?_ | with_reducible refine dDin_i ?_ | with_reducible refine kDin_f ?_ | with_reducible refine kDin_t ?_ | with_reducible refine kP_newd ?_)
local macro_rules | `(tactic| infer_instance) => `(tactic| first | (with_reducible refine fEq_litT (by decide +kernel) ?_) | (with_reducible refine fEq_litF (by decide +kernel) ?_))
section
variable {A : Cs} {R : Res → List En → Prop} {EX : Xc → List En → Prop} {u v w t t' : Q4} {n m : Nat}
theorem pr_Lback2 (h : ∀ o, R (.dat (rowD u.mir)) o) : spF (tr_L_back A) [rowD u] R EX := by
  unfold spF tr_L_back
  refine ⟨rfl, ?_⟩
  simp only [List.map_cons, List.map_nil, rhoD_cons, rhoD_nil, rhoD_z]
  repeat infer_instance
  exact h _
theorem pr_Lturn2 (p : u.Par) (nu : u ≠ ⟨0, 0, 0, 0⟩) (hu : u.Bd n) (l : n ≤ 8000) (h : ∀ o, R (.dat (turnD A u.lead)) o) : spF (tr_L_turn A) [rowD u] R EX := by
  unfold spF tr_L_turn
  refine ⟨rfl, ?_⟩
  simp only [List.map_cons, List.map_nil, rhoD_cons, rhoD_nil, rhoD_z]
  repeat infer_instance
  refine pr_Lfour p fun o => ?_
  repeat infer_instance
  refine mk_Turn p nu hu l ?_
  repeat infer_instance
  exact h _
theorem pr_twith (p : u.Par) (nu : u ≠ ⟨0, 0, 0, 0⟩) (hu : u.Bd n) (l : n ≤ 8000) (h : ∀ o, R (.dat (turnD A u.lead)) o) : spF (tr_turn_with A) [rowD u] R EX := by
  unfold spF tr_turn_with
  refine ⟨rfl, ?_⟩
  simp only [List.map_cons, List.map_nil, rhoD_cons, rhoD_nil, rhoD_z]
  repeat infer_instance
  · exact p
  repeat infer_instance
  refine mk_Turn p nu hu l ?_
  repeat infer_instance
  exact h _
theorem pr_named {ks : List Key} {l : List Dt} {x y : Dt} (tw : Two ks l x y) {b : Bool} (h : ∀ o, R (.dat (if b then x else y)) o) : spF (tr_named_turn A) [.str (nm b), .dic ks l] R EX := by
  unfold spF tr_named_turn
  refine ⟨rfl, ?_⟩
  simp only [List.map_cons, List.map_nil, rhoD_cons, rhoD_nil, rhoD_z]
  repeat infer_instance
  rw [tw.nm b, Option.isSome_some]
  repeat infer_instance
  refine kDg_d (tw.nm b) ?_
  repeat infer_instance
  exact h _
theorem tf_name {self : SpD} {ks : List Key} {l : List Dt} {x y : Q4} (hx : PTree.Fit 4 x) (hy : PTree.Fit 4 y) (tw : Two ks l (rowD x) (rowD y)) {b : Bool} (h : ∀ o, R (.dat (rowD (if b then x else y).lead)) o) : spF (tr_L_tree_four A self) [.tup [.str "name", .str (nm b)], .dic ks l] R EX := by
  have f : PTree.Fit 4 (if b then x else y) := by cases b <;> assumption
  unfold spF tr_L_tree_four
  refine ⟨rfl, ?_⟩
  simp only [List.map_cons, List.map_nil, rhoD_cons, rhoD_nil, rhoD_z]
  repeat infer_instance
  refine kDg_d (tw.nm b) ?_
  rw [show (if b = true then rowD x else rowD y) = rowD (if b then x else y) from by cases b <;> rfl]
  repeat infer_instance
  refine pr_Llowest f.par f.ne f.bd (by decide) fun o => ?_
  repeat infer_instance
  exact h _
theorem tf_four {self : SpD} {ks : List Key} {l : List Dt} (f : PTree.Fit 4 u) (h : ∀ o, R (.dat (rowD u.lead)) o) : spF (tr_L_tree_four A self) [.tup [.str "four", rowD u], .dic ks l] R EX := by
  unfold spF tr_L_tree_four
  refine ⟨rfl, ?_⟩
  simp only [List.map_cons, List.map_nil, rhoD_cons, rhoD_nil, rhoD_z]
  repeat infer_instance
  refine pr_Llowest f.par f.ne f.bd (by decide) fun o => ?_
  repeat infer_instance
  exact h _
theorem QIn.fit {u : Q4} {m : Int} {n : Nat} (p : u.Par) (nu : u ≠ ⟨0, 0, 0, 0⟩) (h : QIn u m) (hm : (2 * m + 1).natAbs < 2 ^ n) : PTree.Fit n u := by
  obtain ⟨⟨a1, a2⟩, ⟨b1, b2⟩, ⟨c1, c2⟩, d1, d2⟩ := h
  refine ⟨p, nu, ?_, ?_, ?_, ?_⟩ <;> generalize 2 ^ n = P at * <;> omega
abbrev abD : Dt := .lst [.str "a", .str "b"]
theorem lt_step {self : SpD} {L : Int} {f : Feed} (L0 : 0 ≤ L) (hs : 0 < L → ∀ (f : Feed) (R : Res → List En → Prop) (EX : Xc → List En → Prop), (∀ (t : PTree) f', t.ht ≤ (L - 1).toNat → t.Ok → Feed.ok f' → R (.dat (treeD t)) [.own f'.w, .dat abD, .dat (.int (L - 1))]) → f.ok → self [.own f.w, .dat abD, .dat (.int (L - 1))] R EX)
    (h : ∀ (t : PTree) f', t.ht ≤ L.toNat → t.Ok → Feed.ok f' → R (.dat (treeD t)) [.own f'.w, .dat abD, .dat (.int L)]) (ok : f.ok) : tr_L_tree A self [.own f.w, .dat abD, .dat (.int L)] R EX := by
  unfold tr_L_tree
  refine ⟨rfl, ?_⟩
  simp only [List.map_cons, List.map_nil, rhoD_cons, rhoD_nil, rhoD_z]
  repeat infer_instance
  rename_i K hK
  have key : ∀ f1 (r : Int), Feed.ok f1 → 0 ≤ r → (r < 2 ∨ 0 < L) → K [.own f1.w, .dat abD, .dat (.int L), .dat (.int r), .emp] := by
    intro f1 r ok r0 hr
    repeat infer_instance
    refine if_d (fun c0 => ?_) (fun c0 => ?_)
    · repeat infer_instance
      refine pr_pick (fun d f2 md ok2 => ?_) ok (by decide) (by decide)
      obtain ⟨b, rfl⟩ : ∃ b, d = .str (nm b) := by
        simp only [List.mem_cons, List.not_mem_nil, or_false] at md
        rcases md with rfl | rfl
        · exact ⟨true, rfl⟩
        · exact ⟨false, rfl⟩
      repeat infer_instance
      exact h (.name b) _ (Nat.zero_le _) trivial ok2
    · repeat infer_instance
      refine if_d (fun c1 => ?_) (fun c1 => ?_)
      · repeat infer_instance
        refine pr_halves (fun u f2 pu nu iu ok2 => ?_) ok (by decide) (by decide)
        repeat infer_instance
        have ft := iu.fit (n := 3) pu nu (by decide)
        exact h (.four u) _ (Nat.zero_le _) ⟨pu, nu, ft.bd⟩ ok2
      · have Lp : 0 < L := by omega
        repeat infer_instance
        refine if_d (fun c2 => ?_) (fun c2 => ?_)
        · repeat infer_instance
          refine hs Lp _ _ _ (fun t f2 ht ot ok2 => ?_) ok
          repeat infer_instance
          exact h (.back t) _ (by show t.ht + 1 ≤ _; omega) ot ok2
        · repeat infer_instance
          refine hs Lp _ _ _ (fun s f2 hs' os ok2 => ?_) ok
          repeat infer_instance
          refine hs Lp _ _ _ (fun t f3 ht ot ok3 => ?_) ok2
          repeat infer_instance
          exact h (.times s t) _ (by show max s.ht t.ht + 1 ≤ _; omega) ⟨os, ot⟩ ok3
  clear hK
  refine if_d (fun c => ?_) (fun c => ?_)
  · repeat infer_instance
    refine pr_take (fun r f1 r0 r1 ok1 => ?_) ok (by decide) (by decide)
    repeat infer_instance
    exact key _ _ ok1 r0 (.inr c)
  · repeat infer_instance
    refine pr_take (fun r f1 r0 r1 ok1 => ?_) ok (by decide) (by decide)
    repeat infer_instance
    exact key _ _ ok1 r0 (.inl r1)
theorem pr_Ltree : ∀ (j : Nat) (L : Int) (f : Feed) (R : Res → List En → Prop) (EX : Xc → List En → Prop), 0 ≤ L → L < j → (∀ (t : PTree) f', t.ht ≤ L.toNat → t.Ok → Feed.ok f' → R (.dat (treeD t)) [.own f'.w, .dat abD, .dat (.int L)]) → f.ok → rec_L_tree A j [.own f.w, .dat abD, .dat (.int L)] R EX := by
  intro j
  induction j with
  | zero => intro L f R EX h0 h1; omega
  | succ j ih =>
    intro L f R EX h0 h1 h ok
    exact lt_step h0 (fun Lp f R EX h ok => ih (L - 1) f R EX (by omega) (by omega) h ok) h ok
end
end D
set_option Elab.async false
set_option linter.all false
set_option maxRecDepth 100000
set_option maxHeartbeats 4000000
namespace D
open PySem PySem.Spec PyProof.Rows L2 G
def insD : Ins → Dt
  | .load b => .tup [.str "load", .str (nm b)]
  | .push u => .tup [.str "push", rowD u]
  | .inv => .tup [.str "inv"]
  | .mul => .tup [.str "mul"]
theorem tru_snoc {s : List Dt} {d : Dt} {k : Bool → Prop} (h : k true) : tru (.lst (s ++ [d])) k := by
  refine tru_lst ?_
  rw [show (s ++ [d]).isEmpty = false from by cases s <;> rfl]
  exact h
theorem mPop_snoc {s : List Dt} {d : Dt} {R : List Dt → Dt → Prop} (h : R s d) : mPop (s ++ [d]) [] R := by
  unfold mPop
  have e : (s ++ [d])[(s ++ [d]).length - 1]? = some d := by
    rw [List.length_append, show s.length + [d].length - 1 = s.length from rfl, List.getElem?_append_right (Nat.le_refl _), Nat.sub_self]
    rfl
  simp only [e, List.dropLast_concat]
  exact h
def FR (g : TGD) (tb : TSD) (WD : WDt) (E : EndsD) (A : Cs) (c0 c1 : En) (ds : List Ins) (s : List Q4) : Prop := s.length + ds.length ≤ 100 → ∀ x3 x4 x5 x6, forD g tb WD E (ds.map insD) [c0, c1, .own (.lst (s.map fun u => turnD A u.lead)), x3, x4, x5, x6]
theorem kAug_j {i : Nat} {d d' : Dt} {f : F2} {E : EndsD} {ρ : List En} (h : f d d' fun r2 => gN i WDN r2 ρ (nxOf E)) : kAug i d f E (.dat d') ρ := kAug_i h
theorem fI_i {g : Int → Int → Dt} {a b : Int} {P : Res → Prop} (h : P (.dat (g a b))) : fI g (.int a) (.int b) P := h
local macro_rules | `(tactic| infer_instance) => `(tactic| first | ((with_reducible refine lcD_i ?_ ?_); (exact rfl)))
local macro_rules | `(tactic| array_get_dec) => `(tactic| first | (with_reducible refine pr_isnum fun o => ?_) | (with_reducible refine pr_halvesT fun o => ?_) | (with_reducible refine pr_halvesL fun o => ?_) | (with_reducible refine mk_Four ?_ ?_) | (with_reducible refine pr_fhalves fun o => ?_) | (with_reducible refine pr_bool fun o => ?_) | (with_reducible refine pr_eq fun o => ?_))
local macro_rules | `(tactic| infer_instance) => `(tactic| first | with_reducible refine dDg_i ?_ | with_reducible refine dDin_i ?_ | with_reducible refine kDin_f ?_ | with_reducible refine kDin_t ?_ | with_reducible refine kP_newd ?_ | with_reducible refine dAsg2_i ?_ | with_reducible refine kAsg2_i ?_ | with_reducible refine fMax2_i ?_ | with_reducible refine fInt_b ?_ | with_reducible refine tru_snoc ?_ | with_reducible refine mPop_snoc ?_ | with_reducible refine kAug_j ?_ | with_reducible refine fI_i ?_)
local macro_rules | `(tactic| infer_instance) => `(tactic| first | (with_reducible refine fEq_litT (by decide +kernel) ?_) | (with_reducible refine fEq_litF (by decide +kernel) ?_))
section
variable {A : Cs} {R : Res → List En → Prop} {EX : Xc → List En → Prop} {u v w t t' : Q4} {n m : Nat}
theorem pr_tfour2 (h : ∀ o, R (.dat (fourD A u)) o) : spF (tr_Turn_four A) [turnD A u] R EX := by
  unfold spF tr_Turn_four
  refine ⟨rfl, ?_⟩
  simp only [List.map_cons, List.map_nil, rhoD_cons, rhoD_nil, rhoD_z]
  repeat infer_instance
  exact h _
theorem tc_name {self : SpD} {b : Bool} (h : ∀ o, R (.new (.lst [insD (.load b)])) o) : spF (tr_L_tree_code A self) [.tup [.str "name", .str (nm b)]] R EX := by
  unfold spF tr_L_tree_code
  refine ⟨rfl, ?_⟩
  simp only [List.map_cons, List.map_nil, rhoD_cons, rhoD_nil, rhoD_z]
  repeat infer_instance
  exact h _
theorem tc_four {self : SpD} (h : ∀ o, R (.new (.lst [insD (.push u)])) o) : spF (tr_L_tree_code A self) [.tup [.str "four", rowD u]] R EX := by
  unfold spF tr_L_tree_code
  refine ⟨rfl, ?_⟩
  simp only [List.map_cons, List.map_nil, rhoD_cons, rhoD_nil, rhoD_z]
  repeat infer_instance
  exact h _
theorem tc_back {self : SpD} {d : Dt} {l : List Ins} (hl : l.length ≤ 100) (hs : ∀ (R : Res → List En → Prop) (EX : Xc → List En → Prop), (∀ o, R (.new (.lst (l.map insD))) o) → spF self [d] R EX) (h : ∀ o, R (.new (.lst ((l ++ [Ins.inv]).map insD))) o) : spF (tr_L_tree_code A self) [.tup [.str "back", d]] R EX := by
  have sl : 1000 ≤ sizeLine := by decide
  rw [List.map_append] at h
  unfold spF tr_L_tree_code
  refine ⟨rfl, ?_⟩
  simp only [List.map_cons, List.map_nil, rhoD_cons, rhoD_nil, rhoD_z]
  repeat infer_instance
  refine hs _ _ fun o => ?_
  repeat infer_instance
  · refine Nat.ble_eq_true_of_le ?_
    rw [List.length_append, List.length_map]
    show l.length + 1 ≤ sizeLine
    omega
  · repeat infer_instance
    exact h _
theorem tc_times {self : SpD} {d e : Dt} {l k : List Ins} (hl : l.length + k.length ≤ 100) (hs : ∀ (R : Res → List En → Prop) (EX : Xc → List En → Prop), (∀ o, R (.new (.lst (l.map insD))) o) → spF self [d] R EX) (ht : ∀ (R : Res → List En → Prop) (EX : Xc → List En → Prop), (∀ o, R (.new (.lst (k.map insD))) o) → spF self [e] R EX) (h : ∀ o, R (.new (.lst ((l ++ k ++ [Ins.mul]).map insD))) o) : spF (tr_L_tree_code A self) [.tup [.str "times", d, e]] R EX := by
  have sl : 1000 ≤ sizeLine := by decide
  rw [List.map_append, List.map_append] at h
  unfold spF tr_L_tree_code
  refine ⟨rfl, ?_⟩
  simp only [List.map_cons, List.map_nil, rhoD_cons, rhoD_nil, rhoD_z]
  repeat infer_instance
  refine hs _ _ fun o => ?_
  repeat infer_instance
  refine ht _ _ fun o => ?_
  repeat infer_instance
  · refine Nat.ble_eq_true_of_le ?_
    rw [List.length_append, List.length_map, List.length_map]
    omega
  · repeat infer_instance
    · refine Nat.ble_eq_true_of_le ?_
      rw [List.length_append, List.length_append, List.length_map, List.length_map]
      show l.length + k.length + 1 ≤ sizeLine
      omega
    · repeat infer_instance
      exact h _
theorem pr_lastof {s : List Dt} {d : Dt} (h : R (.dat d) [.own (.lst s)]) : tr_last_of A [.own (.lst (s ++ [d]))] R EX := by
  unfold tr_last_of
  refine ⟨rfl, ?_⟩
  simp only [List.map_cons, List.map_nil, rhoD_cons, rhoD_nil, rhoD_z]
  repeat infer_instance
  exact h
end
end D
set_option Elab.async false
set_option linter.all false
namespace G
theorem bits_lt {n k : Nat} (h : n ≠ 0) : n.log2 < k ↔ n < 2 ^ k := Nat.log2_lt h
def mx (u : Q4) : Nat := max (max u.a.natAbs u.b.natAbs) (max u.c.natAbs u.d.natAbs)
def bits (u : Q4) : Nat := (mx u).log2 + 1
theorem mx_ne {u : Q4} (h : u ≠ ⟨0, 0, 0, 0⟩) : mx u ≠ 0 := fun z => h (by
  unfold mx at z
  exact Q4.ext (by show u.a = 0; omega) (by show u.b = 0; omega) (by show u.c = 0; omega) (by show u.d = 0; omega))
theorem bits_bd {u : Q4} (h : u ≠ ⟨0, 0, 0, 0⟩) {k : Nat} : u.Bd k ↔ bits u ≤ k := by
  have e : bits u ≤ k ↔ mx u < 2 ^ k := by rw [← bits_lt (mx_ne h)]; exact Nat.lt_iff_add_one_le.symm
  rw [e]
  unfold Q4.Bd mx
  constructor
  · rintro ⟨a, b, c, d⟩; omega
  · intro z; omega
def Kn (u : Q4) : Prop := u.Par ∧ u ≠ ⟨0, 0, 0, 0⟩
theorem Kn.fit {u : Q4} (h : Kn u) : PTree.Fit (bits u) u := ⟨h.1, h.2, (bits_bd h.2).mpr (Nat.le_refl _)⟩
theorem fit_kn {u : Q4} {n : Nat} (h : PTree.Fit n u) : Kn u ∧ bits u ≤ n := ⟨⟨h.par, h.ne⟩, (bits_bd h.ne).mp h.bd⟩
theorem Kn.mir {u : Q4} (h : Kn u) : Kn u.mir ∧ bits u.mir ≤ bits u := by
  have k : Kn u.mir := ⟨Q4.mir_par h.1, Q4.mir_ne h.2⟩
  exact ⟨k, (bits_bd k.2).mp h.fit.bd.mir⟩
theorem Kn.mul {u v : Q4} (h : Kn u) (h' : Kn v) : Kn (Q4.mul u v) ∧ bits (Q4.mul u v) ≤ bits u + bits v + 1 := by
  have k : Kn (Q4.mul u v) := ⟨(Q4.mul_all h.1 h'.1).2, Q4.mul_ne h.1 h.2 h'.1 h'.2⟩
  exact ⟨k, (bits_bd k.2).mp (h.fit.bd.mul' h'.fit.bd)⟩
theorem Kn.lead {u : Q4} (h : Kn u) : Kn u.lead ∧ bits u.lead ≤ bits u := by
  have k : Kn u.lead := ⟨Q4.lead_par h.1 h.2, Q4.lead_ne h.1 h.2⟩
  exact ⟨k, (bits_bd k.2).mp (Q4.lead_bd h.1 h.2 h.fit.bd)⟩
def wt : Ins → Nat
  | .load _ => 5
  | .push u => bits u + 1
  | _ => 0
def okI : Ins → Prop
  | .push u => Kn u
  | _ => True
def wC (c : List Ins) : Nat := (c.map wt).sum
def wS (s : List Q4) : Nat := (s.map fun u => bits u + 1).sum
theorem wC_app (c d : List Ins) : wC (c ++ d) = wC c + wC d := by unfold wC; rw [List.map_append, List.sum_append]
theorem wC_cons (i : Ins) (d : List Ins) : wC (i :: d) = wt i + wC d := by unfold wC; rw [List.map_cons, List.sum_cons]
theorem wC_rev (c : List Ins) : wC c.reverse = wC c := by
  induction c with
  | nil => rfl
  | cons i c ih => rw [List.reverse_cons, wC_app, ih, wC_cons, wC_cons]; unfold wC; simp; omega
theorem wS_cons (u : Q4) (s : List Q4) : wS (u :: s) = bits u + 1 + wS s := by unfold wS; rw [List.map_cons, List.sum_cons]
section
variable {x y : Q4}
def ex (x y : Q4) : List Ins → List Q4 → Option (List Q4)
  | [], s => some s
  | .load b :: r, s => ex x y r ((if b then x else y) :: s)
  | .push u :: r, s => ex x y r (u :: s)
  | .inv :: r, u :: s => ex x y r (u.mir :: s)
  | .mul :: r, v :: u :: s => ex x y r (Q4.mul u v :: s)
  | .inv :: _, [] => none
  | .mul :: _, [] => none
  | .mul :: _, [_] => none
theorem ex_app : ∀ (c d : List Ins) (s : List Q4), ex x y (c ++ d) s = (ex x y c s).bind (ex x y d)
  | [], d, s => rfl
  | .load b :: r, d, s => by rw [List.cons_append, ex, ex, ex_app r d]
  | .push u :: r, d, s => by rw [List.cons_append, ex, ex, ex_app r d]
  | .inv :: r, d, u :: s => by rw [List.cons_append, ex, ex, ex_app r d]
  | .mul :: r, d, v :: u :: s => by rw [List.cons_append, ex, ex, ex_app r d]
  | .inv :: r, d, [] => rfl
  | .mul :: r, d, [] => rfl
  | .mul :: r, d, [_] => rfl
theorem load_kn {hx : PTree.Fit 4 x} {hy : PTree.Fit 4 y} (b : Bool) : Kn (if b then x else y) ∧ bits (if b then x else y) ≤ 4 := by
  cases b
  · exact fit_kn hy
  · exact fit_kn hx
theorem ex_kn (hx : PTree.Fit 4 x) (hy : PTree.Fit 4 y) : ∀ (c : List Ins) (s t : List Q4), (∀ i ∈ c, okI i) → (∀ u ∈ s, Kn u) → ex x y c s = some t → (∀ u ∈ t, Kn u) ∧ wS t ≤ wC c + wS s
  | [], s, t, _, ks, e => by
    cases e
    exact ⟨ks, by show wS s ≤ 0 + wS s; omega⟩
  | .load b :: r, s, t, kc, ks, e => by
    have l := load_kn (hx := hx) (hy := hy) b
    obtain ⟨h1, h2⟩ := ex_kn hx hy r ((if b then x else y) :: s) t (fun i m => kc i (.tail _ m)) (fun u m => by
      rcases List.mem_cons.mp m with rfl | m
      · exact l.1
      · exact ks u m) e
    rw [wS_cons] at h2
    refine ⟨h1, ?_⟩
    rw [wC_cons]
    show _ ≤ 5 + wC r + wS s
    omega
  | .push u :: r, s, t, kc, ks, e => by
    have l : Kn u := kc (.push u) (.head _)
    obtain ⟨h1, h2⟩ := ex_kn hx hy r (u :: s) t (fun i m => kc i (.tail _ m)) (fun v m => by
      rcases List.mem_cons.mp m with rfl | m
      · exact l
      · exact ks v m) e
    rw [wS_cons] at h2
    refine ⟨h1, ?_⟩
    rw [wC_cons]
    show _ ≤ bits u + 1 + wC r + wS s
    omega
  | .inv :: r, u :: s, t, kc, ks, e => by
    have l := (ks u (.head _)).mir
    obtain ⟨h1, h2⟩ := ex_kn hx hy r (u.mir :: s) t (fun i m => kc i (.tail _ m)) (fun v m => by
      rcases List.mem_cons.mp m with rfl | m
      · exact l.1
      · exact ks v (.tail _ m)) e
    rw [wS_cons] at h2 ⊢
    refine ⟨h1, ?_⟩
    rw [wC_cons]
    show _ ≤ 0 + wC r + (bits u + 1 + wS s)
    have := l.2
    omega
  | .mul :: r, v :: u :: s, t, kc, ks, e => by
    have l := (ks u (.tail _ (.head _))).mul (ks v (.head _))
    obtain ⟨h1, h2⟩ := ex_kn hx hy r (Q4.mul u v :: s) t (fun i m => kc i (.tail _ m)) (fun w m => by
      rcases List.mem_cons.mp m with rfl | m
      · exact l.1
      · exact ks w (.tail _ (.tail _ m))) e
    rw [wS_cons] at h2
    rw [wS_cons, wS_cons]
    refine ⟨h1, ?_⟩
    rw [wC_cons]
    show _ ≤ 0 + wC r + (bits v + 1 + (bits u + 1 + wS s))
    have := l.2
    omega
  | .inv :: r, [], t, _, _, e => by cases e
  | .mul :: r, [], t, _, _, e => by cases e
  | .mul :: r, [_], t, _, _, e => by cases e
def Alk (s s' : List Q4) : Prop := s.map Q4.lead = s'.map Q4.lead
theorem alk_cons {u u' : Q4} {s s' : List Q4} (h : u.lead = u'.lead) (h' : Alk s s') : Alk (u :: s) (u' :: s') := by
  unfold Alk at h' ⊢
  rw [List.map_cons, List.map_cons, h, h']
theorem alk_inv {u : Q4} {s t : List Q4} (h : Alk (u :: s) t) : ∃ u' s', t = u' :: s' ∧ u.lead = u'.lead ∧ Alk s s' := by
  unfold Alk at h
  cases t with
  | nil => cases h
  | cons u' s' =>
    rw [List.map_cons, List.map_cons] at h
    injection h with h1 h2
    exact ⟨u', s', rfl, h1, h2⟩
theorem ex_alk (hx : PTree.Fit 4 x) (hy : PTree.Fit 4 y) : ∀ (c : List Ins) (s s' t : List Q4), (∀ i ∈ c, okI i) → (∀ u ∈ s, Kn u) → (∀ u ∈ s', Kn u) → Alk s s' → ex x y c s = some t → ∃ t', ex x y c s' = some t' ∧ Alk t t'
  | [], s, s', t, _, _, _, a, e => by
    cases e
    exact ⟨s', rfl, a⟩
  | .load b :: r, s, s', t, kc, ks, ks', a, e => by
    have l := load_kn (hx := hx) (hy := hy) b
    have q : ∀ z : List Q4, (∀ u ∈ z, Kn u) → ∀ u ∈ (if b then x else y) :: z, Kn u := fun z kz u m => by
      rcases List.mem_cons.mp m with rfl | m
      · exact l.1
      · exact kz u m
    exact ex_alk hx hy r _ _ t (fun i m => kc i (.tail _ m)) (q s ks) (q s' ks') (alk_cons rfl a) e
  | .push u :: r, s, s', t, kc, ks, ks', a, e => by
    have l : Kn u := kc (.push u) (.head _)
    have q : ∀ z : List Q4, (∀ u ∈ z, Kn u) → ∀ v ∈ u :: z, Kn v := fun z kz v m => by
      rcases List.mem_cons.mp m with rfl | m
      · exact l
      · exact kz v m
    exact ex_alk hx hy r _ _ t (fun i m => kc i (.tail _ m)) (q s ks) (q s' ks') (alk_cons rfl a) e
  | .inv :: r, u :: s, z, t, kc, ks, ks', a, e => by
    obtain ⟨u', s', rfl, hu, a⟩ := alk_inv a
    have k1 := ks u (.head _)
    have k2 := ks' u' (.head _)
    refine ex_alk hx hy r (u.mir :: s) (u'.mir :: s') t (fun i m => kc i (.tail _ m)) (fun v m => ?_) (fun v m => ?_) (alk_cons ?_ a) e
    · rcases List.mem_cons.mp m with rfl | m
      · exact k1.mir.1
      · exact ks v (.tail _ m)
    · rcases List.mem_cons.mp m with rfl | m
      · exact k2.mir.1
      · exact ks' v (.tail _ m)
    · rw [← Q4.lead_mir k1.1 k1.2, ← Q4.lead_mir k2.1 k2.2, hu]
  | .mul :: r, v :: u :: s, z, t, kc, ks, ks', a, e => by
    obtain ⟨v', z, rfl, hv, a⟩ := alk_inv a
    obtain ⟨u', s', rfl, hu, a⟩ := alk_inv a
    have k1 := ks u (.tail _ (.head _))
    have k2 := ks' u' (.tail _ (.head _))
    have l1 := ks v (.head _)
    have l2 := ks' v' (.head _)
    refine ex_alk hx hy r (Q4.mul u v :: s) (Q4.mul u' v' :: s') t (fun i m => kc i (.tail _ m)) (fun w m => ?_) (fun w m => ?_) (alk_cons ?_ a) e
    · rcases List.mem_cons.mp m with rfl | m
      · exact (k1.mul l1).1
      · exact ks w (.tail _ (.tail _ m))
    · rcases List.mem_cons.mp m with rfl | m
      · exact (k2.mul l2).1
      · exact ks' w (.tail _ (.tail _ m))
    · rw [← Q4.lead_mul k1.1 k1.2 l1.1 l1.2, ← Q4.lead_mul k2.1 k2.2 l2.1 l2.2, hu, hv]
  | .inv :: r, [], _, t, _, _, _, _, e => by cases e
  | .mul :: r, [], _, t, _, _, _, _, e => by cases e
  | .mul :: r, [_], _, t, _, _, _, _, e => by cases e
def stp : List Ins → Ins → List Ins
  | .inv :: s, .inv => s
  | .push a :: s, .inv => .push a.mir.lead :: s
  | .push b :: .push a :: s, .mul => .push (Q4.mul a b).lead :: s
  | s, i => i :: s
def Irr : List Ins → Prop
  | [] => True
  | i :: s => Irr s ∧ stp s i = i :: s
theorem stp_push (s : List Ins) (u : Q4) : stp s (.push u) = .push u :: s := by
  match s with
  | [] => rfl
  | .inv :: _ => rfl
  | .mul :: _ => rfl
  | .load _ :: _ => rfl
  | .push _ :: [] => rfl
  | .push _ :: .inv :: _ => rfl
  | .push _ :: .mul :: _ => rfl
  | .push _ :: .load _ :: _ => rfl
  | .push _ :: .push _ :: _ => rfl
theorem stp_or (s : List Ins) (i : Ins) : stp s i = i :: s ∨ (∃ s0, s = .inv :: s0 ∧ i = .inv ∧ stp s i = s0) ∨ (∃ a s0, s = .push a :: s0 ∧ i = .inv ∧ stp s i = .push a.mir.lead :: s0) ∨ (∃ a b s0, s = .push b :: .push a :: s0 ∧ i = .mul ∧ stp s i = .push (Q4.mul a b).lead :: s0) := by
  unfold stp
  split
  · exact .inr (.inl ⟨_, rfl, rfl, rfl⟩)
  · exact .inr (.inr (.inl ⟨_, _, rfl, rfl, rfl⟩))
  · exact .inr (.inr (.inr ⟨_, _, _, rfl, rfl, rfl⟩))
  · exact .inl rfl
theorem stp_len (s : List Ins) (i : Ins) (h : stp s i ≠ i :: s) : (stp s i).length ≤ s.length := by
  rcases stp_or s i with e | ⟨s0, rfl, rfl, e⟩ | ⟨a, s0, rfl, rfl, e⟩ | ⟨a, b, s0, rfl, rfl, e⟩
  · exact absurd e h
  · rw [e]; simp
  · rw [e]; simp
  · rw [e]; simp
theorem Irr.stp {s : List Ins} (h : Irr s) (i : Ins) : Irr (stp s i) := by
  rcases stp_or s i with e | ⟨s0, rfl, rfl, e⟩ | ⟨a, s0, rfl, rfl, e⟩ | ⟨a, b, s0, rfl, rfl, e⟩
  · rw [e]; exact ⟨h, e⟩
  · rw [e]; exact h.1
  · rw [e]; exact ⟨h.1, stp_push _ _⟩
  · rw [e]; exact ⟨h.1.1, stp_push _ _⟩
def lf : List Ins → List Ins → List Ins
  | s, [] => s.reverse
  | s, i :: r => if stp s i = i :: s then lf (i :: s) r else (stp s i).reverse ++ r
theorem lf_irr : ∀ (s : List Ins) (r : List Ins), Irr s → lf [] (s.reverse ++ r) = lf s r
  | [], r, _ => rfl
  | i :: s, r, h => by
    rw [List.reverse_cons, List.append_assoc, lf_irr s ([i] ++ r) h.1]
    show lf s (i :: r) = _
    rw [lf, if_pos h.2]
theorem lf_or : ∀ (r s : List Ins), Irr s → lf s r = (r.foldl stp s).reverse ∨ ∃ s' r', lf s r = s'.reverse ++ r' ∧ Irr s' ∧ r'.foldl stp s' = r.foldl stp s ∧ s'.length + r'.length < s.length + r.length
  | [], s, h => .inl rfl
  | i :: r, s, h => by
    by_cases e : stp s i = i :: s
    · rw [lf, if_pos e, List.foldl_cons, e]
      rcases lf_or r (i :: s) ⟨h, e⟩ with q | ⟨s', r', q1, q2, q3, q4⟩
      · exact .inl q
      · exact .inr ⟨s', r', q1, q2, q3, by simp only [List.length_cons] at q4 ⊢; omega⟩
    · rw [lf, if_neg e]
      refine .inr ⟨stp s i, r, rfl, h.stp i, rfl, ?_⟩
      have := stp_len s i e
      rw [List.length_cons]
      omega
theorem irr_fold : ∀ (r s : List Ins), Irr s → Irr (r.foldl stp s)
  | [], s, h => h
  | i :: r, s, h => irr_fold r _ (h.stp i)
def lfs : Nat → List Ins → List Ins
  | 0, c => c
  | n + 1, c => lfs n (lf [] c)
theorem lfs_irr {s : List Ins} (h : Irr s) : ∀ n, lfs n s.reverse = s.reverse
  | 0 => rfl
  | n + 1 => by
    have := lf_irr s [] h
    rw [List.append_nil] at this
    rw [lfs, this]
    exact lfs_irr h n
theorem lfs_all : ∀ (n : Nat) (s r : List Ins), Irr s → s.length + r.length ≤ n → lfs n (s.reverse ++ r) = (r.foldl stp s).reverse
  | 0, s, r, h, l => by
    obtain rfl := List.length_eq_zero_iff.mp (show s.length = 0 by omega)
    obtain rfl := List.length_eq_zero_iff.mp (show r.length = 0 by omega)
    rfl
  | n + 1, s, r, h, l => by
    rw [lfs, lf_irr s r h]
    rcases lf_or r s h with q | ⟨s', r', q1, q2, q3, q4⟩
    · rw [q]
      exact lfs_irr (irr_fold r s h) n
    · rw [q1, lfs_all n s' r' q2 (by omega), q3]
def shc (c : List Ins) : List Ins := (c.foldl stp []).reverse
theorem lfs_shc (c : List Ins) : lfs c.length c = shc c := lfs_all c.length [] c trivial (by simp)
theorem lfs_succ : ∀ (n : Nat) (c : List Ins), lfs (n + 1) c = lf [] (lfs n c)
  | 0, c => rfl
  | n + 1, c => by rw [lfs, lfs_succ n]; rfl
theorem irr_shc (c : List Ins) : Irr (shc c).reverse := by
  unfold shc
  rw [List.reverse_reverse]
  exact irr_fold c [] trivial
theorem foldl_irr : ∀ (s : List Ins), Irr s → s.reverse.foldl stp [] = s
  | [], _ => rfl
  | i :: s, h => by
    rw [List.reverse_cons, List.foldl_append, foldl_irr s h.1]
    exact h.2
theorem shc_shc (c : List Ins) : shc (shc c) = shc c := by
  have := foldl_irr (shc c).reverse (irr_shc c)
  rw [List.reverse_reverse] at this
  unfold shc at this ⊢
  rw [this, List.reverse_reverse]
theorem stp_ex (hx : PTree.Fit 4 x) (hy : PTree.Fit 4 y) {s r : List Ins} {i : Ins} {t : List Q4} (kc : ∀ j ∈ s.reverse ++ i :: r, okI j) (e : ex x y (s.reverse ++ i :: r) [] = some t) :
    (∀ j ∈ (stp s i).reverse ++ r, okI j) ∧ wC ((stp s i).reverse ++ r) ≤ wC (s.reverse ++ i :: r) ∧ ∃ t', ex x y ((stp s i).reverse ++ r) [] = some t' ∧ Alk t t' := by
  have kr : ∀ j ∈ r, okI j := fun j m => kc j (List.mem_append.mpr (.inr (.tail _ m)))
  rcases stp_or s i with q | ⟨s0, rfl, rfl, q⟩ | ⟨a, s0, rfl, rfl, q⟩ | ⟨a, b, s0, rfl, rfl, q⟩
  · rw [q, List.reverse_cons, List.append_assoc]
    exact ⟨kc, Nat.le_refl _, t, e, rfl⟩
  · rw [q]
    rw [List.reverse_cons, List.append_assoc] at kc e ⊢
    have k0 : ∀ j ∈ s0.reverse, okI j := fun j m => kc j (List.mem_append.mpr (.inl m))
    refine ⟨fun j m => (List.mem_append.mp m).elim (k0 j) (kr j), ?_, ?_⟩
    · rw [wC_app, wC_app]; show _ ≤ _ + wC (.inv :: .inv :: r); rw [wC_cons, wC_cons]; omega
    · rw [ex_app] at e ⊢
      cases h : ex x y s0.reverse [] with
      | none => rw [h] at e; cases e
      | some σ =>
        rw [h] at e
        have e : ex x y (.inv :: .inv :: r) σ = some t := e
        cases σ with
        | nil => cases e
        | cons u σ =>
          rw [ex, ex, Q4.mir_mir] at e
          exact ⟨t, e, rfl⟩
  · rw [q, List.reverse_cons, List.append_assoc]
    rw [List.reverse_cons, List.append_assoc] at kc e
    have k0 : ∀ j ∈ s0.reverse, okI j := fun j m => kc j (List.mem_append.mpr (.inl m))
    have ka : Kn a := kc (.push a) (List.mem_append.mpr (.inr (.head _)))
    have kl := ka.mir.1.lead
    refine ⟨fun j m => ?_, ?_, ?_⟩
    · rcases List.mem_append.mp m with m | m
      · exact k0 j m
      · rcases List.mem_cons.mp m with rfl | m
        · exact kl.1
        · exact kr j m
    · simp only [List.reverse_cons, wC_app, wC_cons, show wC [] = 0 from rfl, wt]
      have := kl.2
      have := ka.mir.2
      omega
    · rw [ex_app] at e ⊢
      cases h : ex x y s0.reverse [] with
      | none => rw [h] at e; cases e
      | some σ =>
        rw [h] at e
        have e : ex x y (.push a :: .inv :: r) σ = some t := e
        rw [ex, ex] at e
        obtain ⟨kσ, _⟩ := ex_kn hx hy s0.reverse [] σ k0 (fun u m => by cases m) h
        obtain ⟨t', e', al⟩ := ex_alk hx hy r (a.mir :: σ) (a.mir.lead :: σ) t kr (fun u m => by
          rcases List.mem_cons.mp m with rfl | m
          · exact ka.mir.1
          · exact kσ u m) (fun u m => by
          rcases List.mem_cons.mp m with rfl | m
          · exact kl.1
          · exact kσ u m) (alk_cons (Q4.lead_lead ka.mir.1.1 ka.mir.1.2).symm rfl) e
        exact ⟨t', e', al⟩
  · rw [q, List.reverse_cons, List.append_assoc]
    rw [List.reverse_cons, List.reverse_cons, List.append_assoc, List.append_assoc] at kc e
    have k0 : ∀ j ∈ s0.reverse, okI j := fun j m => kc j (List.mem_append.mpr (.inl m))
    have ka : Kn a := kc (.push a) (List.mem_append.mpr (.inr (.head _)))
    have kb : Kn b := kc (.push b) (List.mem_append.mpr (.inr (.tail _ (.head _))))
    have km := ka.mul kb
    have kl := km.1.lead
    refine ⟨fun j m => ?_, ?_, ?_⟩
    · rcases List.mem_append.mp m with m | m
      · exact k0 j m
      · rcases List.mem_cons.mp m with rfl | m
        · exact kl.1
        · exact kr j m
    · simp only [List.reverse_cons, wC_app, wC_cons, show wC [] = 0 from rfl, wt]
      have := kl.2
      have := km.2
      omega
    · rw [ex_app] at e ⊢
      cases h : ex x y s0.reverse [] with
      | none => rw [h] at e; cases e
      | some σ =>
        rw [h] at e
        have e : ex x y (.push a :: .push b :: .mul :: r) σ = some t := e
        rw [ex, ex, ex] at e
        obtain ⟨kσ, _⟩ := ex_kn hx hy s0.reverse [] σ k0 (fun u m => by cases m) h
        obtain ⟨t', e', al⟩ := ex_alk hx hy r (Q4.mul a b :: σ) ((Q4.mul a b).lead :: σ) t kr (fun u m => by
          rcases List.mem_cons.mp m with rfl | m
          · exact km.1
          · exact kσ u m) (fun u m => by
          rcases List.mem_cons.mp m with rfl | m
          · exact kl.1
          · exact kσ u m) (alk_cons (Q4.lead_lead km.1.1 km.1.2).symm rfl) e
        exact ⟨t', e', al⟩
theorem fold_ex (hx : PTree.Fit 4 x) (hy : PTree.Fit 4 y) : ∀ (r s : List Ins) (t : List Q4), (∀ j ∈ s.reverse ++ r, okI j) → ex x y (s.reverse ++ r) [] = some t →
    (∀ j ∈ (r.foldl stp s).reverse, okI j) ∧ wC (r.foldl stp s).reverse ≤ wC (s.reverse ++ r) ∧ ∃ t', ex x y (r.foldl stp s).reverse [] = some t' ∧ Alk t t'
  | [], s, t, kc, e => by
    rw [List.append_nil] at kc e ⊢
    exact ⟨kc, Nat.le_refl _, t, e, rfl⟩
  | i :: r, s, t, kc, e => by
    obtain ⟨k1, w1, t1, e1, a1⟩ := stp_ex hx hy kc e
    obtain ⟨k2, w2, t2, e2, a2⟩ := fold_ex hx hy r (stp s i) t1 k1 e1
    exact ⟨k2, Nat.le_trans w2 w1, t2, e2, Eq.trans a1 a2⟩
theorem shc_ex (hx : PTree.Fit 4 x) (hy : PTree.Fit 4 y) {c : List Ins} {t : List Q4} (kc : ∀ j ∈ c, okI j) (e : ex x y c [] = some t) : (∀ j ∈ shc c, okI j) ∧ wC (shc c) ≤ wC c ∧ ∃ t', ex x y (shc c) [] = some t' ∧ Alk t t' := fold_ex hx hy c [] t kc e
theorem shc_len (c : List Ins) : (shc c).length ≤ c.length := by
  unfold shc
  rw [List.length_reverse]
  have : ∀ (r s : List Ins), (r.foldl stp s).length ≤ s.length + r.length := by
    intro r
    induction r with
    | nil => intro s; simp
    | cons i r ih =>
      intro s
      have h := ih (stp s i)
      have : (stp s i).length ≤ s.length + 1 := by
        by_cases e : stp s i = i :: s
        · rw [e]; simp
        · have := stp_len s i e; omega
      rw [List.foldl_cons, List.length_cons]
      omega
  have := this c []
  simpa using this
theorem ex_code : ∀ (t : PTree) (r : List Ins) (s : List Q4), ex x y (t.code ++ r) s = ex x y r (t.qv x y :: s)
  | .name b, r, s => rfl
  | .four u, r, s => rfl
  | .back t, r, s => by
    show ex x y (t.code ++ [Ins.inv] ++ r) s = _
    rw [List.append_assoc, ex_code t]
    rfl
  | .times t t', r, s => by
    show ex x y (t.code ++ t'.code ++ [Ins.mul] ++ r) s = _
    rw [List.append_assoc, List.append_assoc, ex_code t, ex_code t']
    rfl
theorem irr_pair : ∀ (s : List Ins), Irr s → ∀ k, s[k]? = some .inv → ∀ j, s[k + 1]? = some j → j ≠ .inv ∧ ∀ u, j ≠ .push u
  | [], _, k, h, _, _ => by simp at h
  | i :: s, h, 0, h1, j, h2 => by
    have e1 : i = .inv := by simpa using h1
    subst e1
    rw [List.getElem?_cons_succ] at h2
    cases s with
    | nil => simp at h2
    | cons z s =>
      have e2 : z = j := by simpa using h2
      subst e2
      have q := h.2
      constructor
      · rintro rfl
        have := congrArg List.length q
        simp [stp] at this
        omega
      · rintro u rfl
        have := congrArg List.length q
        simp [stp] at this
  | i :: s, h, k + 1, h1, j, h2 => irr_pair s h.1 k (by simpa using h1) j (by simpa using h2)
end
end G
namespace G
section
variable {x y : Q4}
theorem ex_fold {P : Bool → Prop} {F : List Ins → List Q4 → Prop} (hx : PTree.Fit 4 x) (hy : PTree.Fit 4 y)
    (hl : ∀ b r s, P b → F r ((if b then x else y) :: s) → F (.load b :: r) s)
    (hp : ∀ u r s, PTree.Fit 100 u → F r (u :: s) → F (.push u :: r) s)
    (hi : ∀ u r s, PTree.Fit 100 u → F r (u.mir :: s) → F (.inv :: r) (u :: s))
    (hm : ∀ u v r s, PTree.Fit 100 u → PTree.Fit 100 v → F r (Q4.mul u v :: s) → F (.mul :: r) (v :: u :: s)) :
    ∀ (c : List Ins) (s t : List Q4), (∀ b, Ins.load b ∈ c → P b) → (∀ i ∈ c, okI i) → (∀ u ∈ s, Kn u) → wC c + wS s ≤ 100 → ex x y c s = some t → F [] t → F c s
  | [], s, t, _, _, _, _, e, h => by cases e; exact h
  | .load b :: r, s, t, hb, kc, ks, w, e, h => by
    have l := load_kn (hx := hx) (hy := hy) b
    refine hl b r s (hb b (.head _)) (ex_fold hx hy hl hp hi hm r _ t (fun b m => hb b (.tail _ m)) (fun i m => kc i (.tail _ m)) (fun u m => ?_) ?_ e h)
    · rcases List.mem_cons.mp m with rfl | m
      · exact l.1
      · exact ks u m
    · rw [wC_cons] at w
      rw [wS_cons]
      have w : 5 + wC r + wS s ≤ 100 := w
      have := l.2
      omega
  | .push u :: r, s, t, hb, kc, ks, w, e, h => by
    have l : Kn u := kc (.push u) (.head _)
    rw [wC_cons] at w
    have w : bits u + 1 + wC r + wS s ≤ 100 := w
    refine hp u r s (l.fit.mono (by omega)) (ex_fold hx hy hl hp hi hm r _ t (fun b m => hb b (.tail _ m)) (fun i m => kc i (.tail _ m)) (fun v m => ?_) ?_ e h)
    · rcases List.mem_cons.mp m with rfl | m
      · exact l
      · exact ks v m
    · rw [wS_cons]
      omega
  | .inv :: r, u :: s, t, hb, kc, ks, w, e, h => by
    have k := ks u (.head _)
    rw [wC_cons, wS_cons] at w
    have w : 0 + wC r + (bits u + 1 + wS s) ≤ 100 := w
    refine hi u r s (k.fit.mono (by omega)) (ex_fold hx hy hl hp hi hm r _ t (fun b m => hb b (.tail _ m)) (fun i m => kc i (.tail _ m)) (fun v m => ?_) ?_ e h)
    · rcases List.mem_cons.mp m with rfl | m
      · exact k.mir.1
      · exact ks v (.tail _ m)
    · rw [wS_cons]
      have := k.mir.2
      omega
  | .mul :: r, v :: u :: s, t, hb, kc, ks, w, e, h => by
    have k := ks u (.tail _ (.head _))
    have l := ks v (.head _)
    rw [wC_cons, wS_cons, wS_cons] at w
    have w : 0 + wC r + (bits v + 1 + (bits u + 1 + wS s)) ≤ 100 := w
    refine hm u v r s (k.fit.mono (by omega)) (l.fit.mono (by omega)) (ex_fold hx hy hl hp hi hm r _ t (fun b m => hb b (.tail _ m)) (fun i m => kc i (.tail _ m)) (fun w m => ?_) ?_ e h)
    · rcases List.mem_cons.mp m with rfl | m
      · exact (k.mul l).1
      · exact ks w (.tail _ (.tail _ m))
    · rw [wS_cons]
      have := (k.mul l).2
      omega
  | .inv :: r, [], t, _, _, _, _, e, _ => by cases e
  | .mul :: r, [], t, _, _, _, _, e, _ => by cases e
  | .mul :: r, [_], t, _, _, _, _, e, _ => by cases e
theorem ok_code : ∀ t : PTree, t.Ok → ∀ i ∈ t.code, okI i
  | .name b, _, i, m => by rw [List.mem_singleton.mp m]; trivial
  | .four u, h, i, m => by rw [List.mem_singleton.mp m]; exact ⟨h.1, h.2.1⟩
  | .back t, h, i, m => by
    rcases List.mem_append.mp m with m | m
    · exact ok_code t h i m
    · rw [List.mem_singleton.mp m]; trivial
  | .times s t, h, i, m => by
    rcases List.mem_append.mp m with m | m
    · rcases List.mem_append.mp m with m | m
      · exact ok_code s h.1 i m
      · exact ok_code t h.2 i m
    · rw [List.mem_singleton.mp m]; trivial
theorem w_code : ∀ t : PTree, t.Ok → wC t.code ≤ 5 * 2 ^ t.ht
  | .name b, _ => Nat.le_refl _
  | .four u, h => by
    have := (fit_kn (n := 3) ⟨h.1, h.2.1, h.2.2⟩).2
    show bits u + 1 + 0 ≤ 5
    omega
  | .back t, h => by
    have q := w_code t h
    show wC (t.code ++ [Ins.inv]) ≤ 5 * 2 ^ (t.ht + 1)
    rw [wC_app, Nat.pow_succ]
    show _ + 0 ≤ _
    omega
  | .times s t, h => by
    have p := w_code s h.1
    have q := w_code t h.2
    show wC (s.code ++ t.code ++ [Ins.mul]) ≤ 5 * 2 ^ (max s.ht t.ht + 1)
    rw [wC_app, wC_app, Nat.pow_succ]
    have m1 : 2 ^ s.ht ≤ 2 ^ max s.ht t.ht := Nat.pow_le_pow_right (by decide) (by omega)
    have m2 : 2 ^ t.ht ≤ 2 ^ max s.ht t.ht := Nat.pow_le_pow_right (by decide) (by omega)
    show _ + 0 ≤ _
    omega
theorem qv_kn (hx : PTree.Fit 4 x) (hy : PTree.Fit 4 y) {t : PTree} (h : t.Ok) (w : wC t.code ≤ 100) : PTree.Fit 100 (t.qv x y) := by
  have e := ex_code (x := x) (y := y) t [] []
  rw [List.append_nil] at e
  obtain ⟨h1, h2⟩ := ex_kn hx hy t.code [] [t.qv x y] (ok_code t h) (fun u m => by cases m) e
  have k := h1 _ (List.mem_singleton.mpr rfl)
  rw [wS_cons] at h2
  have h2 : bits (t.qv x y) + 1 + 0 ≤ wC t.code + 0 := h2
  exact k.fit.mono (by omega)
theorem ex_tree (t : PTree) : ex x y t.code [] = some [t.qv x y] := by
  have e := ex_code (x := x) (y := y) t [] []
  rwa [List.append_nil] at e
end
end G
set_option Elab.async false
set_option linter.all false
set_option maxRecDepth 100000
set_option maxHeartbeats 4000000
namespace D
open PySem PySem.Spec PyProof.Rows L2 G
def insQ : Ins → PyData
  | .load b => .tuple [.str "load", .str (nm b)]
  | .push u => .tuple [.str "push", .tuple [.int u.a, .int u.b, .int u.c, .int u.d]]
  | .inv => .tuple [.str "inv"]
  | .mul => .tuple [.str "mul"]
theorem toPy_insQ (i : Ins) : toPy (insD i) = some (insQ i) := by cases i <;> rfl
theorem toPys_insQ : ∀ l : List Ins, toPys (l.map insD) = some (l.map insQ)
  | [] => rfl
  | x :: l => by
    rw [List.map_cons, List.map_cons]
    unfold toPys
    rw [toPys_insQ l, toPy_insQ]
theorem lay_insQ1 (i : Ins) : PyData.canLay0 (insQ i) = true := by
  cases i with
  | load b => cases b <;> decide +kernel
  | push u =>
    have h : PyData.canLay0 (.str "push") = true := by decide +kernel
    simp only [insQ, PyData.canLay0, PyData.canLayAll0] at *
    simp only [h, Bool.and_true, Bool.true_and]
  | inv => decide +kernel
  | mul => decide +kernel
theorem lay_insQ : ∀ c : List Ins, PyData.canLayAll0 (c.map insQ) = true
  | [] => rfl
  | x :: c => by
    rw [List.map_cons, PyData.canLayAll0, lay_insQ c, lay_insQ1]
    rfl
theorem dep_insQ : ∀ c : List Ins, PyData.depthAll (c.map insQ) ≤ 2
  | [] => Nat.zero_le _
  | x :: c => by
    have := dep_insQ c
    have e : (insQ x).depth ≤ 2 := by cases x <;> simp [insQ, PyData.depth, PyData.depthAll]
    rw [List.map_cons, PyData.depthAll]
    omega
theorem shaped_insQ (c : List Ins) : SeqAt.shaped (.list (c.map insQ)) = true := by
  unfold SeqAt.shaped
  rw [Bool.and_eq_true]
  refine ⟨?_, ?_⟩
  · simp only [PyData.canLay0]
    exact lay_insQ c
  · rw [decide_eq_true_eq]
    have := dep_insQ c
    rw [PyData.depth]
    omega
theorem eqv_insQ1 (i : Ins) : PyData.eqv (insQ i) (insQ i) = true := by cases i <;> simp [insQ, PyData.eqv, PyData.eqvAll]
theorem eqvAll_insQ : ∀ c : List Ins, PyData.eqvAll (c.map insQ) (c.map insQ) = true
  | [] => rfl
  | x :: c => by
    rw [List.map_cons, PyData.eqvAll, eqv_insQ1, eqvAll_insQ c]
    rfl
theorem fNe_ins {l : List Ins} {P : Res → Prop} (h : P (.dat (.bl false))) : fNe (.lst (l.map insD)) (.lst (l.map insD)) P := by
  unfold fNe
  have e : toPy (.lst (l.map insD)) = some (.list (l.map insQ)) := by
    unfold toPy
    rw [toPys_insQ]
  rw [e]
  refine ⟨shaped_insQ l, shaped_insQ l, ?_⟩
  rw [show PyData.eqv (.list (l.map insQ)) (.list (l.map insQ)) = true by rw [PyData.eqv]; exact eqvAll_insQ l]
  exact h
theorem plain_ins {j : Nat} {l : List Ins} (h : l.length ≤ 1000) : plain (j + 3) (.lst (l.map insD)) = true := by
  show (decide ((l.map insD).length ≤ 1000) && (l.map insD).all (plain (j + 2))) = true
  rw [Bool.and_eq_true, decide_eq_true_eq, List.length_map, List.all_eq_true]
  refine ⟨h, fun d m => ?_⟩
  obtain ⟨x, _, rfl⟩ := List.mem_map.mp m
  have s : ∀ z : Str, SeqAt.shaped (.str z) = true → plain (j + 1) (.str z) = true := fun z h => h
  cases x with
  | load b =>
    show (decide (2 ≤ 1000) && (plain (j + 1) (.str "load") && (plain (j + 1) (.str (nm b)) && true))) = true
    rw [s _ (by decide +kernel), s _ (by cases b <;> decide +kernel)]
    rfl
  | push u =>
    show (decide (2 ≤ 1000) && (plain (j + 1) (.str "push") && (plain (j + 1) (rowD u) && true))) = true
    rw [s _ (by decide +kernel)]
    cases j <;> rfl
  | inv =>
    show (decide (1 ≤ 1000) && (plain (j + 1) (.str "inv") && true)) = true
    rw [s _ (by decide +kernel)]
    rfl
  | mul =>
    show (decide (1 ≤ 1000) && (plain (j + 1) (.str "mul") && true)) = true
    rw [s _ (by decide +kernel)]
    rfl
theorem eqv_str' (a b : Str) : PyData.eqv (.str a) (.str b) = (a == b) := by simp [PyData.eqv]
theorem shaped_insQ1 (i : Ins) : SeqAt.shaped (insQ i) = true := by
  unfold SeqAt.shaped
  rw [Bool.and_eq_true]
  refine ⟨lay_insQ1 i, ?_⟩
  rw [decide_eq_true_eq]
  cases i <;> simp [insQ, PyData.depth, PyData.depthAll]
theorem fEq_inv {i : Ins} {P : Res → Prop} (h : P (.dat (.bl (decide (i = .inv))))) : fEq (insD i) (.tup [.str "inv"]) P := by
  unfold fEq
  rw [toPy_insQ, show toPy (.tup [.str "inv"]) = some (insQ .inv) from toPy_insQ .inv]
  refine ⟨shaped_insQ1 i, shaped_insQ1 .inv, ?_⟩
  have e : PyData.eqv (insQ i) (insQ .inv) = decide (i = .inv) := by
    cases i with
    | inv => rw [eqv_insQ1]; rfl
    | load b => rw [decide_eq_false (by intro z; cases z)]; simp [insQ, PyData.eqv, PyData.eqvAll]
    | push u => rw [decide_eq_false (by intro z; cases z)]; simp [insQ, PyData.eqv, PyData.eqvAll]
    | mul =>
      rw [decide_eq_false (by intro z; cases z)]
      have : (("mul" : Str) == "inv") = false := by decide +kernel
      simp [insQ, PyData.eqv, PyData.eqvAll, this]
  rw [e]
  exact h
theorem fEq_mul {i : Ins} {P : Res → Prop} (h : P (.dat (.bl (decide (i = .mul))))) : fEq (insD i) (.tup [.str "mul"]) P := by
  unfold fEq
  rw [toPy_insQ, show toPy (.tup [.str "mul"]) = some (insQ .mul) from toPy_insQ .mul]
  refine ⟨shaped_insQ1 i, shaped_insQ1 .mul, ?_⟩
  have e : PyData.eqv (insQ i) (insQ .mul) = decide (i = .mul) := by
    cases i with
    | mul => rw [eqv_insQ1]; rfl
    | load b => rw [decide_eq_false (by intro z; cases z)]; simp [insQ, PyData.eqv, PyData.eqvAll]
    | push u => rw [decide_eq_false (by intro z; cases z)]; simp [insQ, PyData.eqv, PyData.eqvAll]
    | inv =>
      rw [decide_eq_false (by intro z; cases z)]
      have : (("inv" : Str) == "mul") = false := by decide +kernel
      simp [insQ, PyData.eqv, PyData.eqvAll, this]
  rw [e]
  exact h
theorem fEq_none {P : Res → Prop} (h : P (.dat (.bl false))) : fEq (.tup [.str "none"]) (.tup [.str "inv"]) P := by
  refine ⟨by decide +kernel, by decide +kernel, ?_⟩
  have : (("none" : Str) == "inv") = false := by decide +kernel
  have e : PyData.eqv (.tuple [.str "none"]) (.tuple [.str "inv"]) = false := by simp [PyData.eqv, PyData.eqvAll, this]
  show P (.dat (.bl (PyData.eqv (.tuple [.str "none"]) (.tuple [.str "inv"]))))
  rw [e]
  exact h
inductive Kd | load | push | inv | mul
deriving DecidableEq
def kk : Ins → Kd
  | .load _ => .load
  | .push _ => .push
  | .inv => .inv
  | .mul => .mul
def kn : Kd → Str
  | .load => "load"
  | .push => "push"
  | .inv => "inv"
  | .mul => "mul"
def lsD' (l : List Kd) : List Dt := l.map fun k => .str (kn k)
theorem toPys_kn : ∀ l : List Kd, toPys (lsD' l) = some (l.map fun k => PyData.str (kn k))
  | [] => rfl
  | x :: l => by
    show (match toPy (.str (kn x)), toPys (lsD' l) with | some e, some m => some (e :: m) | _, _ => none) = _
    rw [toPys_kn l]
    rfl
theorem kn_inj : ∀ a b : Kd, (kn a == kn b) = decide (a = b) := by
  intro a b
  cases a <;> cases b <;> decide +kernel
theorem eqvAll_kn : ∀ l m : List Kd, PyData.eqvAll (l.map fun k => PyData.str (kn k)) (m.map fun k => PyData.str (kn k)) = decide (l = m)
  | [], [] => by simp [PyData.eqvAll]
  | [], b :: m => by simp [PyData.eqvAll]
  | a :: l, [] => by simp [PyData.eqvAll]
  | a :: l, b :: m => by
    rw [List.map_cons, List.map_cons, PyData.eqvAll, eqvAll_kn l m]
    rw [eqv_str', kn_inj, Bool.eq_iff_iff]
    simp
theorem shaped_kn (l : List Kd) : SeqAt.shaped (.list (l.map fun k => PyData.str (kn k))) = true := by
  unfold SeqAt.shaped
  rw [Bool.and_eq_true]
  have c : ∀ l : List Kd, PyData.canLayAll0 (l.map fun k => PyData.str (kn k)) = true := fun l => by
    induction l with
    | nil => rfl
    | cons a l ih =>
      rw [List.map_cons, PyData.canLayAll0, ih, Bool.and_true]
      cases a <;> decide +kernel
  have d : ∀ l : List Kd, PyData.depthAll (l.map fun k => PyData.str (kn k)) = 0 := fun l => by
    induction l with
    | nil => simp [PyData.depthAll]
    | cons a l ih => simp [PyData.depthAll, PyData.depth, ih]
  refine ⟨by simp only [PyData.canLay0]; exact c l, ?_⟩
  rw [decide_eq_true_eq, PyData.depth, d]
  decide
theorem fEq_kn {l m : List Kd} {P : Res → Prop} (h : P (.dat (.bl (decide (l = m))))) : fEq (.lst (lsD' l)) (.lst (lsD' m)) P := by
  have t : ∀ l : List Kd, toPy (.lst (lsD' l)) = some (.list (l.map fun k => PyData.str (kn k))) := fun l => by
    unfold toPy
    rw [toPys_kn]
  unfold fEq
  rw [t, t]
  refine ⟨shaped_kn l, shaped_kn m, ?_⟩
  rw [show PyData.eqv (.list (l.map fun k => PyData.str (kn k))) (.list (m.map fun k => PyData.str (kn k))) = decide (l = m) by rw [PyData.eqv, eqvAll_kn]]
  exact h
end D
set_option Elab.async false
set_option linter.all false
set_option maxRecDepth 100000
set_option maxHeartbeats 4000000
namespace D
open PySem PySem.Spec PyProof.Rows L2 G
local macro_rules | `(tactic| infer_instance) => `(tactic| first | ((with_reducible refine lcD_i ?_ ?_); (exact rfl)))
local macro_rules | `(tactic| array_get_dec) => `(tactic| first | (with_reducible refine pr_isnum fun o => ?_) | (with_reducible refine pr_halvesT fun o => ?_) | (with_reducible refine pr_halvesL fun o => ?_) | (with_reducible refine mk_Four ?_ ?_) | (with_reducible refine pr_fhalves fun o => ?_) | (with_reducible refine pr_bool fun o => ?_) | (with_reducible refine pr_eq fun o => ?_))
local macro_rules | `(tactic| infer_instance) => `(tactic| first | with_reducible refine dDg_i ?_ | with_reducible refine dDin_i ?_ | with_reducible refine kDin_f ?_ | with_reducible refine kDin_t ?_ | with_reducible refine kP_newd ?_ | with_reducible refine fInt_b ?_ | with_reducible refine dDisp_i ?_ | with_reducible refine kDs_newd ?_)
local macro_rules | `(tactic| infer_instance) => `(tactic| first | (with_reducible refine fEq_litT (by decide +kernel) ?_) | (with_reducible refine fEq_litF (by decide +kernel) ?_))
section
variable {A : Cs} {R : Res → List En → Prop} {EX : Xc → List En → Prop} {u v w t t' : Q4} {n m : Nat} {ks : List Key} {l : List Dt} {x y : Q4}
theorem tf_backW {self : SpD} {d : Dt} (q : PTree.Fit 100 u) (hs : ∀ (R : Res → List En → Prop) (EX : Xc → List En → Prop), (∀ o, R (.dat (rowD u.lead)) o) → spF self [d, .dic ks l] R EX) (h : ∀ o, R (.dat (rowD u.mir.lead)) o) : spF (tr_L_tree_four A self) [.tup [.str "back", d], .dic ks l] R EX := by
  have p := Q4.lead_par q.par q.ne
  have pn := Q4.lead_ne q.par q.ne
  unfold spF tr_L_tree_four
  refine ⟨rfl, ?_⟩
  simp only [List.map_cons, List.map_nil, rhoD_cons, rhoD_nil, rhoD_z]
  repeat infer_instance
  refine hs _ _ fun o => ?_
  repeat infer_instance
  refine pr_Lback2 fun o => ?_
  repeat infer_instance
  refine pr_Llowest (Q4.mir_par p) (Q4.mir_ne pn) (Q4.lead_bd q.par q.ne q.bd).mir (by decide) fun o => ?_
  rw [Q4.lead_mir q.par q.ne]
  repeat infer_instance
  exact h _
theorem tf_timesW {self : SpD} {d e : Dt} (p : PTree.Fit 100 u) (q : PTree.Fit 100 v) (hs : ∀ (R : Res → List En → Prop) (EX : Xc → List En → Prop), (∀ o, R (.dat (rowD u.lead)) o) → spF self [d, .dic ks l] R EX) (ht : ∀ (R : Res → List En → Prop) (EX : Xc → List En → Prop), (∀ o, R (.dat (rowD v.lead)) o) → spF self [e, .dic ks l] R EX) (h : ∀ o, R (.dat (rowD (Q4.mul u v).lead)) o) : spF (tr_L_tree_four A self) [.tup [.str "times", d, e], .dic ks l] R EX := by
  have p1 := Q4.lead_par p.par p.ne
  have p2 := Q4.lead_ne p.par p.ne
  have q1 := Q4.lead_par q.par q.ne
  have q2 := Q4.lead_ne q.par q.ne
  unfold spF tr_L_tree_four
  refine ⟨rfl, ?_⟩
  simp only [List.map_cons, List.map_nil, rhoD_cons, rhoD_nil, rhoD_z]
  repeat infer_instance
  refine hs _ _ fun o => ?_
  repeat infer_instance
  refine ht _ _ fun o => ?_
  repeat infer_instance
  refine pr_Ltimes p1 q1 (Q4.lead_bd p.par p.ne p.bd) (Q4.lead_bd q.par q.ne q.bd) (by decide) fun o => ?_
  repeat infer_instance
  refine pr_Llowest (Q4.mul_all p1 q1).2 (Q4.mul_ne p1 p2 q1 q2) ((Q4.lead_bd p.par p.ne p.bd).mul' (Q4.lead_bd q.par q.ne q.bd)) (by decide) fun o => ?_
  rw [Q4.lead_mul p.par p.ne q.par q.ne]
  repeat infer_instance
  exact h _
theorem tfW (hx : PTree.Fit 4 x) (hy : PTree.Fit 4 y) (tw : Two ks l (rowD x) (rowD y)) : ∀ (j : Nat) (t : PTree) (R : Res → List En → Prop) (EX : Xc → List En → Prop), t.ht < j → wC t.code ≤ 100 → t.Ok → (∀ o, R (.dat (rowD (t.qv x y).lead)) o) → spF (rec_L_tree_four A j) [treeD t, .dic ks l] R EX := by
  intro j
  induction j with
  | zero => intro t R EX h; exact absurd h (Nat.not_lt_zero _)
  | succ j ih =>
    intro t R EX l1 w ok h
    show spF (tr_L_tree_four A (rec_L_tree_four A j)) [treeD t, .dic ks l] R EX
    cases t with
    | name b => exact tf_name hx hy tw h
    | four u => exact tf_four ⟨ok.1, ok.2.1, ok.2.2.mono (by decide)⟩ h
    | back t =>
      have l1 : t.ht + 1 < j + 1 := l1
      have w : wC (t.code ++ [Ins.inv]) ≤ 100 := w
      rw [wC_app] at w
      have ok : t.Ok := ok
      exact tf_backW (qv_kn hx hy ok (by omega)) (fun R EX h => ih t R EX (by omega) (by omega) ok h) h
    | times s t =>
      have l1 : max s.ht t.ht + 1 < j + 1 := l1
      have w : wC (s.code ++ t.code ++ [Ins.mul]) ≤ 100 := w
      rw [wC_app, wC_app] at w
      exact tf_timesW (qv_kn hx hy ok.1 (by omega)) (qv_kn hx hy ok.2 (by omega)) (fun R EX h => ih s R EX (by omega) (by omega) ok.1 h) (fun R EX h => ih t R EX (by omega) (by omega) ok.2 h) h
theorem tcW : ∀ (j : Nat) (t : PTree) (R : Res → List En → Prop) (EX : Xc → List En → Prop), t.ht < j → t.code.length ≤ 100 → (∀ o, R (.new (.lst (t.code.map insD))) o) → spF (rec_L_tree_code A j) [treeD t] R EX := by
  intro j
  induction j with
  | zero => intro t R EX h; exact absurd h (Nat.not_lt_zero _)
  | succ j ih =>
    intro t R EX l1 l3 h
    show spF (tr_L_tree_code A (rec_L_tree_code A j)) [treeD t] R EX
    cases t with
    | name b => exact tc_name h
    | four u => exact tc_four h
    | back t =>
      have l1 : t.ht + 1 < j + 1 := l1
      have l3 : (t.code ++ [Ins.inv]).length ≤ 100 := l3
      rw [List.length_append] at l3
      exact tc_back (l := t.code) (by omega) (fun R EX h => ih t R EX (by omega) (by omega) h) h
    | times s t =>
      have l1 : max s.ht t.ht + 1 < j + 1 := l1
      have l3 : (s.code ++ t.code ++ [Ins.mul]).length ≤ 100 := l3
      rw [List.length_append, List.length_append] at l3
      exact tc_times (l := s.code) (k := t.code) (by omega) (fun R EX h => ih s R EX (by omega) (by omega) h) (fun R EX h => ih t R EX (by omega) (by omega) h) h
def stW (A : Cs) (s : List Q4) : List Dt := s.reverse.map fun u => turnD A u.lead
theorem stW_cons {u : Q4} {s : List Q4} : stW A (u :: s) = stW A s ++ [turnD A u.lead] := by simp [stW]
theorem stW_len {s : List Q4} : (stW A s).length = s.length := by simp [stW]
def FRW (g : TGD) (tb : TSD) (WD : WDt) (E : EndsD) (A : Cs) (c0 c1 : En) (r : List Ins) (s : List Q4) : Prop := s.length + r.length ≤ 100 → ∀ x3 x4 x5 x6, forD g tb WD E (r.map insD) [c0, c1, .own (.lst (stW A s)), x3, x4, x5, x6]
theorem pr_runW (hx : PTree.Fit 4 x) (hy : PTree.Fit 4 y) {c : List Ins} (tw : ∀ b, Ins.load b ∈ c → Two ks l (turnD A x.lead) (turnD A y.lead)) (kc : ∀ i ∈ c, okI i) (wc : wC c ≤ 100) (lc : c.length ≤ 100) (e : ex x y c [] = some [u]) (h : ∀ o, R (.dat (turnD A u.lead)) o) : spF (tr_run A) [.lst (c.map insD), .dic ks l] R EX := by
  have sl : 1000 ≤ sizeLine := by decide
  unfold spF tr_run
  refine ⟨rfl, ?_⟩
  simp only [List.map_cons, List.map_nil, rhoD_cons, rhoD_nil, rhoD_z]
  repeat infer_instance
  refine ex_fold (P := fun _ => Two ks l (turnD A x.lead) (turnD A y.lead)) (F := FRW _ _ _ _ A _ _) hx hy (fun b r s tw hF hl x3 x4 x5 x6 => ?_) (fun u r s fu hF hl x3 x4 x5 x6 => ?_) (fun u r s fu hF hl x3 x4 x5 x6 => ?_) (fun u v r s fu fv hF hl x3 x4 x5 x6 => ?_) c [] [u] tw kc (fun u m => by cases m) wc e (fun hl x3 x4 x5 x6 => ?_) (by simpa using lc) _ _ _ _
  · rw [List.length_cons] at hl
    have hF := hF (by rw [List.length_cons]; omega)
    rw [stW_cons] at hF
    rw [List.map_cons]
    refine forD_cons ?_
    rw [show insD (.load b) = .tup [.str "load", .str (nm b)] from rfl]
    repeat infer_instance
    refine pr_named tw fun o => ?_
    rw [show (if b = true then turnD A x.lead else turnD A y.lead) = turnD A (if b then x else y).lead from by cases b <;> rfl]
    repeat infer_instance
    · refine Nat.ble_eq_true_of_le ?_
      rw [List.length_append, stW_len]
      show s.length + 1 ≤ sizeLine
      omega
    · repeat infer_instance
      exact hF _ _ _ _
  · rw [List.length_cons] at hl
    have hF := hF (by rw [List.length_cons]; omega)
    rw [stW_cons] at hF
    rw [List.map_cons]
    refine forD_cons ?_
    rw [show insD (.push u) = .tup [.str "push", rowD u] from rfl]
    repeat infer_instance
    refine pr_twith fu.par fu.ne fu.bd (by decide) fun o => ?_
    repeat infer_instance
    · refine Nat.ble_eq_true_of_le ?_
      rw [List.length_append, stW_len]
      show s.length + 1 ≤ sizeLine
      omega
    · repeat infer_instance
      exact hF _ _ _ _
  · rw [List.length_cons, List.length_cons] at hl
    have hF := hF (by rw [List.length_cons]; omega)
    rw [stW_cons] at hF ⊢
    rw [List.map_cons]
    refine forD_cons ?_
    rw [show insD .inv = .tup [.str "inv"] from rfl]
    repeat infer_instance
    refine pr_lastof ?_
    repeat infer_instance
    refine pr_tneg fu.par fu.ne fu.bd (by decide) fun o => ?_
    repeat infer_instance
    · refine Nat.ble_eq_true_of_le ?_
      rw [List.length_append, stW_len]
      show s.length + 1 ≤ sizeLine
      omega
    · repeat infer_instance
      exact hF _ _ _ _
  · rw [List.length_cons, List.length_cons, List.length_cons] at hl
    have hF := hF (by rw [List.length_cons]; omega)
    rw [stW_cons] at hF
    rw [stW_cons, stW_cons, List.map_cons]
    refine forD_cons ?_
    rw [show insD .mul = .tup [.str "mul"] from rfl]
    repeat infer_instance
    refine pr_lastof ?_
    repeat infer_instance
    refine pr_lastof ?_
    repeat infer_instance
    refine pr_tmul fu.par fu.ne fu.bd fv.par fv.ne fv.bd (by decide) fun o => ?_
    repeat infer_instance
    · refine Nat.ble_eq_true_of_le ?_
      rw [List.length_append, stW_len]
      show s.length + 1 ≤ sizeLine
      omega
    · repeat infer_instance
      exact hF _ _ _ _
  · rw [stW_cons, show stW A ([] : List Q4) = [] from rfl, List.nil_append, List.map_nil]
    refine forD_nil ?_
    repeat infer_instance
    refine if_dy rfl ?_
    repeat infer_instance
    exact h _
theorem fo_inv (h : ∀ o, R (.new (.lst [])) o) : spF (tr_folding A) [.lst ([Ins.inv, Ins.inv].map insD)] R EX := by
  unfold spF tr_folding
  refine ⟨rfl, ?_⟩
  simp only [List.map_cons, List.map_nil, rhoD_cons, rhoD_nil, rhoD_z]
  repeat infer_instance
  refine fEq_inv ?_
  repeat infer_instance
  refine if_dy rfl ?_
  repeat infer_instance
  exact h _
theorem fo_neg (f : PTree.Fit 99 u) (h : ∀ o, R (.new (.lst [insD (.push u.mir.lead)])) o) : spF (tr_folding A) [.lst ([Ins.push u, Ins.inv].map insD)] R EX := by
  obtain ⟨k, b⟩ := fit_kn f
  have hx : PTree.Fit 4 ⟨2, 0, 0, 0⟩ := ⟨by unfold Q4.Par; decide, by decide, by unfold Q4.Bd; decide⟩
  unfold spF tr_folding
  refine ⟨rfl, ?_⟩
  simp only [List.map_cons, List.map_nil, rhoD_cons, rhoD_nil, rhoD_z]
  repeat infer_instance
  refine fEq_inv ?_
  repeat infer_instance
  refine if_dn (by intro z; cases z) ?_
  repeat infer_instance
  refine ⟨by decide, by decide, rfl, ?_⟩
  repeat infer_instance
  refine pr_runW (c := [.push u, .inv]) (u := u.mir) hx hx (fun b m => by simp at m) (fun i m => by
    simp only [List.mem_cons, List.not_mem_nil, or_false] at m
    rcases m with rfl | rfl
    · exact k
    · trivial) (by show bits u + 1 + (0 + 0) ≤ 100; omega) (by simp) rfl fun o => ?_
  repeat infer_instance
  refine pr_tfour2 fun o => ?_
  repeat infer_instance
  exact h _
theorem fo_mul (f : PTree.Fit 99 u) (g : PTree.Fit 99 v) (w : bits u + bits v ≤ 98) (h : ∀ o, R (.new (.lst [insD (.push (Q4.mul u v).lead)])) o) : spF (tr_folding A) [.lst ([Ins.push u, Ins.push v, Ins.mul].map insD)] R EX := by
  obtain ⟨k, b⟩ := fit_kn f
  obtain ⟨k', b'⟩ := fit_kn g
  have hx : PTree.Fit 4 ⟨2, 0, 0, 0⟩ := ⟨by unfold Q4.Par; decide, by decide, by unfold Q4.Bd; decide⟩
  unfold spF tr_folding
  refine ⟨rfl, ?_⟩
  simp only [List.map_cons, List.map_nil, rhoD_cons, rhoD_nil, rhoD_z]
  repeat infer_instance
  refine fEq_inv ?_
  repeat infer_instance
  refine if_dn (by intro z; cases z) ?_
  repeat infer_instance
  refine ⟨by decide, by decide, rfl, ?_⟩
  repeat infer_instance
  refine pr_runW (c := [.push u, .push v, .mul]) (u := Q4.mul u v) hx hx (fun b m => by simp at m) (fun i m => by
    simp only [List.mem_cons, List.not_mem_nil, or_false] at m
    rcases m with rfl | rfl | rfl
    · exact k
    · exact k'
    · trivial) (by show bits u + 1 + (bits v + 1 + (0 + 0)) ≤ 100; omega) (by simp) rfl fun o => ?_
  repeat infer_instance
  refine pr_tfour2 fun o => ?_
  repeat infer_instance
  exact h _
end
end D
set_option Elab.async false
set_option linter.all false
set_option maxRecDepth 100000
set_option maxHeartbeats 2000000
namespace D
open PySem PySem.Spec PyProof.Rows L2 G
end D
set_option Elab.async false
set_option linter.all false
set_option maxRecDepth 100000
set_option maxHeartbeats 2000000
namespace D
open PySem PySem.Spec PyProof.Rows L2 G
inductive Each {α γ : Type} (P : α → γ → Prop) : List α → List γ → Prop
  | nil : Each P [] []
  | cons {a : α} {c : γ} {as : List α} {cs : List γ} : P a c → Each P as cs → Each P (a :: as) (c :: cs)
namespace Each
variable {α γ : Type} {P : α → γ → Prop} {as bs : List α} {cs ds : List γ}
theorem len (h : Each P as cs) : cs.length = as.length := by
  induction h with
  | nil => rfl
  | cons _ _ ih => rw [List.length_cons, List.length_cons, ih]
theorem at_ (h : Each P as cs) {i : Nat} {a : α} {c : γ} (ha : as[i]? = some a) (hc : cs[i]? = some c) : P a c := by
  induction h generalizing i with
  | nil => simp at ha
  | cons p _ ih =>
    cases i with
    | zero => simp at ha hc; subst ha; subst hc; exact p
    | succ i => exact ih (by simpa using ha) (by simpa using hc)
theorem mem (h : Each P as cs) {c : γ} (m : c ∈ cs) : ∃ a ∈ as, P a c := by
  induction h with
  | nil => cases m
  | cons p _ ih =>
    rcases List.mem_cons.mp m with rfl | m
    · exact ⟨_, .head _, p⟩
    · obtain ⟨a, ha, q⟩ := ih m; exact ⟨a, .tail _ ha, q⟩
theorem app (h : Each P as cs) (h' : Each P bs ds) : Each P (as ++ bs) (cs ++ ds) := by
  induction h with
  | nil => exact h'
  | cons p _ ih => exact .cons p ih
theorem imp {P' : α → γ → Prop} (h : Each P as cs) (f : ∀ a c, a ∈ as → P a c → P' a c) : Each P' as cs := by
  induction h with
  | nil => exact .nil
  | cons p _ ih => exact .cons (f _ _ (.head _) p) (ih fun a c m => f a c (.tail _ m))
end Each
section
variable {α β γ : Type} {g g1 : TGC} {ti : TID} {tt : TTD} {te : TED} {vs vs1 : List Nat} {ρ : List En}
end
end D
set_option Elab.async false
set_option linter.all false
set_option maxRecDepth 100000
namespace D
open PySem PySem.Spec PyProof.Rows L2
def kSl (R : Res → List En → Prop) (r : Res) (lo hi : Option Int) (ρ : List En) : Prop := match pk r ρ with
  | some d => fSl d lo hi fun r => R r ρ
  | none => False
def kI (R : Option Int → List En → Prop) (d : Dt) (ρ : List En) : Prop := match d with
  | .int i => R (some i) ρ
  | _ => False
theorem dSl_i {te : TED} {tl th : TOD} {WD : WDt} {ρ : List En} {R : Res → List En → Prop} (h : te WD ρ fun r ρ1 => tl WD ρ1 fun lo ρ2 => th WD ρ2 fun hi ρ3 => kSl R r lo hi ρ3) : dSl te tl th WD ρ R := h
theorem dPart_i {te : TED} {WD : WDt} {ρ : List En} {R : Option Int → List En → Prop} (h : te WD ρ (kP (kI R))) : dPart te WD ρ R := h
theorem dNoPart_i {WD : WDt} {ρ : List En} {R : Option Int → List En → Prop} (h : R none ρ) : dNoPart WD ρ R := h
theorem kI_i {R : Option Int → List En → Prop} {i : Int} {ρ : List En} (h : R (some i) ρ) : kI R (.int i) ρ := h
theorem kSl_l {R : Res → List En → Prop} {l : List Dt} {lo hi : Option Int} {ρ : List En} (h : R (.new (.lst (cutD l lo hi))) ρ) : kSl R (.dat (.lst l)) lo hi ρ := h
def kRng2 (R : List Dt → List En → Prop) (rs : List Res) (ρ : List En) : Prop := match pks rs ρ with
  | some [.int i, .int j] => (-(2 ^ 62) ≤ i ∧ i < 2 ^ 62 ∧ -(2 ^ 62) ≤ j ∧ j < 2 ^ 62) ∧ R ((List.range (j - i).toNat).map fun m => .int (i + (m : Nat))) ρ
  | _ => False
theorem dRng2_i {ta : TAD} {WD : WDt} {ρ : List En} {R : List Dt → List En → Prop} (h : ta WD ρ (kRng2 R)) : dRng2 ta WD ρ R := h
theorem kRng2_i {R : List Dt → List En → Prop} {i j : Int} {ρ : List En} (b : -(2 ^ 62) ≤ i ∧ i < 2 ^ 62 ∧ -(2 ^ 62) ≤ j ∧ j < 2 ^ 62) (h : R ((List.range (j - i).toNat).map fun m => .int (i + (m : Nat))) ρ) : kRng2 R [.dat (.int i), .dat (.int j)] ρ := ⟨b, h⟩
end D
set_option Elab.async false
set_option linter.all false
set_option maxRecDepth 100000
set_option maxHeartbeats 2000000
namespace D
open PySem PySem.Spec PyProof.Rows L2 G
section
variable {WD : WDt} {ρ : List En} {R : Res → List En → Prop} {f : F2} {l : List Dt}
theorem kSl_n {lo hi : Option Int} (h : R (.new (.lst (cutD l lo hi))) ρ) : kSl R (.new (.lst l)) lo hi ρ := h
end
theorem rng_at {n i : Nat} {d : Dt} {m : Int} (hm : m = n) (h : ((List.range m.toNat).map fun (i : Nat) => Dt.int (0 + (i : Int)))[i]? = some d) : i < n ∧ d = .int (i : Nat) := by
  subst hm
  rw [List.getElem?_map] at h
  cases e : (List.range ((n : Int).toNat))[i]? with
  | none => rw [e] at h; cases h
  | some j =>
    rw [e] at h
    have h := (Option.some.inj h).symm
    obtain ⟨li, ei⟩ := List.getElem?_eq_some_iff.mp e
    rw [List.getElem_range] at ei
    subst ei
    rw [List.length_range] at li
    exact ⟨by omega, by rw [h]; exact congrArg Dt.int (Int.zero_add _)⟩
theorem rng_len {n : Nat} {m : Int} {α : Type} {g : Nat → α} (hm : m = n) : ((List.range m.toNat).map g).length = n := by
  subst hm
  simp
end D
set_option Elab.async false
set_option linter.all false
set_option maxRecDepth 100000
namespace D
open PySem PySem.Spec PyProof.Rows L2
section
variable {WD : WDt} {ρ : List En} {te : TED} {ys : List Str} {P : Res → Prop}
end
end D
set_option Elab.async false
set_option linter.all false
set_option maxRecDepth 100000
set_option maxHeartbeats 4000000
namespace D
open PySem PySem.Spec PyProof.Rows L2 G
def fbK : List Kd → Nat
  | .inv :: .inv :: _ => 2
  | .inv :: .push :: _ => 2
  | .mul :: .push :: .push :: _ => 3
  | _ => 0
theorem fb2 : ∀ k : List Kd, k.length ≤ 3 → decide (k.reverse.drop (k.reverse.length - 2) = [.inv, .inv] ∨ k.reverse.drop (k.reverse.length - 2) = [.push, .inv]) = decide (fbK k = 2)
  | [], _ => by decide
  | [a], _ => by cases a <;> decide
  | [a, b], _ => by cases a <;> cases b <;> decide
  | [a, b, c], _ => by cases a <;> cases b <;> cases c <;> decide
  | _ :: _ :: _ :: _ :: _, h => absurd h (by simp)
theorem fb3 : ∀ k : List Kd, k.length ≤ 3 → decide (k.reverse = [.push, .push, .mul]) = decide (fbK k = 3)
  | [], _ => by decide
  | [a], _ => by cases a <;> decide
  | [a, b], _ => by cases a <;> cases b <;> decide
  | [a, b, c], _ => by cases a <;> cases b <;> cases c <;> decide
  | _ :: _ :: _ :: _ :: _, h => absurd h (by simp)
theorem fb0 : ∀ k : List Kd, fbK k ≠ 2 → fbK k ≠ 3 → fbK k = 0 := fun k h1 h2 => by
  unfold fbK at *
  split at h1
  · exact absurd rfl h1
  · exact absurd rfl h1
  · exact absurd rfl h2
  · rfl
theorem fb_none {s : List Ins} {i : Ins} (h : stp s i = i :: s) : fbK (((i :: s).take 3).map kk) = 0 := by
  have len : ∀ t : List Ins, t.length < (i :: s).length → stp s i ≠ t := fun t l e => by
    rw [h] at e
    rw [e] at l
    omega
  cases i with
  | load b => rfl
  | push u => rfl
  | inv =>
    cases s with
    | nil => rfl
    | cons a s =>
      cases a with
      | load b => rfl
      | mul => rfl
      | inv => exact absurd rfl (len s (by simp only [List.length_cons]; omega))
      | push u => exact absurd rfl (len (.push u.mir.lead :: s) (by simp only [List.length_cons]; omega))
  | mul =>
    match s with
    | [] => rfl
    | [a] => cases a <;> rfl
    | a :: b :: s =>
      cases a with
      | load _ => rfl
      | mul => rfl
      | inv => rfl
      | push u =>
        cases b with
        | load _ => rfl
        | mul => rfl
        | inv => rfl
        | push v => exact absurd rfl (len (.push (Q4.mul v u).lead :: s) (by simp only [List.length_cons]; omega))
theorem sIx_neg {n k : Nat} (hk : 0 < k) : HT.sIx n 0 (some (-(k : Int))) = n - k := by
  show (if -(k : Int) < 0 then (-(k : Int) + (n : Int)).toNat else min (-(k : Int)).toNat n) = n - k
  rw [if_pos (by omega)]
  omega
theorem cut_last {β : Type} {f : β → Dt} {s : List β} {k : Nat} (hk : 0 < k) : cutD (s.reverse.map f) (some (-(k : Int))) none = ((s.take k).reverse).map f := by
  unfold cutD
  rw [sIx_neg hk, HT.sIx_none, List.take_of_length_le (by rw [List.length_drop]; omega), ← List.map_drop, List.length_map, List.length_reverse, List.drop_reverse]
  congr 2
  by_cases h : k ≤ s.length
  · rw [show s.length - (s.length - k) = k by omega]
  · rw [List.take_of_length_le (by omega), List.take_of_length_le (by omega)]
theorem del_last {β : Type} {f : β → Dt} {s : List β} {k : Nat} (hk : 0 < k) : (s.reverse.map f).take (HT.sIx (s.reverse.map f).length 0 (some (-(k : Int)))) = ((s.drop k).reverse).map f := by
  rw [sIx_neg hk, ← List.map_take, List.length_map, List.length_reverse, List.take_reverse]
  congr 2
  by_cases h : k ≤ s.length
  · rw [show s.length - (s.length - k) = k by omega]
  · rw [List.drop_eq_nil_of_le (by omega), List.drop_eq_nil_of_le (by omega)]
theorem fInT_kn {k : List Kd} {P : Res → Prop} (h : P (.dat (.bl (decide (k = [.inv, .inv] ∨ k = [.push, .inv]))))) : fInT (.lst (lsD' k)) (.tup [.lst (lsD' [.inv, .inv]), .lst (lsD' [.push, .inv])]) P := by
  have t : ∀ l : List Kd, toPy (.lst (lsD' l)) = some (.list (l.map fun k => PyData.str (kn k))) := fun l => by
    unfold toPy
    rw [toPys_kn]
  have e2 : toPy (.tup [.lst (lsD' [.inv, .inv]), .lst (lsD' [.push, .inv])]) = some (.tuple [.list [.str "inv", .str "inv"], .list [.str "push", .str "inv"]]) := rfl
  unfold fInT
  rw [t, e2]
  refine ⟨shaped_kn k, by decide +kernel, ?_⟩
  have ev : ∀ m : List Kd, PyData.eqv (.list (m.map fun k => PyData.str (kn k))) (.list (k.map fun k => PyData.str (kn k))) = decide (m = k) := fun m => by rw [PyData.eqv, eqvAll_kn]
  have e : ([.list [.str "inv", .str "inv"], .list [.str "push", .str "inv"]] : List PyData).any (fun z => PyData.eqv z (.list (k.map fun k => PyData.str (kn k)))) = decide (k = [.inv, .inv] ∨ k = [.push, .inv]) := by
    rw [List.any_cons, List.any_cons, List.any_nil, Bool.or_false]
    have a := ev [.inv, .inv]
    have b := ev [.push, .inv]
    rw [show ([Kd.inv, Kd.inv].map fun k => PyData.str (kn k)) = [.str "inv", .str "inv"] from rfl] at a
    rw [show ([Kd.push, Kd.inv].map fun k => PyData.str (kn k)) = [.str "push", .str "inv"] from rfl] at b
    rw [a, b, Bool.eq_iff_iff, Bool.or_eq_true, decide_eq_true_iff, decide_eq_true_iff, decide_eq_true_iff, eq_comm, @eq_comm _ [Kd.push, Kd.inv]]
  rw [e]
  exact h
section
variable {x y : Q4}
theorem fold_ex2 (hx : PTree.Fit 4 x) (hy : PTree.Fit 4 y) : ∀ (r tl s : List Ins) (t : List Q4), (∀ j ∈ s.reverse ++ (r ++ tl), okI j) → ex x y (s.reverse ++ (r ++ tl)) [] = some t →
    (∀ j ∈ (r.foldl stp s).reverse ++ tl, okI j) ∧ wC ((r.foldl stp s).reverse ++ tl) ≤ wC (s.reverse ++ (r ++ tl)) ∧ ∃ t', ex x y ((r.foldl stp s).reverse ++ tl) [] = some t' ∧ Alk t t'
  | [], tl, s, t, kc, e => ⟨kc, Nat.le_refl _, t, e, rfl⟩
  | i :: r, tl, s, t, kc, e => by
    obtain ⟨k1, w1, t1, e1, a1⟩ := stp_ex (r := r ++ tl) hx hy kc e
    obtain ⟨k2, w2, t2, e2, a2⟩ := fold_ex2 hx hy r tl (stp s i) t1 k1 e1
    exact ⟨k2, Nat.le_trans w2 w1, t2, e2, Eq.trans a1 a2⟩
end
theorem foldl_len : ∀ (r s : List Ins), (r.foldl stp s).length ≤ s.length + r.length
  | [], s => by simp
  | i :: r, s => by
    have h := foldl_len r (stp s i)
    have : (stp s i).length ≤ s.length + 1 := by
      by_cases e : stp s i = i :: s
      · rw [e]; simp
      · have := stp_len s i e; omega
    rw [List.foldl_cons, List.length_cons]
    omega
theorem kSl_oW {R : Res → List En → Prop} {r : Res} {l : List Dt} {lo hi : Option Int} {ρ : List En} (e : pk r ρ = some (.lst l)) (h : R (.new (.lst (cutD l lo hi))) ρ) : kSl R r lo hi ρ := by
  unfold kSl
  rw [e]
  exact h
local macro_rules | `(tactic| array_get_dec) => `(tactic| first | (with_reducible refine pr_isnum fun o => ?_) | (with_reducible refine pr_halvesT fun o => ?_) | (with_reducible refine pr_halvesL fun o => ?_) | (with_reducible refine mk_Four ?_ ?_) | (with_reducible refine pr_fhalves fun o => ?_) | (with_reducible refine pr_bool fun o => ?_) | (with_reducible refine pr_eq fun o => ?_))
local macro_rules | `(tactic| infer_instance) => `(tactic| first | with_reducible refine dDg_i ?_ | with_reducible refine dDin_i ?_ | with_reducible refine kDin_f ?_ | with_reducible refine kDin_t ?_ | with_reducible refine kP_newd ?_ | with_reducible refine fInt_b ?_ | with_reducible refine dDisp_i ?_ | with_reducible refine kDs_newd ?_ | with_reducible refine dSl_i ?_ | with_reducible refine dPart_i ?_ | with_reducible refine dNoPart_i ?_ | with_reducible refine kI_i ?_ | with_reducible refine kSl_n ?_ | with_reducible refine kSl_l ?_ | with_reducible refine dCallL_i ?_ | with_reducible refine dDelT_i ?_)
local macro_rules | `(tactic| infer_instance) => `(tactic| first
  | (with_reducible refine fEq_litT (by decide +kernel) ?_) | (with_reducible refine fEq_litF (by decide +kernel) ?_)
  | ((with_reducible refine kLend_i (ds := ?_) ?_ ?_); rotate_left 1; (repeat (first | with_reducible exact pksL_nil | ((with_reducible refine pksL_dat (ds := ?_) ?_); rotate_left 1) | ((with_reducible refine pksL_newl (ds := ?_) ?_); rotate_left 1) | ((with_reducible refine pksL_ownl (l := ?_) (ds := ?_) ?_ ?_); rotate_left 2; (exact rfl))))))
section
variable {A : Cs} {R : Res → List En → Prop} {EX : Xc → List En → Prop} {u v w t t' : Q4} {n m : Nat} {ks : List Key} {l : List Dt} {x y : Q4}
theorem pr_foldable {s : List Ins} (h : ∀ o, R (.dat (.int (fbK ((s.take 3).map kk) : Nat))) o) : spF (tr_foldable A) [.lst (s.reverse.map insD)] R EX := by
  unfold spF tr_foldable
  refine ⟨rfl, ?_⟩
  simp only [List.map_cons, List.map_nil, rhoD_cons, rhoD_nil, rhoD_z]
  repeat infer_instance
  rw [show cutD (s.reverse.map insD) (some (-3)) none = ((s.take 3).reverse).map insD from cut_last (k := 3) (by decide)]
  have l3 : (s.take 3).length ≤ 3 := by rw [List.length_take]; omega
  refine lc_mapG (s.take 3).reverse insD (fun i => .str (kn (kk i))) (by rw [List.length_reverse]; have : sizeLine = 2 ^ 24 := rfl; omega) (fun i mi k hk => ?_) ?_
  · cases i <;> (repeat infer_instance) <;> exact hk _ rfl
  have eK : ((s.take 3).reverse.map fun i => Dt.str (kn (kk i))) = lsD' (((s.take 3).map kk).reverse) := by
    unfold lsD'
    rw [List.map_reverse, List.map_reverse, List.map_map]
    rfl
  rw [eK]
  have lk : ((s.take 3).map kk).length ≤ 3 := by rw [List.length_map]; exact l3
  generalize (s.take 3).map kk = k at *
  repeat infer_instance
  refine kSl_oW (pk_ownl rfl) ?_
  have ec : cutD (lsD' k.reverse) (some (-2)) none = lsD' (k.reverse.drop (k.reverse.length - 2)) := by
    unfold lsD'
    rw [show cutD (k.reverse.map fun k => Dt.str (kn k)) (some (-2)) none = ((k.take 2).reverse).map fun k => Dt.str (kn k) from cut_last (k := 2) (by decide), List.length_reverse, List.drop_reverse]
    congr 2
    by_cases h : 2 ≤ k.length
    · rw [show k.length - (k.length - 2) = 2 by omega]
    · rw [List.take_of_length_le (by omega), List.take_of_length_le (by omega)]
  rw [ec]
  repeat infer_instance
  refine fInT_kn ?_
  rw [fb2 k lk]
  repeat infer_instance
  refine if_d (fun h2 => ?_) (fun h2 => ?_)
  · rw [h2] at h
    repeat infer_instance
    exact h _
  · repeat infer_instance
    refine fEq_kn (m := [.push, .push, .mul]) ?_
    rw [fb3 k lk]
    repeat infer_instance
    refine if_d (fun h3 => ?_) (fun h3 => ?_)
    · rw [h3] at h
      repeat infer_instance
      exact h _
    · rw [fb0 k h2 h3] at h
      repeat infer_instance
      exact h _
theorem mExt_i {l m : List Dt} {R : List Dt → Dt → Prop} (hl : l.length + m.length ≤ sizeLine) (h : R (l ++ m) .non) : mExtend l [.lst m] R := ⟨hl, h⟩
theorem pr_shortened {c : List Ins} {t : List Q4} (hx : PTree.Fit 4 x) (hy : PTree.Fit 4 y) (kc : ∀ j ∈ c, okI j) (wc : wC c ≤ 99) (lc : c.length ≤ 100) (e : ex x y c [] = some t) (h : ∀ o, R (.new (.lst ((shc c).map insD))) o) : spF (tr_shortened A) [.lst (c.map insD)] R EX := by
  have sl : 1000 ≤ sizeLine := by decide
  unfold spF tr_shortened
  refine ⟨rfl, ?_⟩
  simp only [List.map_cons, List.map_nil, rhoD_cons, rhoD_nil, rhoD_z]
  repeat infer_instance
  refine for_i (fun i ρ => ∃ x2 x3 x4, ρ = [.dat (.lst (c.map insD)), .own (.lst (((c.take i).foldl stp []).reverse.map insD)), x2, x3, x4]) ⟨_, _, _, rfl⟩ ?_ ?_
  · rintro i d ρ k hd ⟨x2, x3, x4, rfl⟩ hk
    rw [List.getElem?_map] at hd
    obtain ⟨z, hz, rfl⟩ : ∃ z, c[i]? = some z ∧ d = insD z := by
      cases q : c[i]? with
      | none => rw [q] at hd; cases hd
      | some z => rw [q] at hd; exact ⟨z, rfl, (Option.some.inj hd).symm⟩
    obtain ⟨il, ez⟩ := List.getElem?_eq_some_iff.mp hz
    have ts : (c.take (i + 1)).foldl stp [] = stp ((c.take i).foldl stp []) z := by rw [List.take_add_one, hz, List.foldl_append]; rfl
    have spl : c.take i ++ z :: c.drop (i + 1) = c := by rw [← ez, ← List.drop_eq_getElem_cons il, List.take_append_drop]
    obtain ⟨k1, w1, t1, e1, _⟩ := fold_ex2 hx hy (c.take i) (z :: c.drop (i + 1)) [] t (by show ∀ j ∈ c.take i ++ z :: c.drop (i + 1), okI j; rw [spl]; exact kc) (by show ex x y (c.take i ++ z :: c.drop (i + 1)) [] = some t; rw [spl]; exact e)
    have w1 : wC (((c.take i).foldl stp []).reverse ++ z :: c.drop (i + 1)) ≤ 99 := by
      refine Nat.le_trans w1 ?_
      show wC (c.take i ++ z :: c.drop (i + 1)) ≤ 99
      rw [spl]
      exact wc
    have ls := foldl_len (c.take i) []
    rw [List.length_take, List.length_nil] at ls
    have hk : ∀ x2 x3 x4, k [.dat (.lst (c.map insD)), .own (.lst ((stp ((c.take i).foldl stp []) z).reverse.map insD)), x2, x3, x4] := fun x2 x3 x4 => hk _ ⟨x2, x3, x4, by rw [ts]⟩
    generalize (c.take i).foldl stp [] = S at *
    clear ts
    have ea : S.reverse.map insD ++ [insD z] = (z :: S).reverse.map insD := by rw [List.reverse_cons, List.map_append]; rfl
    repeat infer_instance
    · refine Nat.ble_eq_true_of_le ?_
      rw [List.length_append, List.length_map, List.length_reverse]
      show S.length + 1 ≤ sizeLine
      omega
    · rw [ea]
      repeat infer_instance
      refine pr_foldable fun o => ⟨rfl, ?_⟩
      repeat infer_instance
      rcases stp_or S z with q | ⟨s0, rfl, rfl, q⟩ | ⟨a, s0, rfl, rfl, q⟩ | ⟨a, b, s0, rfl, rfl, q⟩
      · rw [fb_none q, if_neg (by decide)]
        rw [q] at hk
        repeat infer_instance
        exact hk _ _ _
      · rw [show fbK (List.map kk (List.take 3 (Ins.inv :: Ins.inv :: s0))) = 2 from rfl, if_pos (by decide)]
        rw [q] at hk
        repeat infer_instance
        refine kSl_oW (pk_ownl rfl) ?_
        rw [show cutD (List.map insD (Ins.inv :: Ins.inv :: s0).reverse) (some (-((2 : Nat) : Int))) none = [Ins.inv, Ins.inv].map insD from cut_last (s := Ins.inv :: Ins.inv :: s0) (k := 2) (by decide)]
        repeat infer_instance
        refine fo_inv fun o => ?_
        repeat infer_instance
        refine kDelT_i rfl ?_
        rw [del_last (s := Ins.inv :: Ins.inv :: s0) (k := 2) (by decide)]
        simp only [List.set_cons_succ, List.set_cons_zero]
        rw [show List.drop 2 (Ins.inv :: Ins.inv :: s0) = s0 from rfl]
        repeat infer_instance
        refine mExt_i (by rw [List.length_map, List.length_reverse]; show s0.length + 0 ≤ _; rw [List.length_cons] at ls; omega) ?_
        rw [List.append_nil]
        repeat infer_instance
        exact hk _ _ _
      · have ka : Kn a := k1 (.push a) (by simp)
        have wa : bits a + 1 ≤ 99 := by
          rw [wC_app, wC_rev, wC_cons] at w1
          have w1 : bits a + 1 + wC s0 + wC (Ins.inv :: c.drop (i + 1)) ≤ 99 := w1
          omega
        rw [show fbK (List.map kk (List.take 3 (Ins.inv :: Ins.push a :: s0))) = 2 from rfl, if_pos (by decide)]
        rw [q] at hk
        repeat infer_instance
        refine kSl_oW (pk_ownl rfl) ?_
        rw [show cutD (List.map insD (Ins.inv :: Ins.push a :: s0).reverse) (some (-((2 : Nat) : Int))) none = [Ins.push a, Ins.inv].map insD from cut_last (s := Ins.inv :: Ins.push a :: s0) (k := 2) (by decide)]
        repeat infer_instance
        refine fo_neg (ka.fit.mono (by omega)) fun o => ?_
        repeat infer_instance
        refine kDelT_i rfl ?_
        rw [del_last (s := Ins.inv :: Ins.push a :: s0) (k := 2) (by decide)]
        simp only [List.set_cons_succ, List.set_cons_zero]
        rw [show List.drop 2 (Ins.inv :: Ins.push a :: s0) = s0 from rfl]
        repeat infer_instance
        refine mExt_i (by rw [List.length_map, List.length_reverse]; show s0.length + 1 ≤ _; rw [List.length_cons] at ls; omega) ?_
        rw [show List.map insD s0.reverse ++ [insD (Ins.push a.mir.lead)] = List.map insD (Ins.push a.mir.lead :: s0).reverse by rw [List.reverse_cons, List.map_append]; rfl]
        repeat infer_instance
        exact hk _ _ _
      · have ka : Kn a := k1 (.push a) (by simp)
        have kb : Kn b := k1 (.push b) (by simp)
        have wa : bits a + bits b ≤ 97 := by
          rw [wC_app, wC_rev, wC_cons, wC_cons] at w1
          have w1 : bits b + 1 + (bits a + 1 + wC s0) + wC (Ins.mul :: c.drop (i + 1)) ≤ 99 := w1
          omega
        rw [show fbK (List.map kk (List.take 3 (Ins.mul :: Ins.push b :: Ins.push a :: s0))) = 3 from rfl, if_pos (by decide)]
        rw [q] at hk
        repeat infer_instance
        refine kSl_oW (pk_ownl rfl) ?_
        rw [show cutD (List.map insD (Ins.mul :: Ins.push b :: Ins.push a :: s0).reverse) (some (-((3 : Nat) : Int))) none = [Ins.push a, Ins.push b, Ins.mul].map insD from cut_last (s := Ins.mul :: Ins.push b :: Ins.push a :: s0) (k := 3) (by decide)]
        repeat infer_instance
        refine fo_mul (ka.fit.mono (by omega)) (kb.fit.mono (by omega)) (by omega) fun o => ?_
        repeat infer_instance
        refine kDelT_i rfl ?_
        rw [del_last (s := Ins.mul :: Ins.push b :: Ins.push a :: s0) (k := 3) (by decide)]
        simp only [List.set_cons_succ, List.set_cons_zero]
        rw [show List.drop 3 (Ins.mul :: Ins.push b :: Ins.push a :: s0) = s0 from rfl]
        repeat infer_instance
        refine mExt_i (by rw [List.length_map, List.length_reverse]; show s0.length + 1 ≤ _; rw [List.length_cons, List.length_cons] at ls; omega) ?_
        rw [show List.map insD s0.reverse ++ [insD (Ins.push (Q4.mul a b).lead)] = List.map insD (Ins.push (Q4.mul a b).lead :: s0).reverse by rw [List.reverse_cons, List.map_append]; rfl]
        repeat infer_instance
        exact hk _ _ _
  · rintro ρ ⟨x2, x3, x4, rfl⟩
    rw [List.length_map, List.take_length]
    repeat infer_instance
    exact h _
end
end D
set_option Elab.async false
set_option linter.all false
set_option maxRecDepth 100000
set_option maxHeartbeats 4000000
namespace D
open PySem PySem.Spec PyProof.Rows L2 G
section
variable {P : Res → Prop} {u : Q4} {b : Bool}
theorem fEq_iiC (h : P (.dat (.bl true))) : fEq (insD .inv) (.tup [.str "inv"]) P := fEq_inv (by rw [decide_eq_true rfl]; exact h)
theorem fEq_im (h : P (.dat (.bl false))) : fEq (insD .mul) (.tup [.str "inv"]) P := fEq_inv (by rw [decide_eq_false (by intro z; cases z)]; exact h)
theorem fEq_il (h : P (.dat (.bl false))) : fEq (insD (.load b)) (.tup [.str "inv"]) P := fEq_inv (by rw [decide_eq_false (by intro z; cases z)]; exact h)
theorem fEq_ip (h : P (.dat (.bl false))) : fEq (insD (.push u)) (.tup [.str "inv"]) P := fEq_inv (by rw [decide_eq_false (by intro z; cases z)]; exact h)
theorem fEq_mi (h : P (.dat (.bl false))) : fEq (insD .inv) (.tup [.str "mul"]) P := fEq_mul (by rw [decide_eq_false (by intro z; cases z)]; exact h)
theorem fEq_mm (h : P (.dat (.bl true))) : fEq (insD .mul) (.tup [.str "mul"]) P := fEq_mul (by rw [decide_eq_true rfl]; exact h)
theorem fEq_ml (h : P (.dat (.bl false))) : fEq (insD (.load b)) (.tup [.str "mul"]) P := fEq_mul (by rw [decide_eq_false (by intro z; cases z)]; exact h)
theorem fEq_mp (h : P (.dat (.bl false))) : fEq (insD (.push u)) (.tup [.str "mul"]) P := fEq_mul (by rw [decide_eq_false (by intro z; cases z)]; exact h)
theorem fIx_i0 (h : P (.dat (.str "inv"))) : fIx (insD .inv) (.int 0) P := fIx_t rfl h
theorem fIx_m0 (h : P (.dat (.str "mul"))) : fIx (insD .mul) (.int 0) P := fIx_t rfl h
theorem fIx_l0 (h : P (.dat (.str "load"))) : fIx (insD (.load b)) (.int 0) P := fIx_t rfl h
theorem fIx_p0 (h : P (.dat (.str "push"))) : fIx (insD (.push u)) (.int 0) P := fIx_t rfl h
theorem fIx_p1 (h : P (.dat (rowD u))) : fIx (insD (.push u)) (.int 1) P := fIx_t rfl h
end
def bD : Option Ins → Dt
  | none => .tup [.str "none"]
  | some i => insD i
theorem cut_hi {β : Type} {f : β → Dt} {a b : List β} {k : Int} (hk : k = a.length) : cutD ((a ++ b).map f) none (some k) = a.map f := by
  subst hk
  unfold cutD
  rw [HT.sIx_none, HT.sIx_nat, List.drop_zero, List.length_map, List.length_append, List.map_append, Nat.sub_zero, Nat.min_eq_left (by omega), List.take_append_of_le_length (by rw [List.length_map]; omega), List.take_of_length_le (by rw [List.length_map]; omega)]
theorem cut_lo {β : Type} {f : β → Dt} {a b : List β} {k : Int} (hk : k = a.length) : cutD ((a ++ b).map f) (some k) none = b.map f := by
  subst hk
  unfold cutD
  rw [HT.sIx_none, HT.sIx_nat, List.length_map, List.length_append, Nat.min_eq_left (by omega), ← List.map_drop, List.drop_append_of_le_length (by omega), List.drop_of_length_le (by omega), List.nil_append, List.take_of_length_le (by rw [List.length_map]; omega)]
theorem at_mid {a b : List Ins} {x : Ins} {k : Int} (hk : k = a.length) : atI ((a ++ x :: b).map insD) k = some (insD x) := by
  subst hk
  exact atI_nat (by rw [List.getElem?_map, List.getElem?_append_right (by omega), Nat.sub_self]; rfl)
local macro_rules | `(tactic| array_get_dec) => `(tactic| first | (with_reducible refine pr_isnum fun o => ?_) | (with_reducible refine pr_halvesT fun o => ?_) | (with_reducible refine pr_halvesL fun o => ?_) | (with_reducible refine mk_Four ?_ ?_) | (with_reducible refine pr_fhalves fun o => ?_) | (with_reducible refine pr_bool fun o => ?_) | (with_reducible refine pr_eq fun o => ?_))
local macro_rules | `(tactic| infer_instance) => `(tactic| first | with_reducible refine dDg_i ?_ | with_reducible refine dDin_i ?_ | with_reducible refine kDin_f ?_ | with_reducible refine kDin_t ?_ | with_reducible refine kP_newd ?_ | with_reducible refine fInt_b ?_ | with_reducible refine dDisp_i ?_ | with_reducible refine kDs_newd ?_ | with_reducible refine dSl_i ?_ | with_reducible refine dPart_i ?_ | with_reducible refine dNoPart_i ?_ | with_reducible refine kI_i ?_ | with_reducible refine kSl_n ?_ | with_reducible refine kSl_l ?_ | with_reducible refine dCallL_i ?_ | with_reducible refine dDelT_i ?_ | with_reducible refine fEq_iiC ?_ | with_reducible refine fEq_im ?_ | with_reducible refine fEq_il ?_ | with_reducible refine fEq_ip ?_ | with_reducible refine fEq_mi ?_ | with_reducible refine fEq_mm ?_ | with_reducible refine fEq_ml ?_ | with_reducible refine fEq_mp ?_ | with_reducible refine fIx_i0 ?_ | with_reducible refine fIx_m0 ?_ | with_reducible refine fIx_l0 ?_ | with_reducible refine fIx_p0 ?_ | with_reducible refine fIx_p1 ?_ | with_reducible refine fEq_none ?_)
local macro_rules | `(tactic| infer_instance) => `(tactic| first
  | (with_reducible refine fEq_litT (by decide +kernel) ?_) | (with_reducible refine fEq_litF (by decide +kernel) ?_))
section
variable {A : Cs} {R : Res → List En → Prop} {EX : Xc → List En → Prop} {u v w t t' : Q4} {n m : Nat} {ks : List Key} {l : List Dt} {x y : Q4}
theorem fold_rest {c S r : List Ins} {z : Ins} {i : Nat} {WD : WDt} {EN : EndsD} (ec : c = S.reverse ++ z :: r) (li : i = S.length) (lc : c.length ≤ 100) (kc : ∀ j ∈ c, okI j) (wc : wC c ≤ 99)
    (hr : stp S z ≠ z :: S → ∀ ρ, rtOf EN (.new (.lst (((stp S z).reverse ++ r).map insD))) ρ)
    (hn : stp S z = z :: S → nxOf EN [.dat (.lst (c.map insD)), .dat (.int (i : Nat)), .dat (bD S[0]?), .dat (bD S[1]?)]) :
    ((dSeq (dIfS (dAnd (dTB (dOp fEq (dOp fIx (dV 0) (dV 1)) (dTup (dCons (dC (.str "inv")) dNil)))) (dTB (dOp fEq (dV 2) (dTup (dCons (dC (.str "inv")) dNil))))) (dRet (dOp fAdd (dSl (dV 0) dNoPart (dPart (dOp fSub (dV 1) (dC (.int 1))))) (dSl (dV 0) (dPart (dOp fAdd (dV 1) (dC (.int 1)))) dNoPart))) dNext)
    (dSeq (dIfS (dAnd (dTB (dOp fEq (dOp fIx (dV 0) (dV 1)) (dTup (dCons (dC (.str "inv")) dNil)))) (dTB (dOp fEq (dOp fIx (dV 2) (dC (.int 0))) (dC (.str "push"))))) (dRet (dOp fAdd (dOp fAdd (dSl (dV 0) dNoPart (dPart (dOp fSub (dV 1) (dC (.int 1))))) (dLst (dCons (dTup (dCons (dC (.str "push")) (dCons (dCallF (tr_L_lowest A) (dCons (dCallF (tr_L_back A) (dCons (dOp fIx (dV 2) (dC (.int 1))) dNil)) dNil)) dNil))) dNil))) (dSl (dV 0) (dPart (dOp fAdd (dV 1) (dC (.int 1)))) dNoPart))) dNext)
    (dIfS (dAnd (dTB (dOp fEq (dOp fIx (dV 0) (dV 1)) (dTup (dCons (dC (.str "mul")) dNil)))) (dAnd (dTB (dOp fEq (dOp fIx (dV 2) (dC (.int 0))) (dC (.str "push")))) (dTB (dOp fEq (dOp fIx (dV 3) (dC (.int 0))) (dC (.str "push")))))) (dRet (dOp fAdd (dOp fAdd (dSl (dV 0) dNoPart (dPart (dOp fSub (dV 1) (dC (.int 2))))) (dLst (dCons (dTup (dCons (dC (.str "push")) (dCons (dCallF (tr_L_lowest A) (dCons (dCallF (tr_L_times A) (dCons (dOp fIx (dV 3) (dC (.int 1))) (dCons (dOp fIx (dV 2) (dC (.int 1))) dNil))) dNil)) dNil))) dNil))) (dSl (dV 0) (dPart (dOp fAdd (dV 1) (dC (.int 1)))) dNoPart))) dNext))) : TSD) WD EN [.dat (.lst (c.map insD)), .dat (.int (i : Nat)), .dat (bD S[0]?), .dat (bD S[1]?)] := by
  have sl : 1000 ≤ sizeLine := by decide
  have ez : atI (c.map insD) (i : Nat) = some (insD z) := by rw [ec]; exact at_mid (by rw [li, List.length_reverse])
  have lS : S.length + r.length + 1 ≤ 100 := by rw [ec] at lc; simp at lc; omega
  have e2 : cutD (c.map insD) (some ((i : Nat) + 1 : Int)) none = r.map insD := by
    rw [ec, show S.reverse ++ z :: r = (S.reverse ++ [z]) ++ r by simp]
    exact cut_lo (by simp; omega)
  have e1 : ∀ {a : Ins} {s : List Ins}, S = a :: s → cutD (c.map insD) none (some ((i : Nat) - 1 : Int)) = s.reverse.map insD := fun {a s} e => by
    rw [ec, e, show (a :: s).reverse ++ z :: r = s.reverse ++ (a :: z :: r) by simp]
    exact cut_hi (by rw [li, e]; simp)
  have e3 : ∀ {a b : Ins} {s : List Ins}, S = a :: b :: s → cutD (c.map insD) none (some ((i : Nat) - 2 : Int)) = s.reverse.map insD := fun {a b s} e => by
    rw [ec, e, show (a :: b :: s).reverse ++ z :: r = s.reverse ++ (b :: a :: z :: r) by simp]
    exact cut_hi (by rw [li, e]; simp; omega)
  have kS : ∀ j ∈ S, okI j := fun j m => kc j (by rw [ec]; exact List.mem_append.mpr (.inl (List.mem_reverse.mpr m)))
  have wS : wC S ≤ 99 := by rw [ec, wC_app, wC_rev] at wc; omega
  cases z with
  | load b =>
    have hn := hn (by cases S with | nil => rfl | cons a s => cases a <;> (first | rfl | (cases s with | nil => rfl | cons b s => cases b <;> rfl)))
    repeat infer_instance
    refine fIx_l ez ?_
    repeat infer_instance
    refine fIx_l ez ?_
    repeat infer_instance
    refine fIx_l ez ?_
    repeat infer_instance
    exact hn
  | push u =>
    have hn := hn (stp_push _ _)
    repeat infer_instance
    refine fIx_l ez ?_
    repeat infer_instance
    refine fIx_l ez ?_
    repeat infer_instance
    refine fIx_l ez ?_
    repeat infer_instance
    exact hn
  | inv =>
    cases S with
    | nil =>
      have hn := hn rfl
      rw [show bD ([] : List Ins)[0]? = .tup [.str "none"] from rfl] at hn ⊢
      repeat infer_instance
      refine fIx_l ez ?_
      repeat infer_instance
      refine fIx_l ez ?_
      repeat infer_instance
      refine fIx_l ez ?_
      repeat infer_instance
      exact hn
    | cons a s =>
      rw [show bD (a :: s)[0]? = insD a from rfl] at hn ⊢
      have f1 := e1 rfl
      clear e1
      rw [List.length_cons] at lS
      cases a with
      | load b =>
        have hn := hn (by first | rfl | (cases s with | nil => rfl | cons b s => cases b <;> rfl))
        repeat infer_instance
        refine fIx_l ez ?_
        repeat infer_instance
        refine fIx_l ez ?_
        repeat infer_instance
        refine fIx_l ez ?_
        repeat infer_instance
        exact hn
      | mul =>
        have hn := hn (by first | rfl | (cases s with | nil => rfl | cons b s => cases b <;> rfl))
        repeat infer_instance
        refine fIx_l ez ?_
        repeat infer_instance
        refine fIx_l ez ?_
        repeat infer_instance
        refine fIx_l ez ?_
        repeat infer_instance
        exact hn
      | inv =>
        have hr := hr (by intro e; have := congrArg List.length e; simp [stp] at this; omega)
        rw [show (stp (.inv :: s) .inv).reverse ++ r = s.reverse ++ r from rfl, List.map_append] at hr
        repeat infer_instance
        refine fIx_l ez ?_
        repeat infer_instance
        rw [f1]
        repeat infer_instance
        rw [e2]
        repeat infer_instance
        · refine Nat.ble_eq_true_of_le ?_
          rw [List.length_append, List.length_map, List.length_map, List.length_reverse]
          omega
        · repeat infer_instance
          try rw [f1]
          try rw [e2]
          exact hr _
      | push u =>
        have ku : Kn u := kS (.push u) (.head _)
        have wu : bits u ≤ 99 := by rw [wC_cons] at wS; have wS : bits u + 1 + wC s ≤ 99 := wS; omega
        have hr := hr (by intro e; have := congrArg List.length e; simp [stp] at this)
        rw [show (stp (.push u :: s) .inv).reverse ++ r = s.reverse ++ [.push u.mir.lead] ++ r by simp [stp], List.map_append, List.map_append, show List.map insD [Ins.push u.mir.lead] = [.tup [.str "push", rowD u.mir.lead]] from rfl] at hr
        repeat infer_instance
        refine fIx_l ez ?_
        repeat infer_instance
        refine fIx_l ez ?_
        repeat infer_instance
        rw [f1]
        repeat infer_instance
        refine pr_Lback2 fun o => ?_
        repeat infer_instance
        refine pr_Llowest (Q4.mir_par ku.1) (Q4.mir_ne ku.2) (ku.fit.mono (m := 100) (by omega)).bd.mir (by decide) fun o => ?_
        repeat infer_instance
        · refine Nat.ble_eq_true_of_le ?_
          rw [List.length_append, List.length_map, List.length_reverse]
          show s.length + 1 ≤ _
          omega
        · repeat infer_instance
          rw [e2]
          repeat infer_instance
          · refine Nat.ble_eq_true_of_le ?_
            rw [List.length_append, List.length_append, List.length_map, List.length_map, List.length_reverse]
            show s.length + 1 + r.length ≤ _
            omega
          · repeat infer_instance
            try rw [e2]
            exact hr _
  | mul =>
    match S with
    | [] =>
      have hn := hn rfl
      rw [show bD ([] : List Ins)[0]? = .tup [.str "none"] from rfl] at hn ⊢
      repeat infer_instance
      refine fIx_l ez ?_
      repeat infer_instance
      refine fIx_l ez ?_
      repeat infer_instance
      refine fIx_l ez ?_
      repeat infer_instance
      exact hn
    | [a] =>
      rw [show bD [a][0]? = insD a from rfl, show bD [a][1]? = .tup [.str "none"] from rfl] at hn ⊢
      have hn := hn (by cases a <;> rfl)
      cases a <;>
      · repeat infer_instance
        refine fIx_l ez ?_
        repeat infer_instance
        refine fIx_l ez ?_
        repeat infer_instance
        refine fIx_l ez ?_
        repeat infer_instance
        exact hn
    | a :: b :: s =>
      rw [show bD (a :: b :: s)[0]? = insD a from rfl, show bD (a :: b :: s)[1]? = insD b from rfl] at hn ⊢
      have f3 := e3 rfl
      clear e3
      rw [List.length_cons, List.length_cons] at lS
      by_cases ab : ∃ u v, a = .push v ∧ b = .push u
      · obtain ⟨u, v, rfl, rfl⟩ := ab
        have ku : Kn u := kS (.push u) (.tail _ (.head _))
        have kv : Kn v := kS (.push v) (.head _)
        have wu : bits u + bits v ≤ 97 := by rw [wC_cons, wC_cons] at wS; have wS : bits v + 1 + (bits u + 1 + wC s) ≤ 99 := wS; omega
        have km := ku.mul kv
        have hr := hr (by intro e; have := congrArg List.length e; simp [stp] at this)
        rw [show (stp (.push v :: .push u :: s) .mul).reverse ++ r = s.reverse ++ [.push (Q4.mul u v).lead] ++ r by simp [stp], List.map_append, List.map_append, show List.map insD [Ins.push (Q4.mul u v).lead] = [.tup [.str "push", rowD (Q4.mul u v).lead]] from rfl] at hr
        repeat infer_instance
        refine fIx_l ez ?_
        repeat infer_instance
        refine fIx_l ez ?_
        repeat infer_instance
        refine fIx_l ez ?_
        repeat infer_instance
        rw [f3]
        repeat infer_instance
        refine pr_Ltimes ku.1 kv.1 (ku.fit.mono (m := 100) (by omega)).bd (kv.fit.mono (m := 100) (by omega)).bd (by decide) fun o => ?_
        repeat infer_instance
        refine pr_Llowest km.1.1 km.1.2 (km.1.fit.mono (m := 100) (by omega)).bd (by decide) fun o => ?_
        repeat infer_instance
        · refine Nat.ble_eq_true_of_le ?_
          rw [List.length_append, List.length_map, List.length_reverse]
          show s.length + 1 ≤ _
          omega
        · repeat infer_instance
          rw [e2]
          repeat infer_instance
          · refine Nat.ble_eq_true_of_le ?_
            rw [List.length_append, List.length_append, List.length_map, List.length_map, List.length_reverse]
            show s.length + 1 + r.length ≤ _
            omega
          · repeat infer_instance
            try rw [e2]
            exact hr _
      · have hn := hn (by
          cases a <;> cases b <;> first | rfl | exact absurd ⟨_, _, rfl, rfl⟩ ab)
        cases a with
        | push v =>
          cases b with
          | push u => exact absurd ⟨_, _, rfl, rfl⟩ ab
          | _ =>
            repeat infer_instance
            refine fIx_l ez ?_
            repeat infer_instance
            refine fIx_l ez ?_
            repeat infer_instance
            refine fIx_l ez ?_
            repeat infer_instance
            exact hn
        | _ =>
          repeat infer_instance
          refine fIx_l ez ?_
          repeat infer_instance
          refine fIx_l ez ?_
          repeat infer_instance
          refine fIx_l ez ?_
          repeat infer_instance
          exact hn
theorem fold_go {c : List Ins} {i : Nat} {d2 d3 : Dt} {WD : WDt} {EN : EndsD} (lc : c.length ≤ 100) (kc : ∀ j ∈ c, okI j) (wc : wC c ≤ 99) (hy : ∃ (S : List Ins) (z : Ins) (r : List Ins), c = S.reverse ++ z :: r ∧ i = S.length ∧ d2 = bD S[0]? ∧ d3 = bD S[1]? ∧
    (stp S z ≠ z :: S → ∀ ρ, rtOf EN (.new (.lst (((stp S z).reverse ++ r).map insD))) ρ) ∧ (stp S z = z :: S → nxOf EN [.dat (.lst (c.map insD)), .dat (.int (i : Nat)), .dat (bD S[0]?), .dat (bD S[1]?)])) :
    ((dSeq (dIfS (dAnd (dTB (dOp fEq (dOp fIx (dV 0) (dV 1)) (dTup (dCons (dC (.str "inv")) dNil)))) (dTB (dOp fEq (dV 2) (dTup (dCons (dC (.str "inv")) dNil))))) (dRet (dOp fAdd (dSl (dV 0) dNoPart (dPart (dOp fSub (dV 1) (dC (.int 1))))) (dSl (dV 0) (dPart (dOp fAdd (dV 1) (dC (.int 1)))) dNoPart))) dNext)
    (dSeq (dIfS (dAnd (dTB (dOp fEq (dOp fIx (dV 0) (dV 1)) (dTup (dCons (dC (.str "inv")) dNil)))) (dTB (dOp fEq (dOp fIx (dV 2) (dC (.int 0))) (dC (.str "push"))))) (dRet (dOp fAdd (dOp fAdd (dSl (dV 0) dNoPart (dPart (dOp fSub (dV 1) (dC (.int 1))))) (dLst (dCons (dTup (dCons (dC (.str "push")) (dCons (dCallF (tr_L_lowest A) (dCons (dCallF (tr_L_back A) (dCons (dOp fIx (dV 2) (dC (.int 1))) dNil)) dNil)) dNil))) dNil))) (dSl (dV 0) (dPart (dOp fAdd (dV 1) (dC (.int 1)))) dNoPart))) dNext)
    (dIfS (dAnd (dTB (dOp fEq (dOp fIx (dV 0) (dV 1)) (dTup (dCons (dC (.str "mul")) dNil)))) (dAnd (dTB (dOp fEq (dOp fIx (dV 2) (dC (.int 0))) (dC (.str "push")))) (dTB (dOp fEq (dOp fIx (dV 3) (dC (.int 0))) (dC (.str "push")))))) (dRet (dOp fAdd (dOp fAdd (dSl (dV 0) dNoPart (dPart (dOp fSub (dV 1) (dC (.int 2))))) (dLst (dCons (dTup (dCons (dC (.str "push")) (dCons (dCallF (tr_L_lowest A) (dCons (dCallF (tr_L_times A) (dCons (dOp fIx (dV 3) (dC (.int 1))) (dCons (dOp fIx (dV 2) (dC (.int 1))) dNil))) dNil)) dNil))) dNil))) (dSl (dV 0) (dPart (dOp fAdd (dV 1) (dC (.int 1)))) dNoPart))) dNext))) : TSD) WD EN [.dat (.lst (c.map insD)), .dat (.int (i : Nat)), .dat d2, .dat d3] := by
  obtain ⟨S, z, r, ec, li, rfl, rfl, hr, hn⟩ := hy
  exact fold_rest ec li lc kc wc hr hn
local macro_rules | `(tactic| infer_instance) => `(tactic| first | with_reducible refine fold_go (by assumption) (by assumption) (by assumption) ?_)
theorem pr_fold {c : List Ins} (lc : c.length ≤ 100) (kc : ∀ j ∈ c, okI j) (wc : wC c ≤ 99) (h : ∀ o, R (.new (.lst ((lf [] c).map insD))) o) (h' : ∀ o, R (.dat (.lst ((lf [] c).map insD))) o) : spF (tr_L_fold A) [.lst (c.map insD)] R EX := by
  unfold spF tr_L_fold
  refine ⟨rfl, ?_⟩
  simp only [List.map_cons, List.map_nil, rhoD_cons, rhoD_nil, rhoD_z]
  repeat infer_instance
  refine for_i (fun i ρ => lf [] c = lf (c.take i).reverse (c.drop i) ∧ ∃ x1 x2 x3, ρ = [.dat (.lst (c.map insD)), x1, x2, x3]) ⟨rfl, _, _, _, rfl⟩ ?_ ?_
  · rintro i d ρ k hd ⟨hl, x1, x2, x3, rfl⟩ hk
    obtain ⟨iN, rfl⟩ := rng_at (n := c.length) (by rw [List.length_map]) hd
    have ed : c.drop i = c[i] :: c.drop (i + 1) := List.drop_eq_getElem_cons iN
    have ec : c = (c.take i).reverse.reverse ++ c[i] :: c.drop (i + 1) := by rw [List.reverse_reverse, ← ed, List.take_append_drop]
    have li : i = (c.take i).reverse.length := by rw [List.length_reverse, List.length_take]; omega
    have et : (c.take (i + 1)).reverse = c[i] :: (c.take i).reverse := by rw [List.take_succ_eq_append_getElem iN, List.reverse_append]; rfl
    rw [ed] at hl
    obtain ⟨S, hS⟩ : ∃ S, S = (c.take i).reverse := ⟨_, rfl⟩
    obtain ⟨r, hr⟩ : ∃ r, r = c.drop (i + 1) := ⟨_, rfl⟩
    rw [← hS] at ec li et hl
    rw [← hr] at ec hl
    have hk : ∀ x1 x2 x3, lf [] c = lf (c[i] :: S) r → k [.dat (.lst (c.map insD)), x1, x2, x3] := fun x1 x2 x3 e => hk _ ⟨by rw [et, ← hr]; exact e, x1, x2, x3, rfl⟩
    clear hS hr ed et hd
    generalize c[i] = z at *
    have f1 : stp S z ≠ z :: S → ∀ ρ, R (.new (.lst (((stp S z).reverse ++ r).map insD))) ρ := fun ne ρ => by
      have := h ρ
      rw [hl, lf, if_neg ne] at this
      exact this
    have f2 : stp S z = z :: S → ∀ x1 x2 x3, k [.dat (.lst (c.map insD)), x1, x2, x3] := fun e x1 x2 x3 => hk x1 x2 x3 (by rw [hl, lf, if_pos e])
    match S, li with
    | [], li =>
      have i0 : i = 0 := li
      repeat infer_instance
      refine if_dn (by omega) ?_
      repeat infer_instance
      refine if_dn (by omega) ?_
      repeat infer_instance
      exact ⟨[], z, r, ec, li, rfl, rfl, fun ne ρ => f1 ne _, fun e => f2 e _ _ _⟩
    | [a], li =>
      have i0 : i = 1 := li
      repeat infer_instance
      refine if_dy (by omega) ?_
      repeat infer_instance
      refine fIx_l (d := insD a) (by rw [ec]; exact at_mid (a := []) (x := a) (b := z :: r) (by show (i : Int) - 1 = 0; omega)) ?_
      repeat infer_instance
      refine if_dn (by omega) ?_
      repeat infer_instance
      exact ⟨[a], z, r, ec, li, rfl, rfl, fun ne ρ => f1 ne _, fun e => f2 e _ _ _⟩
    | a :: b :: s, li =>
      rw [List.length_cons, List.length_cons] at li
      have ec2 : c = (s.reverse ++ [b]) ++ a :: z :: r := by rw [ec]; simp
      have ec3 : c = s.reverse ++ b :: a :: z :: r := by rw [ec]; simp
      repeat infer_instance
      refine if_dy (by omega) ?_
      repeat infer_instance
      refine fIx_l (d := insD a) (by rw [ec2]; exact at_mid (by rw [List.length_append, List.length_reverse]; show (i : Int) - 1 = ((s.length + 1 : Nat) : Int); omega)) ?_
      repeat infer_instance
      refine if_dy (by omega) ?_
      repeat infer_instance
      refine fIx_l (d := insD b) (by rw [ec3]; exact at_mid (by rw [List.length_reverse]; omega)) ?_
      repeat infer_instance
      exact ⟨a :: b :: s, z, r, ec, by rw [List.length_cons, List.length_cons]; exact li, rfl, rfl, fun ne ρ => f1 ne _, fun e => f2 e _ _ _⟩
  · rintro ρ ⟨hl, x1, x2, x3, rfl⟩
    rw [rng_len (n := c.length) (by rw [List.length_map]), List.take_length, List.drop_length] at hl
    have e : lf [] c = c := by rw [hl]; exact List.reverse_reverse c
    rw [e] at h'
    repeat infer_instance
    exact h' _
  · rw [List.length_map]
    omega
end
end D
set_option Elab.async false
set_option linter.all false
set_option maxRecDepth 100000
set_option maxHeartbeats 4000000
namespace D
open PySem PySem.Spec PyProof.Rows L2 G
section
variable {x y : Q4}
theorem lf_keep (hx : PTree.Fit 4 x) (hy : PTree.Fit 4 y) : ∀ (r s : List Ins) (t : List Q4), (∀ j ∈ s.reverse ++ r, okI j) → ex x y (s.reverse ++ r) [] = some t → (∀ j ∈ lf s r, okI j) ∧ wC (lf s r) ≤ wC (s.reverse ++ r) ∧ (lf s r).length ≤ s.length + r.length ∧ ∃ t', ex x y (lf s r) [] = some t'
  | [], s, t, kc, e => by
    rw [List.append_nil] at kc e ⊢
    exact ⟨kc, Nat.le_refl _, by rw [lf, List.length_reverse]; exact Nat.le_refl _, t, e⟩
  | i :: r, s, t, kc, e => by
    by_cases q : stp s i = i :: s
    · rw [lf, if_pos q]
      have := lf_keep hx hy r (i :: s) t (by rwa [List.reverse_cons, List.append_assoc]) (by rwa [List.reverse_cons, List.append_assoc])
      rw [List.reverse_cons, List.append_assoc, List.length_cons] at this
      obtain ⟨h1, h2, h3, h4⟩ := this
      exact ⟨h1, h2, by rw [List.length_cons]; omega, h4⟩
    · rw [lf, if_neg q]
      obtain ⟨h1, h2, t', h3, _⟩ := stp_ex hx hy kc e
      have := stp_len s i q
      exact ⟨h1, h2, by rw [List.length_append, List.length_reverse, List.length_cons]; omega, t', h3⟩
theorem lfs_keep (hx : PTree.Fit 4 x) (hy : PTree.Fit 4 y) {c : List Ins} {t : List Q4} (kc : ∀ j ∈ c, okI j) (e : ex x y c [] = some t) : ∀ n, (∀ j ∈ lfs n c, okI j) ∧ wC (lfs n c) ≤ wC c ∧ (lfs n c).length ≤ c.length ∧ ∃ t', ex x y (lfs n c) [] = some t'
  | 0 => ⟨kc, Nat.le_refl _, Nat.le_refl _, t, e⟩
  | n + 1 => by
    obtain ⟨h1, h2, h3, t', h4⟩ := lfs_keep hx hy kc e n
    obtain ⟨g1, g2, g3, g4⟩ := lf_keep hx hy (lfs n c) [] t' h1 h4
    rw [lfs_succ]
    exact ⟨g1, Nat.le_trans g2 h2, Nat.le_trans g3 (by rw [List.length_nil]; omega), g4⟩
end
theorem nd_ab : (["a", "b"] : List Str).Nodup := by decide +kernel
theorem kDs_refd {i : Nat} {d : Dt} {rs : List Res} {ρ : List En} {Q : List Dt → List En → Prop} (e : ρ[i]? = some (.dat d)) (h : kDs rs ρ fun ds ρ2 => Q (d :: ds) ρ2) : kDs (.ref i :: rs) ρ Q := by
  simp only [kDs, kD, e]
  exact h
theorem fNe_rw {u : Q4} {P : Res → Prop} (h : P (.dat (.bl false))) : fNe (rowD u) (rowD u) P := ⟨rfl, rfl, by
  have e : PyData.eqv (.tuple [.int u.a, .int u.b, .int u.c, .int u.d]) (.tuple [.int u.a, .int u.b, .int u.c, .int u.d]) = true := by simp [PyData.eqv, PyData.eqvAll]
  show P (.dat (.bl (!PyData.eqv (.tuple [.int u.a, .int u.b, .int u.c, .int u.d]) (.tuple [.int u.a, .int u.b, .int u.c, .int u.d]))))
  rw [e]
  exact h⟩
theorem fIn_ip {x : Str} {b : Bool} {P : Res → Prop} (e : inV (.str x) [.str "inv", .str "push"] = b) (h : P (.dat (.bl b))) : fInG false (.str x) (.tup [.str "inv", .str "push"]) P := by
  subst e
  exact h
theorem fEq_insL {l : List Ins} {P : Res → Prop} (h : P (.dat (.bl true))) : fEq (.lst (l.map insD)) (.lst (l.map insD)) P := by
  unfold fEq
  have e : toPy (.lst (l.map insD)) = some (.list (l.map insQ)) := by
    unfold toPy
    rw [toPys_insQ]
  rw [e]
  refine ⟨shaped_insQ l, shaped_insQ l, ?_⟩
  rw [show PyData.eqv (.list (l.map insQ)) (.list (l.map insQ)) = true by rw [PyData.eqv]; exact eqvAll_insQ l]
  exact h
theorem mClear_i {l : List Dt} {R : List Dt → Dt → Prop} (h : R [] .non) : mClear l [] R := h
local macro_rules | `(tactic| array_get_dec) => `(tactic| first | (with_reducible refine pr_isnum fun o => ?_) | (with_reducible refine pr_halvesT fun o => ?_) | (with_reducible refine pr_halvesL fun o => ?_) | (with_reducible refine mk_Four ?_ ?_) | (with_reducible refine pr_fhalves fun o => ?_) | (with_reducible refine pr_bool fun o => ?_) | (with_reducible refine pr_eq fun o => ?_) | (with_reducible refine pr_teq fun o => ?_))
local macro_rules | `(tactic| infer_instance) => `(tactic| first | with_reducible refine fEq_iiC ?_ | with_reducible refine fEq_im ?_ | with_reducible refine fEq_il ?_ | with_reducible refine fEq_ip ?_ | with_reducible refine fIx_i0 ?_ | with_reducible refine fIx_m0 ?_ | with_reducible refine fIx_l0 ?_ | with_reducible refine fIx_p0 ?_ | with_reducible refine dDg_i ?_ | with_reducible refine dDin_i ?_ | with_reducible refine kDin_f ?_ | with_reducible refine kDin_t ?_ | with_reducible refine kP_newd ?_ | with_reducible refine fMax2_i ?_ | with_reducible refine fInt_b ?_ | with_reducible refine dDisp_i ?_ | with_reducible refine dCallL_i ?_ | with_reducible refine mClear_i ?_)
local macro_rules | `(tactic| infer_instance) => `(tactic| first
  | (with_reducible refine fEq_litT (by decide +kernel) ?_) | (with_reducible refine fEq_litF (by decide +kernel) ?_)
  | (with_reducible refine and_disp nd_ab (by decide) rfl ?_)
  | ((with_reducible refine kCall_3l (w := ?_) ?_ ?_); rotate_left 1; (exact rfl))
  | ((with_reducible refine kDs_ownd (ks := ?_) (l := ?_) (ρ' := ?_) ?_ ?_ ?_); rotate_left 3; (exact rfl); (repeat (first | with_reducible exact set_z | ((with_reducible refine set_s (l' := ?_) ?_); rotate_left 1))))
  | ((with_reducible refine kLend_i (ds := ?_) ?_ ?_); rotate_left 1; (repeat (first | with_reducible exact pksL_nil | ((with_reducible refine pksL_dat (ds := ?_) ?_); rotate_left 1) | ((with_reducible refine pksL_newl (ds := ?_) ?_); rotate_left 1) | ((with_reducible refine pksL_ownl (l := ?_) (ds := ?_) ?_ ?_); rotate_left 2; (exact rfl))))))
section
variable {A : Cs} {R : Res → List En → Prop} {EX : Xc → List En → Prop} {u v w : Q4} {n m : Nat}
abbrev scD (ns : List Int) : En := .dat (.scr ns)
def Hy (u v : Q4) (dt : Dt) : Prop := PTree.Fit 4 u ∧ PTree.Fit 4 v ∧ ∃ t : PTree, dt = treeD t ∧ t.Ok ∧ t.ht < 8 ∧ wC t.code ≤ 99 ∧ t.code.length ≤ 100
theorem law_rest {ns : List Int} {f : Feed} {dt : Dt} {x2 x6 x7 x8 x9 x10 : En} {WD : WDt} {EN : EndsD} (hy : Hy u v dt) (hn : ∀ x2 x3 x4 x5 x6 x7 x8 x9 x10, nxOf EN [scD ns, .own f.w, x2, x3, x4, x5, x6, x7, x8, x9, x10]) :
    ((dSeq (dAsg (dCallF (rec_L_tree_code A 8) (dCons (dV 5) dNil)) (gN 6))
    (dSeq (dAsg (dV 6) (gN 7))
    (dSeq (dFor (dRng1 (dCons (dCB fLen (dCons (dV 6) dNil)) dNil)) (gN 8) (dAsg (dCallF (tr_L_fold A) (dCons (dV 7) dNil)) (gN 7)))
    (dSeq (dAsg (dCB fList (dCons (dV 6) dNil)) (gN 9))
    (dSeq (dAsg (dCallF (tr_shortened A) (dCons (dV 9) dNil)) (gN 10))
    (dSeq (dIfS (dOr (dNot (dTB (dCallF (rec_L_same A 8) (dCons (dLst (dCons (dV 10) (dCons (dCallF (tr_shortened A) (dCons (dV 10) dNil)) dNil))) (dCons (dLst (dCons (dV 7) (dCons (dV 7) dNil))) dNil))))) (dTB (dNeO [("doubled", A.Four, tr_Four_eq A), ("lead", A.Turn, tr_Turn_eq A)] "__eq__" fNe (dV 9) (dV 6)))) (dRet (dC (.bl false))) dNext)
    (dSeq (dIfS (dOr (dTB (dNeO [("doubled", A.Four, tr_Four_eq A), ("lead", A.Turn, tr_Turn_eq A)] "__eq__" fNe (dProp [("doubled", A.Four, tr_Four_halves A)] "halves" (dProp [("lead", A.Turn, tr_Turn_four A)] "four" (dCallF (tr_run A) (dCons (dV 10) (dCons (dV 4) dNil))))) (dCallF (rec_L_tree_four A 8) (dCons (dV 5) (dCons (dV 3) dNil))))) (dTB (dNeO [("doubled", A.Four, tr_Four_eq A), ("lead", A.Turn, tr_Turn_eq A)] "__eq__" fNe (dCallF (tr_run A) (dCons (dV 10) (dCons (dV 4) dNil))) (dCallF (tr_run A) (dCons (dV 6) (dCons (dV 4) dNil)))))) (dRet (dC (.bl false))) dNext)
    (dFor (dRng2 (dCons (dC (.int 1)) (dCons (dCB fLen (dCons (dV 10) dNil)) dNil))) (gN 8) (dIfS (dAnd (dTB (dOp fEq (dOp fIx (dV 10) (dV 8)) (dTup (dCons (dC (.str "inv")) dNil)))) (dTB (dOp (fInG false) (dOp fIx (dOp fIx (dV 10) (dOp fSub (dV 8) (dC (.int 1)))) (dC (.int 0))) (dTup (dCons (dC (.str "inv")) (dCons (dC (.str "push")) dNil)))))) (dRet (dC (.bl false))) dNext))))))))) : TSD) WD EN [scD ns, .own f.w, x2, .own (.dic (strKs ["a", "b"]) [rowD u, rowD v]), .own (.dic (strKs ["a", "b"]) [turnD A u.lead, turnD A v.lead]), .dat dt, x6, x7, x8, x9, x10] := by
  obtain ⟨hx, hy, t, rfl, ot, ht, wt, lt⟩ := hy
  have et : ex u v t.code [] = some [t.qv u v] := ex_tree t
  have kc := ok_code t ot
  obtain ⟨ks, ws, t', es, al⟩ := shc_ex hx hy kc et
  obtain ⟨w, s', rfl, hw, al⟩ := alk_inv al
  have e0 : s' = [] := by
    unfold Alk at al
    rw [List.map_nil] at al
    exact List.map_eq_nil_iff.mp al.symm
  subst e0
  have keep := lfs_keep hx hy kc et
  have ls := shc_len t.code
  have edue := lfs_shc t.code
  have qf := qv_kn hx hy ot (by omega)
  repeat infer_instance
  refine tcW 8 t _ _ ht lt fun o => ?_
  repeat infer_instance
  · refine for_i (fun i ρ => ∃ x7 x8, (x7 = .dat (.lst ((lfs i t.code).map insD)) ∨ x7 = .own (.lst ((lfs i t.code).map insD))) ∧ ρ = [scD ns, .own f.w, x2, .own (.dic (strKs ["a", "b"]) [rowD u, rowD v]), .own (.dic (strKs ["a", "b"]) [turnD A u.lead, turnD A v.lead]), .dat (treeD t), .dat (.lst (t.code.map insD)), x7, x8, x9, x10]) ⟨_, _, .inl rfl, rfl⟩ ?_ ?_
    · rintro i d ρ k hd ⟨x7, x8, h7, rfl⟩ hk
      obtain ⟨k1, k2, k3, k4⟩ := keep i
      have hk : ∀ x7 x8, (x7 = .dat (.lst ((lf [] (lfs i t.code)).map insD)) ∨ x7 = .own (.lst ((lf [] (lfs i t.code)).map insD))) → k [scD ns, .own f.w, x2, .own (.dic (strKs ["a", "b"]) [rowD u, rowD v]), .own (.dic (strKs ["a", "b"]) [turnD A u.lead, turnD A v.lead]), .dat (treeD t), .dat (.lst (t.code.map insD)), x7, x8, x9, x10] := fun x7 x8 h => hk _ ⟨x7, x8, by rw [lfs_succ]; exact h, rfl⟩
      generalize lfs i t.code = c at *
      rcases h7 with rfl | rfl
      all_goals
        repeat infer_instance
        refine pr_fold (by omega) k1 (by omega) (fun o => ?_) (fun o => ?_)
        · repeat infer_instance
          exact hk _ _ (.inr rfl)
        · repeat infer_instance
          exact hk _ _ (.inl rfl)
    · rintro ρ ⟨x7, x8, h7, rfl⟩
      rw [rng_len (n := t.code.length) (by rw [List.length_map]), edue] at h7
      clear keep
      generalize hc : shc t.code = c at *
      have ec : shc c = c := by rw [← hc]; exact shc_shc _
      have hi := irr_shc t.code
      rw [hc] at hi
      repeat infer_instance
      refine pr_shortened hx hy kc wt lt et fun o => ?_
      rw [hc]
      repeat infer_instance
      have pc : plain 6 (.lst (c.map insD)) = true := plain_ins (j := 3) (by omega)
      have pl : plain 7 (.lst [.lst (c.map insD), .lst (c.map insD)]) = true := by
        show (decide (2 ≤ 1000) && (plain 6 (.lst (c.map insD)) && (plain 6 (.lst (c.map insD)) && true))) = true
        rw [pc]
        rfl
      rcases h7 with rfl | rfl
      all_goals
        repeat infer_instance
        refine pr_shortened hx hy ks (by omega) (by omega) es fun o => ?_
        rw [ec]
        repeat infer_instance
        refine kDs_refd rfl ?_
        repeat infer_instance
        try (refine kDs_refd rfl ?_; repeat infer_instance)
        refine pr_same (j := 7) rfl pl fun o => ?_
        repeat infer_instance
        refine fNe_ins ?_
        repeat infer_instance
        refine pr_runW (u := w) hx hy (fun b _ => two_ab) ks (by omega) (by omega) es fun o => ?_
        rw [← hw]
        repeat infer_instance
        refine pr_tfour2 fun o => ?_
        repeat infer_instance
        refine tfW hx hy two_ab 8 t _ _ ht (by omega) ot fun o => ?_
        repeat infer_instance
        refine fNe_rw ?_
        repeat infer_instance
        refine pr_runW (u := w) hx hy (fun b _ => two_ab) ks (by omega) (by omega) es fun o => ?_
        rw [← hw]
        repeat infer_instance
        refine pr_runW (u := t.qv u v) hx hy (fun b _ => two_ab) kc (by omega) lt et fun o => ?_
        repeat infer_instance
        refine if_dy rfl ?_
        repeat infer_instance
        refine dRng2_i ?_
        repeat infer_instance
        refine kRng2_i (by rw [List.length_map]; omega) ?_
        refine for_i (fun i ρ => ∃ x8, ρ = [scD ns, .own f.w, x2, .dat (.dic (strKs ["a", "b"]) [rowD u, rowD v]), .dat (.dic (strKs ["a", "b"]) [turnD A u.lead, turnD A v.lead]), .dat (treeD t), .dat (.lst (t.code.map insD)), .dat (.lst (c.map insD)), x8, .dat (.lst (t.code.map insD)), .dat (.lst (c.map insD))]) ⟨_, rfl⟩ ?_ ?_
        · rintro i d ρ k hd ⟨x8, rfl⟩ hk
          obtain ⟨il, rfl⟩ : i + 1 < c.length ∧ d = .int (1 + (i : Nat)) := by
            rw [List.getElem?_map] at hd
            cases e : (List.range (((c.map insD).length : Int) - 1).toNat)[i]? with
            | none => rw [e] at hd; cases hd
            | some j =>
              rw [e] at hd
              have hd := (Option.some.inj hd).symm
              obtain ⟨li, ei⟩ := List.getElem?_eq_some_iff.mp e
              rw [List.getElem_range] at ei
              subst ei
              rw [List.length_range, List.length_map] at li
              exact ⟨by omega, hd⟩
          have a1 : atI (c.map insD) (1 + (i : Nat)) = some (insD c[i + 1]) := by
            have := atI_nat (xs := c.map insD) (j := i + 1) (v := insD c[i + 1]) (by rw [List.getElem?_map, List.getElem?_eq_getElem il]; rfl)
            rwa [show ((i + 1 : Nat) : Int) = 1 + (i : Nat) by omega] at this
          have a0 : atI (c.map insD) (1 + (i : Nat) - 1) = some (insD c[i]) := by
            have := atI_nat (xs := c.map insD) (j := i) (v := insD c[i]) (by rw [List.getElem?_map, List.getElem?_eq_getElem (by omega)]; rfl)
            rwa [show ((i : Nat) : Int) = 1 + (i : Nat) - 1 by omega] at this
          have pr : c[i + 1] = .inv → c[i] ≠ .inv ∧ ∀ u, c[i] ≠ .push u := fun e => by
            refine irr_pair c.reverse hi (c.length - 1 - (i + 1)) ?_ _ ?_
            · rw [List.getElem?_reverse (by omega), show c.length - 1 - (c.length - 1 - (i + 1)) = i + 1 by omega, List.getElem?_eq_getElem il, e]
            · rw [List.getElem?_reverse (by omega), show c.length - 1 - (c.length - 1 - (i + 1) + 1) = i by omega, List.getElem?_eq_getElem (by omega)]
          have hk : ∀ x8, k [scD ns, .own f.w, x2, .dat (.dic (strKs ["a", "b"]) [rowD u, rowD v]), .dat (.dic (strKs ["a", "b"]) [turnD A u.lead, turnD A v.lead]), .dat (treeD t), .dat (.lst (t.code.map insD)), .dat (.lst (c.map insD)), x8, .dat (.lst (t.code.map insD)), .dat (.lst (c.map insD))] := fun x8 => hk _ ⟨x8, rfl⟩
          clear hd
          generalize c[i + 1] = p at *
          generalize c[i] = q at *
          repeat infer_instance
          refine fIx_l a1 ?_
          cases p with
          | load _ =>
            repeat infer_instance
            exact hk _
          | push _ =>
            repeat infer_instance
            exact hk _
          | mul =>
            repeat infer_instance
            exact hk _
          | inv =>
            obtain ⟨p1, p2⟩ := pr rfl
            repeat infer_instance
            refine fIx_l a0 ?_
            cases q with
            | inv => exact absurd rfl p1
            | push u => exact absurd rfl (p2 u)
            | load _ =>
              repeat infer_instance
              refine fIn_ip (b := false) (by decide +kernel) ?_
              repeat infer_instance
              exact hk _
            | mul =>
              repeat infer_instance
              refine fIn_ip (b := false) (by decide +kernel) ?_
              repeat infer_instance
              exact hk _
        · rintro ρ ⟨x8, rfl⟩
          exact hn _ _ _ _ _ _ _ _ _
  · rw [List.length_map]
    omega
local macro_rules | `(tactic| infer_instance) => `(tactic| first | with_reducible refine law_rest ?_ ?_)
theorem law_true {ns : List Int} (hl : ns.length ≤ 63) (h : ∀ o, R (.dat (.bl true)) o) : spF (tr_law A (rec_L_same A 8) (rec_L_tree A 4) (rec_L_tree_code A 8) (rec_L_tree_four A 8)) [.scr ns] R EX := by
  unfold spF tr_law
  refine ⟨rfl, ?_⟩
  simp only [List.map_cons, List.map_nil, rhoD_cons, rhoD_nil, rhoD_z]
  repeat infer_instance
  refine pr_feed fun f o ok => ?_
  repeat infer_instance
  refine for_i (fun i ρ => ∃ f x2 x3 x4 x5 x6 x7 x8 x9 x10, Feed.ok f ∧ ρ = [scD ns, .own f.w, x2, x3, x4, x5, x6, x7, x8, x9, x10]) ⟨f, _, _, _, _, _, _, _, _, _, ok, rfl⟩ ?_ ?_
  · rintro i d ρ k hd ⟨f, x2, x3, x4, x5, x6, x7, x8, x9, x10, ok, rfl⟩ hk
    have fin : ∀ f x2 x3 x4 x5 x6 x7 x8 x9 x10, Feed.ok f → k [scD ns, .own f.w, x2, x3, x4, x5, x6, x7, x8, x9, x10] := fun f x2 x3 x4 x5 x6 x7 x8 x9 x10 o => hk _ ⟨f, x2, x3, x4, x5, x6, x7, x8, x9, x10, o, rfl⟩
    clear hk
    repeat infer_instance
    refine pr_halves (fun u f1 pu nu iu ok1 => ?_) ok (by decide) (by decide)
    clear ok
    have hx : PTree.Fit 4 u := (iu.fit (n := 3) pu nu (by decide)).mono (by decide)
    repeat infer_instance
    refine pr_halves (fun v f2 pv nv iv ok2 => ?_) ok1 (by decide) (by decide)
    clear ok1
    have hy : PTree.Fit 4 v := (iv.fit (n := 3) pv nv (by decide)).mono (by decide)
    repeat infer_instance
    refine kDg_o rfl two_ab.a ?_
    repeat infer_instance
    refine pr_Lturn2 hx.par hx.ne hx.bd (by decide) fun o => ?_
    repeat infer_instance
    refine kDg_o rfl two_ab.b ?_
    repeat infer_instance
    refine pr_Lturn2 hy.par hy.ne hy.bd (by decide) fun o => ?_
    repeat infer_instance
    refine pr_Ltree 4 3 _ _ _ (by decide) (by decide) (fun t f3 ht ot ok3 => ?_) ok2
    clear ok2
    have ht : t.ht ≤ 3 := ht
    have cl : t.code.length ≤ 15 := by
      have a := t.code_len
      have : 2 ^ (t.ht + 1) ≤ 2 ^ 4 := Nat.pow_le_pow_right (by decide) (by omega)
      omega
    have wl : wC t.code ≤ 40 := by
      have a := w_code t ot
      have : 2 ^ t.ht ≤ 2 ^ 3 := Nat.pow_le_pow_right (by decide) (by omega)
      omega
    repeat infer_instance
    refine pr_take (fun r f4 r0 r1 ok4 => ?_) ok3 (by decide) (by decide)
    clear ok3
    repeat infer_instance
    refine if_d (fun _ => ?_) (fun _ => ?_)
    · repeat infer_instance
      refine pr_halves (fun a f5 pa na ia ok5 => ?_) ok4 (by decide) (by decide)
      clear ok4
      have fa := ia.fit (n := 3) pa na (by decide)
      repeat infer_instance
      refine pr_halves (fun b f6 pb nb ib ok6 => ?_) ok5 (by decide) (by decide)
      clear ok5
      have fb := ib.fit (n := 3) pb nb (by decide)
      repeat infer_instance
      · refine ⟨hx, hy, .back (.back (.times t (.times (.four a) (.four b)))), rfl, ⟨ot, ⟨pa, na, fa.bd⟩, pb, nb, fb.bd⟩, ?_, ?_, ?_⟩
        · show max t.ht (max 0 0 + 1) + 1 + 1 + 1 < 8
          omega
        · have wa := (fit_kn fa).2
          have wb := (fit_kn fb).2
          show wC (t.code ++ ([.push a] ++ [.push b] ++ [.mul]) ++ [.mul] ++ [.inv] ++ [.inv]) ≤ 99
          simp only [wC_app, wC_cons, show wC [] = 0 from rfl, wt]
          omega
        · show (t.code ++ ([Ins.push a] ++ [Ins.push b] ++ [Ins.mul]) ++ [Ins.mul] ++ [Ins.inv] ++ [Ins.inv]).length ≤ 100
          simp only [List.length_append, List.length_cons, List.length_nil]
          omega
      · exact fun _ _ _ _ _ _ _ _ _ => fin _ _ _ _ _ _ _ _ _ _ ok6
    · repeat infer_instance
      · exact ⟨hx, hy, t, rfl, ot, by omega, by omega, by omega⟩
      · exact fun _ _ _ _ _ _ _ _ _ => fin _ _ _ _ _ _ _ _ _ _ ok4
  · rintro ρ ⟨f, x2, x3, x4, x5, x6, x7, x8, x9, x10, ok, rfl⟩
    have hx : PTree.Fit 4 ⟨2, 0, 0, 0⟩ := ⟨by unfold Q4.Par; decide, by decide, by unfold Q4.Bd; decide⟩
    repeat infer_instance
    refine pr_shortened (c := []) hx hx (fun _ m => by cases m) (by decide) (by decide) rfl fun o => ?_
    repeat infer_instance
    refine fEq_insL (l := []) ?_
    repeat infer_instance
    refine pr_shortened (c := [Ins.load true]) hx hx (fun i m => by rw [List.mem_singleton.mp m]; trivial) (by decide) (by decide) rfl fun o => ?_
    repeat infer_instance
    refine fEq_insL (l := [Ins.load true]) ?_
    repeat infer_instance
    exact h _
end
end D
end
set_option Elab.async false
set_option linter.all false
set_option maxRecDepth 100000
set_option maxHeartbeats 2000000
namespace D
open PySem PySem.Spec PyProof.Rows L2 StX RZ
theorem all_mk {l : PySem.W.OpenLaw} {w : World} {K : PySem.W.Frag} {h : Heap} {mg : Str → Option Value} {fa C_Four C_Turn : Addr} (X : K.In h) (G : h.Ns mainGlobals mg) (hfa : mg "law" = some (.ref fa)) (t_Four : TopCls K "Four" C_Four) (t_Turn : TopCls K "Turn" C_Turn) (t_law : TopLaw K "law" s_law) (t_Turn_four : TopProp K C_Turn "four" "Turn.four" s_Turn_four) (t_Four_halves : TopProp K C_Four "halves" "Four.halves" s_Four_halves) (t_is_number : TopFn K "is_number" s_is_number) (t_are_halves : TopFn K "are_halves" s_are_halves) (t_Four_init : TopMeth K C_Four "__init__" "Four.__init__" s_Four_init) (t_Four_neg : TopMeth K C_Four "__neg__" "Four.__neg__" s_Four_neg) (t_common : TopFn K "common" s_common) (t_Four_content : TopMeth K C_Four "content" "Four.content" s_Four_content) (t_Four_divided : TopMeth K C_Four "divided" "Four.divided" s_Four_divided) (t_lead_of : TopFn K "lead_of" s_lead_of) (t_Four_bool : TopMeth K C_Four "__bool__" "Four.__bool__" s_Four_bool) (t_Turn_init : TopMeth K C_Turn "__init__" "Turn.__init__" s_Turn_init) (t_turn_with : TopFn K "turn_with" s_turn_with) (t_named_turn : TopFn K "named_turn" s_named_turn) (t_last_of : TopFn K "last_of" s_last_of) (t_Four_mirrored : TopMeth K C_Four "mirrored" "Four.mirrored" s_Four_mirrored) (t_Turn_neg : TopMeth K C_Turn "__neg__" "Turn.__neg__" s_Turn_neg) (t_Four_mul : TopMeth K C_Four "__mul__" "Four.__mul__" s_Four_mul) (t_Turn_mul : TopMeth K C_Turn "__mul__" "Turn.__mul__" s_Turn_mul) (t_run : TopFn K "run" s_run) (t_folding : TopFn K "folding" s_folding) (t_foldable : TopFn K "foldable" s_foldable) (t_shortened : TopFn K "shortened" s_shortened) (t_Four_eq : TopMeth K C_Four "__eq__" "Four.__eq__" s_Four_eq) (t_Turn_eq : TopMeth K C_Turn "__eq__" "Turn.__eq__" s_Turn_eq) (t_L_gcd : TopFn K "_law_gcd" s_L_gcd) (t_L_gcd_of : TopFn K "_law_gcd_of" s_L_gcd_of) (t_L_content : TopFn K "_law_content" s_L_content) (t_L_lowest : TopFn K "_law_lowest" s_L_lowest) (t_L_times : TopFn K "_law_times" s_L_times) (t_L_back : TopFn K "_law_back" s_L_back) (t_L_tree_four : TopFn K "_law_tree_four" s_L_tree_four) (t_L_same : TopFn K "_law_same" s_L_same) (t_L_fold : TopFn K "_law_fold" s_L_fold) (t_L_tree_code : TopFn K "_law_tree_code" s_L_tree_code) (t_L_take : TopFn K "_law_take" s_L_take) (t_L_halves : TopFn K "_law_halves" s_L_halves) (t_L_pick : TopFn K "_law_pick" s_L_pick) (t_L_tree : TopFn K "_law_tree" s_L_tree) (t_L_four : TopFn K "_law_four" s_L_four) (t_L_turn : TopFn K "_law_turn" s_L_turn) (t_L_feed : TopFn K "_law_feed" s_L_feed) (y_Four : PySem.W.findIn K (.ref C_Four) "__ne__" = some (some (.builtin "object.__ne__"))) (n_doubled : PySem.W.findIn K (.ref C_Four) "doubled" = some none) (y_Turn : PySem.W.findIn K (.ref C_Turn) "__ne__" = some (some (.builtin "object.__ne__"))) (n_lead : PySem.W.findIn K (.ref C_Turn) "lead" = some none) (ha_Four : PySem.W.findIn K (.ref C_Four) "__class__" = some (some (.builtin "object.__class__"))) (ha_Turn : PySem.W.findIn K (.ref C_Turn) "__class__" = some (some (.builtin "object.__class__"))) (x_hn : PySem.W.specialIn K (.builtin "object.__class__") "__get__" = some (some (.builtin "getset_descriptor.__get__"))) (x_ht : PySem.W.takesIn K (.builtin "object.__class__") = some true) (z_abs : PySem.W.nsIn K mainGlobals "abs" = some none) (z_all : PySem.W.nsIn K mainGlobals "all" = some none) (z_any : PySem.W.nsIn K mainGlobals "any" = some none) (z_bool : PySem.W.nsIn K mainGlobals "bool" = some none) (z_int : PySem.W.nsIn K mainGlobals "int" = some none) (z_isinstance : PySem.W.nsIn K mainGlobals "isinstance" = some none) (z_len : PySem.W.nsIn K mainGlobals "len" = some none) (z_list : PySem.W.nsIn K mainGlobals "list" = some none) (z_range : PySem.W.nsIn K mainGlobals "range" = some none) (z_str : PySem.W.nsIn K mainGlobals "str" = some none) (z_sum : PySem.W.nsIn K mainGlobals "sum" = some none) (z_tuple : PySem.W.nsIn K mainGlobals "tuple" = some none) (z_zip : PySem.W.nsIn K mainGlobals "zip" = some none) :
    ∃ fd : FuncData, (∀ (s : Shared) (v : Value), BindsTo s fd ⟨[v], []⟩ [("_law_script", v)]) ∧ ∀ base : Heap, K.In base → base.Ns mainGlobals mg → FnOk l.prog w K mg base (L2.CX l.prog w) 13 fa fd ["_law_script"] (spLawD K) := by
  have nn := fun {x : Str} (z : PySem.W.nsIn K mainGlobals x = some none) => PySem.W.mg_none_of X G z
  obtain ⟨q_Turn_four, f_Turn_four, e_Turn_four, fd_Turn_four, F_Turn_four⟩ := t_Turn_four
  have b_Turn_four := F_Turn_four.binds (ps := ["self"]) fun _ _ _ _ _ _ us hl => match us, hl with | [_], _ => rfl
  obtain ⟨q_Four_halves, f_Four_halves, e_Four_halves, fd_Four_halves, F_Four_halves⟩ := t_Four_halves
  have b_Four_halves := F_Four_halves.binds (ps := ["self"]) fun _ _ _ _ _ _ us hl => match us, hl with | [_], _ => rfl
  obtain ⟨f_is_number, fd_is_number, F_is_number, g_is_number⟩ := t_is_number.get X G
  have b_is_number := F_is_number.binds (ps := ["value"]) fun _ _ _ _ _ _ us hl => match us, hl with | [_], _ => rfl
  obtain ⟨f_are_halves, fd_are_halves, F_are_halves, g_are_halves⟩ := t_are_halves.get X G
  have b_are_halves := F_are_halves.binds (ps := ["values"]) fun _ _ _ _ _ _ us hl => match us, hl with | [_], _ => rfl
  obtain ⟨f_Four_init, e_Four_init, fd_Four_init, F_Four_init⟩ := t_Four_init
  obtain ⟨f_Four_neg, e_Four_neg, fd_Four_neg, F_Four_neg⟩ := t_Four_neg
  have b_Four_neg := F_Four_neg.binds (ps := ["self"]) fun _ _ _ _ _ _ us hl => match us, hl with | [_], _ => rfl
  obtain ⟨f_common, fd_common, F_common, g_common⟩ := t_common.get X G
  have b_common := F_common.binds (ps := ["one", "other"]) fun _ _ _ _ _ _ us hl => match us, hl with | [_, _], _ => rfl
  obtain ⟨f_Four_content, e_Four_content, fd_Four_content, F_Four_content⟩ := t_Four_content
  have b_Four_content := F_Four_content.binds (ps := ["self"]) fun _ _ _ _ _ _ us hl => match us, hl with | [_], _ => rfl
  obtain ⟨f_Four_divided, e_Four_divided, fd_Four_divided, F_Four_divided⟩ := t_Four_divided
  have b_Four_divided := F_Four_divided.binds (ps := ["self", "number"]) fun _ _ _ _ _ _ us hl => match us, hl with | [_, _], _ => rfl
  obtain ⟨f_lead_of, fd_lead_of, F_lead_of, g_lead_of⟩ := t_lead_of.get X G
  have b_lead_of := F_lead_of.binds (ps := ["four"]) fun _ _ _ _ _ _ us hl => match us, hl with | [_], _ => rfl
  obtain ⟨f_Four_bool, e_Four_bool, fd_Four_bool, F_Four_bool⟩ := t_Four_bool
  have b_Four_bool := F_Four_bool.binds (ps := ["self"]) fun _ _ _ _ _ _ us hl => match us, hl with | [_], _ => rfl
  obtain ⟨f_Turn_init, e_Turn_init, fd_Turn_init, F_Turn_init⟩ := t_Turn_init
  have b_Turn_init := F_Turn_init.binds (ps := ["self", "four"]) fun _ _ _ _ _ _ us hl => match us, hl with | [_, _], _ => rfl
  obtain ⟨f_turn_with, fd_turn_with, F_turn_with, g_turn_with⟩ := t_turn_with.get X G
  have b_turn_with := F_turn_with.binds (ps := ["halves"]) fun _ _ _ _ _ _ us hl => match us, hl with | [_], _ => rfl
  obtain ⟨f_named_turn, fd_named_turn, F_named_turn, g_named_turn⟩ := t_named_turn.get X G
  have b_named_turn := F_named_turn.binds (ps := ["name", "turns"]) fun _ _ _ _ _ _ us hl => match us, hl with | [_, _], _ => rfl
  obtain ⟨f_last_of, fd_last_of, F_last_of, g_last_of⟩ := t_last_of.get X G
  have b_last_of := F_last_of.binds (ps := ["stack"]) fun _ _ _ _ _ _ us hl => match us, hl with | [_], _ => rfl
  obtain ⟨f_Four_mirrored, e_Four_mirrored, fd_Four_mirrored, F_Four_mirrored⟩ := t_Four_mirrored
  have b_Four_mirrored := F_Four_mirrored.binds (ps := ["self"]) fun _ _ _ _ _ _ us hl => match us, hl with | [_], _ => rfl
  obtain ⟨f_Turn_neg, e_Turn_neg, fd_Turn_neg, F_Turn_neg⟩ := t_Turn_neg
  have b_Turn_neg := F_Turn_neg.binds (ps := ["self"]) fun _ _ _ _ _ _ us hl => match us, hl with | [_], _ => rfl
  obtain ⟨f_Four_mul, e_Four_mul, fd_Four_mul, F_Four_mul⟩ := t_Four_mul
  have b_Four_mul := F_Four_mul.binds (ps := ["self", "other"]) fun _ _ _ _ _ _ us hl => match us, hl with | [_, _], _ => rfl
  obtain ⟨f_Turn_mul, e_Turn_mul, fd_Turn_mul, F_Turn_mul⟩ := t_Turn_mul
  have b_Turn_mul := F_Turn_mul.binds (ps := ["self", "other"]) fun _ _ _ _ _ _ us hl => match us, hl with | [_, _], _ => rfl
  obtain ⟨f_run, fd_run, F_run, g_run⟩ := t_run.get X G
  have b_run := F_run.binds (ps := ["code", "turns"]) fun _ _ _ _ _ _ us hl => match us, hl with | [_, _], _ => rfl
  obtain ⟨f_folding, fd_folding, F_folding, g_folding⟩ := t_folding.get X G
  have b_folding := F_folding.binds (ps := ["place"]) fun _ _ _ _ _ _ us hl => match us, hl with | [_], _ => rfl
  obtain ⟨f_foldable, fd_foldable, F_foldable, g_foldable⟩ := t_foldable.get X G
  have b_foldable := F_foldable.binds (ps := ["code"]) fun _ _ _ _ _ _ us hl => match us, hl with | [_], _ => rfl
  obtain ⟨f_shortened, fd_shortened, F_shortened, g_shortened⟩ := t_shortened.get X G
  have b_shortened := F_shortened.binds (ps := ["code"]) fun _ _ _ _ _ _ us hl => match us, hl with | [_], _ => rfl
  obtain ⟨f_Four_eq, e_Four_eq, fd_Four_eq, F_Four_eq⟩ := t_Four_eq
  have b_Four_eq := F_Four_eq.binds (ps := ["self", "other"]) fun _ _ _ _ _ _ us hl => match us, hl with | [_, _], _ => rfl
  obtain ⟨f_Turn_eq, e_Turn_eq, fd_Turn_eq, F_Turn_eq⟩ := t_Turn_eq
  have b_Turn_eq := F_Turn_eq.binds (ps := ["self", "other"]) fun _ _ _ _ _ _ us hl => match us, hl with | [_, _], _ => rfl
  obtain ⟨f_L_gcd, fd_L_gcd, F_L_gcd, g_L_gcd⟩ := t_L_gcd.get X G
  have b_L_gcd := F_L_gcd.binds (ps := ["_law_one", "_law_other"]) fun _ _ _ _ _ _ us hl => match us, hl with | [_, _], _ => rfl
  obtain ⟨f_L_gcd_of, fd_L_gcd_of, F_L_gcd_of, g_L_gcd_of⟩ := t_L_gcd_of.get X G
  have b_L_gcd_of := F_L_gcd_of.binds (ps := ["_law_row"]) fun _ _ _ _ _ _ us hl => match us, hl with | [_], _ => rfl
  obtain ⟨f_L_content, fd_L_content, F_L_content, g_L_content⟩ := t_L_content.get X G
  have b_L_content := F_L_content.binds (ps := ["_law_halves_here"]) fun _ _ _ _ _ _ us hl => match us, hl with | [_], _ => rfl
  obtain ⟨f_L_lowest, fd_L_lowest, F_L_lowest, g_L_lowest⟩ := t_L_lowest.get X G
  have b_L_lowest := F_L_lowest.binds (ps := ["_law_halves_here"]) fun _ _ _ _ _ _ us hl => match us, hl with | [_], _ => rfl
  obtain ⟨f_L_times, fd_L_times, F_L_times, g_L_times⟩ := t_L_times.get X G
  have b_L_times := F_L_times.binds (ps := ["_law_one", "_law_other"]) fun _ _ _ _ _ _ us hl => match us, hl with | [_, _], _ => rfl
  obtain ⟨f_L_back, fd_L_back, F_L_back, g_L_back⟩ := t_L_back.get X G
  have b_L_back := F_L_back.binds (ps := ["_law_halves_here"]) fun _ _ _ _ _ _ us hl => match us, hl with | [_], _ => rfl
  obtain ⟨f_L_tree_four, fd_L_tree_four, F_L_tree_four, g_L_tree_four⟩ := t_L_tree_four.get X G
  have b_L_tree_four := F_L_tree_four.binds (ps := ["_law_tree_here", "_law_fours"]) fun _ _ _ _ _ _ us hl => match us, hl with | [_, _], _ => rfl
  obtain ⟨f_L_same, fd_L_same, F_L_same, g_L_same⟩ := t_L_same.get X G
  have b_L_same := F_L_same.binds (ps := ["_law_found", "_law_due"]) fun _ _ _ _ _ _ us hl => match us, hl with | [_, _], _ => rfl
  obtain ⟨f_L_fold, fd_L_fold, F_L_fold, g_L_fold⟩ := t_L_fold.get X G
  have b_L_fold := F_L_fold.binds (ps := ["_law_code"]) fun _ _ _ _ _ _ us hl => match us, hl with | [_], _ => rfl
  obtain ⟨f_L_tree_code, fd_L_tree_code, F_L_tree_code, g_L_tree_code⟩ := t_L_tree_code.get X G
  have b_L_tree_code := F_L_tree_code.binds (ps := ["_law_tree_here"]) fun _ _ _ _ _ _ us hl => match us, hl with | [_], _ => rfl
  obtain ⟨f_L_take, fd_L_take, F_L_take, g_L_take⟩ := t_L_take.get X G
  have b_L_take := F_L_take.binds (ps := ["_law_feed_here", "_law_many"]) fun _ _ _ _ _ _ us hl => match us, hl with | [_, _], _ => rfl
  obtain ⟨f_L_halves, fd_L_halves, F_L_halves, g_L_halves⟩ := t_L_halves.get X G
  have b_L_halves := F_L_halves.binds (ps := ["_law_feed_here", "_law_most"]) fun _ _ _ _ _ _ us hl => match us, hl with | [_, _], _ => rfl
  obtain ⟨f_L_pick, fd_L_pick, F_L_pick, g_L_pick⟩ := t_L_pick.get X G
  have b_L_pick := F_L_pick.binds (ps := ["_law_feed_here", "_law_things"]) fun _ _ _ _ _ _ us hl => match us, hl with | [_, _], _ => rfl
  obtain ⟨f_L_tree, fd_L_tree, F_L_tree, g_L_tree⟩ := t_L_tree.get X G
  have b_L_tree := F_L_tree.binds (ps := ["_law_feed_here", "_law_names", "_law_level"]) fun _ _ _ _ _ _ us hl => match us, hl with | [_, _, _], _ => rfl
  obtain ⟨f_L_four, fd_L_four, F_L_four, g_L_four⟩ := t_L_four.get X G
  have b_L_four := F_L_four.binds (ps := ["_law_halves_here"]) fun _ _ _ _ _ _ us hl => match us, hl with | [_], _ => rfl
  obtain ⟨f_L_turn, fd_L_turn, F_L_turn, g_L_turn⟩ := t_L_turn.get X G
  have b_L_turn := F_L_turn.binds (ps := ["_law_halves_here"]) fun _ _ _ _ _ _ us hl => match us, hl with | [_], _ => rfl
  obtain ⟨f_L_feed, fd_L_feed, F_L_feed, g_L_feed⟩ := t_L_feed.get X G
  have b_L_feed := F_L_feed.binds (ps := ["_law_script"]) fun _ _ _ _ _ _ us hl => match us, hl with | [_], _ => rfl
  obtain ⟨f8, oc, kV, dc, pm, cd, ct, od, an, sl, a8, l8, c8, k8⟩ := t_law
  have e := hfa.symm.trans (PySem.W.mg_of X G a8)
  cases e
  refine ⟨PySem.W.fnOf "law" "law" (defArgs s_law) (defBody s_law) (defScope s_law) .none kV dc pm an cd ct, fun s v => .of_eq rfl, fun base _ _ => ?_⟩
  have E : Env l.prog w K mg base (⟨C_Four, C_Turn⟩ : Cs) := ⟨nn z_abs, nn z_all, nn z_any, nn z_bool, nn z_int, nn z_isinstance, nn z_len, nn z_list, nn z_range, nn z_str, nn z_sum, nn z_tuple, nn z_zip, t_Four.facts X G, y_Four, n_doubled, t_Turn.facts X G, y_Turn, n_lead, ⟨t_Four.2.1, ha_Four, x_hn, x_ht, t_Four.2.2.2.1, kit_self⟩, ⟨t_Turn.2.1, ha_Turn, x_hn, x_ht, t_Turn.2.2.2.1, kit_self⟩⟩
  have D_Turn_four : PropA l.prog w K mg base C_Turn "four" 1 (tr_Turn_four (⟨C_Four, C_Turn⟩ : Cs)) := ⟨_, _, _, (fn_Turn_four E F_Turn_four ), e_Turn_four, b_Turn_four⟩
  have D_Four_halves : PropA l.prog w K mg base C_Four "halves" 1 (tr_Four_halves (⟨C_Four, C_Turn⟩ : Cs)) := ⟨_, _, _, (fn_Four_halves E F_Four_halves ), e_Four_halves, b_Four_halves⟩
  have D_is_number : DefA l.prog w K mg base "is_number" 1 (tr_is_number (⟨C_Four, C_Turn⟩ : Cs)) := ⟨_, FnD.of (fn_is_number E F_is_number ) b_is_number (fun _ _ _ h => h.1), g_is_number, F_is_number.kp⟩
  have D_are_halves : DefA l.prog w K mg base "are_halves" 2 (tr_are_halves (⟨C_Four, C_Turn⟩ : Cs)) := ⟨_, FnD.of (fn_are_halves E F_are_halves D_is_number) b_are_halves (fun _ _ _ h => h.1), g_are_halves, F_are_halves.kp⟩
  have D_Four_init : InitA l.prog w K mg base C_Four 3 (star1 (tr_Four_init (⟨C_Four, C_Turn⟩ : Cs))) := ⟨_, (fn_Four_init E F_Four_init D_are_halves), ⟨t_Four.2.2.2.2.1, e_Four_init.at_, e_Four_init.fn, t_Four.2.2.2.2.2⟩⟩
  have D_Four_neg : MethA l.prog w K mg base C_Four "__neg__" 5 (tr_Four_neg (⟨C_Four, C_Turn⟩ : Cs)) := ⟨_, FnD.of (fn_Four_neg E F_Four_neg D_Four_init) b_Four_neg (fun _ _ _ h => h.1), e_Four_neg⟩
  have D_common : DefA l.prog w K mg base "common" 1 (tr_common (⟨C_Four, C_Turn⟩ : Cs)) := ⟨_, FnD.of (fn_common E F_common ) b_common (fun _ _ _ h => h.1), g_common, F_common.kp⟩
  have D_Four_content : MethA l.prog w K mg base C_Four "content" 3 (tr_Four_content (⟨C_Four, C_Turn⟩ : Cs)) := ⟨_, FnD.of (fn_Four_content E F_Four_content D_are_halves D_common) b_Four_content (fun _ _ _ h => h.1), e_Four_content⟩
  have D_Four_divided : MethA l.prog w K mg base C_Four "divided" 5 (tr_Four_divided (⟨C_Four, C_Turn⟩ : Cs)) := ⟨_, FnD.of (fn_Four_divided E F_Four_divided D_Four_init D_Four_content D_is_number) b_Four_divided (fun _ _ _ h => h.1), e_Four_divided⟩
  have D_lead_of : DefA l.prog w K mg base "lead_of" 6 (tr_lead_of (⟨C_Four, C_Turn⟩ : Cs)) := ⟨_, FnD.of (fn_lead_of E F_lead_of D_Four_halves D_Four_neg D_Four_divided D_Four_content) b_lead_of (fun _ _ _ h => h.1), g_lead_of, F_lead_of.kp⟩
  have D_Four_bool : MethA l.prog w K mg base C_Four "__bool__" 1 (tr_Four_bool (⟨C_Four, C_Turn⟩ : Cs)) := ⟨_, FnD.of (fn_Four_bool E F_Four_bool ) b_Four_bool (fun _ _ _ h => h.1), e_Four_bool⟩
  have D_Turn_init : InitA l.prog w K mg base C_Turn 7 (tr_Turn_init (⟨C_Four, C_Turn⟩ : Cs)) := ⟨_, FnD.of (fn_Turn_init E F_Turn_init D_lead_of D_Four_bool) b_Turn_init (fun _ _ _ h => h.1), ⟨t_Turn.2.2.2.2.1, e_Turn_init.at_, e_Turn_init.fn, t_Turn.2.2.2.2.2⟩⟩
  have D_turn_with : DefA l.prog w K mg base "turn_with" 9 (tr_turn_with (⟨C_Four, C_Turn⟩ : Cs)) := ⟨_, FnD.of (fn_turn_with E F_turn_with D_Turn_init D_Four_init) b_turn_with (fun _ _ _ h => h.1), g_turn_with, F_turn_with.kp⟩
  have D_named_turn : DefA l.prog w K mg base "named_turn" 1 (tr_named_turn (⟨C_Four, C_Turn⟩ : Cs)) := ⟨_, FnD.of (fn_named_turn E F_named_turn ) b_named_turn (fun _ _ _ h => h.1), g_named_turn, F_named_turn.kp⟩
  have D_last_of : DefA l.prog w K mg base "last_of" 1 (tr_last_of (⟨C_Four, C_Turn⟩ : Cs)) := ⟨_, FnD.of (fn_last_of E F_last_of ) b_last_of (fun _ _ _ h => h.1), g_last_of, F_last_of.kp⟩
  have D_Four_mirrored : MethA l.prog w K mg base C_Four "mirrored" 5 (tr_Four_mirrored (⟨C_Four, C_Turn⟩ : Cs)) := ⟨_, FnD.of (fn_Four_mirrored E F_Four_mirrored D_Four_init) b_Four_mirrored (fun _ _ _ h => h.1), e_Four_mirrored⟩
  have D_Turn_neg : MethA l.prog w K mg base C_Turn "__neg__" 9 (tr_Turn_neg (⟨C_Four, C_Turn⟩ : Cs)) := ⟨_, FnD.of (fn_Turn_neg E F_Turn_neg D_Turn_init D_Four_mirrored) b_Turn_neg (fun _ _ _ h => h.1), e_Turn_neg⟩
  have D_Four_mul : MethA l.prog w K mg base C_Four "__mul__" 5 (tr_Four_mul (⟨C_Four, C_Turn⟩ : Cs)) := ⟨_, FnD.of (fn_Four_mul E F_Four_mul D_Four_init) b_Four_mul (fun _ _ _ h => h.1), e_Four_mul⟩
  have D_Turn_mul : MethA l.prog w K mg base C_Turn "__mul__" 9 (tr_Turn_mul (⟨C_Four, C_Turn⟩ : Cs)) := ⟨_, FnD.of (fn_Turn_mul E F_Turn_mul D_Turn_init D_Four_mul) b_Turn_mul (fun _ _ _ h => h.1), e_Turn_mul⟩
  have D_run : DefA l.prog w K mg base "run" 10 (tr_run (⟨C_Four, C_Turn⟩ : Cs)) := ⟨_, FnD.of (fn_run E F_run D_turn_with D_named_turn D_last_of D_Turn_neg D_Turn_mul) b_run (fun _ _ _ h => h.1), g_run, F_run.kp⟩
  have D_folding : DefA l.prog w K mg base "folding" 11 (tr_folding (⟨C_Four, C_Turn⟩ : Cs)) := ⟨_, FnD.of (fn_folding E F_folding D_Turn_four D_Four_halves D_run) b_folding (fun _ _ _ h => h.1), g_folding, F_folding.kp⟩
  have D_foldable : DefA l.prog w K mg base "foldable" 1 (tr_foldable (⟨C_Four, C_Turn⟩ : Cs)) := ⟨_, FnD.of (fn_foldable E F_foldable ) b_foldable (fun _ _ _ h => h.1), g_foldable, F_foldable.kp⟩
  have D_shortened : DefA l.prog w K mg base "shortened" 12 (tr_shortened (⟨C_Four, C_Turn⟩ : Cs)) := ⟨_, FnD.of (fn_shortened E F_shortened D_folding D_foldable) b_shortened (fun _ _ _ h => h.1), g_shortened, F_shortened.kp⟩
  have D_Four_eq : MethA l.prog w K mg base C_Four "__eq__" 1 (tr_Four_eq (⟨C_Four, C_Turn⟩ : Cs)) := ⟨_, FnD.of (fn_Four_eq E F_Four_eq ) b_Four_eq (fun _ _ _ h => h.1), e_Four_eq⟩
  have D_Turn_eq : MethA l.prog w K mg base C_Turn "__eq__" 2 (tr_Turn_eq (⟨C_Four, C_Turn⟩ : Cs)) := ⟨_, FnD.of (fn_Turn_eq E F_Turn_eq D_Four_eq) b_Turn_eq (fun _ _ _ h => h.1), e_Turn_eq⟩
  have D_L_gcd : DefA l.prog w K mg base "_law_gcd" 1 (tr_L_gcd (⟨C_Four, C_Turn⟩ : Cs)) := ⟨_, FnD.of (fn_L_gcd E F_L_gcd ) b_L_gcd (fun _ _ _ h => h.1), g_L_gcd, F_L_gcd.kp⟩
  have D_L_gcd_of : DefA l.prog w K mg base "_law_gcd_of" 2 (tr_L_gcd_of (⟨C_Four, C_Turn⟩ : Cs)) := ⟨_, FnD.of (fn_L_gcd_of E F_L_gcd_of D_L_gcd) b_L_gcd_of (fun _ _ _ h => h.1), g_L_gcd_of, F_L_gcd_of.kp⟩
  have D_L_content : DefA l.prog w K mg base "_law_content" 3 (tr_L_content (⟨C_Four, C_Turn⟩ : Cs)) := ⟨_, FnD.of (fn_L_content E F_L_content D_L_gcd_of) b_L_content (fun _ _ _ h => h.1), g_L_content, F_L_content.kp⟩
  have D_L_lowest : DefA l.prog w K mg base "_law_lowest" 4 (tr_L_lowest (⟨C_Four, C_Turn⟩ : Cs)) := ⟨_, FnD.of (fn_L_lowest E F_L_lowest D_L_content) b_L_lowest (fun _ _ _ h => h.1), g_L_lowest, F_L_lowest.kp⟩
  have D_L_times : DefA l.prog w K mg base "_law_times" 1 (tr_L_times (⟨C_Four, C_Turn⟩ : Cs)) := ⟨_, FnD.of (fn_L_times E F_L_times ) b_L_times (fun _ _ _ h => h.1), g_L_times, F_L_times.kp⟩
  have D_L_back : DefA l.prog w K mg base "_law_back" 1 (tr_L_back (⟨C_Four, C_Turn⟩ : Cs)) := ⟨_, FnD.of (fn_L_back E F_L_back ) b_L_back (fun _ _ _ h => h.1), g_L_back, F_L_back.kp⟩
  have S0_L_tree_four : DefA l.prog w K mg base "_law_tree_four" 4 no_sp := ⟨_, FnD.no, g_L_tree_four, F_L_tree_four.kp⟩
  have S1_L_tree_four : DefA l.prog w K mg base "_law_tree_four" 5 (rec_L_tree_four (⟨C_Four, C_Turn⟩ : Cs) 1) := ⟨_, FnD.of (fn_L_tree_four E F_L_tree_four (by decide) D_L_lowest D_L_times S0_L_tree_four D_L_back) b_L_tree_four (fun _ _ _ h => h.1), g_L_tree_four, F_L_tree_four.kp⟩
  have S2_L_tree_four : DefA l.prog w K mg base "_law_tree_four" 6 (rec_L_tree_four (⟨C_Four, C_Turn⟩ : Cs) 2) := ⟨_, FnD.of (fn_L_tree_four E F_L_tree_four (by decide) D_L_lowest D_L_times S1_L_tree_four D_L_back) b_L_tree_four (fun _ _ _ h => h.1), g_L_tree_four, F_L_tree_four.kp⟩
  have S3_L_tree_four : DefA l.prog w K mg base "_law_tree_four" 7 (rec_L_tree_four (⟨C_Four, C_Turn⟩ : Cs) 3) := ⟨_, FnD.of (fn_L_tree_four E F_L_tree_four (by decide) D_L_lowest D_L_times S2_L_tree_four D_L_back) b_L_tree_four (fun _ _ _ h => h.1), g_L_tree_four, F_L_tree_four.kp⟩
  have S4_L_tree_four : DefA l.prog w K mg base "_law_tree_four" 8 (rec_L_tree_four (⟨C_Four, C_Turn⟩ : Cs) 4) := ⟨_, FnD.of (fn_L_tree_four E F_L_tree_four (by decide) D_L_lowest D_L_times S3_L_tree_four D_L_back) b_L_tree_four (fun _ _ _ h => h.1), g_L_tree_four, F_L_tree_four.kp⟩
  have S5_L_tree_four : DefA l.prog w K mg base "_law_tree_four" 9 (rec_L_tree_four (⟨C_Four, C_Turn⟩ : Cs) 5) := ⟨_, FnD.of (fn_L_tree_four E F_L_tree_four (by decide) D_L_lowest D_L_times S4_L_tree_four D_L_back) b_L_tree_four (fun _ _ _ h => h.1), g_L_tree_four, F_L_tree_four.kp⟩
  have S6_L_tree_four : DefA l.prog w K mg base "_law_tree_four" 10 (rec_L_tree_four (⟨C_Four, C_Turn⟩ : Cs) 6) := ⟨_, FnD.of (fn_L_tree_four E F_L_tree_four (by decide) D_L_lowest D_L_times S5_L_tree_four D_L_back) b_L_tree_four (fun _ _ _ h => h.1), g_L_tree_four, F_L_tree_four.kp⟩
  have S7_L_tree_four : DefA l.prog w K mg base "_law_tree_four" 11 (rec_L_tree_four (⟨C_Four, C_Turn⟩ : Cs) 7) := ⟨_, FnD.of (fn_L_tree_four E F_L_tree_four (by decide) D_L_lowest D_L_times S6_L_tree_four D_L_back) b_L_tree_four (fun _ _ _ h => h.1), g_L_tree_four, F_L_tree_four.kp⟩
  have S8_L_tree_four : DefA l.prog w K mg base "_law_tree_four" 12 (rec_L_tree_four (⟨C_Four, C_Turn⟩ : Cs) 8) := ⟨_, FnD.of (fn_L_tree_four E F_L_tree_four (by decide) D_L_lowest D_L_times S7_L_tree_four D_L_back) b_L_tree_four (fun _ _ _ h => h.1), g_L_tree_four, F_L_tree_four.kp⟩
  have D_L_tree_four := S8_L_tree_four
  have S0_L_same : DefA l.prog w K mg base "_law_same" 0 no_sp := ⟨_, FnD.no, g_L_same, F_L_same.kp⟩
  have S1_L_same : DefA l.prog w K mg base "_law_same" 1 (rec_L_same (⟨C_Four, C_Turn⟩ : Cs) 1) := ⟨_, FnD.of (fn_L_same E F_L_same (by decide) S0_L_same) b_L_same (fun _ _ _ h => h.1), g_L_same, F_L_same.kp⟩
  have S2_L_same : DefA l.prog w K mg base "_law_same" 2 (rec_L_same (⟨C_Four, C_Turn⟩ : Cs) 2) := ⟨_, FnD.of (fn_L_same E F_L_same (by decide) S1_L_same) b_L_same (fun _ _ _ h => h.1), g_L_same, F_L_same.kp⟩
  have S3_L_same : DefA l.prog w K mg base "_law_same" 3 (rec_L_same (⟨C_Four, C_Turn⟩ : Cs) 3) := ⟨_, FnD.of (fn_L_same E F_L_same (by decide) S2_L_same) b_L_same (fun _ _ _ h => h.1), g_L_same, F_L_same.kp⟩
  have S4_L_same : DefA l.prog w K mg base "_law_same" 4 (rec_L_same (⟨C_Four, C_Turn⟩ : Cs) 4) := ⟨_, FnD.of (fn_L_same E F_L_same (by decide) S3_L_same) b_L_same (fun _ _ _ h => h.1), g_L_same, F_L_same.kp⟩
  have S5_L_same : DefA l.prog w K mg base "_law_same" 5 (rec_L_same (⟨C_Four, C_Turn⟩ : Cs) 5) := ⟨_, FnD.of (fn_L_same E F_L_same (by decide) S4_L_same) b_L_same (fun _ _ _ h => h.1), g_L_same, F_L_same.kp⟩
  have S6_L_same : DefA l.prog w K mg base "_law_same" 6 (rec_L_same (⟨C_Four, C_Turn⟩ : Cs) 6) := ⟨_, FnD.of (fn_L_same E F_L_same (by decide) S5_L_same) b_L_same (fun _ _ _ h => h.1), g_L_same, F_L_same.kp⟩
  have S7_L_same : DefA l.prog w K mg base "_law_same" 7 (rec_L_same (⟨C_Four, C_Turn⟩ : Cs) 7) := ⟨_, FnD.of (fn_L_same E F_L_same (by decide) S6_L_same) b_L_same (fun _ _ _ h => h.1), g_L_same, F_L_same.kp⟩
  have S8_L_same : DefA l.prog w K mg base "_law_same" 8 (rec_L_same (⟨C_Four, C_Turn⟩ : Cs) 8) := ⟨_, FnD.of (fn_L_same E F_L_same (by decide) S7_L_same) b_L_same (fun _ _ _ h => h.1), g_L_same, F_L_same.kp⟩
  have D_L_same := S8_L_same
  have D_L_fold : DefA l.prog w K mg base "_law_fold" 5 (tr_L_fold (⟨C_Four, C_Turn⟩ : Cs)) := ⟨_, FnD.of (fn_L_fold E F_L_fold D_L_lowest D_L_times D_L_back) b_L_fold (fun _ _ _ h => h.1), g_L_fold, F_L_fold.kp⟩
  have S0_L_tree_code : DefA l.prog w K mg base "_law_tree_code" 0 no_sp := ⟨_, FnD.no, g_L_tree_code, F_L_tree_code.kp⟩
  have S1_L_tree_code : DefA l.prog w K mg base "_law_tree_code" 1 (rec_L_tree_code (⟨C_Four, C_Turn⟩ : Cs) 1) := ⟨_, FnD.of (fn_L_tree_code E F_L_tree_code (by decide) S0_L_tree_code) b_L_tree_code (fun _ _ _ h => h.1), g_L_tree_code, F_L_tree_code.kp⟩
  have S2_L_tree_code : DefA l.prog w K mg base "_law_tree_code" 2 (rec_L_tree_code (⟨C_Four, C_Turn⟩ : Cs) 2) := ⟨_, FnD.of (fn_L_tree_code E F_L_tree_code (by decide) S1_L_tree_code) b_L_tree_code (fun _ _ _ h => h.1), g_L_tree_code, F_L_tree_code.kp⟩
  have S3_L_tree_code : DefA l.prog w K mg base "_law_tree_code" 3 (rec_L_tree_code (⟨C_Four, C_Turn⟩ : Cs) 3) := ⟨_, FnD.of (fn_L_tree_code E F_L_tree_code (by decide) S2_L_tree_code) b_L_tree_code (fun _ _ _ h => h.1), g_L_tree_code, F_L_tree_code.kp⟩
  have S4_L_tree_code : DefA l.prog w K mg base "_law_tree_code" 4 (rec_L_tree_code (⟨C_Four, C_Turn⟩ : Cs) 4) := ⟨_, FnD.of (fn_L_tree_code E F_L_tree_code (by decide) S3_L_tree_code) b_L_tree_code (fun _ _ _ h => h.1), g_L_tree_code, F_L_tree_code.kp⟩
  have S5_L_tree_code : DefA l.prog w K mg base "_law_tree_code" 5 (rec_L_tree_code (⟨C_Four, C_Turn⟩ : Cs) 5) := ⟨_, FnD.of (fn_L_tree_code E F_L_tree_code (by decide) S4_L_tree_code) b_L_tree_code (fun _ _ _ h => h.1), g_L_tree_code, F_L_tree_code.kp⟩
  have S6_L_tree_code : DefA l.prog w K mg base "_law_tree_code" 6 (rec_L_tree_code (⟨C_Four, C_Turn⟩ : Cs) 6) := ⟨_, FnD.of (fn_L_tree_code E F_L_tree_code (by decide) S5_L_tree_code) b_L_tree_code (fun _ _ _ h => h.1), g_L_tree_code, F_L_tree_code.kp⟩
  have S7_L_tree_code : DefA l.prog w K mg base "_law_tree_code" 7 (rec_L_tree_code (⟨C_Four, C_Turn⟩ : Cs) 7) := ⟨_, FnD.of (fn_L_tree_code E F_L_tree_code (by decide) S6_L_tree_code) b_L_tree_code (fun _ _ _ h => h.1), g_L_tree_code, F_L_tree_code.kp⟩
  have S8_L_tree_code : DefA l.prog w K mg base "_law_tree_code" 8 (rec_L_tree_code (⟨C_Four, C_Turn⟩ : Cs) 8) := ⟨_, FnD.of (fn_L_tree_code E F_L_tree_code (by decide) S7_L_tree_code) b_L_tree_code (fun _ _ _ h => h.1), g_L_tree_code, F_L_tree_code.kp⟩
  have D_L_tree_code := S8_L_tree_code
  have D_L_take : DefA l.prog w K mg base "_law_take" 1 (tr_L_take (⟨C_Four, C_Turn⟩ : Cs)) := ⟨_, FnD.of (fn_L_take E F_L_take ) b_L_take (fun _ _ _ h => h.1), g_L_take, F_L_take.kp⟩
  have D_L_halves : DefA l.prog w K mg base "_law_halves" 2 (tr_L_halves (⟨C_Four, C_Turn⟩ : Cs)) := ⟨_, FnD.of (fn_L_halves E F_L_halves D_L_take) b_L_halves (fun _ _ _ h => h.1), g_L_halves, F_L_halves.kp⟩
  have D_L_pick : DefA l.prog w K mg base "_law_pick" 2 (tr_L_pick (⟨C_Four, C_Turn⟩ : Cs)) := ⟨_, FnD.of (fn_L_pick E F_L_pick D_L_take) b_L_pick (fun _ _ _ h => h.1), g_L_pick, F_L_pick.kp⟩
  have S0_L_tree : DefA l.prog w K mg base "_law_tree" 2 no_sp := ⟨_, FnD.no, g_L_tree, F_L_tree.kp⟩
  have S1_L_tree : DefA l.prog w K mg base "_law_tree" 3 (rec_L_tree (⟨C_Four, C_Turn⟩ : Cs) 1) := ⟨_, FnD.of (fn_L_tree E F_L_tree (by decide) S0_L_tree D_L_halves D_L_pick D_L_take) b_L_tree (fun _ _ _ h => h.1), g_L_tree, F_L_tree.kp⟩
  have S2_L_tree : DefA l.prog w K mg base "_law_tree" 4 (rec_L_tree (⟨C_Four, C_Turn⟩ : Cs) 2) := ⟨_, FnD.of (fn_L_tree E F_L_tree (by decide) S1_L_tree D_L_halves D_L_pick D_L_take) b_L_tree (fun _ _ _ h => h.1), g_L_tree, F_L_tree.kp⟩
  have S3_L_tree : DefA l.prog w K mg base "_law_tree" 5 (rec_L_tree (⟨C_Four, C_Turn⟩ : Cs) 3) := ⟨_, FnD.of (fn_L_tree E F_L_tree (by decide) S2_L_tree D_L_halves D_L_pick D_L_take) b_L_tree (fun _ _ _ h => h.1), g_L_tree, F_L_tree.kp⟩
  have S4_L_tree : DefA l.prog w K mg base "_law_tree" 6 (rec_L_tree (⟨C_Four, C_Turn⟩ : Cs) 4) := ⟨_, FnD.of (fn_L_tree E F_L_tree (by decide) S3_L_tree D_L_halves D_L_pick D_L_take) b_L_tree (fun _ _ _ h => h.1), g_L_tree, F_L_tree.kp⟩
  have D_L_tree := S4_L_tree
  have D_L_four : DefA l.prog w K mg base "_law_four" 5 (tr_L_four (⟨C_Four, C_Turn⟩ : Cs)) := ⟨_, FnD.of (fn_L_four E F_L_four D_Four_init) b_L_four (fun _ _ _ h => h.1), g_L_four, F_L_four.kp⟩
  have D_L_turn : DefA l.prog w K mg base "_law_turn" 9 (tr_L_turn (⟨C_Four, C_Turn⟩ : Cs)) := ⟨_, FnD.of (fn_L_turn E F_L_turn D_Turn_init D_L_four) b_L_turn (fun _ _ _ h => h.1), g_L_turn, F_L_turn.kp⟩
  have D_L_feed : DefA l.prog w K mg base "_law_feed" 1 (tr_L_feed (⟨C_Four, C_Turn⟩ : Cs)) := ⟨_, FnD.of (fn_L_feed E F_L_feed ) b_L_feed (fun _ _ _ h => h.1), g_L_feed, F_L_feed.kp⟩
  exact (fn_law E (fun_mk (st := s_law) l8 c8 k8) D_shortened D_run D_Turn_eq D_Four_eq D_Turn_four D_Four_halves D_L_tree_four D_L_same D_L_fold D_L_tree_code D_L_take D_L_halves D_L_tree D_L_turn D_L_feed).imp (law_imp fun ns R EX hl h => law_true hl h)
end D
open PySem PySem.W PySem.Calls PyProof.Rows in
theorem PySem.Challenge.cw_grainmeet_k53_whole_shortened_code_holds : PySem.Challenge.rw_grainmeet_k53_whole_shortened_code.Holds := by
  w_on; o_law
  refine HandSHeadRun.head_any (r := OpenLaw.row PySem.Challenge.rw_grainmeet_k53_whole_shortened_code) (q := view (OpenLaw.row PySem.Challenge.rw_grainmeet_k53_whole_shortened_code).prog [59]) (H := HF.hookF HFx.bs HFx.ps HFx.as) (ob := HF.obFF HFx.bs HFx.ps HFx.as) (M := 20000) (loose := HFx.loose) (d := HandSHeadRun.topDef (OpenLaw.row PySem.Challenge.rw_grainmeet_k53_whole_shortened_code).prog 59) (kwd := []) (HF.obF_eq HFx.bs HFx.ps HFx.as)
    (by kernel_rfl) (fun s => by kernel_rfl) HFx.run (by kernel_rfl) (by kernel_rfl) (by kernel_rfl) (by rfl) (by first | assumption | decide +kernel) (by decide +kernel) ⟨rfl, rfl, rfl, rfl, rfl, by decide +kernel⟩ ?hw ?hc
  case hw => w_witness2
  case hc =>
    refine HF.walkE (l := PySem.Challenge.rw_grainmeet_k53_whole_shortened_code) 13 rfl (by kernel_rfl) ⟨rfl, by decide, by decide⟩ ?F
    intro w mg fa h Y G hmg0
    obtain ⟨K, KX, c, tb⟩ := Y
    have hmg : mg ("law" : PySem.Str) = some (.ref fa) := by
      have e : (HandSHeadRun.topDef (OpenLaw.row PySem.Challenge.rw_grainmeet_k53_whole_shortened_code).prog 59).name = ("law" : PySem.Str) := by kernel_rfl
      rw [← e]
      exact hmg0
    obtain ⟨fd, hb, hF⟩ := D.all_mk KX G hmg (HF.fCls_ok (c.fact 0 (b := HF.fCls "Four") rfl)) (HF.fCls_ok (c.fact 1 (b := HF.fCls "Turn") rfl)) (HF.fLaw_ok (c.fact 2 (b := HF.fFn "law") rfl) (c.def_ 0 (d := ⟨HF.ga "law", "law", "law", D.s_law⟩) rfl)) (HF.fProp_ok (c.fact 3 (b := HF.fProp "Turn" "four" "Turn.four") rfl) (c.def_ 1 (d := ⟨HF.pga "Turn" "four", "four", "Turn.four", D.s_Turn_four⟩) rfl)) (HF.fProp_ok (c.fact 4 (b := HF.fProp "Four" "halves" "Four.halves") rfl) (c.def_ 2 (d := ⟨HF.pga "Four" "halves", "halves", "Four.halves", D.s_Four_halves⟩) rfl)) (HF.fFn_ok (c.fact 5 (b := HF.fFn "is_number") rfl) (c.def_ 3 (d := ⟨HF.ga "is_number", "is_number", "is_number", D.s_is_number⟩) rfl)) (HF.fFn_ok (c.fact 6 (b := HF.fFn "are_halves") rfl) (c.def_ 4 (d := ⟨HF.ga "are_halves", "are_halves", "are_halves", D.s_are_halves⟩) rfl)) (HF.fMeth_ok (c.fact 7 (b := HF.fMeth "Four" "__init__" "Four.__init__") rfl) (c.def_ 5 (d := ⟨HF.ma "Four" "__init__", "__init__", "Four.__init__", D.s_Four_init⟩) rfl)) (HF.fMeth_ok (c.fact 8 (b := HF.fMeth "Four" "__neg__" "Four.__neg__") rfl) (c.def_ 6 (d := ⟨HF.ma "Four" "__neg__", "__neg__", "Four.__neg__", D.s_Four_neg⟩) rfl)) (HF.fFn_ok (c.fact 9 (b := HF.fFn "common") rfl) (c.def_ 7 (d := ⟨HF.ga "common", "common", "common", D.s_common⟩) rfl)) (HF.fMeth_ok (c.fact 10 (b := HF.fMeth "Four" "content" "Four.content") rfl) (c.def_ 8 (d := ⟨HF.ma "Four" "content", "content", "Four.content", D.s_Four_content⟩) rfl)) (HF.fMeth_ok (c.fact 11 (b := HF.fMeth "Four" "divided" "Four.divided") rfl) (c.def_ 9 (d := ⟨HF.ma "Four" "divided", "divided", "Four.divided", D.s_Four_divided⟩) rfl)) (HF.fFn_ok (c.fact 12 (b := HF.fFn "lead_of") rfl) (c.def_ 10 (d := ⟨HF.ga "lead_of", "lead_of", "lead_of", D.s_lead_of⟩) rfl)) (HF.fMeth_ok (c.fact 13 (b := HF.fMeth "Four" "__bool__" "Four.__bool__") rfl) (c.def_ 11 (d := ⟨HF.ma "Four" "__bool__", "__bool__", "Four.__bool__", D.s_Four_bool⟩) rfl)) (HF.fMeth_ok (c.fact 14 (b := HF.fMeth "Turn" "__init__" "Turn.__init__") rfl) (c.def_ 12 (d := ⟨HF.ma "Turn" "__init__", "__init__", "Turn.__init__", D.s_Turn_init⟩) rfl)) (HF.fFn_ok (c.fact 15 (b := HF.fFn "turn_with") rfl) (c.def_ 13 (d := ⟨HF.ga "turn_with", "turn_with", "turn_with", D.s_turn_with⟩) rfl)) (HF.fFn_ok (c.fact 16 (b := HF.fFn "named_turn") rfl) (c.def_ 14 (d := ⟨HF.ga "named_turn", "named_turn", "named_turn", D.s_named_turn⟩) rfl)) (HF.fFn_ok (c.fact 17 (b := HF.fFn "last_of") rfl) (c.def_ 15 (d := ⟨HF.ga "last_of", "last_of", "last_of", D.s_last_of⟩) rfl)) (HF.fMeth_ok (c.fact 18 (b := HF.fMeth "Four" "mirrored" "Four.mirrored") rfl) (c.def_ 16 (d := ⟨HF.ma "Four" "mirrored", "mirrored", "Four.mirrored", D.s_Four_mirrored⟩) rfl)) (HF.fMeth_ok (c.fact 19 (b := HF.fMeth "Turn" "__neg__" "Turn.__neg__") rfl) (c.def_ 17 (d := ⟨HF.ma "Turn" "__neg__", "__neg__", "Turn.__neg__", D.s_Turn_neg⟩) rfl)) (HF.fMeth_ok (c.fact 20 (b := HF.fMeth "Four" "__mul__" "Four.__mul__") rfl) (c.def_ 18 (d := ⟨HF.ma "Four" "__mul__", "__mul__", "Four.__mul__", D.s_Four_mul⟩) rfl)) (HF.fMeth_ok (c.fact 21 (b := HF.fMeth "Turn" "__mul__" "Turn.__mul__") rfl) (c.def_ 19 (d := ⟨HF.ma "Turn" "__mul__", "__mul__", "Turn.__mul__", D.s_Turn_mul⟩) rfl)) (HF.fFn_ok (c.fact 22 (b := HF.fFn "run") rfl) (c.def_ 20 (d := ⟨HF.ga "run", "run", "run", D.s_run⟩) rfl)) (HF.fFn_ok (c.fact 23 (b := HF.fFn "folding") rfl) (c.def_ 21 (d := ⟨HF.ga "folding", "folding", "folding", D.s_folding⟩) rfl)) (HF.fFn_ok (c.fact 24 (b := HF.fFn "foldable") rfl) (c.def_ 22 (d := ⟨HF.ga "foldable", "foldable", "foldable", D.s_foldable⟩) rfl)) (HF.fFn_ok (c.fact 25 (b := HF.fFn "shortened") rfl) (c.def_ 23 (d := ⟨HF.ga "shortened", "shortened", "shortened", D.s_shortened⟩) rfl)) (HF.fMeth_ok (c.fact 26 (b := HF.fMeth "Four" "__eq__" "Four.__eq__") rfl) (c.def_ 24 (d := ⟨HF.ma "Four" "__eq__", "__eq__", "Four.__eq__", D.s_Four_eq⟩) rfl)) (HF.fMeth_ok (c.fact 27 (b := HF.fMeth "Turn" "__eq__" "Turn.__eq__") rfl) (c.def_ 25 (d := ⟨HF.ma "Turn" "__eq__", "__eq__", "Turn.__eq__", D.s_Turn_eq⟩) rfl)) (HF.fFn_ok (c.fact 28 (b := HF.fFn "_law_gcd") rfl) (c.def_ 26 (d := ⟨HF.ga "_law_gcd", "_law_gcd", "_law_gcd", D.s_L_gcd⟩) rfl)) (HF.fFn_ok (c.fact 29 (b := HF.fFn "_law_gcd_of") rfl) (c.def_ 27 (d := ⟨HF.ga "_law_gcd_of", "_law_gcd_of", "_law_gcd_of", D.s_L_gcd_of⟩) rfl)) (HF.fFn_ok (c.fact 30 (b := HF.fFn "_law_content") rfl) (c.def_ 28 (d := ⟨HF.ga "_law_content", "_law_content", "_law_content", D.s_L_content⟩) rfl)) (HF.fFn_ok (c.fact 31 (b := HF.fFn "_law_lowest") rfl) (c.def_ 29 (d := ⟨HF.ga "_law_lowest", "_law_lowest", "_law_lowest", D.s_L_lowest⟩) rfl)) (HF.fFn_ok (c.fact 32 (b := HF.fFn "_law_times") rfl) (c.def_ 30 (d := ⟨HF.ga "_law_times", "_law_times", "_law_times", D.s_L_times⟩) rfl)) (HF.fFn_ok (c.fact 33 (b := HF.fFn "_law_back") rfl) (c.def_ 31 (d := ⟨HF.ga "_law_back", "_law_back", "_law_back", D.s_L_back⟩) rfl)) (HF.fFn_ok (c.fact 34 (b := HF.fFn "_law_tree_four") rfl) (c.def_ 32 (d := ⟨HF.ga "_law_tree_four", "_law_tree_four", "_law_tree_four", D.s_L_tree_four⟩) rfl)) (HF.fFn_ok (c.fact 35 (b := HF.fFn "_law_same") rfl) (c.def_ 33 (d := ⟨HF.ga "_law_same", "_law_same", "_law_same", D.s_L_same⟩) rfl)) (HF.fFn_ok (c.fact 36 (b := HF.fFn "_law_fold") rfl) (c.def_ 34 (d := ⟨HF.ga "_law_fold", "_law_fold", "_law_fold", D.s_L_fold⟩) rfl)) (HF.fFn_ok (c.fact 37 (b := HF.fFn "_law_tree_code") rfl) (c.def_ 35 (d := ⟨HF.ga "_law_tree_code", "_law_tree_code", "_law_tree_code", D.s_L_tree_code⟩) rfl)) (HF.fFn_ok (c.fact 38 (b := HF.fFn "_law_take") rfl) (c.def_ 36 (d := ⟨HF.ga "_law_take", "_law_take", "_law_take", D.s_L_take⟩) rfl)) (HF.fFn_ok (c.fact 39 (b := HF.fFn "_law_halves") rfl) (c.def_ 37 (d := ⟨HF.ga "_law_halves", "_law_halves", "_law_halves", D.s_L_halves⟩) rfl)) (HF.fFn_ok (c.fact 40 (b := HF.fFn "_law_pick") rfl) (c.def_ 38 (d := ⟨HF.ga "_law_pick", "_law_pick", "_law_pick", D.s_L_pick⟩) rfl)) (HF.fFn_ok (c.fact 41 (b := HF.fFn "_law_tree") rfl) (c.def_ 39 (d := ⟨HF.ga "_law_tree", "_law_tree", "_law_tree", D.s_L_tree⟩) rfl)) (HF.fFn_ok (c.fact 42 (b := HF.fFn "_law_four") rfl) (c.def_ 40 (d := ⟨HF.ga "_law_four", "_law_four", "_law_four", D.s_L_four⟩) rfl)) (HF.fFn_ok (c.fact 43 (b := HF.fFn "_law_turn") rfl) (c.def_ 41 (d := ⟨HF.ga "_law_turn", "_law_turn", "_law_turn", D.s_L_turn⟩) rfl)) (HF.fFn_ok (c.fact 44 (b := HF.fFn "_law_feed") rfl) (c.def_ 42 (d := ⟨HF.ga "_law_feed", "_law_feed", "_law_feed", D.s_L_feed⟩) rfl)) (HF.fNe_ok (c.fact 45 (b := HF.fNe "Four") rfl)) (HF.fNo_ok (c.fact 46 (b := HF.fNo "Four" "doubled") rfl)) (HF.fNe_ok (c.fact 47 (b := HF.fNe "Turn") rfl)) (HF.fNo_ok (c.fact 48 (b := HF.fNo "Turn" "lead") rfl)) (HF.fCl_ok (c.fact 49 (b := HF.fCl "Four") rfl)) (HF.fCl_ok (c.fact 50 (b := HF.fCl "Turn") rfl)) (HF.fHn_ok (c.fact 51 (b := HF.fHn) rfl)) (HF.fHt_ok (c.fact 52 (b := HF.fHt) rfl)) (HF.fFree_ok (c.fact 53 (b := HF.fFree "abs") rfl)) (HF.fFree_ok (c.fact 54 (b := HF.fFree "all") rfl)) (HF.fFree_ok (c.fact 55 (b := HF.fFree "any") rfl)) (HF.fFree_ok (c.fact 56 (b := HF.fFree "bool") rfl)) (HF.fFree_ok (c.fact 57 (b := HF.fFree "int") rfl)) (HF.fFree_ok (c.fact 58 (b := HF.fFree "isinstance") rfl)) (HF.fFree_ok (c.fact 59 (b := HF.fFree "len") rfl)) (HF.fFree_ok (c.fact 60 (b := HF.fFree "list") rfl)) (HF.fFree_ok (c.fact 61 (b := HF.fFree "range") rfl)) (HF.fFree_ok (c.fact 62 (b := HF.fFree "str") rfl)) (HF.fFree_ok (c.fact 63 (b := HF.fFree "sum") rfl)) (HF.fFree_ok (c.fact 64 (b := HF.fFree "tuple") rfl)) (HF.fFree_ok (c.fact 65 (b := HF.fFree "zip") rfl))
    exact ⟨K, fd, KX, hb, hF⟩
