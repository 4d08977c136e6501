import PyProof.Rows.All
import Wide.All
import OpenK.AllK
import Wide.FinOn
import HandS.Words
import HandS.WordsExc
import HandS.ExcIs
import HandS.ExcOwn
import HandS.ExcField
import HandS.Head0
import HandS.Head1
import HandS.Head2
import HandS.Head3
import HandS.HeadHook1
import HandS.HeadHook2
import HandS.HeadNt
import Open.Pieces
import HandS.ForMost
import HandS.Exc
import HandS.TryOnly
import HandS.ExcInit
import HandS.IsInst
import HandS.OwnEq
import HandS.FStr
import HandS.Wide
import HandS.Gcd
import HandS.ClsMeth
import HandS.Defaults
import HandS.CallSlots
import HandS.RaiseMore
import HandS.Walk
import HandS.Codes
import HandS.Evl
import HandS.Steps
import KE.KOpsOwn
import HandS.Property
import HandS.MakeKw
import HandS.MakeKwOnly
import KE.KRevSl
import HandS.ExcValue
import PyProof.ReprNest
import PyProof.ReprDict
import PyProof.ReprReads
import PyProof.ReprRoads
import HandS.Text
import PySem.Challenge.RW_peekproof_k00_errors_and_kinds_of_values
set_option Elab.async false
section -- PkH
set_option linter.all false
set_option maxRecDepth 100000
set_option maxHeartbeats 4000000
/-! PkH: what is looked at behind the top: early, for heads that want much room. -/
namespace Pk
open PySem PySem.Spec PyProof.Rows L2
open He (ga ma)
/-- an error class that is its own dict's: the object as the store of its fields asks -/
def oexB (K : PySem.W.Frag) (C : Addr) : Bool := match K.lookup C with
  | some ⟨.type t, _, .cls cd, sl⟩ => decide (t = "type") && (cd.hasDict && (!cd.hasDel && (decide (sl.size = 6) && (decide ((sl[4]?).join = some (.builtin "ValueError.__new__")) && (match cd.mro with
    | .ref c :: bm => decide (c = C) && PySem.HandSPX.refsVE bm
    | _ => false)))))
  | _ => false
/-! ### what is looked at -/
abbrev Seen : Type := Bool × List He5.FnW
def seenOf (B : List (PySem.W.Frag → Bool)) (fn : List He5.DefA) (K : PySem.W.Frag) : Seen := (B.all (fun b => b K) && fn.all (fun d => d.ok K), fn.map fun d => He5.fnA K (d.at_ K))
def toldOf (fn : List He5.DefA) : Seen := (true, fn.map He5.DefA.val)
def Told (B : List (PySem.W.Frag → Bool)) (fn : List He5.DefA) (K : PySem.W.Frag) : Prop := seenOf B fn K = toldOf fn
def seenG (n : Nat) (B : List (PySem.W.Frag → Bool)) (fn : List He5.DefA) (g : Addr → Option Obj) : Seen := seenOf B fn (He.frG g (He5.asA g n))
def hookB (n : Nat) (B : List (PySem.W.Frag → Bool)) (fn : List He5.DefA) : PySem.W.Hook where
  α := Seen
  obs := fun t => seenG n B fn t.heap.get?
  val := fun _ => toldOf fn
  says := fun _ h => ∃ K : PySem.W.Frag, K.In h ∧ Told B fn K
  of := fun _ _ e => ⟨_, He.frG_in, e⟩
  keeps := fun _ _ _ t k => t.elim fun K c => ⟨K, PySem.W.Frag.In.keeps c.1 k, c.2⟩
section
variable {B : List (PySem.W.Frag → Bool)} {fn : List He5.DefA} {K : PySem.W.Frag}
theorem Told.fact (c : Told B fn K) (i : Nat) {b : PySem.W.Frag → Bool} (h : B[i]? = some b := by rfl) : b K = true := by
  have c1 : (B.all (fun b => b K) && fn.all (fun d => d.ok K)) = true := congrArg Prod.fst c
  exact List.all_eq_true.mp (Bool.and_eq_true_iff.mp c1).1 b (List.mem_of_getElem? h)
theorem Told.dd (c : Told B fn K) (i : Nat) {d : He5.DefA} (h : fn[i]? = some d := by rfl) : ∃ fd, FunD K d.name d.qual d.params d.body d.scope (d.dvs K) (d.kws K) (d.at_ K) fd := by
  have c1 : (B.all (fun b => b K) && fn.all (fun d => d.ok K)) = true := congrArg Prod.fst c
  have e : fn.map (fun d => He5.fnA K (d.at_ K)) = fn.map He5.DefA.val := congrArg Prod.snd c
  have e2 := congrArg (fun l : List He5.FnW => l[i]?) e
  simp only [List.getElem?_map, h, Option.map_some] at e2
  exact He5.DefA.funD (Option.some.inj e2) (List.all_eq_true.mp (Bool.and_eq_true_iff.mp c1).2 d (List.mem_of_getElem? h))
end
def obsT (n : Nat) (B : List (PySem.W.Frag → Bool)) (fn : List He5.DefA) (t : Shared) : Seen := match HandSHeadRun.treeOf t with
  | some x => seenG n B fn (HandSHeadRun.getT x)
  | none => (false, [])
theorem obsT_of {n : Nat} {B : List (PySem.W.Frag → Bool)} {fn : List He5.DefA} {t : Shared} (h : obsT n B fn t = toldOf fn) : seenG n B fn t.heap.get? = toldOf fn := by
  unfold obsT at h
  cases q : HandSHeadRun.treeOf t with
  | none =>
    rw [q] at h
    cases congrArg Prod.fst h
  | some x =>
    rw [q] at h
    have e := (HandSHeadRun.treeOf_eq q).1
    have g : HandSHeadRun.getT x = t.heap.get? := funext fun a => by rw [HandSHeadRun.getT_eq, e]
    rw [← g]
    exact h
def hookT (n : Nat) (B : List (PySem.W.Frag → Bool)) (fn : List He5.DefA) : PySem.W.Hook where
  α := Seen
  obs := obsT n B fn
  val := fun _ => toldOf fn
  says := fun _ h => ∃ K : PySem.W.Frag, K.In h ∧ Told B fn K
  of := fun _ _ e => ⟨_, He.frG_in, obsT_of e⟩
  keeps := fun _ _ _ t k => t.elim fun K c => ⟨K, PySem.W.Frag.In.keeps c.1 k, c.2⟩
/-- .. of the objects at these places alone -/
def obsL (as : List Addr) (B : List (PySem.W.Frag → Bool)) (fn : List He5.DefA) (t : Shared) : Seen := match HandSHeadRun.treeOf t with
  | some x => seenOf B fn (He.frG (HandSHeadRun.getT x) as)
  | none => (false, [])
theorem obsL_of {as : List Addr} {B : List (PySem.W.Frag → Bool)} {fn : List He5.DefA} {t : Shared} (h : obsL as B fn t = toldOf fn) : seenOf B fn (He.frG t.heap.get? as) = toldOf fn := by
  unfold obsL at h
  cases q : HandSHeadRun.treeOf t with
  | none =>
    rw [q] at h
    cases congrArg Prod.fst h
  | some x =>
    rw [q] at h
    have e := (HandSHeadRun.treeOf_eq q).1
    have g : HandSHeadRun.getT x = t.heap.get? := funext fun a => by rw [HandSHeadRun.getT_eq, e]
    rw [← g]
    exact h
def hookL (as : List Addr) (B : List (PySem.W.Frag → Bool)) (fn : List He5.DefA) : PySem.W.Hook where
  α := Seen
  obs := obsL as B fn
  val := fun _ => toldOf fn
  says := fun _ h => ∃ K : PySem.W.Frag, K.In h ∧ Told B fn K
  of := fun _ _ e => ⟨_, He.frG_in, obsL_of e⟩
  keeps := fun _ _ _ t k => t.elim fun K c => ⟨K, PySem.W.Frag.In.keeps c.1 k, c.2⟩
/-- .. for a head in one run -/
def hookP (as : List Addr) (B : List (PySem.W.Frag → Bool)) (fn : List He5.DefA) : PySem.W.Hook where
  α := Seen
  obs := fun t => seenOf B fn (He.frG t.heap.get? as)
  val := fun _ => toldOf fn
  says := fun _ h => ∃ K : PySem.W.Frag, K.In h ∧ Told B fn K
  of := fun _ _ e => ⟨_, He.frG_in, e⟩
  keeps := fun _ _ _ t k => t.elim fun K c => ⟨K, PySem.W.Frag.In.keeps c.1 k, c.2⟩
end Pk
end

section -- K00p
set_option linter.all false
set_option maxRecDepth 100000
set_option maxHeartbeats 4000000
namespace K00
open PySem PySem.Spec L2 Pk
open PyProof.Rows hiding St
/-! ### the text by places -/
def top (i : Nat) : Stmt := PySem.Challenge.pw_peekproof_k00_errors_and_kinds_of_values.main.body.getD i (.Pass ⟨0, 0, 0, 0⟩)
abbrev sIsInt : Stmt := top 7
abbrev sWithin : Stmt := top 8
abbrev sIsName : Stmt := top 9
abbrev sIsLabel : Stmt := top 10
abbrev sRi : Stmt := inClass (top 52) 1
abbrev sRStr : Stmt := inClass (top 52) 14
abbrev sRRepr : Stmt := inClass (top 52) 15
abbrev sX13 : Stmt := inClass (top 13) 0
abbrev sX14 : Stmt := inClass (top 14) 0
abbrev sX15 : Stmt := inClass (top 15) 0
abbrev sX16 : Stmt := inClass (top 16) 0
abbrev sX17 : Stmt := inClass (top 17) 0
abbrev sX18 : Stmt := inClass (top 18) 0
abbrev sX19 : Stmt := inClass (top 19) 0
abbrev sX20 : Stmt := inClass (top 20) 0
abbrev sX21 : Stmt := inClass (top 21) 0
abbrev sX22 : Stmt := inClass (top 22) 0
abbrev sX23 : Stmt := inClass (top 23) 0
abbrev sX24 : Stmt := inClass (top 24) 0
abbrev sX25 : Stmt := inClass (top 25) 0
abbrev sX26 : Stmt := inClass (top 26) 0
abbrev sX27 : Stmt := inClass (top 27) 0
abbrev sX28 : Stmt := inClass (top 28) 0
abbrev sX29 : Stmt := inClass (top 29) 0
abbrev sX30 : Stmt := inClass (top 30) 0
abbrev sX31 : Stmt := inClass (top 31) 0
abbrev sX37 : Stmt := inClass (top 37) 0
abbrev sX38 : Stmt := inClass (top 38) 0
abbrev sX39 : Stmt := inClass (top 39) 0
abbrev sX40 : Stmt := inClass (top 40) 0
abbrev sX41 : Stmt := inClass (top 41) 0
abbrev sX42 : Stmt := inClass (top 42) 0
abbrev sX43 : Stmt := inClass (top 43) 0
abbrev sX44 : Stmt := inClass (top 44) 0
abbrev sX45 : Stmt := inClass (top 45) 0
abbrev sX47 : Stmt := inClass (top 47) 0
abbrev sX48 : Stmt := inClass (top 48) 0
abbrev sX49 : Stmt := inClass (top 49) 0
abbrev sBRi : Stmt := sX13
abbrev sPen : Stmt := top 58
abbrev sDraw : Stmt := top 59
abbrev sPick : Stmt := top 60
abbrev sParts : Stmt := top 61
abbrev sPartsN : Stmt := top 62
abbrev sOthers : Stmt := top 63
abbrev sOthersN : Stmt := top 64
abbrev sFields : Stmt := top 65
abbrev sKin : Stmt := top 66
abbrev sErrors : Stmt := top 67
abbrev sLName : Stmt := top 68
abbrev sLLabel : Stmt := top 69
abbrev sWord : Stmt := top 70
abbrev sKinds : Stmt := top 71
abbrev sLaw : Stmt := top 72
def nm (i : Nat) : Str := ([("BadRatio" : Str), ("BadCrowd" : Str), ("BadTable" : Str), ("BadChances" : Str), ("BadWatch" : Str), ("BadStudy" : Str), ("BadWorths" : Str), ("BadWorld" : Str), ("BadCosts" : Str), ("BadNest" : Str), ("BadBoard" : Str), ("BadNumbers" : Str), ("BadBet" : Str), ("BadShelf" : Str), ("BadHall" : Str), ("BadLog" : Str), ("BadStory" : Str), ("BadPaper" : Str), ("NoSign" : Str), ("NoState" : Str), ("NoEnd" : Str), ("NoArm" : Str), ("NoStudy" : Str), ("Twice" : Str), ("Over" : Str), ("UnlikeSigns" : Str), ("Unsure" : Str), ("NoPurse" : Str), ("UnlikeArms" : Str), ("Unfair" : Str), ("NotWithin" : Str), ("Refuted" : Str), ("TooMany" : Str), ("BadText" : Str), ("BadLine" : Str), ("Nothing" : Str)] : List Str).getD i ""
def fl (i : Nat) : List Str := ([([("part" : Str)] : List Str), ([("part" : Str)] : List Str), ([("part" : Str)] : List Str), ([("part" : Str)] : List Str), ([("part" : Str)] : List Str), ([("part" : Str)] : List Str), ([("part" : Str)] : List Str), ([("part" : Str)] : List Str), ([("part" : Str)] : List Str), ([("part" : Str)] : List Str), ([("part" : Str)] : List Str), ([("part" : Str)] : List Str), ([("part" : Str)] : List Str), ([("part" : Str)] : List Str), ([("part" : Str)] : List Str), ([("part" : Str)] : List Str), ([("part" : Str)] : List Str), ([("part" : Str)] : List Str), ([("name" : Str)] : List Str), ([("name" : Str)] : List Str), ([("name" : Str)] : List Str), ([("name" : Str)] : List Str), ([("name" : Str)] : List Str), ([("name" : Str)] : List Str), ([("name" : Str)] : List Str), ([("label" : Str)] : List Str), ([("trap" : Str)] : List Str), ([("word" : Str)] : List Str), ([("one" : Str), ("other" : Str)] : List Str), ([("state" : Str), ("corner" : Str)] : List Str), ([("name" : Str), ("row" : Str)] : List Str), ([("name" : Str), ("label" : Str)] : List Str), ([("what" : Str), ("most" : Str)] : List Str), ([("line" : Str), ("word" : Str)] : List Str), ([("line" : Str), ("error" : Str)] : List Str), ([] : List Str)] : List (List Str)).getD i []
end K00
end

section -- K00ya
set_option linter.all false
set_option maxRecDepth 100000
set_option maxHeartbeats 4000000
namespace K00
open PySem PySem.Spec L2 Pk
open PyProof.Rows hiding St
open He (ga ma)
/-! ### what is looked at behind the top -/
abbrev cC (K : PySem.W.Frag) : Addr := ga K "Ratio"
abbrev cP (K : PySem.W.Frag) : Addr := ga K "PeekError"
abbrev cM (K : PySem.W.Frag) : Addr := ga K "Missing"
def Cs (K : PySem.W.Frag) (i : Nat) : Addr := ga K (nm i)
def all36K (f : Nat → Bool) (n : Nat) : Bool := (List.range n).all f
theorem all36K_ok {f : Nat → Bool} {n : Nat} (h : all36K f n = true) : ∀ i, i < n → f i = true := fun i hi => List.all_eq_true.mp h i (List.mem_range.mpr hi)
abbrev c_BadRatio (K : PySem.W.Frag) : Addr := ga K "BadRatio"
abbrev c_BadCrowd (K : PySem.W.Frag) : Addr := ga K "BadCrowd"
abbrev c_BadTable (K : PySem.W.Frag) : Addr := ga K "BadTable"
abbrev c_BadChances (K : PySem.W.Frag) : Addr := ga K "BadChances"
abbrev c_BadWatch (K : PySem.W.Frag) : Addr := ga K "BadWatch"
abbrev c_BadStudy (K : PySem.W.Frag) : Addr := ga K "BadStudy"
abbrev c_BadWorths (K : PySem.W.Frag) : Addr := ga K "BadWorths"
abbrev c_BadWorld (K : PySem.W.Frag) : Addr := ga K "BadWorld"
abbrev c_BadCosts (K : PySem.W.Frag) : Addr := ga K "BadCosts"
abbrev c_BadNest (K : PySem.W.Frag) : Addr := ga K "BadNest"
abbrev c_BadBoard (K : PySem.W.Frag) : Addr := ga K "BadBoard"
abbrev c_BadNumbers (K : PySem.W.Frag) : Addr := ga K "BadNumbers"
abbrev c_BadBet (K : PySem.W.Frag) : Addr := ga K "BadBet"
abbrev c_BadShelf (K : PySem.W.Frag) : Addr := ga K "BadShelf"
abbrev c_BadHall (K : PySem.W.Frag) : Addr := ga K "BadHall"
abbrev c_BadLog (K : PySem.W.Frag) : Addr := ga K "BadLog"
abbrev c_BadStory (K : PySem.W.Frag) : Addr := ga K "BadStory"
abbrev c_BadPaper (K : PySem.W.Frag) : Addr := ga K "BadPaper"
abbrev c_Missing (K : PySem.W.Frag) : Addr := ga K "Missing"
abbrev c_Twice (K : PySem.W.Frag) : Addr := ga K "Twice"
abbrev c_UnlikeSigns (K : PySem.W.Frag) : Addr := ga K "UnlikeSigns"
abbrev c_UnlikeArms (K : PySem.W.Frag) : Addr := ga K "UnlikeArms"
abbrev c_Unsure (K : PySem.W.Frag) : Addr := ga K "Unsure"
abbrev c_Unfair (K : PySem.W.Frag) : Addr := ga K "Unfair"
abbrev c_NoPurse (K : PySem.W.Frag) : Addr := ga K "NoPurse"
abbrev c_NotWithin (K : PySem.W.Frag) : Addr := ga K "NotWithin"
abbrev c_Over (K : PySem.W.Frag) : Addr := ga K "Over"
abbrev c_Refuted (K : PySem.W.Frag) : Addr := ga K "Refuted"
abbrev c_TooMany (K : PySem.W.Frag) : Addr := ga K "TooMany"
abbrev c_BadText (K : PySem.W.Frag) : Addr := ga K "BadText"
abbrev c_BadLine (K : PySem.W.Frag) : Addr := ga K "BadLine"
abbrev mT : Value := .type "type"
def fns : List He5.DefA := [⟨fun K => ga K "is_integer", "is_integer", "is_integer", defArgs sIsInt, defBody sIsInt, defScope sIsInt, [], []⟩,
  ⟨fun K => ga K "is_within", "is_within", "is_within", defArgs sWithin, defBody sWithin, defScope sWithin, [], []⟩,
  ⟨fun K => ga K "is_name", "is_name", "is_name", defArgs sIsName, defBody sIsName, defScope sIsName, [], []⟩,
  ⟨fun K => ga K "is_label", "is_label", "is_label", defArgs sIsLabel, defBody sIsLabel, defScope sIsLabel, [], []⟩,
  ⟨fun K => ma K (c_BadRatio K) "__init__", "__init__", "BadRatio.__init__", defArgs sX13, defBody sX13, defScope sX13, [], []⟩,
  ⟨fun K => ma K (c_BadCrowd K) "__init__", "__init__", "BadCrowd.__init__", defArgs sX14, defBody sX14, defScope sX14, [], []⟩,
  ⟨fun K => ma K (c_BadTable K) "__init__", "__init__", "BadTable.__init__", defArgs sX15, defBody sX15, defScope sX15, [], []⟩,
  ⟨fun K => ma K (c_BadChances K) "__init__", "__init__", "BadChances.__init__", defArgs sX16, defBody sX16, defScope sX16, [], []⟩,
  ⟨fun K => ma K (c_BadWatch K) "__init__", "__init__", "BadWatch.__init__", defArgs sX17, defBody sX17, defScope sX17, [], []⟩,
  ⟨fun K => ma K (c_BadStudy K) "__init__", "__init__", "BadStudy.__init__", defArgs sX18, defBody sX18, defScope sX18, [], []⟩,
  ⟨fun K => ma K (c_BadWorths K) "__init__", "__init__", "BadWorths.__init__", defArgs sX19, defBody sX19, defScope sX19, [], []⟩,
  ⟨fun K => ma K (c_BadWorld K) "__init__", "__init__", "BadWorld.__init__", defArgs sX20, defBody sX20, defScope sX20, [], []⟩,
  ⟨fun K => ma K (c_BadCosts K) "__init__", "__init__", "BadCosts.__init__", defArgs sX21, defBody sX21, defScope sX21, [], []⟩,
  ⟨fun K => ma K (c_BadNest K) "__init__", "__init__", "BadNest.__init__", defArgs sX22, defBody sX22, defScope sX22, [], []⟩,
  ⟨fun K => ma K (c_BadBoard K) "__init__", "__init__", "BadBoard.__init__", defArgs sX23, defBody sX23, defScope sX23, [], []⟩,
  ⟨fun K => ma K (c_BadNumbers K) "__init__", "__init__", "BadNumbers.__init__", defArgs sX24, defBody sX24, defScope sX24, [], []⟩,
  ⟨fun K => ma K (c_BadBet K) "__init__", "__init__", "BadBet.__init__", defArgs sX25, defBody sX25, defScope sX25, [], []⟩,
  ⟨fun K => ma K (c_BadShelf K) "__init__", "__init__", "BadShelf.__init__", defArgs sX26, defBody sX26, defScope sX26, [], []⟩,
  ⟨fun K => ma K (c_BadHall K) "__init__", "__init__", "BadHall.__init__", defArgs sX27, defBody sX27, defScope sX27, [], []⟩,
  ⟨fun K => ma K (c_BadLog K) "__init__", "__init__", "BadLog.__init__", defArgs sX28, defBody sX28, defScope sX28, [], []⟩,
  ⟨fun K => ma K (c_BadStory K) "__init__", "__init__", "BadStory.__init__", defArgs sX29, defBody sX29, defScope sX29, [], []⟩,
  ⟨fun K => ma K (c_BadPaper K) "__init__", "__init__", "BadPaper.__init__", defArgs sX30, defBody sX30, defScope sX30, [], []⟩,
  ⟨fun K => ma K (c_Missing K) "__init__", "__init__", "Missing.__init__", defArgs sX31, defBody sX31, defScope sX31, [], []⟩,
  ⟨fun K => ma K (c_Twice K) "__init__", "__init__", "Twice.__init__", defArgs sX37, defBody sX37, defScope sX37, [], []⟩,
  ⟨fun K => ma K (c_UnlikeSigns K) "__init__", "__init__", "UnlikeSigns.__init__", defArgs sX38, defBody sX38, defScope sX38, [], []⟩,
  ⟨fun K => ma K (c_UnlikeArms K) "__init__", "__init__", "UnlikeArms.__init__", defArgs sX39, defBody sX39, defScope sX39, [], []⟩,
  ⟨fun K => ma K (c_Unsure K) "__init__", "__init__", "Unsure.__init__", defArgs sX40, defBody sX40, defScope sX40, [], []⟩,
  ⟨fun K => ma K (c_Unfair K) "__init__", "__init__", "Unfair.__init__", defArgs sX41, defBody sX41, defScope sX41, [], []⟩,
  ⟨fun K => ma K (c_NoPurse K) "__init__", "__init__", "NoPurse.__init__", defArgs sX42, defBody sX42, defScope sX42, [], []⟩,
  ⟨fun K => ma K (c_NotWithin K) "__init__", "__init__", "NotWithin.__init__", defArgs sX43, defBody sX43, defScope sX43, [], []⟩,
  ⟨fun K => ma K (c_Over K) "__init__", "__init__", "Over.__init__", defArgs sX44, defBody sX44, defScope sX44, [], []⟩,
  ⟨fun K => ma K (c_Refuted K) "__init__", "__init__", "Refuted.__init__", defArgs sX45, defBody sX45, defScope sX45, [], []⟩,
  ⟨fun K => ma K (c_TooMany K) "__init__", "__init__", "TooMany.__init__", defArgs sX47, defBody sX47, defScope sX47, [], []⟩,
  ⟨fun K => ma K (c_BadText K) "__init__", "__init__", "BadText.__init__", defArgs sX48, defBody sX48, defScope sX48, [], []⟩,
  ⟨fun K => ma K (c_BadLine K) "__init__", "__init__", "BadLine.__init__", defArgs sX49, defBody sX49, defScope sX49, [], []⟩,
  ⟨fun K => ma K (cC K) "__init__", "__init__", "Ratio.__init__", defArgs sRi, defBody sRi, defScope sRi, [.int 1], []⟩,
  ⟨fun K => ma K (cC K) "__str__", "__str__", "Ratio.__str__", defArgs sRStr, defBody sRStr, defScope sRStr, [], []⟩,
  ⟨fun K => ma K (cC K) "__repr__", "__repr__", "Ratio.__repr__", defArgs sRRepr, defBody sRRepr, defScope sRRepr, [], []⟩,
  ⟨fun K => ga K "_law_pen", "_law_pen", "_law_pen", defArgs sPen, defBody sPen, defScope sPen, [], []⟩,
  ⟨fun K => ga K "_law_draw", "_law_draw", "_law_draw", defArgs sDraw, defBody sDraw, defScope sDraw, [], []⟩,
  ⟨fun K => ga K "_law_pick", "_law_pick", "_law_pick", defArgs sPick, defBody sPick, defScope sPick, [], []⟩,
  ⟨fun K => ga K "_law_parts", "_law_parts", "_law_parts", defArgs sParts, defBody sParts, defScope sParts, [], []⟩,
  ⟨fun K => ga K "_law_parts_named", "_law_parts_named", "_law_parts_named", defArgs sPartsN, defBody sPartsN, defScope sPartsN, [], []⟩,
  ⟨fun K => ga K "_law_others", "_law_others", "_law_others", defArgs sOthers, defBody sOthers, defScope sOthers, [], []⟩,
  ⟨fun K => ga K "_law_others_named", "_law_others_named", "_law_others_named", defArgs sOthersN, defBody sOthersN, defScope sOthersN, [], []⟩,
  ⟨fun K => ga K "_law_fields", "_law_fields", "_law_fields", defArgs sFields, defBody sFields, defScope sFields, [], []⟩,
  ⟨fun K => ga K "_law_kin", "_law_kin", "_law_kin", defArgs sKin, defBody sKin, defScope sKin, [], []⟩,
  ⟨fun K => ga K "_law_errors_right", "_law_errors_right", "_law_errors_right", defArgs sErrors, defBody sErrors, defScope sErrors, [], []⟩,
  ⟨fun K => ga K "_law_is_name", "_law_is_name", "_law_is_name", defArgs sLName, defBody sLName, defScope sLName, [], []⟩,
  ⟨fun K => ga K "_law_is_label", "_law_is_label", "_law_is_label", defArgs sLLabel, defBody sLLabel, defScope sLLabel, [], []⟩,
  ⟨fun K => ga K "_law_word", "_law_word", "_law_word", defArgs sWord, defBody sWord, defScope sWord, [], []⟩,
  ⟨fun K => ga K "_law_kinds_right", "_law_kinds_right", "_law_kinds_right", defArgs sKinds, defBody sKinds, defScope sKinds, [], []⟩,
  ⟨fun K => ga K "law", "law", "law", defArgs sLaw, defBody sLaw, defScope sLaw, [], []⟩]
def frees : List Str := ["isinstance", "int", "bool", "str", "list", "len", "all", "abs", "range", "repr", "tuple", "any", "enumerate", "ValueError", "LookupError", "TypeError", "ArithmeticError", "RuntimeError", "AttributeError"]
def globs : List Str := [("Ratio" : Str), ("PeekError" : Str), ("Missing" : Str), ("BadRatio" : Str), ("BadCrowd" : Str), ("BadTable" : Str), ("BadChances" : Str), ("BadWatch" : Str), ("BadStudy" : Str), ("BadWorths" : Str), ("BadWorld" : Str), ("BadCosts" : Str), ("BadNest" : Str), ("BadBoard" : Str), ("BadNumbers" : Str), ("BadBet" : Str), ("BadShelf" : Str), ("BadHall" : Str), ("BadLog" : Str), ("BadStory" : Str), ("BadPaper" : Str), ("NoSign" : Str), ("NoState" : Str), ("NoEnd" : Str), ("NoArm" : Str), ("NoStudy" : Str), ("Twice" : Str), ("Over" : Str), ("UnlikeSigns" : Str), ("Unsure" : Str), ("NoPurse" : Str), ("UnlikeArms" : Str), ("Unfair" : Str), ("NotWithin" : Str), ("Refuted" : Str), ("TooMany" : Str), ("BadText" : Str), ("BadLine" : Str), ("Nothing" : Str), ("is_integer" : Str), ("is_within" : Str), ("is_name" : Str), ("is_label" : Str), ("_law_pen" : Str), ("_law_draw" : Str), ("_law_pick" : Str), ("_law_parts" : Str), ("_law_parts_named" : Str), ("_law_others" : Str), ("_law_others_named" : Str), ("_law_fields" : Str), ("_law_kin" : Str), ("_law_errors_right" : Str), ("_law_is_name" : Str), ("_law_is_label" : Str), ("_law_word" : Str), ("_law_kinds_right" : Str), ("law" : Str)]
abbrev eqB (a b : Option (Option Value)) : Bool := decide (a = b)
theorem eqB_ok {a b : Option (Option Value)} (h : eqB a b = true) : a = b := of_decide_eq_true h
def looks : List (PySem.W.Frag → Bool) := [
  fun K => frees.all fun x => eqB (PySem.W.nsIn K mainGlobals x) (some none),
  fun K => globs.all fun x => eqB (PySem.W.nsIn K mainGlobals x) (some (some (.ref (ga K x)))),
  fun K => eqB (PySem.W.specialIn K (.builtin "object.__class__") "__get__") (some (some (.builtin "getset_descriptor.__get__"))),
  fun K => decide (PySem.W.takesIn K (.builtin "object.__class__") = some true),
  fun K => PySem.W.plainGet K (cC K) Str.empty,
  fun K => PySem.W.hasDictIn K (cC K),
  fun K => PySem.W.plainOver K (cC K),
  fun K => eqB (PySem.W.findIn K (.ref (cC K)) "__setattr__") (some (some (.builtin "object.__setattr__"))),
  fun K => eqB (PySem.W.nsIn K mainGlobals "gcd") (some (some (.builtin "math.gcd"))),
  fun K => eqB (PySem.W.findIn K (.ref (cC K)) "top") (some none),
  fun K => eqB (PySem.W.findIn K (.ref (cC K)) "bottom") (some none),
  fun K => eqB (PySem.W.findIn K (.ref (cC K)) "__class__") (some (some (.builtin "object.__class__"))),
  fun K => decide (PySem.W.mroIn K (cC K) (.type "object") = some true),
  fun K => decide (PySem.W.kitOne K (.ref (cC K)) (.ref (cC K)) = some true),
  fun K => decide (PySem.W.kitOne K (.ref (cC K)) (.type "int") = some false),
  fun K => decide (PySem.W.kitOne K (.ref (cC K)) (.type "str") = some false),
  fun K => eqB (PySem.W.findIn K (.ref (cC K)) "__repr__") (some (some (.ref (ma K (cC K) "__repr__")))),
  fun K => PySem.W.isFn K (.ref (ma K (cC K) "__repr__")),
  fun K => eqB (PySem.W.findIn K (.ref (cC K)) "__str__") (some (some (.ref (ma K (cC K) "__str__")))),
  fun K => PySem.W.isFn K (.ref (ma K (cC K) "__str__")),
  fun K => PySem.W.makesIn K (cC K),
  fun K => eqB (PySem.W.findIn K (.ref (cC K)) "__init__") (some (some (.ref (ma K (cC K) "__init__")))),
  fun K => PySem.W.isFn K (.ref (ma K (cC K) "__init__")),
  fun K => PySem.W.keepIn K (.ref (cC K)),
  fun K => (match PySem.W.nsIn K mainGlobals "_LETTERS" with
    | some (some (.str y _)) => decide (y = "abcdefghijklmnopqrstuvwxyz")
    | _ => false),
  fun K => (match PySem.W.nsIn K mainGlobals "_NAME_SIGNS" with
    | some (some (.str y _)) => decide (y = "abcdefghijklmnopqrstuvwxyz0123456789")
    | _ => false),
  fun K => (match PySem.W.nsIn K mainGlobals "_MOST_LETTERS" with
    | some (some (.int y _)) => decide (y = 12)
    | _ => false),
  fun K => (match PySem.W.nsIn K mainGlobals "_MOST_NAMES" with
    | some (some (.int y _)) => decide (y = 6)
    | _ => false),
  fun K => all36K (fun i => oexB K (Cs K i)) 36,
  fun K => all36K (fun i => eqB (PySem.W.findIn K (.ref (Cs K i)) "__setattr__") (some (some (.builtin "object.__setattr__")))) 36,
  fun K => all36K (fun i => decide (PySem.W.subIn K (.ref (Cs K i)) (.type "BaseException") = some true)) 36,
  fun K => all36K (fun i => decide (PySem.W.typeIn K (.ref (Cs K i)) = some (.type "type"))) 36,
  fun K => all36K (fun i => PySem.W.keepIn K (.ref (Cs K i))) 36,
  fun K => all36K (fun i => eqB (PySem.W.findIn K (.ref (Cs K i)) "__getattribute__") (some (some (.builtin "BaseException.__getattribute__")))) 36,
  fun K => all36K (fun i => eqB (PySem.W.findIn K (.ref (Cs K i)) "__getattr__") (some none)) 36,
  fun K => all36K (fun i => PySem.W.hasDictIn K (Cs K i)) 36,
  fun K => all36K (fun i => eqB (PySem.W.findIn K (.ref (Cs K i)) "__class__") (some (some (.builtin "object.__class__")))) 36,
  fun K => all36K (fun i => decide (PySem.W.mroIn K (Cs K i) (.type "object") = some true)) 36,
  fun K => all36K (fun i => xfB K (Cs K i)) 36,
  fun K => all36K (fun i => (fl i).all fun n => eqB (PySem.W.findIn K (.ref (Cs K i)) n) (some none)) 35,
  fun K => all36K (fun i => all36K (fun j => decide (PySem.W.kitOne K (.ref (Cs K i)) (.ref (Cs K j)) = some (decide (i = j)))) 36) 36,
  fun K => all36K (fun i => decide (PySem.W.kitOne K (.ref (cM K)) (.ref (Cs K i)) = some false)) 36,
  fun K => all36K (fun i => decide (PySem.W.kitOne K (.ref (Cs K i)) (.ref (cP K)) = some true)) 36,
  fun K => all36K (fun i => decide (PySem.W.kitOne K (.ref (Cs K i)) (.ref (cM K)) = some (decide (18 ≤ i ∧ i < 23)))) 36,
  fun K => all36K (fun i => decide (PySem.W.kitOne K (.ref (Cs K i)) (.type "ValueError") = some true)) 36,
  fun K => all36K (fun i => (["LookupError", "TypeError", "ArithmeticError", "RuntimeError", "AttributeError"] : List String).all fun T => decide (PySem.W.kitOne K (.ref (Cs K i)) (.type T) = some false)) 36,
  fun K => all36K (fun i => eqB (PySem.W.nsIn K mainGlobals (nm i)) (some (some (.ref (Cs K i))))) 36,
  fun K => decide (PySem.W.kitOne K (.ref (cM K)) (.ref (cP K)) = some true),
  fun K => decide (PySem.W.kitOne K (.ref (cM K)) (.type "ValueError") = some true),
  fun K => PySem.W.excIn K (Cs K 35) PySem.HandSPX.veTail "ValueError.__new__",
  fun K => decide (PySem.W.subIn K (.ref (cM K)) (.type "BaseException") = some true),
  fun K => oexB K (cM K),
  fun K => eqB (PySem.W.findIn K (.ref (cM K)) "__setattr__") (some (some (.builtin "object.__setattr__"))),
  fun K => decide (PySem.W.typeIn K (.ref (cM K)) = some (.type "type")),
  fun K => PySem.W.keepIn K (.ref (cM K)),
  fun K => eqB (PySem.W.findIn K (.ref (cM K)) "__getattribute__") (some (some (.builtin "BaseException.__getattribute__"))),
  fun K => eqB (PySem.W.findIn K (.ref (cM K)) "__getattr__") (some none),
  fun K => PySem.W.hasDictIn K (cM K),
  fun K => eqB (PySem.W.findIn K (.ref (cM K)) "__class__") (some (some (.builtin "object.__class__"))),
  fun K => decide (PySem.W.mroIn K (cM K) (.type "object") = some true),
  fun K => xfB K (cM K),
  fun K => eqB (PySem.W.findIn K (.ref (cM K)) "name") (some none),
  fun K => decide (PySem.W.typeIn K (.ref (ma K (c_BadRatio K) "__init__")) = some (.type "function")),
  fun K => decide (PySem.W.typeIn K (.ref (ma K (c_BadCrowd K) "__init__")) = some (.type "function")),
  fun K => decide (PySem.W.typeIn K (.ref (ma K (c_BadTable K) "__init__")) = some (.type "function")),
  fun K => decide (PySem.W.typeIn K (.ref (ma K (c_BadChances K) "__init__")) = some (.type "function")),
  fun K => decide (PySem.W.typeIn K (.ref (ma K (c_BadWatch K) "__init__")) = some (.type "function")),
  fun K => decide (PySem.W.typeIn K (.ref (ma K (c_BadStudy K) "__init__")) = some (.type "function")),
  fun K => decide (PySem.W.typeIn K (.ref (ma K (c_BadWorths K) "__init__")) = some (.type "function")),
  fun K => decide (PySem.W.typeIn K (.ref (ma K (c_BadWorld K) "__init__")) = some (.type "function")),
  fun K => decide (PySem.W.typeIn K (.ref (ma K (c_BadCosts K) "__init__")) = some (.type "function")),
  fun K => decide (PySem.W.typeIn K (.ref (ma K (c_BadNest K) "__init__")) = some (.type "function")),
  fun K => decide (PySem.W.typeIn K (.ref (ma K (c_BadBoard K) "__init__")) = some (.type "function")),
  fun K => decide (PySem.W.typeIn K (.ref (ma K (c_BadNumbers K) "__init__")) = some (.type "function")),
  fun K => decide (PySem.W.typeIn K (.ref (ma K (c_BadBet K) "__init__")) = some (.type "function")),
  fun K => decide (PySem.W.typeIn K (.ref (ma K (c_BadShelf K) "__init__")) = some (.type "function")),
  fun K => decide (PySem.W.typeIn K (.ref (ma K (c_BadHall K) "__init__")) = some (.type "function")),
  fun K => decide (PySem.W.typeIn K (.ref (ma K (c_BadLog K) "__init__")) = some (.type "function")),
  fun K => decide (PySem.W.typeIn K (.ref (ma K (c_BadStory K) "__init__")) = some (.type "function")),
  fun K => decide (PySem.W.typeIn K (.ref (ma K (c_BadPaper K) "__init__")) = some (.type "function")),
  fun K => decide (PySem.W.typeIn K (.ref (ma K (c_Missing K) "__init__")) = some (.type "function")),
  fun K => decide (PySem.W.typeIn K (.ref (ma K (c_Twice K) "__init__")) = some (.type "function")),
  fun K => decide (PySem.W.typeIn K (.ref (ma K (c_UnlikeSigns K) "__init__")) = some (.type "function")),
  fun K => decide (PySem.W.typeIn K (.ref (ma K (c_UnlikeArms K) "__init__")) = some (.type "function")),
  fun K => decide (PySem.W.typeIn K (.ref (ma K (c_Unsure K) "__init__")) = some (.type "function")),
  fun K => decide (PySem.W.typeIn K (.ref (ma K (c_Unfair K) "__init__")) = some (.type "function")),
  fun K => decide (PySem.W.typeIn K (.ref (ma K (c_NoPurse K) "__init__")) = some (.type "function")),
  fun K => decide (PySem.W.typeIn K (.ref (ma K (c_NotWithin K) "__init__")) = some (.type "function")),
  fun K => decide (PySem.W.typeIn K (.ref (ma K (c_Over K) "__init__")) = some (.type "function")),
  fun K => decide (PySem.W.typeIn K (.ref (ma K (c_Refuted K) "__init__")) = some (.type "function")),
  fun K => decide (PySem.W.typeIn K (.ref (ma K (c_TooMany K) "__init__")) = some (.type "function")),
  fun K => decide (PySem.W.typeIn K (.ref (ma K (c_BadText K) "__init__")) = some (.type "function")),
  fun K => decide (PySem.W.typeIn K (.ref (ma K (c_BadLine K) "__init__")) = some (.type "function")),
  fun K => eqB (PySem.W.findIn K (.ref (ga K "BadRatio")) "__init__") (some (some (.ref (ma K (c_BadRatio K) "__init__")))),
  fun K => eqB (PySem.W.findIn K (.ref (ga K "BadCrowd")) "__init__") (some (some (.ref (ma K (c_BadCrowd K) "__init__")))),
  fun K => eqB (PySem.W.findIn K (.ref (ga K "BadTable")) "__init__") (some (some (.ref (ma K (c_BadTable K) "__init__")))),
  fun K => eqB (PySem.W.findIn K (.ref (ga K "BadChances")) "__init__") (some (some (.ref (ma K (c_BadChances K) "__init__")))),
  fun K => eqB (PySem.W.findIn K (.ref (ga K "BadWatch")) "__init__") (some (some (.ref (ma K (c_BadWatch K) "__init__")))),
  fun K => eqB (PySem.W.findIn K (.ref (ga K "BadStudy")) "__init__") (some (some (.ref (ma K (c_BadStudy K) "__init__")))),
  fun K => eqB (PySem.W.findIn K (.ref (ga K "BadWorths")) "__init__") (some (some (.ref (ma K (c_BadWorths K) "__init__")))),
  fun K => eqB (PySem.W.findIn K (.ref (ga K "BadWorld")) "__init__") (some (some (.ref (ma K (c_BadWorld K) "__init__")))),
  fun K => eqB (PySem.W.findIn K (.ref (ga K "BadCosts")) "__init__") (some (some (.ref (ma K (c_BadCosts K) "__init__")))),
  fun K => eqB (PySem.W.findIn K (.ref (ga K "BadNest")) "__init__") (some (some (.ref (ma K (c_BadNest K) "__init__")))),
  fun K => eqB (PySem.W.findIn K (.ref (ga K "BadBoard")) "__init__") (some (some (.ref (ma K (c_BadBoard K) "__init__")))),
  fun K => eqB (PySem.W.findIn K (.ref (ga K "BadNumbers")) "__init__") (some (some (.ref (ma K (c_BadNumbers K) "__init__")))),
  fun K => eqB (PySem.W.findIn K (.ref (ga K "BadBet")) "__init__") (some (some (.ref (ma K (c_BadBet K) "__init__")))),
  fun K => eqB (PySem.W.findIn K (.ref (ga K "BadShelf")) "__init__") (some (some (.ref (ma K (c_BadShelf K) "__init__")))),
  fun K => eqB (PySem.W.findIn K (.ref (ga K "BadHall")) "__init__") (some (some (.ref (ma K (c_BadHall K) "__init__")))),
  fun K => eqB (PySem.W.findIn K (.ref (ga K "BadLog")) "__init__") (some (some (.ref (ma K (c_BadLog K) "__init__")))),
  fun K => eqB (PySem.W.findIn K (.ref (ga K "BadStory")) "__init__") (some (some (.ref (ma K (c_BadStory K) "__init__")))),
  fun K => eqB (PySem.W.findIn K (.ref (ga K "BadPaper")) "__init__") (some (some (.ref (ma K (c_BadPaper K) "__init__")))),
  fun K => eqB (PySem.W.findIn K (.ref (ga K "NoSign")) "__init__") (some (some (.ref (ma K (c_Missing K) "__init__")))),
  fun K => eqB (PySem.W.findIn K (.ref (ga K "NoState")) "__init__") (some (some (.ref (ma K (c_Missing K) "__init__")))),
  fun K => eqB (PySem.W.findIn K (.ref (ga K "NoEnd")) "__init__") (some (some (.ref (ma K (c_Missing K) "__init__")))),
  fun K => eqB (PySem.W.findIn K (.ref (ga K "NoArm")) "__init__") (some (some (.ref (ma K (c_Missing K) "__init__")))),
  fun K => eqB (PySem.W.findIn K (.ref (ga K "NoStudy")) "__init__") (some (some (.ref (ma K (c_Missing K) "__init__")))),
  fun K => eqB (PySem.W.findIn K (.ref (ga K "Twice")) "__init__") (some (some (.ref (ma K (c_Twice K) "__init__")))),
  fun K => eqB (PySem.W.findIn K (.ref (ga K "Over")) "__init__") (some (some (.ref (ma K (c_Over K) "__init__")))),
  fun K => eqB (PySem.W.findIn K (.ref (ga K "UnlikeSigns")) "__init__") (some (some (.ref (ma K (c_UnlikeSigns K) "__init__")))),
  fun K => eqB (PySem.W.findIn K (.ref (ga K "Unsure")) "__init__") (some (some (.ref (ma K (c_Unsure K) "__init__")))),
  fun K => eqB (PySem.W.findIn K (.ref (ga K "NoPurse")) "__init__") (some (some (.ref (ma K (c_NoPurse K) "__init__")))),
  fun K => eqB (PySem.W.findIn K (.ref (ga K "UnlikeArms")) "__init__") (some (some (.ref (ma K (c_UnlikeArms K) "__init__")))),
  fun K => eqB (PySem.W.findIn K (.ref (ga K "Unfair")) "__init__") (some (some (.ref (ma K (c_Unfair K) "__init__")))),
  fun K => eqB (PySem.W.findIn K (.ref (ga K "NotWithin")) "__init__") (some (some (.ref (ma K (c_NotWithin K) "__init__")))),
  fun K => eqB (PySem.W.findIn K (.ref (ga K "Refuted")) "__init__") (some (some (.ref (ma K (c_Refuted K) "__init__")))),
  fun K => eqB (PySem.W.findIn K (.ref (ga K "TooMany")) "__init__") (some (some (.ref (ma K (c_TooMany K) "__init__")))),
  fun K => eqB (PySem.W.findIn K (.ref (ga K "BadText")) "__init__") (some (some (.ref (ma K (c_BadText K) "__init__")))),
  fun K => eqB (PySem.W.findIn K (.ref (ga K "BadLine")) "__init__") (some (some (.ref (ma K (c_BadLine K) "__init__")))),
  fun K => eqB (PySem.W.findIn K (.ref (cM K)) "__init__") (some (some (.ref (ma K (c_Missing K) "__init__"))))]
end K00
end

section -- K00ze
set_option linter.all false
set_option maxRecDepth 100000
set_option maxHeartbeats 0
namespace K00
open PySem PySem.Spec L2 Pk
abbrev oRow : PySem.W.OpenRow := PySem.W.OpenLaw.row PySem.Challenge.rw_peekproof_k00_errors_and_kinds_of_values
abbrev vw : Program := PySem.W.view oRow.prog [0, 72]
def loose : List Str := [("_wall" : Str), ("__name__" : Str), ("_LETTERS" : Str), ("_NAME_SIGNS" : Str), ("_MOST_LETTERS" : Str), ("_MOST_NAMES" : Str), ("is_integer" : Str), ("is_within" : Str), ("is_name" : Str), ("is_label" : Str), ("PeekError" : Str), ("BadRatio" : Str), ("BadCrowd" : Str), ("BadTable" : Str), ("BadChances" : Str), ("BadWatch" : Str), ("BadStudy" : Str), ("BadWorths" : Str), ("BadWorld" : Str), ("BadCosts" : Str), ("BadNest" : Str), ("BadBoard" : Str), ("BadNumbers" : Str), ("BadBet" : Str), ("BadShelf" : Str), ("BadHall" : Str), ("BadLog" : Str), ("BadStory" : Str), ("BadPaper" : Str), ("Missing" : Str), ("NoSign" : Str), ("NoState" : Str), ("NoEnd" : Str), ("NoArm" : Str), ("NoStudy" : Str), ("Twice" : Str), ("UnlikeSigns" : Str), ("UnlikeArms" : Str), ("Unsure" : Str), ("Unfair" : Str), ("NoPurse" : Str), ("NotWithin" : Str), ("Over" : Str), ("Refuted" : Str), ("Nothing" : Str), ("TooMany" : Str), ("BadText" : Str), ("BadLine" : Str), ("_DIGITS" : Str), ("Ratio" : Str), ("as_ratio" : Str), ("ratio_of_word" : Str), ("_is_whole_number" : Str), ("_other_ratio" : Str), ("_law_pen" : Str), ("_law_draw" : Str), ("_law_pick" : Str), ("_law_parts" : Str), ("_law_parts_named" : Str), ("_law_others" : Str), ("_law_others_named" : Str), ("_law_fields" : Str), ("_law_kin" : Str), ("_law_errors_right" : Str), ("_law_is_name" : Str), ("_law_is_label" : Str), ("_law_word" : Str), ("_law_kinds_right" : Str)]
def places : List Addr := [3, 56, 63, 68, 73, 83, 103, 122, 141, 160, 179, 198, 217, 236, 255, 274, 293, 312, 331, 350, 369, 388, 407, 426, 445, 457, 469, 481, 493, 505, 524, 543, 562, 581, 600, 619, 638, 657, 676, 688, 707, 726, 745, 885, 918, 925, 932, 939, 946, 953, 960, 967, 974, 979, 986, 991, 996, 1003, 1010, 55, 62, 67, 72, 82, 102, 121, 140, 159, 178, 197, 216, 235, 254, 273, 292, 311, 330, 349, 368, 387, 406, 425, 444, 456, 468, 480, 492, 504, 523, 542, 561, 580, 599, 618, 637, 656, 675, 687, 706, 725, 744, 884, 917, 924, 931, 938, 945, 952, 959, 966, 973, 978, 985, 990, 995, 1002, 1009, 100, 119, 138, 157, 176, 195, 214, 233, 252, 271, 290, 309, 328, 347, 366, 385, 404, 423, 442, 521, 540, 559, 578, 597, 616, 635, 654, 673, 704, 723, 742, 762, 855, 862, 99, 118, 137, 156, 175, 194, 213, 232, 251, 270, 289, 308, 327, 346, 365, 384, 403, 422, 441, 520, 539, 558, 577, 596, 615, 634, 653, 672, 703, 722, 741, 761, 755, 854, 861]
abbrev hz : PySem.W.Hook := hookP places looks fns
def oz (s : PySem.W.SharedT) : Seen := seenOf looks fns (He.frG (HandSHeadRun.getT s) places)
theorem oz_eq (s : PySem.W.SharedT) : oz s = hz.obs s.abs := by
  have e : HandSHeadRun.getT s = s.abs.heap.get? := funext (HandSHeadRun.getT_eq s)
  show seenOf looks fns (He.frG (HandSHeadRun.getT s) places) = seenOf looks fns (He.frG s.abs.heap.get? places)
  rw [e]
theorem run (w : World) : HandSHeadRun.RunEqI oRow vw hz oz 24000 loose w := by
  unfold HandSHeadRun.RunEqI
  kernel_rfl
end K00
end

section -- PkA
set_option linter.all false
set_option maxRecDepth 100000
set_option maxHeartbeats 2000000
/-! PkA: rules of our own for the laws of Peekproof: calls by one form, static methods, the exception that is kept, repr of data. -/
namespace Pk
open PySem PySem.Spec L2
open PyProof.Rows hiding St

/-! ### calls: what is asked may hang on the caller's slots -/
def CallS (X : Cx) (f : Value) (r : St → List V → Hp → VK → Prop) : Prop :=
  ∀ (pins : List (Addr × Obj)) (s : Shared) (σ : St) (H : Hp) (vs : List V) (us : List Value) (Q : VK), Inv X pins σ H s → Vals vs us → r σ vs H Q →
    wpAny (model X.prog X.w) X.A (call f us) (EP X pins σ Q) X.xe s
theorem calls_of {X : Cx} {f : Value} {r : List V → Hp → VK → Prop} (c : CallR X f r) : CallS X f (fun _ => r) :=
  fun pins s σ H vs us Q I rv q => c pins s σ H vs us Q I rv q
section
variable {X : Cx} {CX : CXT} {k : Nat} {f C : Addr} {fd : FuncData} {ps : List Str} {sp : Sp} {dvs : List V} {ds : List Value}
theorem calls_fn {E : XK} (F : FnOk X.prog X.w X.K X.mg X.base CX k f fd ps sp) (hr : Room k X.A) (hb : Binds X.K fd ps ds) (hd : Vals dvs ds) (hx : Passes CX X E) :
    CallS X (.ref f) (fun _ vs H Q => sp (vs ++ dvs) H Q E) :=
  fun _ _ _ _ _ _ _ I rv q => run_fn F hr hb hd hx I rv q
theorem calls_fnS {E : St → XK} (F : FnOk X.prog X.w X.K X.mg X.base CX k f fd ps sp) (hr : Room k X.A) (hb : Binds X.K fd ps ds) (hd : Vals dvs ds) (hx : ∀ σ, PassesAt CX X σ (E σ)) :
    CallS X (.ref f) (fun σ vs H Q => sp (vs ++ dvs) H Q (E σ)) :=
  fun _ _ σ _ _ _ _ I rv q => run_fnSD F hr hb hd (hx σ) I rv q
theorem calls_make {E : XK} (M : Mk X.K C f) (F : FnOk X.prog X.w X.K X.mg X.base CX k f fd ps sp) (hr : Room (k + 1) X.A) (hb : Binds X.K fd ps ds) (hd : Vals dvs ds) (hx : Passes CX X E) :
    CallS X (.ref C) (fun _ vs H Q => ∀ x dx, H x = none → H dx = none → dx ≠ x → sp (.ref x :: (vs ++ dvs)) (upd (upd H dx (.own x)) x (.ins C dx [])) (fun v H2 => v = .non ∧ Q (.ref x) H2) E) :=
  fun _ _ _ _ _ _ _ I rv q => run_make M F hr hb hd hx I rv q
end
/-- f(e, ..), f a name of the module -/
def tCS (r : St → List V → Hp → VK → Prop) (t : TA) : TE := fun σ H Q => t σ H fun vs H1 => r σ vs H1 Q
section
variable {X : Cx} {f : Addr} {r : St → List V → Hp → VK → Prop} {x : Str} {p pos apos : Pos} {e o : Expr} {es : List Expr} {t : TA} {ta : TE}
theorem pe_cs (c : CallS X (.ref f) r) (hm : X.mg x = some (.ref f)) (hk : PySem.W.keepIn X.K (.ref f) = true) (ha : PA X (e :: es) t) (hg : Gl X x := by rfl)
    (hdb : (x == ("__debug__" : Str)) = false := by decide) (he : starEach (e :: es) X.env = (false, eval e X.env) :: starEach es X.env := by rfl) (hpl : (backTo pos (starEach es X.env)).any (·.1) = false := by rfl) :
    PE X (.Call (.Name x p) (e :: es) [] pos) (tCS r t) := by
  refine ⟨fun pins s σ H Q I q => ?_⟩
  refine wpAny_Call_Name_kw (ld_glob I hg hm ?_ hdb)
  exact PySem.W.callWith_K (h₀ := X.base) I.ok.mod.kin hk (thn (ha.run pos pins s σ H _ I q) fun us s1 ⟨vs, H1, I1, rv, q1⟩ => ⟨I1.kIn, c pins s1 σ H1 vs us Q I1 rv q1⟩) he hpl
/-- what the text tells of a static method m of the class at C: its record at p, its def at g -/
structure StM (K : PySem.W.Frag) (C : Addr) (mc : Value) (m : Str) (p g : Addr) : Prop where
  look : PySem.W.findCls K (.ref C) mc m = some (.get (.builtin "staticmethod.__get__") (.ref p) .none (.ref C))
  rcd : ∃ more, PySem.W.recIn K p "staticmethod" = some (.ref g :: more)
  keep : PySem.W.keepIn K (.ref g) = true
theorem getstat_ok {C q g : Addr} {mc : Value} {m : Str} {pins : List (Addr × Obj)} {σ : St} {H : Hp} {s : Shared} {A : Around} {E : Value → Shared → Prop} {pl : Sem Bool} {Q : Value × List Value → Shared → Prop}
    (I : Inv X pins σ H s) (rd : ClX.CRead X.K C mc) (k : StM X.K C mc m q g) (h : ∀ s', Inv X pins σ H s' → Q (.ref g, []) s') : wpAny (model X.prog X.w) A (getMethod (.ref C) m pl) Q E s := by
  obtain ⟨more, hp⟩ := k.rcd
  refine PySem.W.method_cls I.kIn rd.ga (PySem.W.cls_bind I.kIn rd.rd k.look ?_)
  refine wpAny_call (PySem.W.sm_get (s := { s with toks := s.toks + 1 }) I.kIn hp (PySem.W.handed_on rfl ?_))
  exact h _ (I.tok _)
/-- C.m(e, ..), m a static method -/
def tSt (C : Addr) (r : St → List V → Hp → VK → Prop) (ta : TE) (t : TA) : TE := fun σ H Q => ta σ H fun x H1 => x = .ref C ∧ t σ H1 fun vs H2 => r σ vs H2 Q
theorem pe_stat {C q g : Addr} {mc : Value} {m : Str} {pl : Sem Bool} (ho : PE X o ta) (rd : ClX.CRead X.K C mc) (k : StM X.K C mc m q g) (c : CallS X (.ref g) r) (ha : PA X (e :: es) t)
    (he : starEach (e :: es) X.env = (false, eval e X.env) :: starEach es X.env := by rfl) (hpl : (backTo pos (starEach es X.env)).any (·.1) = false := by rfl)
    (ht : eval (.Call (.Attribute o m apos) (e :: es) [] pos) X.env = (do let z ← eval o X.env; standAt apos.atName; let (fn, fs) ← holding [z] (getMethod z m pl); callWith pos fn fs (backTo pos (starEach (e :: es) X.env)) (backToKw pos (keywordEach [] X.env))) := by rfl) :
    PE X (.Call (.Attribute o m apos) (e :: es) [] pos) (tSt C r ta t) := by
  refine ⟨fun pins s σ H Q I w => ?_⟩
  refine PySem.W.methodCall_KW (pl := pl) (thn (ho.run pins s σ H _ I w) fun u s1 ⟨x, H1, I1, rx, ex, w1⟩ => ?_) ht
  subst ex
  obtain rfl : u = Value.ref C := rx
  refine getstat_ok I1 rd k fun s2 I2 => ?_
  exact PySem.W.callWith_K (first := []) (h₀ := X.base) I2.ok.mod.kin k.keep (thn (ha.run pos pins s2 σ H1 _ I2 w1) fun us s3 ⟨vs, H2, I3, rv, w2⟩ => ⟨I3.kIn, c pins s3 σ H2 vs us Q I3 rv w2⟩) he hpl
end

/-! ### a callee, run where a built-in calls it -/
def RunAt (X : Cx) (A : Around) (f : Addr) (r : List V → Hp → VK → Prop) : Prop :=
  ∀ (pins : List (Addr × Obj)) (s : Shared) (σ : St) (H : Hp) (vs : List V) (us : List Value) (Q : VK), Inv X pins σ H s → Vals vs us → r vs H Q → wpAny (model X.prog X.w) A (call (.ref f) us) (EP X pins σ Q) X.xe s
theorem env0_at {X : Cx} {A : Around} {pins : List (Addr × Obj)} {σ : St} {H : Hp} {s : Shared} (I : Inv X pins σ H s) (hA : A.frames = X.A.frames) : Env0 X.prog X.w X.K X.mg X.base A X.stack s H := by
  have e := I.env0
  exact ⟨hA.trans e.frames, e.mod, e.bs, e.bsz, e.funs, e.frf, e.hok, e.bare⟩
section
variable {X : Cx} {CX : CXT} {k : Nat} {f C : Addr} {fd : FuncData} {ps : List Str} {sp : Sp} {E : XK} {A : Around}
theorem endOf {pins : List (Addr × Obj)} {σ : St} {H : Hp} {s : Shared} {Q : VK} (hx : Passes CX X E) (I : Inv X pins σ H s) {r : Result} {s' : Shared} (q : CR CX X.stack X.prog X.w H s Q E r s') :
    (∃ u, r = .ok (.ret u) ∧ EP X pins σ Q u s') ∨ ∃ e, r = .error e ∧ X.xe e s' := by
  cases r with
  | error e => exact .inr ⟨e, rfl, hx pins σ H s e s' I q⟩
  | ok fl =>
    cases fl with
    | ret u => exact .inl ⟨u, rfl, I.after q⟩
    | next => exact (show False from q).elim
    | brk => exact (show False from q).elim
    | cont => exact (show False from q).elim
theorem runAt_fn (F : FnOk X.prog X.w X.K X.mg X.base CX k f fd ps sp) (hr : Room k A) (hA : A.frames = X.A.frames) (hb : Binds X.K fd ps []) (hx : Passes CX X E) : RunAt X A f (fun vs H Q => sp vs H Q E) := by
  intro pins s σ H vs us Q I rv q
  have hl : us.length = ps.length := rv.length.symm.trans (F.len _ _ _ _ q)
  have b := hb s us I.kIn (by rw [List.append_nil]; exact hl)
  rw [List.append_nil] at b
  refine wpAny_call (codeAny_mono (F.run A X.stack s H ⟨us, []⟩ us vs Q E hr (env0_at I hA) b rv q) fun r s' w => ?_)
  rcases endOf hx I w with ⟨u, rfl, z⟩ | ⟨e, rfl, z⟩
  · exact z
  · exact z
end
/-! ### defs that are known where nothing is being shown: repr -/
/-- as FnOk, where no repr is under way -/
structure FnG (P : Program) (w : World) (K : PySem.W.Frag) (mg : Str → Option Value) (base : Heap) (CX : CXT) (k : Nat) (f : Addr) (fd : FuncData) (ps : List Str) (sp : Sp) : Prop where
  len : ∀ vs H Q E, sp vs H Q E → vs.length = ps.length
  go : ∀ (A : Around) (l : List Env) (s : Shared) (H : Hp) (args : Args) (us : List Value) (vs : List V) (Q : VK) (E : XK), Room k A → A.guards = some [] → Env0 P w K mg base A l s H → BindsTo s fd args (ps.zip us) → Vals vs us →
    sp vs H Q E → codeAny (model P w) A (.call (.ref f) args) (CR CX l P w H s Q E) s
section
variable {P : Program} {w : World} {K : PySem.W.Frag} {mg : Str → Option Value} {base : Heap} {CX : CXT} {k j : Nat} {f : Addr} {fd : FuncData} {ps : List Str} {sp : Sp}
theorem FnG.of (F : FnOk P w K mg base CX k f fd ps sp) : FnG P w K mg base CX k f fd ps sp := ⟨F.len, fun A l s H args us vs Q E hr _ e0 hb rv q => F.run A l s H args us vs Q E hr e0 hb rv q⟩
theorem FnG.mono (F : FnG P w K mg base CX j f fd ps sp) (h : j ≤ k) : FnG P w K mg base CX k f fd ps sp := ⟨F.len, fun A l s H args us vs Q E hr => F.go A l s H args us vs Q E (hr.mono h)⟩
/-- the rule for such a def -/
theorem fnG_of {x qual : Str} {st : Stmt} {N : List Str} (F : Fun K x qual st f fd) (S : FnScope N ps (defScope st)) (len : ∀ vs H Q E, sp vs H Q E → vs.length = ps.length)
    (body : ∀ (cdv : Value) (A : Around) (l : List Env) (s : Shared) (H : Hp) (vs : List V) (Q : VK) (E : XK), Room k (A.deeper (envOfC qual (defScope st) s.heap.objs.size f cdv)) → A.guards = some [] → sp vs H Q E →
      ∃ t, PSs (cxOf CX P w K mg base N qual (defScope st) f cdv A l s H E) (defBody st) t ∧ t { nx := fun _ G => Q .non G, rt := Q } (start N vs) H) : FnG P w K mg base CX (k + 1) f fd ps sp := by
  obtain ⟨oc, od, kV, doc, pm, an, cdv, ct, osl, rfl, lk, hcd⟩ := F.ex
  refine ⟨len, fun A l s H args us vs Q E hr hg e0 hb rv q => ?_⟩
  have old : ∀ b o, base.get? b = some o → s.heap.get? b = some o := fun b o e => (e0.bs b o e).1
  refine codeAny_call_function hr.depth (e0.mod.kin.keeps old _ _ lk) rfl S.co S.gen rfl (PySem.W.codeRec_of (e0.mod.kin.keeps old) hcd) (hb _ _ _ _ ?_)
  refine wpAny_newFunctionEnv_cells S.kind (fun ⟨n, v⟩ hy => ?_) fun env he s1 x => ?_
  · rcases S.par n (List.of_mem_zip hy).1 with z | z
    · exact .inl z
    · exact .inr ⟨z, PySem.W.cellsFrom_some _ _ _ (.inl z)⟩
  subst he
  refine ⟨(e0.mod.nolimit.keeps old).keeps x.toInCall.keep, codeAny_func ?_⟩
  obtain ⟨t, ht, hq⟩ := body cdv A l s H vs Q E (hr.deeper _) hg q
  refine wpAny_mono (ht.run [] s1 (start N vs) H _ (inv_start S hr.hd e0 (len _ _ _ _ q) rv x) hq) (fun fl s' z => ?_) fun e s' z => z
  cases fl with
  | ret u =>
    obtain ⟨v, σ1, G, J, ru, y⟩ := z
    exact ⟨v, G, J.os, J.bare, J.base, J.hok, ru, y⟩
  | next =>
    obtain ⟨σ1, G, J, y⟩ := z
    exact ⟨.non, G, J.os, J.bare, J.base, J.hok, rfl, y⟩
  | brk =>
    obtain ⟨_, _, _, y⟩ := z
    exact (show False from y).elim
  | cont =>
    obtain ⟨_, _, _, y⟩ := z
    exact (show False from y).elim
end
section
variable {X : Cx} {CX : CXT} {k : Nat} {f C : Addr} {fd : FuncData} {ps : List Str} {sp : Sp} {A : Around}
theorem callsG {E : XK} {dvs : List V} {ds : List Value} (F : FnG X.prog X.w X.K X.mg X.base CX k f fd ps sp) (hr : Room k X.A) (hg : X.A.guards = some []) (hb : Binds X.K fd ps ds) (hd : Vals dvs ds) (hx : Passes CX X E) :
    CallS X (.ref f) (fun _ vs H Q => sp (vs ++ dvs) H Q E) := by
  intro pins s σ H vs us Q I rv q
  have r2 := rv.append hd
  have hl : (us ++ ds).length = ps.length := r2.length.symm.trans (F.len _ _ _ _ q)
  refine wpAny_call (codeAny_mono (F.go X.A X.stack s H ⟨us, []⟩ (us ++ ds) (vs ++ dvs) Q E hr hg I.env0 (hb s us I.kIn hl) r2 q) fun r s' w => ?_)
  rcases endOf hx I w with ⟨u, rfl, z⟩ | ⟨e, rfl, z⟩
  · exact z
  · exact z
/-- repr(x), x data: None, a bool, an int, a text in lists and tuples -/
def rReprD (K : PySem.W.Frag) : List V → Hp → VK → Prop := fun vs H Q => ∃ (a : Addr) (d : PyData), vs = [.ref a] ∧ Dp K H (.ref a) d ∧ d.showable = true ∧ d.hasDict = false ∧ d.depth ≤ 40 ∧ d.shown.length ≤ sizeLine ∧ Q (.str d.shown) H
theorem call_reprD (hg : X.A.guards = some []) (hu : X.A.units + 64 < cLine) : CallR X (.builtin "repr") (rReprD X.K) := by
  intro pins s σ H vs us Q I rv q
  obtain ⟨a, d, rfl, hd, h1, h2, h3, h4, q⟩ := q
  cases rv with
  | cons ra rn =>
    cases rn
    obtain ⟨as, rd⟩ := Dp.reads I d _ _ hd ra
    cases ra
    refine PySem.repr_of_reads' rd h1 (PyData.noDict_hsm h2) hg (by omega) (fun _ _ e => e) (fun h' u tk kp => ?_) h4
    exact ⟨.str d.shown, H, I.kept (t' := tk) kp, ⟨u, rfl⟩, q⟩
/-- repr(o), str(o) by o's own method: what it promises, a text -/
def rOwnT (C : Addr) (r : List V → Hp → VK → Prop) : List V → Hp → VK → Prop := fun vs H Q => ∃ (a dx : Addr) (fs : List (Str × V)), vs = [.ref a] ∧ H a = some (.ins C dx fs) ∧ r [.ref a] H fun v G => ∃ y, v = .str y ∧ Q (.str y) G
theorem backT {pins : List (Addr × Obj)} {σ : St} {Q : VK} {u : Value} {s' : Shared} (z : EP X pins σ (fun v G => ∃ y, v = V.str y ∧ Q (.str y) G) u s') : PySem.W.StrBack (EP X pins σ Q) u s' := by
  obtain ⟨v, G, J, ru, y, rfl, q⟩ := z
  obtain ⟨t, rfl⟩ := ru
  exact ⟨.str y, G, J, ⟨t, rfl⟩, q⟩
theorem call_reprO {r : List V → Hp → VK → Prop} (hu : X.A.in1.units < cLine) (hs : PySem.W.findIn X.K (.ref C) "__repr__" = some (some (.ref f))) (hf : PySem.W.isFn X.K (.ref f) = true) (c : RunAt X X.A.in1 f r) : CallR X (.builtin "repr") (rOwnT C r) := by
  intro pins s σ H vs us Q I rv q
  obtain ⟨a, dx, fs, rfl, ha, q⟩ := q
  cases rv with
  | cons ra rn =>
    cases rn
    obtain ⟨mA, O, _⟩ := ins_get I.hok ha
    obtain ⟨od, J, _⟩ := O.look
    obtain ⟨m, hF⟩ := I.fr
    cases (show _ = Value.ref a from ra)
    exact PySem.W.repr_K hu hF I.ok.mod.kin J hs hf (thn (c pins s σ H [.ref a] [.ref a] _ I (.cons rfl .nil) q) fun u s1 z => backT z)
theorem call_strO {r : List V → Hp → VK → Prop} (hu : X.A.in1.in1.units < cLine) (hs : PySem.W.findIn X.K (.ref C) "__str__" = some (some (.ref f))) (hf : PySem.W.isFn X.K (.ref f) = true) (c : RunAt X X.A.in1.in1 f r) : CallR X (.type "str") (rOwnT C r) := by
  intro pins s σ H vs us Q I rv q
  obtain ⟨a, dx, fs, rfl, ha, q⟩ := q
  cases rv with
  | cons ra rn =>
    cases rn
    obtain ⟨mA, O, _⟩ := ins_get I.hok ha
    obtain ⟨od, J, _⟩ := O.look
    cases (show _ = Value.ref a from ra)
    exact PySem.W.kso_call hu I.kIn J hs hf (thn (c pins s σ H [.ref a] [.ref a] _ I (.cons rfl .nil) q) fun u s1 z => backT z)
/-- x == y by x's own __eq__, which answers True or False -/
def rOwnEq (C : Addr) (r : List V → Hp → VK → Prop) : R2 := fun x y H Q => ∃ (a dx b dy : Addr) (fs gs : List (Str × V)), x = .ref a ∧ H a = some (.ins C dx fs) ∧ y = .ref b ∧ H b = some (.ins C dy gs) ∧ r [.ref a, .ref b] H fun v G => ∃ c, v = .bl c ∧ Q (.bl c) G
theorem op_eqO {r : List V → Hp → VK → Prop} (hu : X.A.units < cLine) (hs : PySem.W.findIn X.K (.ref C) "__eq__" = some (some (.ref f))) (hf : PySem.W.isFn X.K (.ref f) = true) (c : RunAt X X.A f r) : OpR X (compareOp .Eq) (rOwnEq C r) := by
  intro pins s σ H x y v u Q I rx ry q
  obtain ⟨a, dx, b, dy, fs, gs, rfl, ha, rfl, hb, q⟩ := q
  obtain ⟨mA, O, _⟩ := ins_get I.hok ha
  obtain ⟨od, J, _⟩ := O.look
  obtain ⟨mB, O2, _⟩ := ins_get I.hok hb
  obtain ⟨od2, J2, _⟩ := O2.look
  obtain ⟨m, hF⟩ := I.fr
  cases (show v = Value.ref a from rx)
  cases (show u = Value.ref b from ry)
  show wpAny _ X.A (richCompare .Eq (.ref a) (.ref b)) _ _ _
  refine PySem.W.cmp_K (op := .Eq) (tb := .ref C) hu hF I.ok.mod.kin J J2.type (by simp [PySem.W.notFirst]) hs hf (thn (c pins s σ H [.ref a, .ref b] [.ref a, .ref b] _ I (.cons rfl (.cons rfl .nil)) q) fun z s1 hz => ?_)
  obtain ⟨v, G, I1, rz, c, rfl, q1⟩ := hz
  cases rz
  exact ⟨.bl c, G, I1, rfl, q1⟩
end
end Pk
end

section -- PkB
set_option linter.all false
set_option maxRecDepth 100000
set_option maxHeartbeats 2000000
/-! PkB: an exception that is caught and kept in a local name. -/
namespace Pk
open PySem PySem.Spec L2
open PyProof.Rows hiding St

/-- at a: an exception of this class, with this dict, that is done with -/
def exq (cls : Value) (d : Option Addr) (a : Addr) : HO := .ext fun h => ∃ (oe : Obj) (vs : Array Value), h.get? a = some oe ∧ oe.cls = cls ∧ oe.dict = d ∧ oe.data = .fields vs
theorem exq_ok {P : Program} {w : World} {H : Hp} {h : Heap} {a : Addr} {cls : Value} {d : Option Addr} {oe : Obj} {vs : Array Value} (e : h.get? a = some oe) (z : Zc cls d oe) (hd : oe.data = .fields vs) : ObjOk P w H h a (exq cls d a) :=
  ⟨⟨oe, vs, e, z.1, z.2, hd⟩, ⟨oe, e⟩, fun h1 h2 p k => by
    obtain ⟨o, us, q, r⟩ := p
    exact ⟨o, us, k _ q, r⟩⟩
theorem exq_at {P : Program} {w : World} {H : Hp} {h : Heap} {a : Addr} {cls : Value} {d : Option Addr} (hok : HOk P w H h) (q : H a = some (exq cls d a)) : ∃ (oe : Obj) (vs : Array Value), h.get? a = some oe ∧ oe.cls = cls ∧ oe.dict = d ∧ oe.data = .fields vs := by
  have x : ObjOk P w H h a (.ext fun h => ∃ (oe : Obj) (vs : Array Value), h.get? a = some oe ∧ oe.cls = cls ∧ oe.dict = d ∧ oe.data = .fields vs) := hok a _ q
  exact x.1
section
variable {X : Cx} {pins : List (Addr × Obj)} {σ : L2.St} {H : Hp} {s : Shared} {a : Addr} {o : HO}
/-- an object of ours that was not tracked is tracked from here on -/
theorem inv_hold (I : L2.Inv X pins σ H s) (na : H a = none) (n0 : X.s_0.heap.get? a = none) (nL : a ≠ X.env.locals) (nC : ∀ x c, X.env.cells.lookup x = some c → c ≠ a) (nP : ∀ p ∈ X.pn ++ pins, p.1 ≠ a)
    (new : ObjOk X.prog X.w (upd H a o) s.heap a o) : L2.Inv X pins σ (upd H a o) s := by
  have ne : ∀ {b : Addr} {u : HO}, H b = some u → b ≠ a := fun q => ne_of_none q na
  have ne0 : ∀ {b : Addr} {u : Obj}, X.s_0.heap.get? b = some u → b ≠ a := fun {b u} q z => by
    rw [z, n0] at q
    cases q
  refine ⟨I.ok, I.os, I.bare, ⟨I.base.keep, I.base.slot, fun b u q n hx => ?_, I.base.there, fun b xs q => ?_, fun b u xs q => ?_, fun b q ps => ?_⟩, I.loc, I.cell, ?_, fun x c q => ?_, fun p hp => ?_, fun b u q => ?_, I.len⟩
  · rw [upd_ne (ne0 q)]
    exact I.base.free b u q n hx
  · have z := I.base.tups b xs q
    rw [upd_ne (ne z)]
    exact z
  · have z := I.base.frzs b u xs q
    rw [upd_ne (ne z)]
    exact z
  · obtain ⟨m, z⟩ := I.base.tbls b q ps
    exact ⟨m, by rw [upd_ne (ne z)]; exact z⟩
  · rw [upd_ne (Ne.symm nL)]
    exact I.free
  · rw [upd_ne (nC x c q)]
    exact I.freeC x c q
  · obtain ⟨e, n, r⟩ := I.pin p hp
    exact ⟨e, by rw [upd_ne (nP p hp)]; exact n, r⟩
  · by_cases hb : b = a
    · subst hb
      rw [upd_same] at q
      cases q
      exact new
    · rw [upd_ne hb] at q
      exact (I.hok b u q).stay (fun _ _ _ z => z) (fun c z => by rw [upd_ne (ne z)]; exact z) fun c xs z => by rw [upd_ne (ne z)]; exact z
theorem inv_suite0 (I : L2.Inv X pins σ H s) (a : Addr) : L2.Inv (X.suite a (X.pn ++ pins)) [] σ H s :=
  ⟨I.ok.suite a (X.pn ++ pins), I.os, I.bare, I.base, I.loc, I.cell, I.free, I.freeC, fun p hp => I.pin p (by rw [List.append_nil] at hp; exact hp), I.hok, I.len⟩
theorem inv_unsuite0 {more : List (Addr × Obj)} (I : L2.Inv (X.suite a (X.pn ++ pins)) more σ H s) (ok : X.Ok) : L2.Inv X pins σ H s :=
  ⟨ok, I.os, I.bare, I.base, I.loc, I.cell, I.free, I.freeC, fun p hp => I.pin p (List.mem_append_left more hp), I.hok, I.len⟩
end
/-- what the clause wishes of an exception of the body; slot i is its name's -/
def wKeep (K : PySem.W.Frag) (c : Value) (i : Nat) (ts : Addr → Value → Option Addr → TS) (D : Ends) : WX := fun cls d σ H => PySem.W.exmOne K cls c = some true ∧
  ∀ a, H a = none → ts a cls d { nx := fun σ1 H1 => D.nx (σ1.set i none) H1, rt := D.rt, bk := fun σ1 H1 => D.bk (σ1.set i none) H1, ct := fun σ1 H1 => D.ct (σ1.set i none) H1 } (σ.set i (some (.ref a))) (upd H a (exq cls d a))
section
variable {X : Cx} {x n : Str} {c : Value} {i : Nat} {body suite : List Stmt} {b₀ : Stmt} {np pos pos1 : Pos} {tb : WX → TS} {ts : Addr → Value → Option Addr → TS}
/-- try: body / except x as n: suite, every exception of the body being an x; it stays tracked -/
theorem ps_try_keep (hs : X.stack = X.env :: X.outer) (hf : X.env.frame = some X.env.locals) (hex : X.ex = []) (hN : X.N.Nodup) (hi : X.N[i]? = some n) (hln : X.env.kindOf n = some .local) (hc : Gl X x) (hm : X.mg x = some c)
    (hb : ∀ (W : WX) (pn : List (Addr × Obj)) (xe : Value → Shared → Prop), Takes (X.tr pn xe) W → PassesOwn (model X.prog X.w) X.A X.env xe → PSs (X.tr pn xe) body (tb W))
    (hsu : ∀ (a : Addr) (cls : Value) (d : Option Addr) (pn : List (Addr × Obj)), PSs (X.suite a pn) (b₀ :: suite) (ts a cls d)) (hdb : (x == ("__debug__" : Str)) = false := by decide) :
    PS X (.Try body [.ExceptHandler (some (.Name x np)) (some n) (b₀ :: suite) pos1] [] [] pos) (fun D σ H => tb (wKeep X.K c i ts D) D σ H) := by
  refine ⟨fun pins s σ H D I h => ?_⟩
  have ok := I.ok
  have hfr : X.A.frames = some (X.env :: X.outer) := by rw [ok.frames, hs]
  refine wpAny_Try_except ?_
  refine wpAny_mono ((hb (wKeep X.K c i ts D) (X.pn ++ pins) (fun e s₁ => wpAny (model X.prog X.w) X.A (noteFrame e X.env) (fun _ s₂ => wpAny (model X.prog X.w) X.A (setFlight e none) (fun _ s₃ =>
    wpAny (model X.prog X.w) X.A (handleBy e X.env [.ExceptHandler (some (.Name x np)) (some n) (b₀ :: suite) pos1]) (SP X pins D) X.xe s₃) X.xe s₂) X.xe s₁) (fun u s' xx => ?_) PassesOwn.looking).run [] s σ H D (I.toTry _) h) (fun f s1 hsp => ?_) (fun e s1 he => he)
  · obtain ⟨a, B, sI, pins', σ', H', cls, d, rfl, J', nb, up, sky, na, os, ag, hb1, hyes⟩ := xx
    have J : L2.Inv X pins σ' H' sI := J'.ofTry ok
    rw [show (X.tr (X.pn ++ pins) _).stack = X.env :: X.outer from hs] at sky
    show wpAny (model X.prog X.w) X.A (noteFrame (.ref a) X.env) _ _ _
    refine Sky.land Zc.steady hfr hf sky fun h3 fl3 up3 => ?_
    have J3 := J.landed nb fl3.1 (s' := { s' with heap := h3 }) (up.trans up3) os ag
    obtain ⟨oe3, vs3, he3, hz3, hd3⟩ := fl3.there
    have nfr : a ∉ frs X.stack := fun hm1 => by
      rw [hs] at hm1
      obtain ⟨_, o1, e1, z⟩ := fl3.2.2.1.mem hm1
      rw [he3] at e1
      cases e1
      exact z _ hd3
    have nL : a ≠ X.env.locals := fun z => nfr (by rw [hs]; exact List.mem_filterMap.mpr ⟨X.env, List.mem_cons_self, by rw [hf, z]⟩)
    have nI : sI.heap.get? a = none := by
      cases q : sI.heap.get? a with
      | none => rfl
      | some o1 =>
        have z := nb a o1 q nfr
        rw [fl3.2.1] at z
        cases z
    have n0 : X.s_0.heap.get? a = none := by
      cases q : X.s_0.heap.get? a with
      | none => rfl
      | some o1 =>
        obtain ⟨o2, z⟩ := J.base.there a o1 q (by rw [hex]; exact List.not_mem_nil)
        rw [nI] at z
        cases z
    have nC : ∀ y v, X.env.cells.lookup y = some v → v ≠ a := fun y v q z => by
      obtain ⟨_, o1, e1, _⟩ := J.cell y v q
      rw [z, nI] at e1
      cases e1
    have nP : ∀ p ∈ X.pn ++ pins, p.1 ≠ a := fun p hp z => by
      have e1 := (J.pin p hp).1
      rw [z, nI] at e1
      cases e1
    refine wpAny_handleBy_cons (codeAny_handlers_test ?_) (by intro q; cases q)
    have LT : PySem.W.Looks (model X.prog X.w) h3 (typeOf (.ref a)) cls := fun A Q E s k q => wpAny_typeOf_ref (k _ _ he3) (by rw [hz3.1]; exact q)
    have S3 := inv_suite0 J3 a
    refine ld_glob (X := X.suite a (X.pn ++ pins)) S3 hc hm ((PySem.W.exm_one (M := model X.prog X.w) J3.kIn LT hb1).here ?_) hdb
    refine codeAny_handlers_suite_as ?_
    refine HandSPX.lands_againZ fl3 fun h4 fl4 up4 => ?_
    have J4 := J.landed nb fl4.1 (s' := { s' with heap := h4 }) ((up.trans up3).trans up4) os ag
    obtain ⟨oe4, vs4, he4, hz4, hd4⟩ := fl4.there
    have S4 := inv_suite0 (inv_hold J4 na n0 nL nC nP (exq_ok he4 hz4 hd4)) a
    refine store_ok (X := X.suite a (X.pn ++ pins)) (v := .ref a) S4 hN hi (.inl hln) rfl (fun s5 S5 => ?_) (.inr hln)
    refine wpAny_mono ((hsu a cls d (X.pn ++ pins)).run [] s5 _ _ _ S5 (hyes a na)) (fun f s6 hsp => ?_) (fun _ _ z => False.elim z)
    have fin : ∀ {σ6 : L2.St} {H6 : Hp} {Q : Shared → Prop}, L2.Inv (X.suite a (X.pn ++ pins)) [] σ6 H6 s6 → (∀ s7, L2.Inv X pins (σ6.set i none) H6 s7 → Q s7) →
        wpAny (model X.prog X.w) X.A (do bindName X.env n .none; unbindBehindTheSuite X.env n pos1) (fun _ s7 => Q s7) X.xe s6 := fun S6 hq => gone_ok (inv_unsuite0 S6 ok) hN hi hln hq
    cases f with
    | next =>
      obtain ⟨σ6, H6, S6, q6⟩ := hsp
      exact fin S6 fun s7 J7 => ⟨_, _, J7, q6⟩
    | brk =>
      obtain ⟨σ6, H6, S6, q6⟩ := hsp
      exact fin S6 fun s7 J7 => ⟨_, _, J7, q6⟩
    | cont =>
      obtain ⟨σ6, H6, S6, q6⟩ := hsp
      exact fin S6 fun s7 J7 => ⟨_, _, J7, q6⟩
    | ret u =>
      obtain ⟨v6, σ6, H6, S6, r6, q6⟩ := hsp
      exact fin S6 fun s7 J7 => ⟨_, _, _, J7, r6, q6⟩
  · cases f with
    | next =>
      obtain ⟨σ1, H1, J1, q⟩ := hsp
      exact wpAny_execs_nil ⟨σ1, H1, J1.ofTry ok, q⟩
    | brk =>
      obtain ⟨σ1, H1, J1, q⟩ := hsp
      exact ⟨σ1, H1, J1.ofTry ok, q⟩
    | cont =>
      obtain ⟨σ1, H1, J1, q⟩ := hsp
      exact ⟨σ1, H1, J1.ofTry ok, q⟩
    | ret u =>
      obtain ⟨v, σ1, H1, J1, r, q⟩ := hsp
      exact ⟨v, σ1, H1, J1.ofTry ok, r, q⟩
end
end Pk
end

section -- PkC
set_option linter.all false
set_option maxRecDepth 100000
set_option maxHeartbeats 4000000
/-! PkC: what is asked of a kept exception: its fields, its class. -/
namespace Pk
open PySem PySem.Spec L2
open PyProof.Rows hiding St
section
variable {X : Cx} {e : Expr} {te : TE} {pos : Pos} {n : Str}
/-- e.n, e a kept exception of the class at C -/
def tXq (K : PySem.W.Frag) (C : Addr) (n : Str) (te : TE) : TE := fun σ H Q => te σ H fun x H1 => ∃ (a dd : Addr) (fs : List (Str × V)) (v : V), x = .ref a ∧ H1 a = some (exq (.ref C) (some dd) a) ∧ H1 dd = some (.xd fs) ∧ fs.lookup n = some v ∧ Q v H1
theorem pe_xq {C : Addr} (T : XfC X.K C) (hno : PySem.W.findIn X.K (.ref C) n = some none) (he : PE X e te) (hb : attributeBase e n X.env (eval e X.env) = eval e X.env := by rfl) : PE X (.Attribute e n pos) (tXq X.K C n te) := by
  refine ⟨fun pins s σ H Q I h => attr_of hb (thn (he.run pins s σ H _ I h) fun u s1 ⟨x, H1, I1, rx, a, dd, fs, v, ex, ea, ed, l, q⟩ => ?_)⟩
  subst ex
  obtain rfl : u = Value.ref a := rx
  obtain ⟨oe, vs, ho, hcl, hdc, hda⟩ := exq_at I1.hok ea
  have hx : ObjOk X.prog X.w H1 s1.heap dd (.xd fs) := I1.hok dd _ ed
  obtain ⟨mA, hns, hr⟩ := hx
  obtain ⟨od, hod, hl⟩ := lookIn_ns hns
  obtain ⟨y, hy, ry⟩ := RelO.some_of (v := v) (o := mA n) (by rw [← l]; exact hr n)
  have J : PySem.W.InstAt s1.heap a oe C (some od) := ⟨ho, hcl, (by unfold PySem.W.notCls; rw [hda] <;> rfl), (by rw [hdc]; exact hod)⟩
  exact HandSPX.exc_get I1.kIn J T.ga T.gg T.exC (PySem.W.findObj_own T.hdC hno rfl (by rw [hl, hy])) (handed_of ry) ⟨v, H1, I1.tok _, ry, q⟩
end
end Pk
namespace PySem.W
open PySem PySem.Spec PySem.Calls PyProof.Rows
section
variable {prog : Program} {w : World} {A : Around} {E : Value → Shared → Prop} {s : Shared} {K : Frag} {x D : Addr} {ox : Obj} {od : Option Obj}
theorem pk_find_data {name : Str} {a g : Value} (hc : (clsIn K D).isSome = true) (ha : findIn K (.ref D) name = some (some a)) (hg : specialIn K a "__get__" = some (some g)) (ht : takesIn K a = some true) : findObj K D od name = some (.bind g a) := by
  obtain ⟨cd, hcd⟩ := Option.isSome_iff_exists.mp hc
  unfold findObj
  rw [hcd, Option.bind_some, ha, Option.bind_some]
  simp only [hg, ht, Option.bind_some]
theorem pk_class (C : L2.ExcC K D) {Q : Option Value → Shared → Prop} (X : K.In s.heap) (I : InstAt s.heap x ox D od) (h : Q (some (.ref D)) { s with toks := s.toks + 1 }) : wpAny (model prog w) A (getAttr? (.ref x) "__class__") Q E s := by
  have hf : findObj K D od "__class__" = some (.bind (.builtin "getset_descriptor.__get__") (.builtin "object.__class__")) := pk_find_data (by obtain ⟨cd, hc, _⟩ := any_some C.hd; rw [hc] <;> rfl) C.ha C.hn C.ht
  obtain ⟨hp, g, d, t, os⟩ := s
  have T0 := I.type (M := model prog w)
  have T1 := looks_findIn (M := model prog w) X C.hg
  have T2 := looks_findIn (M := model prog w) X C.hk
  have T3 := looks_find (M := model prog w) X I hf
  have sub : Looks (model prog w) hp (isInstance (.ref x) (.type "BaseException")) true := T0.andThen (looks_subIn X C.hs)
  have b2 : (Value.builtin "BaseException.__getattribute__" == Value.builtin "object.__getattribute__") = false := by decide +kernel
  have b1 : (onTheHeap (Value.ref D) && Value.builtin "BaseException.__getattribute__" == Value.builtin "object.__getattribute__") = false := by rw [b2]; rfl
  have b0 : (false && onTheHeap (Value.builtin "BaseException.__getattribute__")) = false := rfl
  unfold getAttr? getAttrBy? getAttrBy
  refine wpAny_bind (wpAny_mkText (wpAny_bind (wpAny_attempt (wpAny_holding (wpAny_bind (T0.at (wpAny_bind (T1.at ?_))))))))
  show wpAny _ _ (if (onTheHeap (Value.ref D) && Value.builtin "BaseException.__getattribute__" == Value.builtin "object.__getattribute__") = true then _ else _) _ _ _
  rw [b1, if_neg Bool.false_ne_true]
  unfold getAttrByItsOwn hookBefore
  refine wpAny_bind ?_
  rw [if_pos (show onTheHeap (Value.ref D) = true from rfl)]
  refine T2.at (wpAny_bind (wpAny_attempt (wpAny_holding ?_)))
  unfold callGetattribute
  rw [b0, if_neg Bool.false_ne_true]
  unfold boundAndCalled
  rw [PySem.F.excAttr_ValueError.ga.bind (.ref x)]
  refine wpAny_bind (wpAny_pure ?_)
  show wpAny _ _ (call (.builtin "BaseException.__getattribute__") [.ref x, .str "__class__" t]) _ _ _
  refine wpAny_call (codeAny_call_builtin PySem.F.excAttr_ValueError.ga.plain PySem.F.entry_bexc_ga ?_)
  refine @check_slot (model prog w) _ _ ⟨hp, g, d, t + 1, os⟩ "BaseException.__getattribute__" "BaseException" "__getattribute__" (.ref x) [.str "__class__" t] [] _ (by decide +kernel) (by decide +kernel) sub (PySem.F.args_bexc_ga (.ref x) (.str "__class__" t)) ?_
  unfold Builtin.«object.__getattribute__»
  refine wpAny_bind (wpAny_of_eq (a := ((Value.ref x : Value), [Value.str "__class__" t])) (by first | rfl | (simp only [slotArgs]; rfl)) (wpAny_bind (wpAny_pure (wpAny_bind (T0.at (wpAny_bind (T3.at ?_)))))))
  show wpAny _ _ (holding [Value.builtin "object.__class__"] (call (.builtin "getset_descriptor.__get__") [.builtin "object.__class__", .ref x, .ref D]) >>= ret) _ _ _
  refine wpAny_bind (wpAny_holding (wpAny_call (class_get (s := ⟨hp, g, d, t + 1, os⟩) (ox := ox) (od := od) X I C.hm (wpAny_pure ?_))))
  show wpAny _ _ (handedOut (.ref D)) _ _ _
  rw [handedOut_of (v := .ref D) rfl]
  first
    | exact wpAny_pure (wpAny_pure h)
    | exact wpAny_pure h
    | exact wpAny_pure (wpAny_bind (wpAny_pure (wpAny_pure h)))
theorem pk_kit (C : L2.ExcC K D) : KitX K (.ref x) (.ref D) (fun h => InstAt h x ox D od) where
  ty := fun _ _ _ I => I.type
  it := fun M h X I => by
    obtain ⟨cd, hcd, _⟩ := any_some C.hd
    unfold clsIn at hcd
    split at hcd
    · rename_i c1 d1 cd1 sl1 ho
      exact fun A1 Q1 E1 s1 k q => by unfold isType loadHead; exact wpAny_bind (wpAny_loadPart (k _ _ (X _ _ ho)) (wpAny_pure q))
    · cases hcd
  ne := fun h tp dd its n sl X htp => by
    obtain ⟨cd, hcd, _⟩ := any_some C.hd
    refine Bool.eq_false_iff.mpr fun q => ?_
    have e : D = tp := Value.ref.inj (beq_iff_eq.mp q)
    subst e
    unfold clsIn at hcd
    split at hcd
    · rename_i c1 d1 cd1 sl1 ho
      have z := (X _ _ ho).symm.trans htp
      cases z
    · cases hcd
  ca := fun X I k => pk_class C X I k
end
end PySem.W

namespace Pk
open PySem PySem.Spec L2
open PyProof.Rows hiding St
/-- isinstance(e, c), e a kept exception -/
def rIsQ (K : PySem.W.Frag) : List V → Hp → VK → Prop := fun xs H Q => ∃ (a C : Addr) (d : Option Addr) (c : V) (cv : Value) (b : Bool), xs = [.ref a, c] ∧ (∀ o, d = some o → ∃ fs, H o = some (.xd fs)) ∧ H a = some (exq (.ref C) d a) ∧ ClsV c cv ∧ ExcC K C ∧
  PySem.W.kitOne K (.ref C) cv = some b ∧ Q (.bl b) H
theorem call_isQ {X : Cx} : CallR X (.builtin "isinstance") (rIsQ X.K) := by
  intro pins s σ H xs us Q I r h
  obtain ⟨a, C, d, c, cv, b, rfl, hdd, ha, hc, T, e, q⟩ := h
  cases r with
  | cons rx rr =>
    cases rr with
    | cons rt rr =>
      cases rr
      cases rx
      have ec := hc.eq rt
      subst ec
      obtain ⟨oe, vs, ho, hcl, hdc, hda⟩ := exq_at I.hok ha
      have no : PySem.W.notCls oe = true := by unfold PySem.W.notCls; rw [hda] <;> rfl
      cases d with
      | none =>
        have J : PySem.W.InstAt s.heap a oe C none := ⟨ho, hcl, no, by rw [hdc]; trivial⟩
        exact PySem.W.kia_one (PySem.W.pk_kit T) I.kIn J e (fun z => nomatch z) fun tk => ⟨.bl b, H, I.tok tk, rfl, q⟩
      | some dd =>
        obtain ⟨fs, hf⟩ := hdd dd rfl
        have hx : ObjOk X.prog X.w H s.heap dd (.xd fs) := I.hok dd _ hf
        obtain ⟨mA, hns, _⟩ := hx
        obtain ⟨od, hod, _⟩ := lookIn_ns hns
        have J : PySem.W.InstAt s.heap a oe C (some od) := ⟨ho, hcl, no, by rw [hdc]; exact hod⟩
        exact PySem.W.kia_one (PySem.W.pk_kit T) I.kIn J e (fun z => nomatch z) fun tk => ⟨.bl b, H, I.tok tk, rfl, q⟩
end Pk
end

section -- PkD
set_option linter.all false
set_option maxRecDepth 100000
set_option maxHeartbeats 2000000
/-! PkD: numbers of any size; short words for readings; what a def of the module is. -/
namespace Pk
open PySem PySem.Spec L2
open PyProof.Rows hiding St

/-! ### numbers -/
/-- a divisor that is not 0, below 2 ^ 9000 -/
def CDivZ (_ j : Int) : Prop := j ≠ 0 ∧ j.natAbs.log2 < 9000
/-- a power that stays small enough -/
def CPowW (i j : Int) : Prop := 0 ≤ j ∧ j ≤ 1000 ∧ i.natAbs < 2 ^ 200
section
variable {X : Cx}
theorem op_fdivZ : OpR X (binaryOp .FloorDiv) (rI CDivZ fun i j => .int (i.fdiv j)) := opI fun _ _ _ _ _ _ _ hc q => floordiv_int hc.1 q (.inl (PyProof.noPylong_of_log2 hc.2))
theorem bits_small {i : Int} (h : i.natAbs < 2 ^ 200) : Builtin.Int.intBits i ≤ 200 := by
  have l := PySem.Flt.log2_lt_of (by decide : 0 < 200) h
  unfold Builtin.Int.intBits
  split
  · exact Nat.zero_le _
  · exact l
theorem op_powW : OpR X (binaryOp .Pow) (rI CPowW fun i j => .int (i ^ j.toNat)) := opI fun i j _ _ _ _ _ hc q => by
  obtain ⟨h0, h1, h2⟩ := hc
  have hb := bits_small h2
  refine pow_int h0 ?_ q
  have a1 : (Builtin.Int.intBits i : Int) ≤ 200 := by omega
  have a2 : (Builtin.Int.intBits i : Int) * j ≤ 200 * 1000 := Int.mul_le_mul a1 h1 h0 (by decide)
  exact Int.le_trans a2 (by decide)
end
theorem log2_lt {n a b : Nat} (h : n < 2 ^ a) (h0 : 0 < a) (hb : a ≤ b) : n.log2 < b := Nat.lt_of_lt_of_le (PySem.Flt.log2_lt_of h0 h) hb
theorem divZ {i j : Int} {a : Nat} (hj : j ≠ 0) (h : j.natAbs < 2 ^ a) (h0 : 0 < a) (hb : a ≤ 9000) : CDivZ i j := ⟨hj, log2_lt h h0 hb⟩
theorem fdiv_pos {i j : Int} (h : 0 < j) : i.fdiv j = i / j := Int.fdiv_eq_ediv_of_nonneg i (by omega)

/-! ### readings: an if whose test is known -/
theorem if_t {c : Bool} {A B : Prop} (hc : c = true) (h : A) : if c = true then A else B := by rw [if_pos hc]; exact h
theorem if_f {c : Bool} {A B : Prop} (hc : c = false) (h : B) : if c = true then A else B := by rw [hc]; exact iteF h
theorem if_b {c : Bool} {A B : Prop} (h1 : c = true → A) (h2 : c = false → B) : if c = true then A else B := by
  cases c with
  | true => exact iteT (h1 rfl)
  | false => exact iteF (h2 rfl)
/-- .. whose negation is tested -/
theorem if_nt {c : Bool} {A B : Prop} (hc : c = true) (h : B) : if (!c) = true then A else B := by subst hc; exact iteF h
theorem if_nf {c : Bool} {A B : Prop} (hc : c = false) (h : A) : if (!c) = true then A else B := by subst hc; exact iteT h

/-- a built-in class by its name -/
theorem pe_tyname {X : Cx} {x : Str} {pos : Pos} (n : String) (hm : X.mg x = none) (hv : bootBuiltins x = some (.type n)) (hg : Gl X x := by rfl) (hn : x ≠ "__name__" := by decide) (hdb : (x == ("__debug__" : Str)) = false := by decide) : PE X (.Name x pos) (tC (.ty n)) :=
  pe_bltn (v := .ty n) (u := .type n) hg hm hv rfl hn hdb

/-- a name of the module, by its value -/
theorem pe_gv {X : Cx} {x : Str} {pos : Pos} {v : V} (h : ∃ u, X.mg x = some u ∧ RelV v u) (hg : Gl X x := by rfl) (hdb : (x == ("__debug__" : Str)) = false := by decide) : PE X (.Name x pos) (tC v) := by
  obtain ⟨u, hm, r⟩ := h
  exact pe_glob hg hm r hdb

/-! ### heaps -/
theorem same_new {H : Hp} {p : Addr} {o : HO} (h : H p = none) : Same H (upd H p o) := fun a u e => by rw [upd_ne (ne_of_none e h)]; exact e
/-- a def of the module -/
structure Df (K : PySem.W.Frag) (mg : Str → Option Value) (x : Str) (f : Addr) : Prop where
  gl : mg x = some (.ref f)
  kp : PySem.W.keepIn K (.ref f) = true
theorem same_mut {H H2 : Hp} {p : Addr} {o : HO} (e : Same H H2) (h : H p = none) : Same H (upd H2 p o) := fun a u ha => by rw [upd_ne (ne_of_none ha h)]; exact e a u ha
theorem take_succ' {α : Type} {xs : List α} {i : Nat} {y : α} (h : xs[i]? = some y) : xs.take (i + 1) = xs.take i ++ [y] := by
  rw [List.take_succ, h] <;> rfl
/-- [e for x in ..] whose element is known turn by turn, and changes nothing -/
theorem lc_map {J : It} {n : Nat} {G : Hp → Prop} {Y : Nat → Hp → V → Hp → Prop} (w : Walk J n G Y) (hYH : ∀ i H x H2, Y i H x H2 → H2 = H) (xs : List V) (hn : xs.length = n) (hz : n < sizeLine)
    {σ : L2.St} {vs : List Nat} {j : Nat} {te : TE} {H1 : Hp} {D : Addr} {Qd : Hp → Prop} (hG : ∀ H, Same H1 H → G H) (hD : H1 D = none) (hw : ∀ x, wipe ((wipe σ vs).set j (some x)) vs = wipe σ vs)
    (he : ∀ i x y H, Same H1 H → Y i H x H → xs[i]? = some y → ∀ Qe : VK, (∀ H4, Same H H4 → Qe y H4) → te ((wipe σ vs).set j (some x)) H Qe) (hd : ∀ H, Same H1 H → H D = some (.lst xs) → Qd H) :
    ∃ W : Nat → Nat → Hp → Prop, (∃ m, W 0 m (upd H1 D (.lst []))) ∧ ∀ i m H, W i m H →
      (J.stop i H ∧ Qd H) ∨ (J.go i H ∧ ∃ Nx : Hp → Prop, (∀ H', Nx H' → ∃ m', m' < m ∧ W (i + 1) m' H') ∧ ∀ x H', J.yld i H x H' → gName j x (wipe σ vs) H' fun σ2 H2 => wipe σ2 vs = wipe σ vs ∧ tYes σ2 H2 fun b H3 =>
        if b = true then te σ2 H3 fun y H4 => ∃ acc, H4 D = some (.lst acc) ∧ acc.length < sizeLine ∧ Nx (upd H4 D (.lst (acc ++ [y]))) else Nx H3) := by
  refine lc_it w (fun i H => Same H1 H ∧ H D = some (.lst (xs.take i))) ⟨same_new hD, upd_same⟩ (fun i H _ p => hG H p.1) (fun i x H H2 hi p y => ?_) (fun H p => hd H p.1 (by rw [p.2, List.take_of_length_le (Nat.le_of_eq hn)]))
  have e := hYH i H x H2 y
  subst e
  obtain ⟨z, hz1⟩ : ∃ z, xs[i]? = some z := ⟨xs[i]'(by omega), List.getElem?_eq_getElem (by omega)⟩
  refine ⟨hw x, ?_⟩
  refine iteT (B := Same H1 H2 ∧ H2 D = some (HO.lst (xs.take (i + 1)))) ?_
  refine he i x z H2 p.1 y hz1 _ fun H4 e4 => ⟨xs.take i, e4 _ _ p.2, ?_, same_mut (p.1.trans e4) hD, ?_⟩
  · rw [List.length_take]
    omega
  · rw [take_succ' hz1]
    exact upd_same
end Pk
end

section -- PkM
set_option linter.all false
set_option maxRecDepth 100000
set_option maxHeartbeats 2000000
/-! PkM: texts of numbers, as lists of signs. -/
namespace Pk
open PySem PySem.Spec L2
open PyProof.Rows hiding St
open TL (tl numL)

def numI (n : Int) : List Nat := if n < 0 then 45 :: numL n.natAbs else numL n.toNat
theorem tl_neg (m : Nat) : tl (Str.ofString (toString (Int.negSucc m))) = 45 :: numL (m + 1) := by
  rw [TL.tl_ofString]
  show (("-" ++ Nat.repr (m + 1) : String).toList).map Char.toNat = _
  rw [String.toList_append, List.map_append]
  have h := TL.tl_num (m + 1)
  rw [TL.tl_ofString] at h
  have h2 : (Nat.repr (m + 1)).toList.map Char.toNat = numL (m + 1) := h
  rw [h2]
  rfl
theorem tl_numI (n : Int) : tl (Str.ofString (toString n)) = numI n := by
  unfold numI
  cases n with
  | ofNat m =>
    have h0 : ¬ Int.ofNat m < 0 := fun z => absurd z (Int.not_lt.mpr (Int.natCast_nonneg m))
    rw [if_neg h0]
    exact TL.tl_num m
  | negSucc m =>
    rw [if_pos (Int.negSucc_lt_zero m), tl_neg]
    rfl
theorem numI_len {n : Int} {k : Nat} (hk : 0 < k) (h : n.natAbs < 10 ^ k) : (numI n).length ≤ k + 1 := by
  unfold numI
  split
  · rw [List.length_cons]
    exact Nat.succ_le_succ (TL.numL_len hk h)
  · have e : n.toNat = n.natAbs := by omega
    rw [e]
    exact Nat.le_succ_of_le (TL.numL_len hk h)
theorem two10 : 2 ^ 1000 ≤ 10 ^ 400 := by decide +kernel
theorem lt10 {n : Nat} (h : n.log2 < 1000) : n < 10 ^ 400 := by
  by_cases h0 : n = 0
  · subst h0
    exact Nat.pow_pos (by decide)
  · exact Nat.lt_of_lt_of_le ((Nat.log2_lt h0).mp h) two10
theorem numLen {n : Int} (h : n.natAbs.log2 < 1000) : (Str.ofString (toString n)).length ≤ 401 := by
  rw [TL.len_tl, tl_numI]
  exact numI_len (by decide) (lt10 h)
/-! ### digits -/
def isDig (c : Nat) : Bool := decide (48 ≤ c) && decide (c ≤ 57)
theorem tl_digits : tl (Str.ofString "0123456789") = [48, 49, 50, 51, 52, 53, 54, 55, 56, 57] := by decide +kernel
theorem mem_digits (c : Nat) : decide (c ∈ (Str.ofString "0123456789").cps.toList) = isDig c := by
  have e : (Str.ofString "0123456789").cps.toList = [48, 49, 50, 51, 52, 53, 54, 55, 56, 57] := tl_digits
  rw [e]
  unfold isDig
  rw [Bool.eq_iff_iff]
  simp only [decide_eq_true_eq, Bool.and_eq_true, List.mem_cons, List.not_mem_nil, or_false]
  omega
/-- the text of a whole number from 0 on, of at most 60 digits -/
def isWh (l : List Nat) : Bool := (decide (1 ≤ l.length) && decide (l.length ≤ 60)) && (l.all isDig && (decide (l = [48]) || !decide (l.head? = some 48)))
theorem all_map {l : List Nat} : (l.map isDig).all id = l.all isDig := by rw [List.all_map]; rfl
theorem wh_of (z : Str) (b : Bool) (hb : (!(decide ((1 : Int) ≤ (z.length : Int)) && decide ((z.length : Int) ≤ 60)) || !(((tl z).map isDig).all id)) = b) :
    isWh (tl z) = (!b && (decide (tl z = [48]) || !decide ((tl z).head? = some 48))) := by
  have e1 : decide ((1 : Int) ≤ (z.length : Int)) = decide (1 ≤ (tl z).length) := by rw [TL.len_tl]; rw [Bool.eq_iff_iff]; simp only [decide_eq_true_eq]; omega
  have e2 : decide ((z.length : Int) ≤ 60) = decide ((tl z).length ≤ 60) := by rw [TL.len_tl]; rw [Bool.eq_iff_iff]; simp only [decide_eq_true_eq]; omega
  rw [e1, e2, all_map] at hb
  unfold isWh
  cases h1 : decide (1 ≤ (tl z).length) <;> cases h2 : decide ((tl z).length ≤ 60) <;> cases h3 : (tl z).all isDig <;> rw [h1, h2, h3] at hb <;> subst hb <;> rfl
theorem wh_ne {z : Str} (hb : (!(decide ((1 : Int) ≤ (z.length : Int)) && decide ((z.length : Int) ≤ 60)) || !(((tl z).map isDig).all id)) = false) : 1 ≤ (tl z).length := by
  have h : decide ((1 : Int) ≤ (z.length : Int)) = true := by
    cases e : decide ((1 : Int) ≤ (z.length : Int)) with
    | true => rfl
    | false => rw [e] at hb; simp at hb
  have := of_decide_eq_true h
  rw [TL.len_tl] at this
  omega
theorem str_eq_iff {x y : Str} : x = y ↔ tl x = tl y := ⟨fun h => by rw [h], TL.ext_tl⟩
theorem dec_strT (x y : Str) : decide (V.str x = V.str y) = decide (tl x = tl y) := by
  rw [Bool.eq_iff_iff]
  simp only [decide_eq_true_eq, V.str.injEq]
  exact str_eq_iff
theorem tl_one (c : Nat) : tl ⟨#[c]⟩ = [c] := rfl
theorem tl_lit {s : String} {l : List Nat} (h : tl (Str.ofString s) = l := by decide +kernel) : tl (Str.ofString s) = l := h
theorem sz {n : Nat} (h : n ≤ 1000000) : n ≤ sizeLine := Nat.le_trans h (by decide)
theorem szl {n : Nat} (h : n < 1000000) : n < sizeLine := Nat.lt_of_lt_of_le h (by decide)
theorem len_empty : Str.empty.length = 0 := rfl
end Pk
end

section -- PkE
set_option linter.all false
set_option maxRecDepth 100000
set_option maxHeartbeats 2000000
/-! PkE: what evaluates to what, further; and what draws from the pen. -/
namespace Pk
open PySem PySem.Spec L2 Evl
open PyProof.Rows hiding St
open TL (tl numL)

/-! ### named readings -/
def rAddT : R2 := fun x y H Q => ∃ i j : Str, x = .str i ∧ y = .str j ∧ i.length + j.length ≤ sizeLine ∧ Q (.str (i ++ j)) H
def rIsN : R2 := fun x y H Q => y = .non ∧ Q (.bl (decide (x = .non))) H
def rNotN : R2 := fun x y H Q => y = .non ∧ Q (.bl (!decide (x = .non))) H
def rLenT : List V → Hp → VK → Prop := fun xs H Q => ∃ z : Str, xs = [.str z] ∧ z.length ≤ sizeLine ∧ Q (.int z.length) H
def rAbs : List V → Hp → VK → Prop := fun xs H Q => ∃ i : Int, xs = [.int i] ∧ Q (.int (if i < 0 then -i else i)) H
def rInt1 : List V → Hp → VK → Prop := fun xs H Q => (∃ i, xs = [.int i] ∧ Q (.int i) H) ∨ ∃ k, xs = [.bl k] ∧ Q (.int (if k then 1 else 0)) H
def rIntT : List V → Hp → VK → Prop := fun xs H Q => ∃ (a : Str) (n : Int), xs = [.str a] ∧ PySem.intText? a = some n ∧ a.length ≤ 640 ∧ Q (.int n) H
def rStrI : List V → Hp → VK → Prop := fun xs H Q => ∃ i : Int, xs = [.int i] ∧ i.natAbs.log2 < 1920 ∧ Q (.str (toString i)) H
section
variable {X : Cx}
theorem op_addT : OpR X (binaryOp .Add) rAddT := op_add_str
theorem op_isN' : OpR X (compareOp .Is) rIsN := op_isN
theorem op_notN' : OpR X (compareOp .IsNot) rNotN := op_notN
theorem call_lenT : CallR X (.builtin "len") rLenT := call_len_str
theorem call_lenL : CallR X (.builtin "len") (rLenS X.K) := call_len_seq
theorem call_absI : CallR X (.builtin "abs") rAbs := call_abs
theorem call_intI : CallR X (.type "int") rInt1 := call_int1
theorem call_intT : CallR X (.type "int") rIntT := call_int_str
theorem call_strI : CallR X (.type "str") rStrI := call_str_int
end
section
variable {K : PySem.W.Frag} {σ : L2.St} {H H' : Hp} {ta tb te tx : TE} {t u : TT} {x y z v : V} {r : R2}
theorem same_ex (e : Same H H') : Ex H H' := e
theorem rv_addT {a b : Str} (h : a.length + b.length ≤ 1000000) : RV rAddT (.str a) (.str b) H (.str (a ++ b)) := fun H1 _ _ q => ⟨a, b, rfl, rfl, sz h, q H1 (Ex.refl H1)⟩
theorem rv_isN : RV rIsN x .non H (.bl (decide (x = .non))) := fun H1 _ _ q => ⟨rfl, q H1 (Ex.refl H1)⟩
theorem rv_notN : RV rNotN x .non H (.bl (!decide (x = .non))) := fun H1 _ _ q => ⟨rfl, q H1 (Ex.refl H1)⟩
theorem rv_inS {c : Nat} {z : Str} : RV rInS (.str ⟨#[c]⟩) (.str z) H (.bl (decide (c ∈ z.cps.toList))) := fun H1 _ _ q => ⟨c, z, rfl, rfl, q H1 (Ex.refl H1)⟩
theorem rv_notInS {c : Nat} {z : Str} : RV rNotInS (.str ⟨#[c]⟩) (.str z) H (.bl (!decide (c ∈ z.cps.toList))) := fun H1 _ _ q => ⟨c, z, rfl, rfl, q H1 (Ex.refl H1)⟩
theorem rc_lenT {a : Str} (h : a.length ≤ 1000000) : RC rLenT [.str a] H (.int (a.length : Int)) := fun H1 _ _ q => ⟨a, rfl, sz h, q H1 (Ex.refl H1)⟩
theorem rc_abs {i : Int} : RC rAbs [.int i] H (.int (if i < 0 then -i else i)) := fun H1 _ _ q => ⟨i, rfl, q H1 (Ex.refl H1)⟩
theorem rc_int {i : Int} : RC rInt1 [.int i] H (.int i) := fun H1 _ _ q => .inl ⟨i, rfl, q H1 (Ex.refl H1)⟩
theorem rc_intT {a : Str} {n : Int} (h : PySem.intText? a = some n) (hl : a.length ≤ 640) : RC rIntT [.str a] H (.int n) := fun H1 _ _ q => ⟨a, n, rfl, h, hl, q H1 (Ex.refl H1)⟩
theorem rc_strI {i : Int} (h : i.natAbs.log2 < 1920) : RC rStrI [.int i] H (.str (Str.ofString (toString i))) := fun H1 _ _ q => ⟨i, rfl, h, q H1 (Ex.refl H1)⟩
theorem rc_gcd {a b : Int} : RC rGcd [.int a, .int b] H (.int ((Nat.gcd a.natAbs b.natAbs : Nat) : Int)) := fun H1 _ _ q => ⟨a, b, rfl, q H1 (Ex.refl H1)⟩
theorem ev_fld {a C dx : Addr} {fs : List (Str × V)} {f : Str} (h : Ev te σ H (.ref a)) (ha : H a = some (.ins C dx fs)) (c : Cls K C) (n : NoAttr K C f) (l : fs.lookup f = some v) : Ev (tFld K te f) σ H v := fun H1 e _ q =>
  h H1 e _ fun H2 e2 => ⟨a, C, dx, fs, v, rfl, e2 _ _ (e _ _ ha), c, n, l, q H2 e2⟩
theorem ev_cval {C : Addr} {mc w : Value} {f : Str} (h : Ev te σ H (.ref C)) (rd : ClX.CRead K C mc) (k : ClX.CVal K C mc f v w) : Ev (ClX.tCVal K te f) σ H v := fun H1 e _ q =>
  h H1 e _ fun H2 e2 => ⟨C, mc, v, w, rfl, rd, k, q H2 e2⟩
theorem et_chain {r r' : R2} {tc : TE} {a b : Bool} {w : V} (ha : Ev ta σ H x) (hb : Ev tb σ H y) (hr : RV r x y H (.bl a)) (hc : Ev tc σ H w) (hr' : RV r' y w H (.bl b)) : EvT (tTest (tChain r r' ta tb tc)) σ H (a && b) := fun H1 e Q q =>
  ha H1 e _ fun H2 e2 => hb H2 (e.trans e2) _ fun H3 e3 => hr H3 ((e.trans e2).trans e3) _ fun H4 e4 => ⟨a, rfl, by
    cases a with
    | false => exact iteF ⟨false, rfl, q H4 ((e2.trans e3).trans e4)⟩
    | true =>
      refine iteT (hc H4 (((e.trans e2).trans e3).trans e4) _ fun H5 e5 => hr' H5 ((((e.trans e2).trans e3).trans e4).trans e5) _ fun H6 e6 => ⟨b, rfl, ?_⟩)
      exact q H6 ((((e2.trans e3).trans e4).trans e5).trans e6)⟩
/-- a call of a def that promises a value -/
theorem ev_cs {r : L2.St → List V → Hp → VK → Prop} {ta : TA} {vs : List V} (h : EvA ta σ H vs) (hr : ∀ H1, Ex H H1 → ∀ Q : VK, (∀ H2, Ex H1 H2 → Q z H2) → r σ vs H1 Q) : Ev (tCS r ta) σ H z := fun H1 e Q q =>
  h H1 e _ fun H2 e2 => hr H2 (e.trans e2) Q fun H3 e3 => q H3 (e2.trans e3)
/-- all(..), any(..) of a list of truth values -/
theorem ev_all {ta : TE} {bs : List Bool} (h : EvL ta σ H (bs.map V.bl)) : Ev (tCB (rAll K) (tCons ta tNil)) σ H (.bl (bs.all id)) := fun H1 e Q q =>
  h H1 e _ fun p H2 _ e2 h2 => ⟨p, bs, rfl, sq_of h2, q H2 e2⟩
/-- a comprehension over a text -/
theorem el_lcS {z : Str} {tl : TE} {j : Nat} {vs : List Nat} (xs : List V) (h : Ev tl σ H (.str z)) (hn : xs.length = z.cps.size) (hz : z.cps.size < 1000000) (hw : ∀ x, wipe ((wipe σ vs).set j (some x)) vs = wipe σ vs)
    (he : ∀ (i c : Nat) (y : V), z.cps[i]? = some c → xs[i]? = some y → ∀ H1, Ex H H1 → Ev te ((wipe σ vs).set j (some (.str ⟨#[c]⟩))) H1 y) : EvL (tLc (iStr tl) (gName j) tYes te vs) σ H xs := fun H0 e Q q => h H0 e _ fun H1 e1 => ⟨z, rfl, fun Dl hD =>
  lc_map walk_str (fun _ _ _ _ y => y.1) xs hn (szl hz) (fun _ _ => trivial) hD hw (fun i x y H2 e2 yy hy Qe qe => by
    obtain ⟨_, c, hc, rfl⟩ := yy
    exact he i c y hc hy H2 ((e.trans e1).trans e2) H2 (Ex.refl H2) Qe qe) fun H2 e2 h2 => q Dl H2 (fresh_back e1 hD) (e1.trans e2) h2⟩
/-- a comprehension over a list -/
theorem el_lcM {a : Addr} {ys : List V} {tl : TE} {j : Nat} {vs : List Nat} (xs : List V) (h : Ev tl σ H (.ref a)) (ha : SqL K H a ys) (hn : xs.length = ys.length) (hz : ys.length < 1000000) (hw : ∀ x, wipe ((wipe σ vs).set j (some x)) vs = wipe σ vs)
    (he : ∀ (i : Nat) (x y : V), ys[i]? = some x → xs[i]? = some y → ∀ H1, Ex H H1 → Ev te ((wipe σ vs).set j (some x)) H1 y) : EvL (tLc (iList K tl) (gName j) tYes te vs) σ H xs := fun H0 e Q q => h H0 e _ fun H1 e1 => ⟨a, rfl, ⟨ys, ex_l (e.trans e1) ha⟩, fun Dl hD =>
  lc_map walk_list (fun _ _ _ _ y => y.1) xs hn (szl hz) (fun H2 e2 => ex_l ((e.trans e1).trans e2) ha) hD hw (fun i x y H2 e2 yy hy Qe qe => he i x y yy.2 hy H2 ((e.trans e1).trans e2) H2 (Ex.refl H2) Qe qe)
    fun H2 e2 h2 => q Dl H2 (fresh_back e1 hD) (e1.trans e2) h2⟩
/-- .. over a list that is made on the way -/
theorem el_lcN {ys : List V} {tl : TE} {j : Nat} {vs : List Nat} (xs : List V) (h : EvL tl σ H ys) (hn : xs.length = ys.length) (hz : ys.length < 1000000) (hw : ∀ x, wipe ((wipe σ vs).set j (some x)) vs = wipe σ vs)
    (he : ∀ (i : Nat) (x y : V), ys[i]? = some x → xs[i]? = some y → ∀ H1, Ex H H1 → Ev te ((wipe σ vs).set j (some x)) H1 y) : EvL (tLc (iList K tl) (gName j) tYes te vs) σ H xs := fun H0 e Q q => h H0 e _ fun a H1 _ e1 ha => ⟨a, rfl, ⟨ys, sq_of ha⟩, fun Dl hD =>
  lc_map walk_list (fun _ _ _ _ y => y.1) xs hn (szl hz) (fun H2 e2 => ex_l e2 (sq_of ha)) hD hw (fun i x y H2 e2 yy hy Qe qe => he i x y yy.2 hy H2 ((e.trans e1).trans e2) H2 (Ex.refl H2) Qe qe)
    fun H2 e2 h2 => q Dl H2 (fresh_back e1 hD) (e1.trans e2) h2⟩
/-- a split text: a new list of texts -/
def tSplit (ta tb : TE) : TE := tM1 (fun x xs H Q => ∃ a b, x = .str a ∧ xs = [.str b] ∧ (b.length == 0) = false ∧ a.length + 2 ≤ sizeLine ∧ rNewStrs (Txt.split a b) H Q) ta tb
theorem el_split {a b : Str} (ha : Ev ta σ H (.str a)) (hb : Ev tb σ H (.str b)) (h0 : (b.length == 0) = false) (hl : a.length ≤ 900000) : EvL (tSplit ta tb) σ H ((Txt.split a b).map V.str) := fun H1 e Q q =>
  ha H1 e _ fun H2 e2 => ⟨⟨a, rfl⟩, hb H2 (e.trans e2) _ fun H3 e3 => ⟨a, b, rfl, rfl, h0, sz (by omega), fun p hp => q p _ (fresh_back (e2.trans e3) hp) ((e2.trans e3).trans (Ex.new hp)) upd_same⟩⟩
theorem pe_splitN {X : Cx} {o e : Expr} {to te : TE} {apos pos : Pos} (ho : PE X o to) (he : PE X e te) (hs : starEach [e] X.env = [(false, eval e X.env)] := by rfl) (hb : attributeBase o "split" X.env (eval o X.env) = eval o X.env := by rfl) (hl : (apos.endLine == pos.line) = true := by rfl) :
    PE X (.Call (.Attribute o "split" apos) [e] [] pos) (tSplit to te) := pe_split ho he hs hb hl
/-- a text's method of one argument -/
theorem ev_starts {a b : Str} (ha : Ev ta σ H (.str a)) (hb : Ev tb σ H (.str b)) : Ev (tM1 (fun x xs H Q => ∃ a b, x = .str a ∧ xs = [.str b] ∧ Q (.bl (Txt.startswith a b)) H) ta tb) σ H (.bl (Txt.startswith a b)) := fun H1 e Q q =>
  ha H1 e _ fun H2 e2 => ⟨⟨a, rfl⟩, hb H2 (e.trans e2) _ fun H3 e3 => ⟨a, b, rfl, rfl, q H3 (e2.trans e3)⟩⟩
/-- a slice of a text -/
theorem ev_slS {a : Str} {lo hi : Option Int} {t1 t2 : TO} (ha : Ev ta σ H (.str a)) (h1 : EvO t1 σ H lo) (h2 : EvO t2 σ H hi) (hl : a.length ≤ 1000000) : Ev (tSl rSlS ta t1 t2) σ H (.str (cutS a lo hi)) := fun H1 e Q q =>
  ha H1 e _ fun H2 e2 => h1 H2 (e.trans e2) _ fun H3 e3 => h2 H3 ((e.trans e2).trans e3) _ fun H4 e4 => ⟨a, rfl, sz hl, q H4 ((e2.trans e3).trans e4)⟩
theorem el_catLL {xs ys : List V} (ha : EvL ta σ H xs) (hb : EvL tb σ H ys) (hl : xs.length + ys.length ≤ 1000000) : EvL (tOp rCat ta tb) σ H (xs ++ ys) := fun H1 e Q k =>
  ha H1 e _ fun p H2 n2 e2 hp => hb H2 (e.trans e2) _ fun q H3 _ e3 hq => ⟨p, q, xs, ys, rfl, rfl, e3 p _ hp, hq, sz hl, fun l hl => k l _ (fresh_back (e2.trans e3) hl) ((e2.trans e3).trans (Ex.new hl)) upd_same⟩
end
end Pk
end

section -- PkN
set_option linter.all false
set_option maxRecDepth 100000
set_option maxHeartbeats 2000000
/-! PkN: texts cut at a sign; the text of a ratio, read in two ways. -/
namespace Pk
open PySem PySem.Spec L2
open PyProof.Rows hiding St
open TL (tl numL)

/-! ### cut at one sign -/
abbrev cutAt (c : Nat) (l : List Nat) : List (List Nat) := TL.spl [c] 0 [] l
theorem spl_cons (c x : Nat) (acc r : List Nat) : TL.spl [c] 0 acc (x :: r) = if x = c then acc :: TL.spl [c] 0 [] r else TL.spl [c] 0 (acc ++ [x]) r := by
  have h : TL.pre [c] (x :: r) = decide (x = c) := by
    show ((x :: r).take 1 == [c]) = decide (x = c)
    rw [Bool.eq_iff_iff]
    simp
  by_cases e : x = c
  · rw [if_pos e, TL.spl_hit (by rw [h, decide_eq_true e])]
    rfl
  · rw [if_neg e, TL.spl_miss (by rw [h, decide_eq_false e])]
theorem spl_end (c : Nat) (acc : List Nat) : TL.spl [c] 0 acc [] = [acc] := TL.spl_nil _ _ _
/-- an own walk that cuts -/
def cutStep (c : Nat) (st : List (List Nat) × List Nat) (x : Nat) : List (List Nat) × List Nat := if x = c then (st.1 ++ [st.2], []) else (st.1, st.2 ++ [x])
theorem cut_walk (c : Nat) : ∀ (l : List Nat) (ws : List (List Nat)) (acc : List Nat), (l.foldl (cutStep c) (ws, acc)).1 ++ [(l.foldl (cutStep c) (ws, acc)).2] = ws ++ TL.spl [c] 0 acc l
  | [], ws, acc => by rw [spl_end]; rfl
  | x :: r, ws, acc => by
    rw [List.foldl_cons, spl_cons]
    by_cases e : x = c
    · have h : cutStep c (ws, acc) x = (ws ++ [acc], []) := if_pos e
      rw [h, cut_walk c r, if_pos e, List.append_assoc]
      rfl
    · have h : cutStep c (ws, acc) x = (ws, acc ++ [x]) := if_neg e
      rw [h, cut_walk c r, if_neg e]
theorem spl_len (c : Nat) : ∀ (l acc p : List Nat), p ∈ TL.spl [c] 0 acc l → p.length ≤ acc.length + l.length
  | [], acc, p, h => by
    rw [spl_end] at h
    have e := List.mem_singleton.mp h
    subst e
    exact Nat.le_add_right _ _
  | x :: r, acc, p, h => by
    rw [spl_cons] at h
    rw [List.length_cons]
    split at h
    · rcases List.mem_cons.mp h with e | h
      · subst e
        omega
      · have := spl_len c r [] p h
        rw [List.length_nil] at this
        omega
    · have := spl_len c r (acc ++ [x]) p h
      rw [List.length_append, List.length_cons, List.length_nil] at this
      omega
theorem spl_pos (c : Nat) : ∀ (l acc : List Nat), 1 ≤ (TL.spl [c] 0 acc l).length
  | [], acc => by rw [spl_end]; exact Nat.le_refl 1
  | x :: r, acc => by
    rw [spl_cons]
    split
    · rw [List.length_cons]
      omega
    · exact spl_pos c r _
theorem cut_none {c : Nat} {l : List Nat} (h : c ∉ l) : cutAt c l = [l] := by
  have := TL.spl_last1 (s := c) (S := []) (p := l) (acc := []) h
  rw [List.nil_append] at this
  exact this
theorem cut_some {c : Nat} {p q : List Nat} (h : c ∉ p) : cutAt c (p ++ c :: q) = p :: cutAt c q := by
  have := TL.spl_part1 (s := c) (S := []) (p := p) (rest := q) (acc := []) h
  rw [List.nil_append] at this
  exact this
theorem cut_at {c : Nat} : ∀ {l : List Nat}, c ∈ l → ∃ p q, l = p ++ c :: q ∧ c ∉ p
  | x :: r, h => by
    by_cases e : x = c
    · subst e
      exact ⟨[], r, rfl, List.not_mem_nil⟩
    · have h2 : c ∈ r := by
        rcases List.mem_cons.mp h with z | z
        · exact absurd z.symm e
        · exact z
      obtain ⟨p, q, h3, h4⟩ := cut_at h2
      refine ⟨x :: p, q, by rw [h3]; rfl, fun z => ?_⟩
      rcases List.mem_cons.mp z with z | z
      · exact e z.symm
      · exact h4 z
theorem cut_two {c : Nat} {l : List Nat} (h : c ∈ l) : 2 ≤ (cutAt c l).length := by
  obtain ⟨p, q, e, hp⟩ := cut_at h
  rw [e, cut_some hp, List.length_cons]
  exact Nat.succ_le_succ (spl_pos c q [])

/-! ### numbers -/
abbrev val (l : List Nat) : Nat := NumText.digitsVal l
theorem val_snoc (l : List Nat) (d : Nat) : val (l ++ [d]) = val l * 10 + (d - 48) := by
  show (l ++ [d]).foldl (fun acc c => acc * 10 + (c - 48)) 0 = l.foldl (fun acc c => acc * 10 + (c - 48)) 0 * 10 + (d - 48)
  rw [List.foldl_append]
  rfl
theorem isDig_iff {c : Nat} : isDig c = true ↔ 48 ≤ c ∧ c ≤ 57 := by
  unfold isDig
  rw [Bool.and_eq_true, decide_eq_true_eq, decide_eq_true_eq]
theorem fold_le : ∀ (l : List Nat) (a : Nat), a ≤ l.foldl (fun acc c => acc * 10 + (c - 48)) a
  | [], a => Nat.le_refl _
  | c :: r, a => by
    rw [List.foldl_cons]
    have := fold_le r (a * 10 + (c - 48))
    omega
theorem val_pos {c : Nat} {r : List Nat} (h : isDig c = true) (h0 : c ≠ 48) : 0 < val (c :: r) := by
  have := isDig_iff.mp h
  have := fold_le r (0 * 10 + (c - 48))
  show 0 < (c :: r).foldl (fun acc c => acc * 10 + (c - 48)) 0
  rw [List.foldl_cons]
  omega
/-- digits that do not begin with 0 are the text of their number -/
theorem numL_val : ∀ (n : Nat) (l : List Nat), l.length = n → l.all isDig = true → l.head? ≠ some 48 → l ≠ [] → numL (val l) = l
  | 0, l, hn, _, _, h0 => absurd (List.length_eq_zero_iff.mp hn) h0
  | n + 1, l, hn, hd, h48, h0 => by
    obtain ⟨a, d, rfl⟩ : ∃ a d, l = a ++ [d] := ⟨l.dropLast, l.getLast h0, (List.dropLast_concat_getLast h0).symm⟩
    rw [List.all_append, Bool.and_eq_true] at hd
    have hd2 : isDig d = true := by
      have := hd.2
      rw [List.all_cons, Bool.and_eq_true] at this
      exact this.1
    have dd := isDig_iff.mp hd2
    rw [val_snoc]
    cases a with
    | nil =>
      have e : val [] = 0 := rfl
      rw [e, TL.numL_lt (by omega)]
      show [48 + (0 * 10 + (d - 48))] = [d]
      have : 48 + (0 * 10 + (d - 48)) = d := by omega
      rw [this]
    | cons c r =>
      have hc : isDig c = true := by
        have := hd.1
        rw [List.all_cons, Bool.and_eq_true] at this
        exact this.1
      have h48' : c ≠ 48 := fun z => h48 (by rw [z]; rfl)
      have ih := numL_val n (c :: r) (by rw [List.length_append] at hn; simpa using hn) hd.1 (by simpa using h48') (List.cons_ne_nil _ _)
      have p := val_pos (r := r) hc h48'
      rw [TL.numL_step (by omega)]
      have e1 : (val (c :: r) * 10 + (d - 48)) / 10 = val (c :: r) := by omega
      have e2 : 48 + (val (c :: r) * 10 + (d - 48)) % 10 = d := by omega
      rw [e1, e2, ih]
theorem isWh_parts {l : List Nat} (h : isWh l = true) : 1 ≤ l.length ∧ l.length ≤ 60 ∧ l.all isDig = true ∧ (l = [48] ∨ l.head? ≠ some 48) := by
  unfold isWh at h
  simp only [Bool.and_eq_true, Bool.or_eq_true, decide_eq_true_eq, Bool.not_eq_true', decide_eq_false_iff_not] at h
  obtain ⟨⟨h1, h2⟩, h3, h4⟩ := h
  exact ⟨h1, h2, h3, h4⟩
theorem isWh_of {l : List Nat} (h1 : 1 ≤ l.length) (h2 : l.length ≤ 60) (h3 : l.all isDig = true) (h4 : l = [48] ∨ l.head? ≠ some 48) : isWh l = true := by
  unfold isWh
  simp only [Bool.and_eq_true, Bool.or_eq_true, decide_eq_true_eq, Bool.not_eq_true', decide_eq_false_iff_not]
  exact ⟨⟨h1, h2⟩, h3, h4⟩
theorem numL_wh {l : List Nat} (h : isWh l = true) : numL (val l) = l := by
  obtain ⟨h1, _, h3, h4⟩ := isWh_parts h
  rcases h4 with h4 | h4
  · subst h4
    decide +kernel
  · exact numL_val l.length l rfl h3 h4 (fun z => by rw [z] at h1; exact absurd h1 (by decide))
theorem wh_zero {l : List Nat} (h : isWh l = true) : val l = 0 ↔ l.head? = some 48 := by
  obtain ⟨h1, _, h3, h4⟩ := isWh_parts h
  constructor
  · intro z
    cases l with
    | nil => exact absurd h1 (by decide)
    | cons c r =>
      by_cases e : c = 48
      · rw [e]; rfl
      · have hc : isDig c = true := by
          rw [List.all_cons, Bool.and_eq_true] at h3
          exact h3.1
        have := val_pos (r := r) hc e
        omega
  · intro z
    rcases h4 with h4 | h4
    · subst h4
      rfl
    · exact absurd z h4
theorem val_lt : ∀ (n : Nat) (l : List Nat), l.length = n → l.all isDig = true → val l < 10 ^ n
  | 0, l, hn, _ => by
    have := List.length_eq_zero_iff.mp hn
    subst this
    decide
  | n + 1, l, hn, hd => by
    have h0 : l ≠ [] := fun z => by rw [z] at hn; exact absurd hn (by simp)
    obtain ⟨a, d, rfl⟩ : ∃ a d, l = a ++ [d] := ⟨l.dropLast, l.getLast h0, (List.dropLast_concat_getLast h0).symm⟩
    rw [List.all_append, Bool.and_eq_true] at hd
    have hd2 : isDig d = true := by
      have := hd.2
      rw [List.all_cons, Bool.and_eq_true] at this
      exact this.1
    have dd := isDig_iff.mp hd2
    have ih := val_lt n a (by rw [List.length_append] at hn; simpa using hn) hd.1
    rw [val_snoc, Nat.pow_succ]
    omega
theorem intT {s : Str} (h : isWh (tl s) = true) : PySem.intText? s = some ((val (tl s) : Nat) : Int) := by
  obtain ⟨h1, h2, h3, _⟩ := isWh_parts h
  have e : (⟨(tl s).toArray⟩ : Str) = s := TL.mk_tl s
  have := SX.int_S (a := tl s) h3 (fun z => by rw [z] at h1; exact absurd h1 (by decide)) (by omega)
  rw [show SX.S (tl s) = s from e] at this
  exact this
end Pk
end

section -- PkO
set_option linter.all false
set_option maxRecDepth 100000
set_option maxHeartbeats 2000000
/-! PkO: the text of a ratio, read in two ways; what it says is its text again. -/
namespace Pk
open PySem PySem.Spec L2
open PyProof.Rows hiding St
open TL (tl numL)

def isNeg (w : List Nat) : Bool := decide (w.head? = some 45)
def bare (w : List Nat) : List Nat := if isNeg w = true then w.tail else w
def sgn (neg : Bool) (n : Nat) : Int := if neg = true then -(n : Int) else (n : Int)
theorem sgn_abs (neg : Bool) (n : Nat) : (sgn neg n).natAbs = n := by
  unfold sgn
  split <;> omega
/-- one whole number, a sign ahead of it or none -/
def sgnd (neg : Bool) (a : List Nat) : Option Int := if (isWh a && !(neg && decide (a.head? = some 48))) = true then some (sgn neg (val a)) else none
def wholeOf (w : List Nat) : Option Int := sgnd (isNeg w) (bare w)
/-- the pair, by the first stroke -/
def pairOf (w : List Nat) : Option (Int × Int) := match TL.par [47] [] w with
  | none => (wholeOf w).map fun n => (n, 1)
  | some (p, q) => match wholeOf p, wholeOf q with
    | some t, some b => if (decide (b < 2) || !(Nat.gcd t.natAbs b.natAbs == 1)) = true then none else some (t, b)
    | _, _ => none
/-- the pair, by all strokes at once -/
def progOf (w : List Nat) : Option (Int × Int) := match cutAt 47 (bare w) with
  | [a] => if (isWh a && !(isNeg w && decide (val a = 0))) = true then some (sgn (isNeg w) (val a), 1) else none
  | [a, b] => if ((isWh a && isWh b) && !(isNeg w && decide (val a = 0)) && !(decide (val b < 2) || !(Nat.gcd (val a) (val b) == 1))) = true then some (sgn (isNeg w) (val a), (val b : Int)) else none
  | _ => none
theorem sgnd_eq (neg : Bool) (a : List Nat) : sgnd neg a = if (isWh a && !(neg && decide (val a = 0))) = true then some (sgn neg (val a)) else none := by
  unfold sgnd
  cases h : isWh a with
  | false => rfl
  | true =>
    have e : decide (a.head? = some 48) = decide (val a = 0) := by
      rw [Bool.eq_iff_iff, decide_eq_true_eq, decide_eq_true_eq]
      exact (wh_zero h).symm
    rw [e]
theorem not_wh {a : List Nat} {c : Nat} (h : c ∈ a) (hc : isDig c = false) : isWh a = false := by
  cases e : isWh a with
  | false => rfl
  | true =>
    obtain ⟨_, _, h3, _⟩ := isWh_parts e
    have := List.all_eq_true.mp h3 c h
    rw [hc] at this
    cases this
theorem mem_bare {w : List Nat} {c : Nat} (h : c ∈ w) (h0 : c ≠ 45) : c ∈ bare w := by
  unfold bare
  split
  · rename_i e
    cases w with
    | nil => cases h
    | cons x r =>
      have ex : x = 45 := by
        have := of_decide_eq_true e
        simpa using this
      rcases List.mem_cons.mp h with z | z
      · exact absurd (z.trans ex) h0
      · exact z
  · exact h
theorem bare_mem {w : List Nat} {c : Nat} (h : c ∈ bare w) : c ∈ w := by
  unfold bare at h
  split at h
  · exact List.mem_of_mem_tail h
  · exact h
theorem neg_app {p q : List Nat} : isNeg (p ++ 47 :: q) = isNeg p := by
  cases p with
  | nil => rfl
  | cons x r => rfl
theorem bare_app {p q : List Nat} : bare (p ++ 47 :: q) = bare p ++ 47 :: q := by
  unfold bare
  rw [neg_app]
  split
  · rename_i e
    cases p with
    | nil => cases e
    | cons x r => rfl
  · rfl
theorem wh_neg {q : List Nat} (h : isNeg q = true) : isWh q = false := by
  cases q with
  | nil => cases h
  | cons x r =>
    have ex : x = 45 := by
      have := of_decide_eq_true h
      simpa using this
    subst ex
    exact not_wh (c := 45) List.mem_cons_self (by decide)
theorem gcd_sgn {neg : Bool} {n m : Nat} : Nat.gcd (sgn neg n).natAbs ((m : Int)).natAbs = Nat.gcd n m := by rw [sgn_abs, Int.natAbs_natCast]
theorem pair_eq (w : List Nat) : pairOf w = progOf w := by
  by_cases h : 47 ∈ w
  · obtain ⟨p, q, rfl, hp⟩ := cut_at h
    have e1 : TL.par [47] [] (p ++ 47 :: q) = some (p, q) := by
      have := TL.par_part1 (s := 47) (S := []) (p := p) (rest := q) (acc := []) hp
      rw [List.nil_append] at this
      exact this
    have hb : 47 ∉ bare p := fun z => hp (bare_mem z)
    unfold pairOf progOf
    rw [e1, bare_app, cut_some hb, neg_app]
    by_cases hq : 47 ∈ q
    · have hw : wholeOf q = none := by
        unfold wholeOf
        rw [sgnd_eq, not_wh (mem_bare hq (by decide)) (by decide)]
        rfl
      dsimp only
      rw [hw]
      have h2 := cut_two hq
      obtain ⟨x, y, r, e⟩ : ∃ x y r, cutAt 47 q = x :: y :: r := by
        match hx : cutAt 47 q with
        | [] => rw [hx] at h2; exact absurd h2 (by decide)
        | [x] => rw [hx, List.length_cons, List.length_nil] at h2; exact absurd h2 (by decide)
        | x :: y :: r => exact ⟨x, y, r, rfl⟩
      rw [e]
      cases wholeOf p <;> rfl
    · rw [cut_none hq]
      dsimp only
      cases hn : isNeg q with
      | true =>
        rw [wh_neg hn, Bool.and_false, Bool.false_and, Bool.false_and, if_neg Bool.false_ne_true]
        have hw : wholeOf q = none ∨ ∃ n : Nat, wholeOf q = some (-(n : Int)) := by
          unfold wholeOf
          rw [hn]
          unfold sgnd
          split
          · exact .inr ⟨_, rfl⟩
          · exact .inl rfl
        rcases hw with hw | ⟨n, hw⟩
        · rw [hw]
          cases wholeOf p <;> rfl
        · rw [hw]
          cases wholeOf p with
          | none => rfl
          | some t =>
            dsimp only
            have : decide (-(n : Int) < 2) = true := decide_eq_true (by omega)
            rw [this, Bool.true_or, if_pos rfl]
      | false =>
        have hw : wholeOf q = if isWh q = true then some ((val q : Nat) : Int) else none := by
          unfold wholeOf bare
          rw [hn, if_neg Bool.false_ne_true, sgnd_eq, Bool.false_and, Bool.not_false, Bool.and_true]
          rfl
        rw [hw]
        unfold wholeOf
        rw [sgnd_eq]
        cases h1 : isWh q with
        | false =>
          rw [if_neg Bool.false_ne_true, Bool.and_false, Bool.false_and, Bool.false_and, if_neg Bool.false_ne_true]
          generalize (if (isWh (bare p) && !(isNeg p && decide (val (bare p) = 0))) = true then some (sgn (isNeg p) (val (bare p))) else none) = o
          cases o <;> rfl
        | true =>
          rw [if_pos rfl, Bool.and_true]
          cases h2 : (isWh (bare p) && !(isNeg p && decide (val (bare p) = 0))) with
          | false =>
            rw [if_neg Bool.false_ne_true, Bool.false_and, if_neg Bool.false_ne_true]
          | true =>
            rw [if_pos rfl, Bool.true_and]
            dsimp only
            rw [gcd_sgn]
            have e3 : decide (((val q : Nat) : Int) < 2) = decide (val q < 2) := by rw [Bool.eq_iff_iff, decide_eq_true_eq, decide_eq_true_eq]; omega
            rw [e3]
            cases (decide (val q < 2) || !((val (bare p)).gcd (val q) == 1)) <;> rfl
  · have e1 : TL.par [47] [] w = none := TL.par_none1 h
    unfold pairOf progOf
    rw [e1, cut_none fun z => h (bare_mem z)]
    dsimp only
    unfold wholeOf
    rw [sgnd_eq]
    split <;> rfl
/-- a ratio's text -/
def ratText (t b : Int) : Str := if b = 1 then Str.ofString (toString t) else ((Str.empty ++ Str.ofString (toString t)) ++ Str.ofString "/") ++ Str.ofString (toString b)
theorem tl_ratText (t b : Int) : tl (ratText t b) = if b = 1 then numI t else numI t ++ 47 :: numI b := by
  unfold ratText
  split
  · exact tl_numI t
  · have e : tl (Str.ofString "/") = [47] := by decide +kernel
    have e0 : tl Str.empty = [] := rfl
    rw [TL.tl_append, TL.tl_append, TL.tl_append, e, e0, tl_numI, tl_numI, List.nil_append, List.append_assoc]
    rfl
theorem numI_sgn {neg : Bool} {a : List Nat} (h : isWh a = true) (h0 : (neg && decide (val a = 0)) = false) : numI (sgn neg (val a)) = if neg = true then 45 :: a else a := by
  unfold sgn numI
  cases neg with
  | false =>
    rw [if_neg Bool.false_ne_true, if_neg (by omega), if_neg Bool.false_ne_true, Int.toNat_natCast, numL_wh h]
  | true =>
    rw [Bool.true_and] at h0
    have := of_decide_eq_false h0
    rw [if_pos rfl, if_pos (by omega), if_pos rfl, Int.natAbs_neg, Int.natAbs_natCast, numL_wh h]
theorem bare_back (w : List Nat) : (if isNeg w = true then 45 :: bare w else bare w) = w := by
  unfold bare
  split
  · rename_i e
    cases w with
    | nil => cases e
    | cons x r =>
      have ex : x = 45 := by
        have := of_decide_eq_true e
        simpa using this
      rw [ex]
      rfl
  · rfl
/-- what a text says, and that it is its text -/
theorem prog_text {w : List Nat} {t b : Int} (h : progOf w = some (t, b)) : tl (ratText t b) = w ∧ t.natAbs < 10 ^ 60 ∧ 1 ≤ b ∧ b.natAbs < 10 ^ 60 ∧ Nat.gcd t.natAbs b.natAbs = 1 := by
  have small : ∀ {a : List Nat}, isWh a = true → val a < 10 ^ 60 := fun {a} ha => by
    obtain ⟨_, h2, h3, _⟩ := isWh_parts ha
    exact Nat.lt_of_lt_of_le (val_lt a.length a rfl h3) (Nat.pow_le_pow_right (by decide) h2)
  unfold progOf at h
  split at h
  · rename_i a e
    split at h
    · rename_i c
      rw [Bool.and_eq_true] at c
      obtain ⟨c1, c2⟩ := c
      have c3 : (isNeg w && decide (val a = 0)) = false := Bool.not_eq_true' _ |>.mp c2
      cases h
      have hw : 47 ∉ bare w := fun z => by
        have := cut_two z
        rw [e, List.length_cons, List.length_nil] at this
        exact absurd this (by decide)
      have ea : bare w = a := by
        rw [cut_none hw] at e
        exact (List.cons.inj e).1
      refine ⟨?_, by rw [sgn_abs]; exact small c1, by decide, by decide, by rw [show (1 : Int).natAbs = 1 from rfl]; exact Nat.gcd_one_right _⟩
      rw [tl_ratText, if_pos rfl, numI_sgn c1 c3, ← ea]
      exact bare_back w
    · cases h
  · rename_i a b' e
    split at h
    · rename_i c
      rw [Bool.and_eq_true, Bool.and_eq_true, Bool.and_eq_true] at c
      obtain ⟨⟨⟨c1, c2⟩, c3⟩, c4⟩ := c
      have c3' : (isNeg w && decide (val a = 0)) = false := Bool.not_eq_true' _ |>.mp c3
      have c4' : (decide (val b' < 2) || !((val a).gcd (val b') == 1)) = false := by simpa using c4
      rw [Bool.or_eq_false_iff] at c4'
      have g1 := of_decide_eq_false c4'.1
      have g2 : (val a).gcd (val b') = 1 := by
        have := c4'.2
        rw [Bool.not_eq_false', beq_iff_eq] at this
        exact this
      cases h
      refine ⟨?_, by rw [sgn_abs]; exact small c1, by omega, by rw [Int.natAbs_natCast]; exact small c2, by rw [gcd_sgn]; exact g2⟩
      have hw : 47 ∈ bare w := by
        by_cases z : 47 ∈ bare w
        · exact z
        · rw [cut_none z] at e
          exact absurd (List.cons.inj e).2 (by simp)
      obtain ⟨p, q, e2, hp⟩ := cut_at hw
      rw [e2, cut_some hp] at e
      obtain ⟨e3, e4⟩ := List.cons.inj e
      have hq : 47 ∉ q := fun z => by
        have := cut_two z
        rw [e4, List.length_cons, List.length_nil] at this
        exact absurd this (by decide)
      rw [cut_none hq] at e4
      have e5 := (List.cons.inj e4).1
      subst e3
      subst e5
      have nb : numI ((val q : Nat) : Int) = q := by
        have := numI_sgn (neg := false) c2 rfl
        simpa [sgn] using this
      rw [tl_ratText, if_neg (by omega), numI_sgn c1 c3', nb]
      have := bare_back w
      rw [e2] at this
      cases hn : isNeg w with
      | true =>
        rw [hn, if_pos rfl] at this
        rw [if_pos rfl]
        exact this
      | false =>
        rw [hn, if_neg Bool.false_ne_true] at this
        rw [if_neg Bool.false_ne_true]
        exact this
    · cases h
  · cases h
end Pk
end

section -- PkP
set_option linter.all false
set_option maxRecDepth 100000
set_option maxHeartbeats 2000000
/-! PkP: slices, beginnings and cuts of texts, as lists; an instance that is made. -/
namespace Pk
open PySem PySem.Spec L2 Evl
open PyProof.Rows hiding St
open TL (tl numL)
theorem tl_from (z : Str) (k : Nat) : tl (cutS z (some (k : Int)) none) = (tl z).drop k := by
  show ((z.cps.toList.drop (HT.sIx z.length 0 (some (k : Int)))).take (HT.sIx z.length z.length none - HT.sIx z.length 0 (some (k : Int)))) = z.cps.toList.drop k
  rw [HT.sIx_nat, HT.sIx_none]
  have e : z.length = z.cps.toList.length := TL.len_tl z
  rw [e]
  rcases Nat.le_total k z.cps.toList.length with h | h
  · rw [Nat.min_eq_left h]
    exact List.take_of_length_le (by rw [List.length_drop]; exact Nat.le_refl _)
  · rw [Nat.min_eq_right h, List.drop_of_length_le (Nat.le_refl _), List.drop_of_length_le h, List.take_nil]
theorem tl_to (z : Str) (k : Nat) : tl (cutS z none (some (k : Int))) = (tl z).take k := by
  show ((z.cps.toList.drop (HT.sIx z.length 0 none)).take (HT.sIx z.length z.length (some (k : Int)) - HT.sIx z.length 0 none)) = z.cps.toList.take k
  rw [HT.sIx_nat, HT.sIx_none, List.drop_zero, Nat.sub_zero]
  have e : z.length = z.cps.toList.length := TL.len_tl z
  rw [e]
  rcases Nat.le_total k z.cps.toList.length with h | h
  · rw [Nat.min_eq_left h]
  · rw [Nat.min_eq_right h, List.take_of_length_le (Nat.le_refl _), List.take_of_length_le h]
theorem lit_one {s : String} {c : Nat} (h : Str.ofString s = ⟨#[c]⟩) (z : Str) : Txt.startswith z (Str.ofString s) = decide ((tl z).head? = some c) := by
  rw [h]
  have e := PySem.StrLaws.subAt_one z c 0
  unfold Txt.startswith
  rw [Bool.eq_iff_iff, Bool.and_eq_true, decide_eq_true_eq, decide_eq_true_eq]
  rw [List.head?_eq_getElem?]
  exact e
theorem split_tl {s : String} {c : Nat} (h : Str.ofString s = ⟨#[c]⟩) (hc : c < 256) (z : Str) : (Txt.split z (Str.ofString s)).map tl = cutAt c (tl z) := by
  rw [h]
  exact TL.split_spl z ⟨#[c]⟩ (by show ([c] : List Nat) ≠ []; simp) (TL.kind_ok (by simpa using hc))
theorem spl_count (c : Nat) : ∀ (l acc : List Nat), (TL.spl [c] 0 acc l).length ≤ l.length + 1
  | [], acc => by rw [spl_end]; exact Nat.le_refl 1
  | x :: r, acc => by
    rw [spl_cons, List.length_cons]
    split
    · rw [List.length_cons]
      have := spl_count c r []
      omega
    · have := spl_count c r (acc ++ [x])
      omega
theorem wh_small {a : List Nat} (h : isWh a = true) : val a < 10 ^ 60 := by
  obtain ⟨_, h2, h3, _⟩ := isWh_parts h
  exact Nat.lt_of_lt_of_le (val_lt a.length a rfl h3) (Nat.pow_le_pow_right (by decide) h2)
/-- what the parts of a word tell of its pair -/
theorem prog_none {w : List Nat} {P : List (List Nat)} (hP : P = cutAt 47 (bare w)) (h : (decide (2 < P.length) || !((P.map isWh).all id)) = true) : progOf w = none := by
  unfold progOf
  rw [← hP]
  match P, h with
  | [], _ => rfl
  | [a], h =>
    have h1 : isWh a = false := by simpa using h
    dsimp only
    rw [h1, Bool.false_and, if_neg Bool.false_ne_true]
  | [a, b], h =>
    have h1 : (isWh a && isWh b) = false := by
      cases ea : isWh a <;> cases eb : isWh b <;> simp [ea, eb] at h ⊢
    dsimp only
    rw [h1, Bool.false_and, Bool.false_and, if_neg Bool.false_ne_true]
  | a :: b :: c :: r, _ => rfl
theorem prog_some {w : List Nat} {P : List (List Nat)} (hP : P = cutAt 47 (bare w)) (h : (decide (2 < P.length) || !((P.map isWh).all id)) = false) :
    ∃ (a : List Nat) (b : Nat), P[0]? = some a ∧ isWh a = true ∧ (P.length = 2 → ∃ q, P[1]? = some q ∧ isWh q = true ∧ b = val q) ∧ (P.length ≠ 2 → b = 1) ∧ b < 10 ^ 60 ∧
      progOf w = if (isNeg w && decide (val a = 0)) = true then none else if (decide (P.length = 2) && (decide (b < 2) || !(Nat.gcd (val a) b == 1))) = true then none else some (sgn (isNeg w) (val a), (b : Int)) := by
  have h0 : 1 ≤ P.length := by rw [hP]; exact spl_pos 47 _ _
  unfold progOf
  rw [← hP]
  match P, h, h0 with
  | [], _, h0 => exact absurd h0 (by decide)
  | [a], h, _ =>
    have h1 : isWh a = true := by simpa using h
    refine ⟨a, 1, rfl, h1, fun z => absurd z (by simp), fun _ => rfl, by decide, ?_⟩
    dsimp only
    rw [h1, Bool.true_and]
    cases (isNeg w && decide (val a = 0)) <;> rfl
  | [a, q], h, _ =>
    have h1 : isWh a = true ∧ isWh q = true := by simpa using h
    refine ⟨a, val q, rfl, h1.1, fun _ => ⟨q, rfl, h1.2, rfl⟩, fun z => absurd rfl z, wh_small h1.2, ?_⟩
    dsimp only
    rw [h1.1, h1.2, Bool.true_and, Bool.true_and]
    cases (isNeg w && decide (val a = 0)) with
    | true => rfl
    | false =>
      show (if (true && !(decide (val q < 2) || !((val a).gcd (val q) == 1))) = true then some (sgn (isNeg w) (val a), ((val q : Nat) : Int)) else none) = if (true && (decide (val q < 2) || !((val a).gcd (val q) == 1))) = true then none else some (sgn (isNeg w) (val a), ((val q : Nat) : Int))
      cases (decide (val q < 2) || !((val a).gcd (val q) == 1)) <;> rfl
  | a :: b :: c :: r, h, _ => exact absurd h (by simp)
/-- a value that is a new instance of the class at C, with these fields -/
def EvI (C : Addr) (fs : List (Str × V)) (te : TE) (σ : L2.St) (H : Hp) : Prop := ∀ H1, Ex H H1 → ∀ Q : VK, (∀ x dx H2, H1 x = none → Ex H1 H2 → H2 x = some (.ins C dx fs) → Q (.ref x) H2) → te σ H1 Q
theorem s_retI {C : Addr} {fs : List (Str × V)} {te : TE} {σ : L2.St} {H : Hp} {D : Ends} (h : EvI C fs te σ H) (k : ∀ x dx H1, H x = none → Ex H H1 → H1 x = some (.ins C dx fs) → D.rt (.ref x) H1) : tRet te D σ H := h H (Ex.refl H) _ k
end Pk
end

section -- PkQ
set_option linter.all false
set_option maxRecDepth 100000
set_option maxHeartbeats 2000000
/-! PkQ: C.m(k = e), m a static method; repr of pairs; assignments of two. -/
namespace Pk
open PySem PySem.Spec L2 Evl
open PyProof.Rows hiding St
section
variable {X : Cx} {CX : CXT} {k : Nat} {C q g : Addr} {mc : Value} {m : Str} {fd : FuncData} {ps ks : List Str} {sp : Sp} {E : XK} {pl : Sem Bool} {o : Expr} {kws : List Keyword} {ta : TE} {tk : TA} {pos apos : Pos}
def tStK (C : Addr) (sp : Sp) (E : XK) (ta : TE) (tk : TA) : TE := fun σ H Q => ta σ H fun x H1 => x = .ref C ∧ tk σ H1 fun zs H2 => sp zs H2 Q E
/-- C.m(k = e, ..), m a static method, nothing by position -/
theorem pe_statK (ho : PE X o ta) (rd : ClX.CRead X.K C mc) (st : StM X.K C mc m q g) (F : FnOk X.prog X.w X.K X.mg X.base CX k g fd ps sp) (hr : Room k X.A) (hb : KBinds X.K fd ps ks (fun us ws => us ++ ws) (fun vs zs => vs ++ zs)) (hx : Passes CX X E) (hkw : PK X kws tk)
    (hall : (backToKw pos (keywordEach kws X.env)).all (·.1.isSome) = true := by rfl) (hks : (backToKw pos (keywordEach kws X.env)).filterMap (·.1) = ks := by rfl)
    (hpl : ((backTo pos (starEach [] X.env)).any (·.1) || (backToKw pos (keywordEach kws X.env)).any (·.1.isNone)) = false := by rfl)
    (ht : eval (.Call (.Attribute o m apos) [] kws pos) X.env = (do let z ← eval o X.env; standAt apos.atName; let (fn, fs) ← holding [z] (getMethod z m pl); callWith pos fn fs (backTo pos (starEach [] X.env)) (backToKw pos (keywordEach kws X.env))) := by rfl) :
    PE X (.Call (.Attribute o m apos) [] kws pos) (tStK C sp E ta tk) := by
  refine ⟨fun pins s σ H Q I w => ?_⟩
  refine PySem.W.methodCall_KW (pl := pl) (thn (ho.run pins s σ H _ I w) fun u s1 ⟨x, H1, I1, rx, ex, w1⟩ => ?_) ht
  subst ex
  obtain rfl : u = Value.ref C := rx
  refine getstat_ok I1 rd st fun s2 I2 => ?_
  refine PySem.W.callWith_KW0 (h₀ := X.base) (first := []) I2.ok.mod.kin st.keep hall (thn (hkw.run pos pins s2 σ H1 _ I2 w1) fun ws s3 ⟨zs, H2, I3, rz, w2⟩ => ⟨I3.kIn, ?_⟩) hpl
  rw [hks]
  exact run_fnk (us := []) (vs := []) F hr hb hx I3 .nil rz w2
end
/-! ### assignments of two -/
section
variable {K : PySem.W.Frag} {σ : L2.St} {H : Hp} {ta tb te : TE} {D : Ends} {tz : TS} {i j : Nat} {u : V} {xs : List V}
theorem s_parL (h : EvL ta σ H xs) (hb : Ev tb σ H u) (k : ∀ p H1, H p = none → Ex H H1 → H1 p = some (.lst xs) → D.nx ((σ.set i (some (.ref p))).set j (some u)) H1) : tPar i j (tCons ta (tCons tb tNil)) D σ H := h H (Ex.refl H) _ fun p H1 hp e h1 =>
  hb H1 e _ fun H2 e2 => ⟨_, _, rfl, k p H2 hp (e.trans e2) (e2 _ _ h1)⟩
theorem q_parL (h : EvL ta σ H xs) (hb : Ev tb σ H u) (k : ∀ p H1, H p = none → Ex H H1 → H1 p = some (.lst xs) → tz D ((σ.set i (some (.ref p))).set j (some u)) H1) : tSeq (tPar i j (tCons ta (tCons tb tNil))) tz D σ H := s_parL (D := { D with nx := tz D }) h hb k
/-- a list and a new one, together -/
theorem el_catVL {p : Addr} {ys : List V} (ha : Ev ta σ H (.ref p)) (hp : H p = some (.lst xs)) (hb : EvL tb σ H ys) (hl : xs.length + ys.length ≤ 1000000) : EvL (tOp rCat ta tb) σ H (xs ++ ys) := fun H1 e Q k =>
  ha H1 e _ fun H2 e2 => hb H2 (e.trans e2) _ fun q H3 _ e3 hq => ⟨p, q, xs, ys, rfl, rfl, ((e.trans e2).trans e3) _ _ hp, hq, sz hl, fun l hl => k l _ (fresh_back (e2.trans e3) hl) ((e2.trans e3).trans (Ex.new hl)) upd_same⟩
/-! ### the text of a pair of ints -/
def pd (t b : Int) : PyData := .tuple [.int t, .int b]
theorem pd_dp {a : Addr} {t b : Int} (h : SqT K H a [.int t, .int b]) : Dp K H (.ref a) (pd t b) := .tup h (.cons (.int t) (.cons (.int b) .nil))
theorem pd_ok {t b : Int} (ht : t.natAbs.log2 < 1000) (hb : b.natAbs.log2 < 1000) : (pd t b).showable = true ∧ (pd t b).hasDict = false ∧ (pd t b).depth ≤ 40 ∧ (pd t b).shown.length ≤ sizeLine := by
  have h1 : decide (t.natAbs.log2 < 1920) = true := decide_eq_true (by omega)
  have h2 : decide (b.natAbs.log2 < 1920) = true := decide_eq_true (by omega)
  refine ⟨?_, ?_, ?_, ?_⟩
  · simp only [pd, PyData.showable, PyData.showableAll, h1, h2, Bool.and_true]
  · simp only [pd, PyData.hasDict, PyData.hasDictAll, Bool.or_false]
  · simp only [pd, PyData.depth, PyData.depthAll]
    decide
  · have l1 := numLen ht
    have l2 := numLen hb
    have h := PySem.tupleText_len_le (PyData.shownAll [.int t, .int b])
    simp only [pd, PyData.shown]
    simp only [PyData.shownAll, PyData.shown, List.map_cons, List.map_nil, List.sum_cons, List.sum_nil, List.length_cons, List.length_nil] at h ⊢
    exact sz (by omega)
theorem rc_repr {a : Addr} {t b : Int} (ht : t.natAbs.log2 < 1000) (hb : b.natAbs.log2 < 1000) (h : SqT K H a [.int t, .int b]) : RC (rReprD K) [.ref a] H (.str (pd t b).shown) := fun H1 e _ q =>
  have o := pd_ok ht hb
  ⟨a, pd t b, rfl, pd_dp (ex_t e h), o.1, o.2.1, o.2.2.1, o.2.2.2, q H1 (Ex.refl H1)⟩
theorem ev_reprU {t b : Int} (ht : t.natAbs.log2 < 1000) (hb : b.natAbs.log2 < 1000) (h : EvU ta σ H [.int t, .int b]) : Ev (tCB (rReprD K) (tCons ta tNil)) σ H (.str (pd t b).shown) := fun H1 e Q q =>
  h H1 e _ fun p H2 _ e2 hp => rc_repr ht hb (st_of hp) H2 (Ex.refl H2) _ fun H3 e3 => q H3 (e2.trans e3)
end
end Pk
end

section -- PkR
set_option linter.all false
set_option maxRecDepth 100000
set_option maxHeartbeats 2000000
/-! PkR: a text, many times. -/
namespace Pk
open PySem PySem.Spec L2 Evl
open PyProof.Rows hiding St
open TL (tl numL)
def repS (a : Str) (n : Int) : Str := ⟨(List.replicate n.toNat a.cps).foldl (· ++ ·) #[]⟩
theorem rep_size (a : Array Nat) : ∀ (n : Nat) (acc : Array Nat), ((List.replicate n a).foldl (· ++ ·) acc).size = acc.size + n * a.size
  | 0, acc => by simp
  | n + 1, acc => by
    rw [List.replicate_succ, List.foldl_cons, rep_size a n, Array.size_append, Nat.succ_mul]
    omega
theorem repS_length (a : Str) (n : Int) : (repS a n).length = n.toNat * a.length := by
  show ((List.replicate n.toNat a.cps).foldl (· ++ ·) #[]).size = _
  rw [rep_size]
  show 0 + n.toNat * a.cps.size = n.toNat * a.cps.size
  omega
def rMulS : R2 := fun x y H Q => ∃ (a : Str) (n : Int), x = .str a ∧ y = .int n ∧ a.length = 1 ∧ 1 < n ∧ n ≤ 10000 ∧ Q (.str (repS a n)) H
theorem op_mulS {X : Cx} : OpR X (binaryOp .Mult) rMulS := by
  intro pins s σ H x y v u Q I rx ry h
  obtain ⟨a, n, rfl, rfl, ha, n1, n2, q⟩ := h
  obtain ⟨t, rfl⟩ := rx
  obtain ⟨t2, rfl⟩ := ry
  refine P.mul_str ?_ (fun _ _ => ?_) (fun _ _ => ?_) ?_
  · rw [decide_eq_false (by omega), decide_eq_false (by omega)]; rfl
  · rw [ha]
    have : (1 : Int) ≤ (2 ^ 63 - 1) / n := (Int.le_ediv_iff_mul_le (by omega)).mpr (by omega)
    show ¬ (((1 : Nat) : Int) > (2 ^ 63 - 1) / n)
    omega
  · rw [ha]
    unfold Builtin.Str.tooLong
    exact decide_eq_false (Nat.not_lt.mpr (sz (by omega)))
  · rw [if_neg (by omega), if_neg]
    · exact ⟨sz (by rw [show (⟨List.foldl (fun x1 x2 => x1 ++ x2) #[] (List.replicate n.toNat a.cps)⟩ : Str) = repS a n from rfl, repS_length, ha]; omega), .str (repS a n), H, I.tok _, ⟨_, rfl⟩, q⟩
    · rw [ha]
      have : ¬ n = 1 := by omega
      simp [this]
end Pk
end

section -- PkS
set_option linter.all false
set_option maxRecDepth 100000
set_option maxHeartbeats 2000000
/-! PkS: the end of a law whose def is known where no repr is under way; what is looked at behind the top. -/
namespace Pk
open PySem PySem.Spec PyProof.Rows L2
/-! ### the law, called -/
section
variable {P : Program} {w : World} {K : PySem.W.Frag} {mg mb : Str → Option Value} {k : Nat} {fa a : Addr} {fd : FuncData} {x : Str} {sp : Sp} {s : Shared} {vs : List Value} {ns : List Int} {H : Hp}
/-- what an answer leaves -/
def LeftG (s : Shared) (r : Result) (z : Shared) : Prop := r = .ok (.ret (.bool true)) ∧ OldK s.heap z.heap ∧ z.os = s.os ∧ AllBare z.gens
/-- from a heap in which at most the script stands, as it was written -/
theorem lawG_from (KX : K.In s.heap) (g1 : s.heap.Ns mainGlobals mg) (g2 : s.heap.Ns builtinsNs mb) (g3 : ∀ y : Str, y ≠ "__name__" → mb y = bootBuiltins y) (g4 : s.heap.NoLimit) (g5 : s.gens = #[]) (hr : Room k callerA)
    (F : ∀ base : Heap, K.In base → FnG P w K mg base CX0 k fa fd [x] sp) (bind : ∀ (s : Shared) (u : Value), BindsTo s fd ⟨[u], []⟩ [(x, u)]) (hsp : sp [.ref a] H (fun v _ => v = .bl true) E0)
    (hok : HOk P w H s.heap) (only : ∀ b u, H b = some u → K.lookup b = none ∧ (∀ o es ep, s.heap.get? b = some o → o.data ≠ .dict es ep) ∧ ∃ o ys, u = .frz o (.lst ys)) : codeAny (model P w) callerA (.call (.ref fa) ⟨[.ref a], []⟩) (LeftG s) s := by
  have inB : K.In (hidT s.heap H) := fun b o e => hidT_get (KX b o e) (by
    cases z : H b with
    | none => rfl
    | some u => rw [(only b u z).1] at e; cases e)
  have nsB : ∀ {b : Addr} {m : Str → Option Value}, s.heap.Ns b m → (hidT s.heap H).Ns b m := fun {b m} t => by
    obtain ⟨o, es, ep, h1, h2, h3⟩ := t
    refine ⟨o, es, ep, hidT_get h1 ?_, h2, h3⟩
    cases z : H b with
    | none => rfl
    | some u => exact absurd h2 ((only b u z).2.1 o es ep h1)
  have mod : Mod K mg (hidT s.heap H) := by
    obtain ⟨mc, h1, h2⟩ := g4
    exact ⟨inB, nsB g1, ⟨mb, nsB g2, g3⟩, ⟨mc, nsB h1, h2⟩⟩
  have env : Env0 P w K mg (hidT s.heap H) callerA [] s H := { frames := rfl, mod := mod, bs := fun _ _ e => of_hidT e, bsz := Nat.le_of_eq (hidT_size _ _), funs := trivial, frf := fun _ hb => absurd hb List.not_mem_nil, hok := hok, bare := .of_eq g5 }
  have call := (F _ inB).go callerA [] s H ⟨[.ref a], []⟩ [.ref a] [.ref a] _ _ hr rfl env (bind s (.ref a)) (.cons rfl .nil) hsp
  refine codeAny_mono call fun r z h => ?_
  match r, h with
  | .ok (.ret u), h =>
    obtain ⟨v, H2, os, bare, un, hok2, rel, rfl⟩ := h
    cases (show u = Value.bool true from rel)
    refine ⟨rfl, OldK.of_keep fun b o e => ?_, os, bare⟩
    cases q : H b with
    | none => exact un.keep b o e q List.not_mem_nil List.not_mem_nil
    | some u =>
      obtain ⟨_, _, ob, ys, rfl⟩ := only b u q
      have e1 := (hok b _ q).1
      have e2 := (hok2 b _ (un.frzs b ob _ q)).1
      rw [e] at e1
      rw [Option.some.inj e1]
      exact e2
theorem lawG_call (KX : K.In s.heap) (g1 : s.heap.Ns mainGlobals mg) (g2 : s.heap.Ns builtinsNs mb) (g3 : ∀ y : Str, y ≠ "__name__" → mb y = bootBuiltins y) (g4 : s.heap.NoLimit) (g5 : s.gens = #[]) (hr : Room k callerA)
    (F : ∀ base : Heap, K.In base → FnG P w K mg base CX0 k fa fd [x] sp) (bind : ∀ (s : Shared) (u : Value), BindsTo s fd ⟨[u], []⟩ [(x, u)]) (hsp : ∀ H : Hp, SqL K H a (ns.map V.int) → sp [.ref a] H (fun v _ => v = .bl true) E0)
    (ha : s.heap.get? a = some { cls := .type "list", data := .seq vs.toArray }) (hi : IntsAre vs ns) (hl : ns.length ≤ sizeLine) : codeAny (model P w) callerA (.call (.ref fa) ⟨[.ref a], []⟩) (LeftG s) s := by
  have rv := vals_ints hi
  have lv := hi.length
  have lz : (ns.map V.int).length ≤ sizeLine := by rw [List.length_map]; exact hl
  cases hk : K.lookup a with
  | some o =>
    obtain rfl : o = { cls := .type "list", data := .seq vs.toArray } := Option.some.inj ((KX a o hk).symm.trans ha)
    refine lawG_from (H := fun _ => none) KX g1 g2 g3 g4 g5 hr F bind (hsp _ (.inr ⟨_, vs.toArray, _, hk, rfl, rfl, rfl, by rw [List.size_toArray, lv]; exact hl, by simpa using rv⟩)) (fun b u z => nomatch z) fun b u z => nomatch z
  | none =>
    obtain ⟨T, hT⟩ : ∃ T : Hp, T = fun b => if b = a then some (.frz { cls := .type "list", data := .seq vs.toArray } (.lst (ns.map V.int))) else none := ⟨_, rfl⟩
    have at_ : T a = some (.frz { cls := .type "list", data := .seq vs.toArray } (.lst (ns.map V.int))) := by rw [hT]; exact if_pos rfl
    have off : ∀ b u, T b = some u → b = a ∧ u = .frz { cls := .type "list", data := .seq vs.toArray } (.lst (ns.map V.int)) := fun b u z => by
      by_cases q : b = a
      · subst q
        exact ⟨rfl, Option.some.inj (z.symm.trans at_)⟩
      · rw [hT] at z
        have z' : (none : Option HO) = some u := (if_neg q).symm.trans z
        cases z'
    refine lawG_from (H := T) KX g1 g2 g3 g4 g5 hr F bind (hsp T (.inl (.inr ⟨_, at_⟩))) (fun b u z => ?_) fun b u z => ?_
    · obtain ⟨rfl, rfl⟩ := off b u z
      exact ⟨ha, lz, vs, _, rv, ha⟩
    · obtain ⟨rfl, rfl⟩ := off b u z
      refine ⟨hk, fun o es ep e d => ?_, _, _, rfl⟩
      rw [ha] at e
      rw [← Option.some.inj e] at d
      cases d
end
theorem walkG {l : PySem.W.OpenLaw} {n k : Nat} {q : Program} {loose : List Str} {XP : (Str → Option Value) → Heap → Prop} {YP : World → Heap → Prop} {d : DefRec} {x : Str} (hn : l.most = some n) (hn2 : n ≤ sizeLine) (hdf : d.params.defaults = []) (hr : Room k callerA)
    (F : ∀ (w : World) (mg : Str → Option Value) (fa : Addr) (h : Heap), YP w h → h.Ns mainGlobals mg → mg d.name = some (.ref fa) → ∃ (K : PySem.W.Frag) (fd : FuncData) (sp : Sp), K.In h ∧ (∀ (s : Shared) (u : Value), BindsTo s fd ⟨[u], []⟩ [(x, u)]) ∧
      (∀ (H : Hp) (a : Addr) (ns : List Int), SqL K H a (ns.map V.int) → sp [.ref a] H (fun v _ => v = .bl true) E0) ∧ ∀ base : Heap, K.In base → FnG l.prog w K mg base CX0 k fa fd [x] sp) : PySem.W.WalkO q loose XP YP l.row.toRowW d [] (fun f vs => PySem.call f vs) := by
  refine Att.attach_call hn hdf fun w s₀ s₁ mg mb fa o pm cd doc a vs ns G Y _ _ _ hmg hobj hints hlen hg => ?_
  obtain ⟨K, fd, sp, KX, hb, hsp, hF⟩ := F w mg fa _ Y G.T.g hmg
  exact lawG_call KX G.T.g G.T.b G.T.builtins G.T.nolimit hg hr hF hb (fun H hS => hsp H a ns hS) hobj hints (Nat.le_trans hlen hn2)
end Pk
end

section -- PkT
set_option linter.all false
set_option maxRecDepth 100000
set_option maxHeartbeats 2000000
/-! PkT: operators that an own class defines, and that may raise: + - *, == and != beside any value, -x, abs, the truth of an instance. -/
namespace PySem.W
open PySem PySem.Calls PyProof.Rows Builtin
section
variable {prog : Program} {w : World} {A : Around} {E : Value → Shared → Prop} {s : Shared} {K : Frag} {x C L f : Addr} {h₀ : Heap} {m : Str → Option Value} {ox : Obj} {od : Option Obj} {T : String}
/-- x op b, the class of x defines it, b of a built-in type, wherever b's type is found -/
theorem pk_binT {op : Operator} {b : Value} {fo ro rc : Option Value} {Q : Value → Shared → Prop} (F : Fr h₀ L s.heap m) (X₀ : K.In h₀) (I : InstAt s.heap x ox C od) (hb : Looks (model prog w) s.heap (typeOf b) (.type T)) (hc : selfFirst K C = true)
    (hs : findIn K (.ref C) (PySem.dunder op.info.2) = some (some (.ref f))) (hf : isFn K (.ref f) = true) (hr : findIn K (.ref C) (dunderR op.info.2) = some rc) (hp : rc = none ∨ ∃ g : Addr, rc = some (.ref g))
    (h1 : findIn K (.type T) (PySem.dunder op.info.2) = some fo) (h2 : findIn K (.type T) (dunderR op.info.2) = some ro) (hsub : subIn K (.type T) (.ref C) = some false)
    (h : wpAny (model prog w) A (call (.ref f) [.ref x, b]) (CmpBack Q) E s) : wpAny (model prog w) A (binaryOp op (.ref x) b) Q E s := by
  have X := X₀.keeps F.keep
  obtain ⟨cd, rest, hcd, hm⟩ := ksp_first hc
  obtain ⟨nm, ei⟩ : ∃ nm, nm = op.info.2 := ⟨_, rfl⟩
  rcases hi : op.info with ⟨sym, q⟩
  rw [hi] at hs hr h1 h2 ei
  have eq : nm = q := ei
  subst eq
  replace hs : findIn K (.ref C) (PySem.dunder nm) = some (some (.ref f)) := hs
  replace hr : findIn K (.ref C) (dunderR nm) = some rc := hr
  replace h1 : findIn K (.type T) (PySem.dunder nm) = some fo := h1
  replace h2 : findIn K (.type T) (dunderR nm) = some ro := h2
  have done := ksp_try X I hs hf h
  obtain ⟨hh, g, d, tt, os⟩ := s
  have t1 : Looks (model prog w) hh (typeOf (.ref x)) (.ref C) := I.type
  have t2 : Looks (model prog w) hh (typeOf b) (.type T) := hb
  have t3 : Looks (model prog w) hh (fillsNumberSlot (.ref C) nm) true := fills_K X hcd hm hs
  obtain ⟨right, t4⟩ : ∃ right, Looks (model prog w) hh (fillsNumberSlot (.type T) nm) right := ⟨_, ksp_fillsT X h1 h2⟩
  have t5 : Looks (model prog w) hh (isSubtype (.type T) (.ref C)) false := looks_subIn X hsub
  have t6 : Looks (model prog w) hh (numberSlotInPython (.ref C) nm) true := ksp_inPy X hs hr hp
  have t7 : Looks (model prog w) hh (numberSlotInPython (.type T) nm) false := Looks.of_pure rfl
  have t8 : Looks (model prog w) hh (typeLookup (.type T) (dunderR nm)) ro := looks_findIn X h2
  have off : (Value.ref C == Value.type T) = false := by
    cases z : (Value.ref C == Value.type T) with
    | false => rfl
    | true => cases beq_iff_eq.mp z
  simp only [binaryOp, hi]
  refine wpAny_holding (wpAny_bind ?_)
  unfold binaryOp1
  refine wpAny_bind (t1.at (wpAny_bind (t2.at (wpAny_bind (t3.at ?_)))))
  simp only [off, Bool.false_eq_true, if_false]
  cases right <;>
    (ksp_lk
     refine wpAny_mono done (fun r s' hz => ?_) fun _ _ e => e
     obtain ⟨v, rfl, hq⟩ := hz
     ksp_lk
     exact hq)
/-- bool(x), by what tells whether x is true -/
theorem pk_bool {v : Value} {Q : Value → Shared → Prop} (h : wpAny (model prog w) A.in1.in1 (truthy v) (fun b z => Q (.bool b) z) E s) : wpAny (model prog w) A (call (.type "bool") [v]) Q E s := by
  refine callType_newIn (S := fun A R s => wpAny (model prog w) A.in1 (truthy v) (fun b z => R (.ok (.ret (.bool b))) z) (fun e z => R (.error e) z) s) PySem.F.called_bool PySem.F.newNe_bool (PySem.F.typeCall_bool_1 v) (PySem.F.newCall_bool_1 v) (fun obj => PySem.F.args_object_init_2 obj v) PySem.F.entry_bool_new (fun A R s hs => ?_) (wpAny_mono h (fun b z q => ⟨rfl, q⟩) fun _ _ e => e)
  have f1 := PySem.F.conv_sub_bool
  unfold Builtin.«bool.__new__»
  repeat (first
    | (with_reducible refine wpAny_bind (m := truthy v) (wpAny_mono hs (fun b z q => ?_) fun _ _ e => e))
    | wp_step)
  all_goals first | exact q | assumption | trace_state
/-- .. what the default __ne__ asks of the own __eq__ -/
theorem pk_objNe {b : Value} {Q : Fin → Shared → Prop} (hu : A.units < cLine) (X : K.In s.heap) (I : InstAt s.heap x ox C od) (hs : findIn K (.ref C) "__eq__" = some (some (.ref f))) (hf : isFn K (.ref f) = true)
    (h : wpAny (model prog w) A (call (.ref f) [.ref x, b]) (fun v z => ∃ c, v = .bool c ∧ Q (.done (.ret (.bool (!c)))) z) E s) : wpAny (model prog w) A (Builtin.«object.__ne__» ⟨[.ref x, b], []⟩) Q E s := by
  have mid := ifBound_K (M := model prog w) (A := A) (E := E) (args := [b]) (Q := fun r z => ∃ c, r = some (.bool c) ∧ Q (.done (.ret (.bool (!c)))) z) X I hs hf (wpAny_mono h (fun v z hz => by
    obtain ⟨c, rfl, q⟩ := hz
    exact ⟨c, rfl, q⟩) fun _ _ e => e)
  unfold Builtin.«object.__ne__»
  refine wpAny_bind (wpAny_of_eq (a := ((Value.ref x : Value), [b])) (by first | rfl | (simp only [slotArgs]; rfl)) ?_)
  refine wpAny_bind (wpAny_cRoomFor hu ?_)
  refine wpAny_bind (m := callSpecialIfBound? (.ref x) (Str.ofString "__eq__") [b]) (wpAny_mono mid (fun r z hz => ?_) fun _ _ e => e)
  obtain ⟨c, rfl, q⟩ := hz
  exact wpAny_bind (wpAny_truthy_bool (wpAny_pure q))
theorem pk_ifNe {M : Model} {args : List Value} {Q : Option Value → Shared → Prop} (X : K.In s.heap) (I : InstAt s.heap x ox C od) (hne : findIn K (.ref C) "__ne__" = some (some (.builtin "object.__ne__")))
    (h : wpAny M A (call (.builtin "object.__ne__") (.ref x :: args)) (fun v => Q (some v)) E s) : wpAny M A (callSpecialIfBound? (.ref x) "__ne__" args) Q E s := by
  have last : wpAny M A (call (.builtin "object.__ne__") ([.ref x] ++ args) >>= fun v => pure (some v)) Q E s := wpAny_bind (wpAny_mono h (fun v z q => wpAny_pure q) fun _ _ e => e)
  have bound := PySem.F.cmp_object.ne.bind (.ref x)
  simp only [callSpecialIfBound?, bindSpecialIfBound?]
  refine wpAny_holding (wpAny_bind (wpAny_bind (wpAny_bind (I.type.here ((looks_findIn X hne).here (wpAny_bind (wpAny_askSetting (wpAny_ite ?_))))))))
  split
  · exact wpAny_bind (wpAny_of_eq bound (wpAny_pure (by exact last)))
  · exact wpAny_tryCatch (wpAny_bind (wpAny_of_eq bound (wpAny_pure (by exact last))))
/-- x != b, by the class's own __eq__ -/
theorem pk_ne {b tb : Value} {Q : Value → Shared → Prop} (hu : A.units + 1 < cLine) (F : Fr h₀ L s.heap m) (X₀ : K.In h₀) (I : InstAt s.heap x ox C od) (hb : Looks (model prog w) s.heap (typeOf b) tb) (hn : notFirst K C tb = true) (hm : mroIn K C (.type "object") = some true)
    (hne : findIn K (.ref C) "__ne__" = some (some (.builtin "object.__ne__"))) (hs : findIn K (.ref C) "__eq__" = some (some (.ref f))) (hf : isFn K (.ref f) = true)
    (h : wpAny (model prog w) A.in1 (call (.ref f) [.ref x, b]) (fun v z => ∃ c, v = .bool c ∧ Q (.bool (!c)) z) E s) : wpAny (model prog w) A (richCompare .NotEq (.ref x) b) Q E s := by
  have X := X₀.keeps F.keep
  have ask : wpAny (model prog w) A (call (.builtin "object.__ne__") [.ref x, b]) (fun v z => ∃ c, v = .bool c ∧ Q (.bool c) z) E s :=
    wpAny_call (codeAny_call_builtin PySem.F.cmp_object.ne.plain PySem.F.cmpEntry_ne (check_slot PySem.F.cmpKind_ne PySem.F.cmpSplit_ne (I.type.andThen (looks_mroIn X hm)) (PySem.F.cmpArgs_ne _ _) (pk_objNe (by show A.units + 1 < cLine; exact hu) X I hs hf (wpAny_mono h (fun v z hz => by
      obtain ⟨c, rfl, q⟩ := hz
      exact ⟨c, rfl, ⟨!c, rfl, q⟩⟩) fun _ _ e => e))))
  have one : wpAny (model prog w) A (tryCompare (.ref x) (cmpInfo .NotEq).2.1 b) (fun r z => ∃ c, r = some (.bool c) ∧ Q (.bool c) z) E s := by
    unfold tryCompare
    refine wpAny_bind (pk_ifNe X I hne (wpAny_mono ask (fun v z hz => ?_) fun _ _ e => e))
    obtain ⟨c, rfl, q⟩ := hz
    exact wpAny_pure ⟨c, rfl, q⟩
  unfold richCompare
  simp only [oneThing_ref]
  refine wpAny_holding (wpAny_bind (wpAny_cRoomFor (Nat.lt_of_succ_lt hu) (wpAny_bind (I.type.here (wpAny_bind (hb.here ?_))))))
  split
  · next q =>
    have e : subIn K tb (.ref C) = some false := by
      rcases Bool.or_eq_true_iff.mp hn with z | z
      · rw [beq_iff_eq.mp z] at q
        simp at q
      · exact beq_iff_eq.mp z
    refine wpAny_bind ((looks_subIn X e).here ?_)
    simp only [Bool.false_eq_true, if_false]
    exact wpAny_bind (wpAny_mono one (fun r z hz => by
      obtain ⟨c, rfl, k⟩ := hz
      exact wpAny_pure k) fun _ _ e => e)
  · refine wpAny_bind (wpAny_pure ?_)
    simp only [Bool.false_eq_true, if_false]
    exact wpAny_bind (wpAny_mono one (fun r z hz => by
      obtain ⟨c, rfl, k⟩ := hz
      exact wpAny_pure k) fun _ _ e => e)
end
end PySem.W
namespace Pk
open PySem PySem.Spec L2
open PyProof.Rows hiding St
/-! ### operators whose asking may hang on the slots -/
def OpS (X : Cx) (op : Value → Value → Sem Value) (r : St → V → V → Hp → VK → Prop) : Prop := ∀ (pins : List (Addr × Obj)) (s : Shared) (σ : St) (H : Hp) (x y : V) (v u : Value) (Q : VK), Inv X pins σ H s → RelV x v → RelV y u → r σ x y H Q →
  wpAny (model X.prog X.w) X.A (op v u) (EP X pins σ Q) X.xe s
def tOpS (r : St → V → V → Hp → VK → Prop) (ta tb : TE) : TE := fun σ H Q => ta σ H fun x H1 => tb σ H1 fun y H2 => r σ x y H2 Q
section
variable {X : Cx} {a b : Expr} {ta tb : TE} {pos : Pos} {r : St → V → V → Hp → VK → Prop}
theorem pe_opS {op : Operator} (ho : OpS X (binaryOp op) r) (ha : PE X a ta) (hb : PE X b tb) : PE X (.BinOp a op b pos) (tOpS r ta tb) := ⟨fun pins s σ H Q I h =>
  wpAny_BinOp (binT ha hb I h fun v u s2 x y H2 I2 rx ry q => ho pins s2 σ H2 x y v u Q I2 rx ry q)⟩
theorem pe_cmpS {op : CmpOp} (ho : OpS X (compareOp op) r) (ha : PE X a ta) (hb : PE X b tb) (hm : behindInMarks op b = false) : PE X (.Compare a [op] [b] pos) (tOpS r ta tb) := ⟨fun pins s σ H Q I h =>
  wpAny_Compare1 (binT ha hb I h fun v u s2 x y H2 I2 rx ry q => ho pins s2 σ H2 x y v u Q I2 rx ry q) hm⟩
end
/-- a callee, run where an operator calls it; what it lets out is asked at the slots -/
def RunS (X : Cx) (A : Around) (f : Addr) (r : St → List V → Hp → VK → Prop) : Prop :=
  ∀ (pins : List (Addr × Obj)) (s : Shared) (σ : St) (H : Hp) (vs : List V) (us : List Value) (Q : VK), Inv X pins σ H s → Vals vs us → r σ vs H Q → wpAny (model X.prog X.w) A (call (.ref f) us) (EP X pins σ Q) X.xe s
section
variable {X : Cx} {CX : CXT} {k : Nat} {f C : Addr} {fd : FuncData} {ps : List Str} {sp : Sp} {E : St → XK}
theorem runS_fn (F : FnOk X.prog X.w X.K X.mg X.base CX k f fd ps sp) (hr : Room k X.A) (hb : Binds X.K fd ps []) (hx : ∀ σ, PassesAt CX X σ (E σ)) : RunS X X.A f (fun σ vs H Q => sp vs H Q (E σ)) :=
  fun _ _ σ _ _ _ _ I rv q => run_fnS F hr hb (hx σ) I rv q
/-- x op y, x an instance of the class at C, y one of the same class -/
def rBinI (C : Addr) (r : St → List V → Hp → VK → Prop) : St → V → V → Hp → VK → Prop := fun σ x y H Q => ∃ (a dx b dy : Addr) (fs gs : List (Str × V)), x = .ref a ∧ H a = some (.ins C dx fs) ∧ y = .ref b ∧ H b = some (.ins C dy gs) ∧ r σ [.ref a, .ref b] H fun v G => (∃ c, v = .ref c) ∧ Q v G
theorem ret_cmp {pins : List (Addr × Obj)} {σ : St} {Q : VK} {u : Value} {s : Shared} (z : EP X pins σ (fun v G => (∃ c, v = V.ref c) ∧ Q v G) u s) : PySem.W.CmpBack (EP X pins σ Q) u s := by
  obtain ⟨v, G, J, ru, ⟨c, rfl⟩, q⟩ := z
  obtain rfl : u = Value.ref c := ru
  exact ⟨.ref c, G, J, rfl, q⟩
theorem op_binI {op : Operator} {r : St → List V → Hp → VK → Prop} (hc : PySem.W.selfFirst X.K C = true) (hs : PySem.W.findIn X.K (.ref C) (PySem.dunder op.info.2) = some (some (.ref f))) (hf : PySem.W.isFn X.K (.ref f) = true) (c : RunS X X.A f r) :
    OpS X (binaryOp op) (rBinI C r) := by
  intro pins s σ H x y v u Q I rx ry q
  obtain ⟨a, dx, b, dy, fs, gs, rfl, ha, rfl, hb, q⟩ := q
  obtain ⟨mA, O, _⟩ := ins_get I.hok ha
  obtain ⟨od, J, _⟩ := O.look
  obtain ⟨mB, O2, _⟩ := ins_get I.hok hb
  obtain ⟨od2, J2, _⟩ := O2.look
  obtain ⟨m, hF⟩ := I.fr
  cases (show v = Value.ref a from rx)
  cases (show u = Value.ref b from ry)
  exact PySem.W.binop_K hF I.ok.mod.kin J J2.type hc hs hf (thn (c pins s σ H [.ref a, .ref b] [.ref a, .ref b] _ I (.cons rfl (.cons rfl .nil)) q) fun z s1 hz => ret_cmp hz)
/-- the type of a value, where it is looked up -/
theorem ty_looks {pins : List (Addr × Obj)} {σ : St} {H : Hp} {s : Shared} {y : V} {u T : Value} (I : Inv X pins σ H s) (ry : RelV y u) (ty : TyX X.K H y T) : PySem.W.Looks (model X.prog X.w) s.heap (typeOf u) T := by
  obtain ⟨P, Z, p, _⟩ := kit_of I ry ty
  exact Z.ty _ _ I.kIn p
/-- what is told of a built-in type beside an operator of the class -/
structure BinT (K : PySem.W.Frag) (C : Addr) (nm T : String) : Prop where
  fo : ∃ fo, PySem.W.findIn K (.type T) (PySem.dunder nm) = some fo
  ro : ∃ ro, PySem.W.findIn K (.type T) (dunderR nm) = some ro
  sub : PySem.W.subIn K (.type T) (.ref C) = some false
def rBinT (K : PySem.W.Frag) (C : Addr) (nm : String) (r : St → List V → Hp → VK → Prop) : St → V → V → Hp → VK → Prop := fun σ x y H Q => ∃ (a dx : Addr) (fs : List (Str × V)) (T : String), x = .ref a ∧ H a = some (.ins C dx fs) ∧ TyX K H y (.type T) ∧ BinT K C nm T ∧ r σ [.ref a, y] H fun v G => (∃ c, v = .ref c) ∧ Q v G
theorem op_binT {op : Operator} {r : St → List V → Hp → VK → Prop} {rc : Option Value} (hc : PySem.W.selfFirst X.K C = true) (hs : PySem.W.findIn X.K (.ref C) (PySem.dunder op.info.2) = some (some (.ref f))) (hf : PySem.W.isFn X.K (.ref f) = true)
    (hr : PySem.W.findIn X.K (.ref C) (dunderR op.info.2) = some rc) (hp : rc = none ∨ ∃ g : Addr, rc = some (.ref g)) (c : RunS X X.A f r) : OpS X (binaryOp op) (rBinT X.K C op.info.2 r) := by
  intro pins s σ H x y v u Q I rx ry q
  obtain ⟨a, dx, fs, T, rfl, ha, ty, ⟨⟨fo, h1⟩, ⟨ro, h2⟩, h3⟩, q⟩ := q
  obtain ⟨mA, O, _⟩ := ins_get I.hok ha
  obtain ⟨od, J, _⟩ := O.look
  obtain ⟨m, hF⟩ := I.fr
  cases (show v = Value.ref a from rx)
  exact PySem.W.pk_binT hF I.ok.mod.kin J (ty_looks I ry ty) hc hs hf hr hp h1 h2 h3 (thn (c pins s σ H [.ref a, y] [.ref a, u] _ I (.cons rfl (.cons ry .nil)) q) fun z s1 hz => ret_cmp hz)
/-- both: y an instance of the class, or of a built-in type -/
theorem OpS.or {op : Value → Value → Sem Value} {r r2 : St → V → V → Hp → VK → Prop} (h1 : OpS X op r) (h2 : OpS X op r2) : OpS X op (fun σ x y H Q => r σ x y H Q ∨ r2 σ x y H Q) := fun pins s σ H x y v u Q I rx ry q => q.elim (h1 pins s σ H x y v u Q I rx ry) (h2 pins s σ H x y v u Q I rx ry)
/-- x == y, x != y by the class's own __eq__, which answers True or False; y any value whose type is told -/
def rEqV (neg : Bool) (K : PySem.W.Frag) (C : Addr) (r : List V → Hp → VK → Prop) : R2 := fun x y H Q => ∃ (a dx : Addr) (fs : List (Str × V)) (T : Value), x = .ref a ∧ H a = some (.ins C dx fs) ∧ TyX K H y T ∧ PySem.W.notFirst K C T = true ∧ r [.ref a, y] H fun v G => ∃ c, v = .bl c ∧ Q (.bl (c != neg)) G
theorem op_eqV {r : List V → Hp → VK → Prop} (hu : X.A.units < cLine) (hs : PySem.W.findIn X.K (.ref C) "__eq__" = some (some (.ref f))) (hf : PySem.W.isFn X.K (.ref f) = true) (c : RunAt X X.A f r) : OpR X (compareOp .Eq) (rEqV false X.K C r) := by
  intro pins s σ H x y v u Q I rx ry q
  obtain ⟨a, dx, fs, T, rfl, ha, ty, hn, q⟩ := q
  obtain ⟨mA, O, _⟩ := ins_get I.hok ha
  obtain ⟨od, J, _⟩ := O.look
  obtain ⟨m, hF⟩ := I.fr
  cases (show v = Value.ref a from rx)
  show wpAny _ X.A (richCompare .Eq (.ref a) u) _ _ _
  refine PySem.W.cmp_K (op := .Eq) hu hF I.ok.mod.kin J (ty_looks I ry ty) hn hs hf (thn (c pins s σ H [.ref a, y] [.ref a, u] _ I (.cons rfl (.cons ry .nil)) q) fun z s1 hz => ?_)
  obtain ⟨v, G, I1, rz, k, rfl, q1⟩ := hz
  cases rz
  rw [Bool.bne_false] at q1
  exact ⟨.bl k, G, I1, rfl, q1⟩
theorem op_neV {r : List V → Hp → VK → Prop} (hu : X.A.units + 1 < cLine) (hm : PySem.W.mroIn X.K C (.type "object") = some true) (hne : PySem.W.findIn X.K (.ref C) "__ne__" = some (some (.builtin "object.__ne__"))) (hs : PySem.W.findIn X.K (.ref C) "__eq__" = some (some (.ref f))) (hf : PySem.W.isFn X.K (.ref f) = true)
    (c : RunAt X X.A.in1 f r) : OpR X (compareOp .NotEq) (rEqV true X.K C r) := by
  intro pins s σ H x y v u Q I rx ry q
  obtain ⟨a, dx, fs, T, rfl, ha, ty, hn, q⟩ := q
  obtain ⟨mA, O, _⟩ := ins_get I.hok ha
  obtain ⟨od, J, _⟩ := O.look
  obtain ⟨m, hF⟩ := I.fr
  cases (show v = Value.ref a from rx)
  show wpAny _ X.A (richCompare .NotEq (.ref a) u) _ _ _
  refine PySem.W.pk_ne hu hF I.ok.mod.kin J (ty_looks I ry ty) hn hm hne hs hf (thn (c pins s σ H [.ref a, y] [.ref a, u] _ I (.cons rfl (.cons ry .nil)) q) fun z s1 hz => ?_)
  obtain ⟨v, G, I1, rz, k, rfl, q1⟩ := hz
  cases rz
  rw [Bool.bne_true] at q1
  exact ⟨k, rfl, .bl (!k), G, I1, rfl, q1⟩
/-- -x, abs(x) of an instance by its own methods -/
def rOwn1 (C : Addr) (r : List V → Hp → VK → Prop) : V → Hp → VK → Prop := fun x H Q => ∃ (a dx : Addr) (fs : List (Str × V)), x = .ref a ∧ H a = some (.ins C dx fs) ∧ r [.ref a] H Q
theorem un_negO {r : List V → Hp → VK → Prop} (hs : PySem.W.findIn X.K (.ref C) "__neg__" = some (some (.ref f))) (hf : PySem.W.isFn X.K (.ref f) = true) (c : RunAt X X.A f r) : UnR X (unaryOp .USub) (rOwn1 C r) := by
  intro pins s σ H x v Q I rx q
  obtain ⟨a, dx, fs, rfl, ha, q⟩ := q
  obtain ⟨mA, O, _⟩ := ins_get I.hok ha
  obtain ⟨od, J, _⟩ := O.look
  obtain ⟨m, hF⟩ := I.fr
  cases (show v = Value.ref a from rx)
  exact PySem.W.ksp_neg hF I.ok.mod.kin J hs hf (c pins s σ H [.ref a] [.ref a] _ I (.cons rfl .nil) q)
theorem call_absO {r : List V → Hp → VK → Prop} (hs : PySem.W.findIn X.K (.ref C) "__abs__" = some (some (.ref f))) (hf : PySem.W.isFn X.K (.ref f) = true) (c : RunAt X X.A.in1 f r) : CallR X (.builtin "abs") (fun xs H Q => ∃ x, xs = [x] ∧ rOwn1 C r x H Q) := by
  intro pins s σ H xs us Q I rv q
  obtain ⟨x, rfl, a, dx, fs, rfl, ha, q⟩ := q
  obtain ⟨mA, O, _⟩ := ins_get I.hok ha
  obtain ⟨od, J, _⟩ := O.look
  cases rv with
  | cons rx rn =>
    cases rn
    cases (show _ = Value.ref a from rx)
    refine Calls.call_function_entry kind_abs plain_abs entry_abs (args_abs _) ?_
    unfold Builtin.«abs»
    refine wpAny_bind (m := oneArg "abs" _) (wpAny_pure ?_)
    refine wpAny_bind (m := callSpecial? (.ref a) (Str.ofString "__abs__")) (PySem.W.special_fn I.kIn J hs (beq_iff_eq.mp hf) (thn (c pins s σ H [.ref a] [.ref a] _ I (.cons rfl .nil) q) fun z s1 hz => ?_))
    exact wpAny_pure ⟨_, rfl, hz⟩
/-- C(e, ..) that may raise -/
theorem calls_makeS {dvs : List V} {ds : List Value} (M : Mk X.K C f) (F : FnOk X.prog X.w X.K X.mg X.base CX k f fd ps sp) (hr : Room (k + 1) X.A) (hb : Binds X.K fd ps ds) (hd : Vals dvs ds) (hx : ∀ σ, PassesAt CX X σ (E σ)) :
    CallS X (.ref C) (fun σ vs H Q => ∀ x dx, H x = none → H dx = none → dx ≠ x → sp (.ref x :: (vs ++ dvs)) (upd (upd H dx (.own x)) x (.ins C dx [])) (fun v H2 => v = .non ∧ Q (.ref x) H2) (E σ)) := by
  intro pins s σ H vs us Q I rv q
  obtain ⟨n, hn⟩ : ∃ n, n = s.heap.objs.size := ⟨_, rfl⟩
  have J := Inv.made (C := C) I
  have told := q (s.heap.objs.size + 1) s.heap.objs.size (I.hok.fresh (Nat.le_succ _)) (I.hok.fresh (Nat.le_refl _)) (Nat.ne_of_lt (Nat.lt_succ_self _))
  have all : Vals (V.ref (s.heap.objs.size + 1) :: (vs ++ dvs)) (Value.ref (s.heap.objs.size + 1) :: (us ++ ds)) := .cons rfl (rv.append hd)
  have many : (Value.ref (s.heap.objs.size + 1) :: us ++ ds).length = ps.length := all.length.symm.trans (F.len _ _ _ _ told)
  have inner := F.run _ X.stack _ _ ⟨Value.ref (s.heap.objs.size + 1) :: us, []⟩ (Value.ref (s.heap.objs.size + 1) :: (us ++ ds)) _ _ (E σ) (hr.make C us []) (J.env0.make C us []) (hb _ (Value.ref (s.heap.objs.size + 1) :: us) J.kIn many) all told
  refine wpAny_call (make_map (f := f) I.kIn M.makes M.init (beq_iff_eq.mp M.fn) (codeAny_mono inner fun r z w => ?_))
  match r, w with
  | .error e, w => exact hx σ pins _ _ e z J w
  | .ok (.ret u), w =>
    obtain ⟨v, G, J2, ru, rfl, q2⟩ := J.after w
    exact ⟨ru, V.ref (s.heap.objs.size + 1), G, J2, rfl, q2⟩
/-- bool(x), x an instance with its own __bool__ -/
theorem call_boolO {r : List V → Hp → VK → Prop} (hs : PySem.W.findIn X.K (.ref C) "__bool__" = some (some (.ref f))) (hf : PySem.W.isFn X.K (.ref f) = true) (c : RunAt X X.A.in1.in1 f r) :
    CallR X (.type "bool") (fun xs H Q => ∃ (a dx : Addr) (fs : List (Str × V)), xs = [.ref a] ∧ H a = some (.ins C dx fs) ∧ r [.ref a] H fun v G => ∃ k, v = .bl k ∧ Q (.bl k) G) := by
  intro pins s σ H xs us Q I rv q
  obtain ⟨a, dx, fs, rfl, ha, q⟩ := q
  obtain ⟨mA, O, _⟩ := ins_get I.hok ha
  obtain ⟨od, J, _⟩ := O.look
  obtain ⟨m, hF⟩ := I.fr
  cases rv with
  | cons rx rn =>
    cases rn
    cases (show _ = Value.ref a from rx)
    refine PySem.W.pk_bool (PySem.W.truthy_K (Q := fun b z => EP X pins σ Q (.bool b) z) hF I.ok.mod.kin J hs hf (thn (c pins s σ H [.ref a] [.ref a] _ I (.cons rfl .nil) q) fun z s1 hz => by
      obtain ⟨v, G, I1, rz, k, rfl, q1⟩ := hz
      cases rz
      exact ⟨.bl k, G, I1, rfl, q1⟩))
/-- o.m(e, ..), what is asked may hang on the slots -/
def tMC (C : Addr) (m : Str) (r : St → List V → Hp → VK → Prop) (ta : TE) (t : TA) : TE := fun σ H Q => ta σ H fun x H1 => ∃ (a dx : Addr) (fs : List (Str × V)), x = .ref a ∧ H1 a = some (.ins C dx fs) ∧ fs.lookup m = none ∧ t σ H1 fun vs H2 => r σ (.ref a :: vs) H2 Q
theorem pe_methC {r : St → List V → Hp → VK → Prop} {pl : Sem Bool} {o e : Expr} {es : List Expr} {ta : TE} {t : TA} {m : Str} {apos pos : Pos} (he : PE X o ta) (c : Cls X.K C) (hm : Meth X.K C m f) (cs : CallS X (.ref f) r) (ha : PA X (e :: es) t)
    (hst : starEach (e :: es) X.env = (false, eval e X.env) :: starEach es X.env := by rfl) (hpl : (backTo pos (starEach es X.env)).any (·.1) = false := by rfl)
    (ht : eval (.Call (.Attribute o m apos) (e :: es) [] pos) X.env = (do let z ← eval o X.env; standAt apos.atName; let (fn, fs) ← holding [z] (getMethod z m pl); callWith pos fn fs (backTo pos (starEach (e :: es) X.env)) (backToKw pos (keywordEach [] X.env))) := by rfl) :
    PE X (.Call (.Attribute o m apos) (e :: es) [] pos) (tMC C m r ta t) := by
  refine ⟨fun pins s σ H Q I w => PySem.W.methodCall_KW (pl := pl) (thn (he.run pins s σ H _ I w) fun u s1 hz => ?_) ht⟩
  obtain ⟨x, H1, I1, rx, a, dx, fs, rfl, ea, l, q⟩ := hz
  obtain rfl : u = Value.ref a := rx
  refine getmeth_ok I1 ea c hm l (PySem.W.callWith_K (first := [.ref a]) (h₀ := X.base) I.ok.mod.kin hm.kp (thn (ha.run pos pins s1 σ H1 _ I1 q) fun us s2 hv => ?_) hst hpl)
  obtain ⟨vs, H2, I2, rv, q2⟩ := hv
  exact ⟨I2.kIn, cs pins s2 σ H2 (.ref a :: vs) (.ref a :: us) Q I2 (.cons rfl rv) q2⟩
/-- truth values, taken from one another -/
def rSubB : R2 := fun x y H Q => ∃ p q : Bool, x = .bl p ∧ y = .bl q ∧ Q (.int (PyProof.Rows.b2i p - PyProof.Rows.b2i q)) H
theorem op_subB : OpR X (binaryOp .Sub) rSubB := by
  intro pins s σ H x y v u Q I rx ry h
  obtain ⟨p, q, rfl, rfl, k⟩ := h
  cases rx
  cases ry
  exact PyProof.Rows.sub_bool ⟨.int (PyProof.Rows.b2i p - PyProof.Rows.b2i q), H, I.tok _, ⟨_, rfl⟩, k⟩
end
end Pk
end

section -- PkU
set_option linter.all false
set_option maxRecDepth 100000
set_option maxHeartbeats 2000000
/-! PkU: types that stay; a comprehension whose elements are made on the way. -/
namespace Pk
open PySem PySem.Spec L2 Evl
open PyProof.Rows hiding St
theorem tyof_ext {K : PySem.W.Frag} {H H2 : Hp} {v : V} {T : Value} (h : TyOf K H v T) (e : Ex H H2) : TyOf K H2 v T := by
  cases h with
  | non => exact .non
  | bl x => exact .bl x
  | int i => exact .int i
  | str x => exact .str x
  | flt x => exact .flt x
  | lst q => exact .lst (e _ _ q)
  | frz q => exact .frz (e _ _ q)
  | tup q => exact .tup (e _ _ q)
  | dK q => exact .dK (e _ _ q)
  | dT q => exact .dT (e _ _ q)
  | ins q a b c d r => exact .ins (e _ _ q) a b c d r
theorem tyx_ext {K : PySem.W.Frag} {H H2 : Hp} {v : V} {T : Value} (h : TyX K H v T) (e : Ex H H2) : TyX K H2 v T := by
  cases h with
  | base q => exact .base (tyof_ext q e)
  | byt b => exact .byt b
  | set q => exact .set (e _ _ q)
  | kList q c => exact .kList q c
  | kTuple q c => exact .kTuple q c
  | kDict q c => exact .kDict q c
  | fTuple q => exact .fTuple (e _ _ q)
  | fDict q => exact .fDict (e _ _ q)
section
variable {K : PySem.W.Frag} {σ : L2.St} {H : Hp} {te : TE}
/-- [e for x in ..], the elements made turn by turn: Y i v tells of the i-th, stays told, and is of no list -/
theorem lc_made {J : It} {n : Nat} {G : Hp → Prop} {Z : Nat → Hp → V → Hp → Prop} (w : Walk J n G Z) (hZ : ∀ i H x H2, Z i H x H2 → H2 = H) {Y : Nat → V → Hp → Prop} (hY : ∀ i v H H2, Ex H H2 → Y i v H → Y i v H2) (hL : ∀ i v H D xs ys, H D = some (.lst xs) → Y i v H → Y i v (upd H D (.lst ys))) (hz : n < 1000000)
    {vs : List Nat} {j : Nat} {H1 : Hp} {D : Addr} {Qd : Hp → Prop} (hG : ∀ H, Ex H1 H → G H) (hD : H1 D = none) (hw : ∀ x, wipe ((wipe σ vs).set j (some x)) vs = wipe σ vs)
    (he : ∀ i x H, i < n → Ex H1 H → Z i H x H → ∀ Qe : VK, (∀ v H4, Ex H H4 → Y i v H4 → Qe v H4) → te ((wipe σ vs).set j (some x)) H Qe) (hd : ∀ H xs, Ex H1 H → H D = some (.lst xs) → xs.length = n → (∀ i v, xs[i]? = some v → Y i v H) → Qd H) :
    ∃ W : Nat → Nat → Hp → Prop, (∃ m, W 0 m (upd H1 D (.lst []))) ∧ ∀ i m H, W i m H →
      (J.stop i H ∧ Qd H) ∨ (J.go i H ∧ ∃ Nx : Hp → Prop, (∀ H', Nx H' → ∃ m', m' < m ∧ W (i + 1) m' H') ∧ ∀ x H', J.yld i H x H' → gName j x (wipe σ vs) H' fun σ2 H2 => wipe σ2 vs = wipe σ vs ∧ tYes σ2 H2 fun b H3 =>
        if b = true then te σ2 H3 fun y H4 => ∃ acc, H4 D = some (.lst acc) ∧ acc.length < sizeLine ∧ Nx (upd H4 D (.lst (acc ++ [y]))) else Nx H3) := by
  refine lc_it w (fun i H => Ex H1 H ∧ ∃ xs, H D = some (.lst xs) ∧ xs.length = i ∧ ∀ k v, xs[k]? = some v → Y k v H) ⟨Ex.new hD, [], upd_same, rfl, fun k v h => by simp at h⟩ (fun i H _ p => hG H p.1) (fun i x H H2 hi p y => ?_) (fun H p => ?_)
  · have e := hZ i H x H2 y
    subst e
    obtain ⟨p1, xs, p2, p3, p4⟩ := p
    refine ⟨hw x, ?_⟩
    refine iteT (B := Ex H1 H2 ∧ ∃ xs, H2 D = some (HO.lst xs) ∧ xs.length = i + 1 ∧ ∀ k v, xs[k]? = some v → Y k v H2) ?_
    refine he i x H2 hi p1 y _ fun v H4 e4 yv => ⟨xs, e4 _ _ p2, szl (by omega), (p1.trans e4).mut hD, xs ++ [v], upd_same, by rw [List.length_append, p3]; rfl, fun k u hk => ?_⟩
    have d4 := e4 _ _ p2
    by_cases c : k < xs.length
    · rw [List.getElem?_append_left c] at hk
      exact hL k u H4 D xs _ d4 (hY k u H2 H4 e4 (p4 k u hk))
    · rw [List.getElem?_append_right (by omega)] at hk
      have k0 : k - xs.length = 0 := by
        cases q : k - xs.length with
        | zero => rfl
        | succ m => rw [q] at hk; simp at hk
      rw [k0] at hk
      have eu : u = v := (Option.some.inj hk).symm
      have ek : k = i := by omega
      subst eu ek
      exact hL k u H4 D xs _ d4 yv
  · obtain ⟨p1, xs, p2, p3, p4⟩ := p
    exact hd H xs p1 p2 p3 p4
/-- .. over a list | a tuple -/
theorem el_made {a : Addr} {ys : List V} {tl : TE} {j : Nat} {vs : List Nat} {Y : Nat → V → Hp → Prop} (hY : ∀ i v H H2, Ex H H2 → Y i v H → Y i v H2) (hL : ∀ i v H D xs ys, H D = some (.lst xs) → Y i v H → Y i v (upd H D (.lst ys))) (h : Ev tl σ H (.ref a)) (ha : SqL K H a ys) (hz : ys.length < 1000000)
    (hw : ∀ x, wipe ((wipe σ vs).set j (some x)) vs = wipe σ vs) (he : ∀ i x H1, ys[i]? = some x → Ex H H1 → ∀ Qe : VK, (∀ v H4, Ex H1 H4 → Y i v H4 → Qe v H4) → te ((wipe σ vs).set j (some x)) H1 Qe)
    {Q : VK} (k : ∀ p xs H2, H p = none → Ex H H2 → H2 p = some (.lst xs) → xs.length = ys.length → (∀ i v, xs[i]? = some v → Y i v H2) → Q (.ref p) H2) : tLc (iList K tl) (gName j) tYes te vs σ H Q := h H (Ex.refl H) _ fun H1 e1 => ⟨a, rfl, ⟨ys, ex_l e1 ha⟩, fun D hD =>
  lc_made walk_list (fun _ _ _ _ y => y.1) hY hL hz (fun H2 e2 => ex_l (e1.trans e2) ha) hD hw (fun i x H2 hi e2 y Qe q => he i x H2 y.2 (e1.trans e2) Qe q) fun H2 xs e2 h2 l p => k D xs H2 (fresh_back e1 hD) (e1.trans e2) h2 l p⟩
theorem el_madeT {a : Addr} {ys : List V} {tl : TE} {j : Nat} {vs : List Nat} {Y : Nat → V → Hp → Prop} (hY : ∀ i v H H2, Ex H H2 → Y i v H → Y i v H2) (hL : ∀ i v H D xs ys, H D = some (.lst xs) → Y i v H → Y i v (upd H D (.lst ys))) (h : Ev tl σ H (.ref a)) (ha : SqT K H a ys) (hz : ys.length < 1000000)
    (hw : ∀ x, wipe ((wipe σ vs).set j (some x)) vs = wipe σ vs) (he : ∀ i x H1, ys[i]? = some x → Ex H H1 → ∀ Qe : VK, (∀ v H4, Ex H1 H4 → Y i v H4 → Qe v H4) → te ((wipe σ vs).set j (some x)) H1 Qe)
    {Q : VK} (k : ∀ p xs H2, H p = none → Ex H H2 → H2 p = some (.lst xs) → xs.length = ys.length → (∀ i v, xs[i]? = some v → Y i v H2) → Q (.ref p) H2) : tLc (iTup K tl) (gName j) tYes te vs σ H Q := h H (Ex.refl H) _ fun H1 e1 => ⟨a, rfl, ⟨ys, ex_t e1 ha⟩, fun D hD =>
  lc_made walk_tup (fun _ _ _ _ y => y.1) hY hL hz (fun H2 e2 => ex_t (e1.trans e2) ha) hD hw (fun i x H2 hi e2 y Qe q => he i x H2 y.2 (e1.trans e2) Qe q) fun H2 xs e2 h2 l p => k D xs H2 (fresh_back e1 hD) (e1.trans e2) h2 l p⟩
end
/-- a list or a tuple, walked -/
def iLT (K : PySem.W.Frag) (tl : TE) : TI := fun σ H R => iList K tl σ H R ∨ iTup K tl σ H R
theorem pi_LT {X : Cx} {tg l : Expr} {tl : TE} (hl : PE X l tl) : PI X tg l (iLT X.K tl) := ⟨fun pins s σ H R I h => h.elim ((pi_list hl).run pins s σ H R I) ((pi_tup hl).run pins s σ H R I)⟩
/-- a comprehension over either -/
theorem lt_made {K : PySem.W.Frag} {σ : L2.St} {H : Hp} {te : TE} {a : Addr} {ys : List V} {tl : TE} {j : Nat} {vs : List Nat} {Y : Nat → V → Hp → Prop} (hY : ∀ i v H H2, Ex H H2 → Y i v H → Y i v H2) (hL : ∀ i v H D xs ys, H D = some (.lst xs) → Y i v H → Y i v (upd H D (.lst ys))) (h : Ev tl σ H (.ref a)) (ha : SqL K H a ys ∨ SqT K H a ys) (hz : ys.length < 1000000)
    (hw : ∀ x, wipe ((wipe σ vs).set j (some x)) vs = wipe σ vs) (he : ∀ i x H1, ys[i]? = some x → Ex H H1 → ∀ Qe : VK, (∀ v H4, Ex H1 H4 → Y i v H4 → Qe v H4) → te ((wipe σ vs).set j (some x)) H1 Qe)
    {Q : VK} (k : ∀ p xs H2, H p = none → Ex H H2 → H2 p = some (.lst xs) → xs.length = ys.length → (∀ i v, xs[i]? = some v → Y i v H2) → Q (.ref p) H2) : tLc (iLT K tl) (gName j) tYes te vs σ H Q := ha.elim (fun ha => .inl (el_made hY hL h ha hz hw he k)) (fun ha => .inr (el_madeT hY hL h ha hz hw he k))
section
variable {K : PySem.W.Frag} {σ : L2.St} {H : Hp} {te : TE}
/-- a comprehension over a tuple whose elements are known -/
theorem el_lcMT {a : Addr} {ys : List V} {tl : TE} {j : Nat} {vs : List Nat} (xs : List V) (h : Ev tl σ H (.ref a)) (ha : SqT K H a ys) (hn : xs.length = ys.length) (hz : ys.length < 1000000) (hw : ∀ x, wipe ((wipe σ vs).set j (some x)) vs = wipe σ vs)
    (he : ∀ (i : Nat) (x y : V), ys[i]? = some x → xs[i]? = some y → ∀ H1, Ex H H1 → Ev te ((wipe σ vs).set j (some x)) H1 y) : EvL (tLc (iTup K tl) (gName j) tYes te vs) σ H xs := fun H0 e Q q => h H0 e _ fun H1 e1 => ⟨a, rfl, ⟨ys, ex_t (e.trans e1) ha⟩, fun Dl hD =>
  lc_map walk_tup (fun _ _ _ _ y => y.1) xs hn (szl hz) (fun H2 e2 => ex_t ((e.trans e1).trans e2) ha) hD hw (fun i x y H2 e2 yy hy Qe qe => he i x y yy.2 hy H2 ((e.trans e1).trans e2) H2 (Ex.refl H2) Qe qe)
    fun H2 e2 h2 => q Dl H2 (fresh_back e1 hD) (e1.trans e2) h2⟩
theorem ev_any {ta : TE} {bs : List Bool} (h : EvL ta σ H (bs.map V.bl)) : Ev (tCB (rAny K) (tCons ta tNil)) σ H (.bl (bs.any id)) := fun H1 e Q q => h H1 e _ fun p H2 _ e2 h2 => ⟨p, bs, rfl, sq_of h2, q H2 e2⟩
end
end Pk
end

section -- PkV
set_option linter.all false
set_option maxRecDepth 100000
set_option maxHeartbeats 2000000
/-! PkV: repr of texts, of Booleans, of a pair of an int and a Boolean. -/
namespace Pk
open PySem PySem.Spec L2 Evl
open PyProof.Rows hiding St
open TL (tl numL)
def rReprT : List V → Hp → VK → Prop := fun vs H Q => ∃ a : Str, vs = [.str a] ∧ (reprText a).length ≤ sizeLine ∧ Q (.str (reprText a)) H
def rReprB : List V → Hp → VK → Prop := fun vs H Q => ∃ k : Bool, vs = [.bl k] ∧ Q (.str (if k then "True" else "False")) H
section
variable {X : Cx}
theorem call_reprT : CallR X (.builtin "repr") rReprT := by
  intro pins s σ H vs us Q I rv q
  obtain ⟨a, rfl, hz, q⟩ := q
  cases rv with
  | cons ra rn =>
    cases rn
    obtain ⟨t, rfl⟩ := ra
    exact PySem.P.repr_of_str ⟨.str _, H, I.tok _, ⟨_, rfl⟩, q⟩ hz
theorem call_reprB : CallR X (.builtin "repr") rReprB := by
  intro pins s σ H vs us Q I rv q
  obtain ⟨k, rfl, q⟩ := q
  cases rv with
  | cons ra rn =>
    cases rn
    cases ra
    exact PySem.P.repr_of_bool ⟨.str _, H, I.tok _, ⟨_, rfl⟩, q⟩
end
section
variable {K : PySem.W.Frag} {σ : L2.St} {H : Hp} {ta te : TE}
theorem ev_reprT {z : Str} (h : Ev te σ H (.str z)) (hz : (reprText z).length ≤ 1000000) : Ev (tCB rReprT (tCons te tNil)) σ H (.str (reprText z)) := ev_cb (ea_cons h ea_nil) fun H1 _ _ q => ⟨z, rfl, sz hz, q H1 (Ex.refl H1)⟩
theorem ev_reprB {k : Bool} (h : Ev te σ H (.bl k)) : Ev (tCB rReprB (tCons te tNil)) σ H (.str (if k then "True" else "False")) := ev_cb (ea_cons h ea_nil) fun H1 _ _ q => ⟨k, rfl, q H1 (Ex.refl H1)⟩
def pdb (t : Int) (b : Bool) : PyData := .tuple [.int t, .bool b]
theorem pdb_ok {t : Int} {b : Bool} (ht : t.natAbs.log2 < 1000) : (pdb t b).showable = true ∧ (pdb t b).hasDict = false ∧ (pdb t b).depth ≤ 40 ∧ (pdb t b).shown.length ≤ sizeLine := by
  have h1 : decide (t.natAbs.log2 < 1920) = true := decide_eq_true (by omega)
  refine ⟨?_, ?_, ?_, ?_⟩
  · simp only [pdb, PyData.showable, PyData.showableAll, h1, Bool.and_true]
  · simp only [pdb, PyData.hasDict, PyData.hasDictAll, Bool.or_false]
  · simp only [pdb, PyData.depth, PyData.depthAll]
    decide
  · have l1 := numLen ht
    have l2 : (PyData.bool b).shown.length ≤ 5 := by cases b <;> decide +kernel
    have h := PySem.tupleText_len_le (PyData.shownAll [.int t, .bool b])
    simp only [pdb, PyData.shown] at l2 ⊢
    simp only [PyData.shownAll, PyData.shown, List.map_cons, List.map_nil, List.sum_cons, List.sum_nil, List.length_cons, List.length_nil] at h ⊢
    exact sz (by omega)
theorem ev_reprUB {t : Int} {b : Bool} (ht : t.natAbs.log2 < 1000) (h : EvU ta σ H [.int t, .bl b]) : Ev (tCB (rReprD K) (tCons ta tNil)) σ H (.str (pdb t b).shown) := fun H1 e Q q =>
  h H1 e _ fun p H2 _ e2 hp =>
    have o := pdb_ok (b := b) ht
    ⟨p, pdb t b, rfl, .tup (st_of hp) (.cons (.int t) (.cons (.bl b) .nil)), o.1, o.2.1, o.2.2.1, o.2.2.2, q H2 e2⟩
/-- the text of a ratio, shown -/
theorem ratText_cps (t b : Int) : ∀ c ∈ (ratText t b).cps.toList, c < 16 ^ 8 := by
  have hn : ∀ (i : Int) (c : Nat), c ∈ numI i → c < 16 ^ 8 := fun i c hc => by
    unfold numI at hc
    split at hc
    · rcases List.mem_cons.mp hc with rfl | h
      · decide
      · exact Nat.lt_of_le_of_lt (TL.numL_digits _ c h).2 (by decide)
    · exact Nat.lt_of_le_of_lt (TL.numL_digits _ c hc).2 (by decide)
  intro c hc
  have hc' : c ∈ tl (ratText t b) := hc
  rw [tl_ratText] at hc'
  split at hc'
  · exact hn t c hc'
  · rcases List.mem_append.mp hc' with h | h
    · exact hn t c h
    · rcases List.mem_cons.mp h with rfl | h
      · decide
      · exact hn b c h
end
end Pk
end

section -- PkW
set_option linter.all false
set_option maxRecDepth 100000
set_option maxHeartbeats 2000000
/-! PkW: calls with keywords alone, which may raise; == of lists of unlike lengths. -/
namespace Pk
open PySem PySem.Spec L2 Evl
open PyProof.Rows hiding St
section
variable {X : Cx} {CX : CXT} {k : Nat} {f : Addr} {fd : FuncData} {ps ks : List Str} {sp : Sp} {E : St → XK} {x : Str} {kws : List Keyword} {tk : TA} {p pos : Pos}
/-- f(k = e, ..), nothing by position -/
def tCSK (r : St → List V → Hp → VK → Prop) (tk : TA) : TE := fun σ H Q => tk σ H fun zs H1 => r σ zs H1 Q
theorem pe_csK (F : FnOk X.prog X.w X.K X.mg X.base CX k f fd ps sp) (hr : Room k X.A) (hb : KBinds X.K fd ps ks (fun us ws => us ++ ws) (fun vs zs => vs ++ zs)) (hx : ∀ σ, PassesAt CX X σ (E σ)) (hm : X.mg x = some (.ref f)) (hk : PySem.W.keepIn X.K (.ref f) = true) (hkw : PK X kws tk) (hg : Gl X x := by rfl)
    (hall : (backToKw pos (keywordEach kws X.env)).all (·.1.isSome) = true := by rfl) (hks : (backToKw pos (keywordEach kws X.env)).filterMap (·.1) = ks := by rfl) (hdb : (x == ("__debug__" : Str)) = false := by decide)
    (hpl : ((backTo pos (starEach [] X.env)).any (·.1) || (backToKw pos (keywordEach kws X.env)).any (·.1.isNone)) = false := by rfl) :
    PE X (.Call (.Name x p) [] kws pos) (tCSK (fun σ zs H Q => sp zs H Q (E σ)) tk) := by
  refine ⟨fun pins s σ H Q I h => ?_⟩
  refine wpAny_Call_Name_kw (ld_glob I hg hm ?_ hdb)
  refine PySem.W.callWith_KW0 (h₀ := X.base) (first := []) I.ok.mod.kin hk hall (thn (hkw.run pos pins s σ H _ I h) fun ws s2 ⟨zs, H2, I2, rz, q2⟩ => ⟨I2.kIn, ?_⟩) hpl
  rw [hks]
  have r2 : Vals ([] ++ zs) ([] ++ ws) := hb.rel .nil rz
  have hl : ([] ++ ws).length = ps.length := by rw [← r2.length]; exact F.len _ _ _ _ q2
  refine wpAny_call (codeAny_mono (F.run X.A X.stack s2 H2 ⟨[], ks.zip ws⟩ ([] ++ ws) ([] ++ zs) Q (E σ) hr I2.env0 (hb.to s2 [] ws I2.kIn hl) r2 q2) fun r s' hq => ?_)
  cases r with
  | error e => exact hx σ pins H2 s2 e s' I2 hq
  | ok fl =>
    cases fl with
    | ret u => exact I2.after hq
    | next => exact False.elim hq
    | brk => exact False.elim hq
    | cont => exact False.elim hq
end
/-- xs == ys, two lists: unlike lengths, or both empty -/
def rEqLen : R2 := fun x y H Q => ∃ (a b : Addr) (xs ys : List V), x = .ref a ∧ y = .ref b ∧ H a = some (.lst xs) ∧ H b = some (.lst ys) ∧ (xs = [] ∨ ys = []) ∧ Q (.bl (decide (xs.length = ys.length))) H
theorem op_eqLen {X : Cx} (hu : X.A.units < cLine) : OpR X (compareOp .Eq) rEqLen := by
  intro pins s σ H x y v u Q I rx ry q
  obtain ⟨a, b, xs, ys, rfl, rfl, ha, hb, he, q⟩ := q
  cases rx
  cases ry
  obtain ⟨z, its, k, r, e⟩ := I.hok a _ ha
  obtain ⟨z2, its2, k2, r2, e2⟩ := I.hok b _ hb
  have l1 : xs.length = its.toArray.size := by rw [List.size_toArray]; exact r.length
  have l2 : ys.length = its2.toArray.size := by rw [List.size_toArray]; exact r2.length
  show wpAny _ X.A (richCompare .Eq (.ref a) (.ref b)) _ _ _
  have L1 : s.heap.IsList a its.toArray := ⟨_, e, rfl, k, rfl⟩
  have L2 : s.heap.IsList b its2.toArray := ⟨_, e2, rfl, k2, rfl⟩
  by_cases c : xs.length = ys.length
  · have c0 : its.toArray.size = 0 := by
      rcases he with h | h
      · rw [← l1, h]; rfl
      · rw [← l1, c, h]; rfl
    have w := PySem.SeqAt.RcAt.lists (e := fun _ => true) L1 L2 (by rw [← l1, ← l2]; exact c) hu (fun j h1 _ => by omega) X.prog X.w X.xe (EP X pins σ Q) (by
      rw [c0]
      rw [decide_eq_true c] at q
      exact ⟨.bl true, H, I, rfl, q⟩)
    exact w
  · have w := PySem.SeqAt.RcAt.lists_lengths L1 L2 (by rw [← l1, ← l2]; exact bne_iff_ne.mpr c) hu X.prog X.w X.xe (EP X pins σ Q) (by
      rw [decide_eq_false c] at q
      exact ⟨.bl false, H, I, rfl, q⟩)
    exact w
/-! ### xs[::k], k 1 or -1 -/
theorem pick_one (its : List Value) : slicePick its.toArray none none (some 1) = its.toArray := by
  unfold slicePick
  have e : sliceBounds none none (some 1) its.toArray.size = (((0 : Nat) : Int), ((its.toArray.size : Nat) : Int), (1 : Int)) := rfl
  rw [e]
  simp only [sliceRange_one, pick_run, List.size_toArray, Nat.sub_zero, List.drop_zero, List.take_length]
def tStep (K : PySem.W.Frag) (te : TE) (tk : TO) : TE := fun σ H Q => te σ H fun x H1 => tk σ H1 fun o H2 => ∃ (a : Addr) (xs : List V) (st : Int), x = .ref a ∧ o = some st ∧ (st = 1 ∨ st = -1) ∧ SqL K H2 a xs ∧ ∀ p, H2 p = none → Q (.ref p) (upd H2 p (.lst (if st = 1 then xs else xs.reverse)))
theorem vals_rev : ∀ {vs : List V} {us : List Value}, Vals vs us → Vals vs.reverse us.reverse
  | [], _, h => by cases h; exact .nil
  | v :: vs, _, h => by
    cases h with
    | cons a b =>
      rw [List.reverse_cons, List.reverse_cons]
      exact (vals_rev b).append (.cons a .nil)
theorem pe_step {X : Cx} {e k : Expr} {te : TE} {tk : TO} {pos p2 : Pos} (he : PE X e te) (hk : PO X (some k) tk) : PE X (.Subscript e (.Slice none none (some k) p2) pos) (tStep X.K te tk) := by
  refine ⟨fun pins s σ H Q I h => ?_⟩
  refine Subscript_ (thn (he.run pins s σ H _ I h) fun v s1 ⟨x, H1, I1, r1, q1⟩ => ?_)
  refine wpAny_Slice ?_
  rw [evalPart_none]
  refine wpAny_pure (wpAny_pure (thn (hk.run pins s1 σ H1 _ I1 q1) fun vk s3 ⟨o, H3, I3, pk, q3⟩ => ?_))
  obtain ⟨a, xs, st, rfl, rfl, hst, hx, q⟩ := q3
  have I4 : Inv X pins σ H3 { s3 with heap := s3.heap.push { cls := .type "slice", data := .fields #[.none, .none, vk] } } := I3.kept (t' := s3.toks) fun b ob q => Heap.get?_push_of_some _ q
  cases r1
  obtain ⟨its, r, ht, hz⟩ := I4.list hx
  have hlen := r.length
  have hp : slicePick its.toArray none none (some st) = (if st = 1 then its else its.reverse).toArray := by
    rcases hst with rfl | rfl
    · rw [if_pos rfl]; exact pick_one its
    · rw [if_neg (by decide)]
      have := PySem.W.krv_pick its.toArray
      rw [this] <;> simp
  have rr : Vals (if st = 1 then xs else xs.reverse) (if st = 1 then its else its.reverse) := by
    rcases hst with rfl | rfl
    · rw [if_pos rfl, if_pos rfl]; exact r
    · rw [if_neg (by decide), if_neg (by decide)]; exact vals_rev r
  have hz2 : (if st = 1 then xs else xs.reverse).length ≤ sizeLine := by
    split
    · exact hz
    · rw [List.length_reverse]; exact hz
  show wpAny (model X.prog X.w) X.A (subscriptTail e (.Slice none none (some k) p2) (.ref a) (.ref s3.heap.objs.size)) (EP X pins σ Q) X.xe { s3 with heap := s3.heap.push { cls := .type "slice", data := .fields #[.none, .none, vk] } }
  refine tail_any (ops := [.ref a, .ref s3.heap.objs.size]) ht.isList.typeIs slot_list_getitem.lookup ?_ (by with_unfolding_all rfl)
  refine wpAny_getItem_list_slice ht.isList (Heap.IsSliceOf.new ..) .none .none pk (by rcases hst with rfl | rfl <;> decide) ?_ (by rw [List.size_toArray] <;> omega)
  rw [hp]
  refine ⟨.ref _, _, I4.laid (t' := s3.toks) (o := .lst (if st = 1 then xs else xs.reverse)) (fun b ob q => Heap.get?_push_of_some _ q) (Nat.le_refl _) ?_, rfl, q _ (I4.hok.fresh (Nat.le_refl _))⟩
  exact ⟨hz2, _, 0, rr, Heap.get?_push_size _ rfl⟩
/-! ### what evaluates to what, further -/
def rTupOf (K : PySem.W.Frag) : List V → Hp → VK → Prop := fun xs H Q => ∃ p ys, xs = [.ref p] ∧ ((SqL K H p ys ∧ ∀ l, H l = none → Q (.ref l) (upd H l (.tup ys))) ∨ (SqT K H p ys ∧ Q (.ref p) H))
theorem call_tupOf {X : Cx} : CallR X (.type "tuple") (rTupOf X.K) := call_tuple_of
section
variable {K : PySem.W.Frag} {σ : L2.St} {H : Hp} {ta tb te : TE}
theorem eu_tupOf {p : Addr} {xs : List V} (h : Ev ta σ H (.ref p)) (hp : SqL K H p xs) : EvU (tCB (rTupOf K) (tCons ta tNil)) σ H xs := fun H1 e Q q => h H1 e _ fun H2 e2 => ⟨p, xs, rfl, .inl ⟨ex_l (e.trans e2) hp, fun l nl => q l _ (fresh_back e2 nl) (e2.trans (Ex.new nl)) upd_same⟩⟩
theorem ev_eqLen {p : Addr} {xs : List V} (h : Ev ta σ H (.ref p)) (hp : H p = some (.lst xs)) (hb : EvL tb σ H []) : Ev (tOp rEqLen ta tb) σ H (.bl (decide (xs.length = 0))) := ev_opL h hb fun q H1 hq e => fun H2 e2 Q k => ⟨p, q, xs, [], rfl, rfl, e2 _ _ (e _ _ hp), e2 _ _ hq, .inr rfl, k H2 (Ex.refl H2)⟩
theorem dp_strs {H : Hp} : ∀ zs : List Str, DpAll K H (zs.map V.str) (zs.map PyData.str)
  | [] => .nil
  | z :: zs => .cons (.str z) (dp_strs zs)
theorem lay_strs : ∀ zs : List Str, zs.all PyData.strOk = true → PyData.canLayAll0 (zs.map PyData.str) = true
  | [], _ => rfl
  | z :: zs, h => by
    rw [List.all_cons, Bool.and_eq_true] at h
    simp only [List.map_cons, PyData.canLayAll0, PyData.canLay0, h.1, Bool.true_and]
    exact lay_strs zs h.2
theorem depth_strs : ∀ zs : List Str, PyData.depthAll (zs.map PyData.str) ≤ 1
  | [] => Nat.zero_le _
  | z :: zs => by
    have := depth_strs zs
    simp only [List.map_cons, PyData.depthAll, PyData.depth]
    omega
theorem shaped_strs {zs : List Str} (hz : zs.all PyData.strOk = true) : SeqAt.shaped (.list (zs.map PyData.str)) = true := by
  have h := depth_strs zs
  unfold SeqAt.shaped
  rw [Bool.and_eq_true, decide_eq_true_iff]
  refine ⟨by simp only [PyData.canLay0]; exact lay_strs zs hz, ?_⟩
  simp only [PyData.depth]
  omega
/-- equal lists of texts -/
theorem ev_eqStrs {zs : List Str} (hz : zs.all PyData.strOk = true) (ha : EvL ta σ H (zs.map V.str)) (hb : EvL tb σ H (zs.map V.str)) : Ev (tOp (rEqD K) ta tb) σ H (.bl true) := ev_opLL ha hb fun p q H1 hp hq e => fun H2 e2 Q k =>
  ⟨_, _, .lst (sq_of (e2 _ _ hp)) (dp_strs zs), .lst (sq_of (e2 _ _ hq)) (dp_strs zs), shaped_strs hz, shaped_strs hz, by rw [SeqAt.eqv_refl _ (by simp only [PyData.canLay0]; exact lay_strs zs hz)]; exact k H2 (Ex.refl H2)⟩
theorem ev_neStrs {zs : List Str} (hz : zs.all PyData.strOk = true) (ha : EvL ta σ H (zs.map V.str)) (hb : EvL tb σ H (zs.map V.str)) : Ev (tOp (rNeD K) ta tb) σ H (.bl false) := ev_opLL ha hb fun p q H1 hp hq e => fun H2 e2 Q k =>
  ⟨_, _, .lst (sq_of (e2 _ _ hp)) (dp_strs zs), .lst (sq_of (e2 _ _ hq)) (dp_strs zs), shaped_strs hz, shaped_strs hz, by rw [SeqAt.eqv_refl _ (by simp only [PyData.canLay0]; exact lay_strs zs hz)]; exact k H2 (Ex.refl H2)⟩
theorem el_rep {xs : List V} {n : Int} (ha : EvL ta σ H xs) (hb : Ev tb σ H (.int n)) (h0 : 0 ≤ n) (h1 : n ≤ 1000) (hz : xs.length ≤ 100) : EvL (tOp rRep ta tb) σ H (List.replicate n.toNat xs).flatten := fun H1 e Q k => ha H1 e _ fun p H2 np e2 hp => hb H2 (e.trans e2) _ fun H3 e3 => by
  refine ⟨p, n, xs, rfl, rfl, e3 _ _ hp, by omega, by omega, ?_, fun l nl => k l _ (fresh_back (e2.trans e3) nl) ((e2.trans e3).trans (Ex.new nl)) upd_same⟩
  have : xs.length * n.toNat ≤ 100 * 1000 := Nat.mul_le_mul hz (by omega)
  exact sz (by omega)
end
end Pk
end

section -- PkX
set_option linter.all false
set_option maxRecDepth 100000
set_option maxHeartbeats 4000000
/-! PkX: looks behind the top, that every law shares. -/
namespace Pk
open PySem PySem.Spec L2
open PyProof.Rows hiding St
open He (ga ma)
theorem oexB_ok {K : PySem.W.Frag} {C : Addr} (h : oexB K C = true) : ∃ nm q N bs bm sn sub ab col dd k0 k1 k2 k3 k5, K.lookup C = some (excClassObj nm q C N bs bm true sn sub ab col dd k0 k1 k2 k3 k5 "ValueError.__new__") ∧ PySem.HandSPX.refsVE bm = true := by
  unfold oexB at h
  cases q : K.lookup C with
  | none => rw [q] at h; cases h
  | some o =>
    obtain ⟨oc, od, dt, sl⟩ := o
    rw [q] at h
    cases oc with
    | type t =>
      cases dt with
      | cls cd =>
        obtain ⟨nm, bs, mro, N, qn, hd, sn, sub, ab, col, hdel⟩ := cd
        obtain ⟨h1, h⟩ := Bool.and_eq_true_iff.mp h
        obtain ⟨h2, h⟩ := Bool.and_eq_true_iff.mp h
        obtain ⟨h3, h⟩ := Bool.and_eq_true_iff.mp h
        obtain ⟨h4, h⟩ := Bool.and_eq_true_iff.mp h
        obtain ⟨h5, h⟩ := Bool.and_eq_true_iff.mp h
        cases mro with
        | nil => cases h
        | cons v bm =>
          cases v with
          | ref c =>
            obtain ⟨h6, h7⟩ := Bool.and_eq_true_iff.mp h
            have e1 := of_decide_eq_true h1
            have e6 := of_decide_eq_true h6
            subst e1 e6
            have e2 : hd = true := h2
            have e3 : hdel = false := by cases hdel with
              | false => rfl
              | true => cases h3
            subst e2 e3
            obtain ⟨l, rfl⟩ : ∃ l, sl = ⟨l⟩ := ⟨sl.toList, rfl⟩
            have e4 : l.length = 6 := of_decide_eq_true h4
            match l, e4, h5, q with
            | [k0, k1, k2, k3, k4, k5], _, h5, q =>
              have e5 : k4 = some (.builtin "ValueError.__new__") := of_decide_eq_true h5
              subst e5
              exact ⟨nm, qn, N, bs, bm, sn, sub, ab, col, od, k0, k1, k2, k3, k5, rfl, h7⟩
          | _ => cases h
      | _ => cases h
    | _ => cases dt <;> cases h
theorem intC_of {K : PySem.W.Frag} {C : Addr} {f : Str} {n : Int} (c : (match PySem.W.findCls K (.ref C) (.type "type") f with
    | some (.val (.int i _)) => decide (i = n)
    | _ => false) = true) : ∃ u, ClX.CVal K C (.type "type") f (.int n) u := by
  split at c
  · next i t e =>
    have ei := of_decide_eq_true c
    subst ei
    exact ⟨_, e, t, rfl⟩
  · cases c
theorem strC_of {K : PySem.W.Frag} {C : Addr} {f : Str} {z : Str} (c : (match PySem.W.findCls K (.ref C) (.type "type") f with
    | some (.val (.str i _)) => decide (i = z)
    | _ => false) = true) : ∃ u, ClX.CVal K C (.type "type") f (.str z) u := by
  split at c
  · next i t e =>
    have ei := of_decide_eq_true c
    subst ei
    exact ⟨_, e, t, rfl⟩
  · cases c
theorem strG_of {K : PySem.W.Frag} {h : Heap} {mg : Str → Option Value} (X : K.In h) (G : h.Ns mainGlobals mg) {x z : Str} (c : (match PySem.W.nsIn K mainGlobals x with
    | some (some (.str y _)) => decide (y = z)
    | _ => false) = true) : ∃ u, mg x = some u ∧ RelV (.str z) u := by
  split at c
  · next y t e =>
    have ey := of_decide_eq_true c
    subst ey
    exact ⟨_, PySem.W.mg_of X G e, t, rfl⟩
  · cases c
theorem intG_of {K : PySem.W.Frag} {h : Heap} {mg : Str → Option Value} (X : K.In h) (G : h.Ns mainGlobals mg) {x : Str} {z : Int} (c : (match PySem.W.nsIn K mainGlobals x with
    | some (some (.int y _)) => decide (y = z)
    | _ => false) = true) : ∃ u, mg x = some u ∧ RelV (.int z) u := by
  split at c
  · next y t e =>
    have ey := of_decide_eq_true c
    subst ey
    exact ⟨_, PySem.W.mg_of X G e, t, rfl⟩
  · cases c
/-- the record of a property, a staticmethod -/
def recB (K : PySem.W.Frag) (C : Addr) (T : String) (m : Str) : Bool := match PySem.W.recIn K (ma K C m) T with
  | some (.ref _ :: _) => true
  | _ => false
theorem recB_ok {K : PySem.W.Frag} {C : Addr} {T : String} {m : Str} (h : recB K C T m = true) : ∃ rest, PySem.W.recIn K (ma K C m) T = some (.ref (He5.wf K C T m) :: rest) := by
  unfold He5.wf
  unfold recB at h
  split at h
  · rename_i f r e
    exact ⟨r, by rw [e]⟩
  · cases h
end Pk
end

section -- PkY
set_option linter.all false
set_option maxRecDepth 100000
set_option maxHeartbeats 4000000
/-! PkY: an own exception with its own __init__ as a value, made by position or by keywords. -/
namespace PySem
namespace PkE
open PySem.W PySem.Calls PyProof.Rows PySem.HandSPX
section
variable {M : Model} {A : Around} {E : Value → Shared → Prop} {h : Heap} {g : Array GenState} {d : Drawn} {t : Nat} {os : OsState}
variable {nm q : Str} {C N : Addr} {bs bm bmB : List Value} {hdct : Bool} {sn : List Str} {sub : List Value} {ab : Bool} {col : Option Bool} {dd : Option Addr} {k0 k1 k2 k3 k5 : Option Value} {B newId initId : String}
theorem check_new_kw (F : ExcBaseFacts B newId initId bmB) (hT : ∀ X : String, bm.contains (.type X) = bmB.contains (.type X)) {rest : List Value} {kw : List (Str × Value)} {Q : Unit → Shared → Prop}
    (hC : h.get? C = some (excClassObj nm q C N bs bm hdct sn sub ab col dd k0 k1 k2 k3 k5 newId)) (hq : Q () ⟨h, g, d, t, os⟩) : wpAny M A (checkBuiltinCall newId ⟨.ref C :: rest, kw⟩) Q E ⟨h, g, d, t, os⟩ := by
  have hcont : (Value.ref C :: bm).contains (.type B) = true := by rw [List.contains_cons, hT, F.hasB, Bool.or_true]
  have hstar := F.noStar
  simp only [checkBuiltinCall, F.newKind, F.newSplit, F.newRow]
  repeat (first | refine wpAny_loadPart_at hC ?_ | (refine wpAny_isSubtype_exc hC ?_; rw [hcont]) | refine wpAny_staticBase_exc hC ?_ | refine wpAny_madeBy_exc hC ?_ | simp only [bne_self_eq_false, Bool.false_eq_true, if_false] | wp_step)
  exact hq
end
section
variable {prog : Program} {w : World} {A : Around} {E : Value → Shared → Prop} {R : Result → Shared → Prop} {h : Heap} {g : Array GenState} {d : Drawn} {t : Nat} {os : OsState}
variable {nm q : Str} {C N : Addr} {bs bm bmB : List Value} {hdct : Bool} {sn : List Str} {sub : List Value} {ab : Bool} {col : Option Bool} {dd : Option Addr} {k0 k1 k2 k3 k5 : Option Value} {B newId initId : String}
theorem new_kw (F : ExcBaseFacts B newId initId bmB) (hT : ∀ X : String, bm.contains (.type X) = bmB.contains (.type X)) {rest : List Value} {kw : List (Str × Value)}
    (hC : h.get? C = some (excClassObj nm q C N bs bm hdct sn sub ab col dd k0 k1 k2 k3 k5 newId))
    (hq : R (.ok (.ret (.ref (h.objs.size + 1)))) ⟨(h.push { cls := .type "tuple", data := .seq rest.toArray }).push
      { cls := .ref C, data := .fields #[.ref h.objs.size, .none, .none, .none, .bool false, .none] }, g, d, t, os⟩) (hrest : rest.length ≤ sizeLine) :
    codeAny (model prog w) A (.builtin newId ⟨.ref C :: rest, kw⟩) R ⟨h, g, d, t, os⟩ := by
  have hends := F.ends
  have hcB : (Value.ref C :: bm).contains (.type B) = true := by rw [List.contains_cons, hT, F.hasB, Bool.or_true]
  have hcA : (Value.ref C :: bm).contains (.type "AttributeError") = false := by rw [List.contains_cons, hT, F.noAttr]; rfl
  have hcN : (Value.ref C :: bm).contains (.type "NameError") = false := by rw [List.contains_cons, hT, F.noName]; rfl
  refine codeAny_builtinAt F.entry ?_
  unfold Builtin.«BaseException.__new__»
  refine wpAt_bind ?_
  show wpAt _ _ _ (stack >>= _) _ _ _
  refine wpAt_bind (wpAt_stack fun p below => wpAt_of_wpAny ?_)
  wp_walk
  refine wpAt_of_wpAny ?_
  rw [F.owner]
  repeat (first | with_reducible refine wpAny_madeHere_exc F.canon hC ?_ | with_reducible refine wpAny_loadPart_at hC ?_ | (with_reducible refine wpAny_isSubtype_exc hC ?_; first | rw [hcB] | rw [hcA] | rw [hcN]) | wp_step)
  show R _ _
  rw [Heap.size_push]
  exact hq
theorem type_call_kw (F : ExcBaseFacts B newId initId bmB) (hT : ∀ X : String, bm.contains (.type X) = bmB.contains (.type X)) {rest : List Value} {kw : List (Str × Value)} {fI : Addr} {Q : Fin → Shared → Prop}
    (hC : h.get? C = some (excClassObj nm q C N bs bm hdct sn sub ab col dd k0 k1 k2 k3 k5 newId))
    (hi : W.Looks (model prog w) h (typeLookup (.ref C) "__init__") (some (.ref fI))) (hb : ∀ self, W.Looks (model prog w) h (bindSpecial (.ref fI) self) (.ref fI, [self])) (hrest : rest.length ≤ sizeLine)
    (hq : codeAny (model prog w) A (.call (.ref fI) ⟨.ref (h.objs.size + 1) :: rest, kw⟩)
      (fun r s' => match r with | .ok (.ret v) => v = .none ∧ Q (.done (.ret (.ref (h.objs.size + 1)))) s' | .ok _ => False | .error e => E e s')
      ⟨(h.push (W.kdv_tup rest)).push (excO C h.objs.size), g, d, t, os⟩) :
    wpAny (model prog w) A (Builtin.«type.__call__» ⟨.ref C :: rest, kw⟩) Q E ⟨h, g, d, t, os⟩ := by
  repeat (first | with_reducible refine wpAny_loadPart_at hC ?_ | with_reducible refine wpAny_madeBy_exc hC ?_ | wp_step)
  refine codeAny_call_builtin_code (Code.quiet_builtin _ F.quiet) (check_new_kw F hT hC ?_)
  refine new_kw F hT hC ?_ hrest
  show wpAny _ _ _ _ _ _
  have k : ∀ b o, h.get? b = some o → ((h.push (W.kdv_tup rest)).push (excO C h.objs.size)).get? b = some o := fun b o e => Heap.get?_push_of_some _ (Heap.get?_push_of_some _ e)
  have hC₁ := k _ _ hC
  have hget : ((h.push (W.kdv_tup rest)).push (excO C h.objs.size)).get? (h.objs.size + 1) = some (excO C h.objs.size) := by heap_get
  have hcC : (Value.ref C :: bm).contains (.ref C) = true := by simp
  have i1 := hi.keeps k
  have b1 := (hb (.ref (h.objs.size + 1))).keeps k
  unfold isInstance
  repeat (first | with_reducible refine wpAny_loadPart_at hget ?_ | (with_reducible refine wpAny_isSubtype_exc hC₁ ?_; rw [hcC]) | wp_step)
  show wpAny _ _ (typeLookup (.ref C) _) _ _ _
  refine i1.at ?_
  refine wpAny_holding (wpAny_bind (b1.at ?_))
  refine wpAny_bind (wpAny_call (codeAny_mono hq fun r s' z => ?_))
  rcases r with e | (v | _ | _ | _) <;> first | exact z | exact z.elim | skip
  obtain ⟨rfl, z⟩ := z
  first
    | exact wpAny_pure (wpAny_pure z)
    | (wp_walk; exact z)
theorem call_kw (F : ExcBaseFacts B newId initId bmB) (hT : ∀ X : String, bm.contains (.type X) = bmB.contains (.type X)) {rest : List Value} {kw : List (Str × Value)} {fI : Addr}
    (hC : h.get? C = some (excClassObj nm q C N bs bm hdct sn sub ab col dd k0 k1 k2 k3 k5 newId))
    (hi : W.Looks (model prog w) h (typeLookup (.ref C) "__init__") (some (.ref fI))) (hb : ∀ self, W.Looks (model prog w) h (bindSpecial (.ref fI) self) (.ref fI, [self])) (hrest : rest.length ≤ sizeLine)
    (hq : codeAny (model prog w) (A.under (.builtin "type.__call__" ⟨.ref C :: rest, kw⟩)) (.call (.ref fI) ⟨.ref (h.objs.size + 1) :: rest, kw⟩) (W.InitBack (h.objs.size + 1) R)
      ⟨(h.push (W.kdv_tup rest)).push (excO C h.objs.size), g, d, t, os⟩) :
    codeAny (model prog w) A (.call (.ref C) ⟨rest, kw⟩) R ⟨h, g, d, t, os⟩ := by
  have f1 := tc_lookup
  have f2 := tc_bind (.ref C)
  have hTy : (⟨h, g, d, t, os⟩ : Shared).TypeIs (.ref C) "type" := ⟨_, hC, rfl⟩
  refine codeAny_of_tree ?_
  show wpAny _ _ (callAny (.ref C) _) _ _ _
  repeat (any_goals (first | assumption | with_reducible refine wpAny_loadPart_at hC ?_ | wp_step))
  refine ⟨rfl, ?_⟩
  refine codeAny_call_builtin_at (Code.quiet_builtin _ (by decide +kernel)) entry_typeCall (wpAny_check_type_call_sub hC (type_call_kw F hT hC hi hb hrest ?_))
  refine codeAny_mono hq fun r s' z => ?_
  rcases r with e | (v | _ | _ | _) <;> exact z
end
end PkE
end PySem

namespace Pk
open PySem PySem.Spec L2
open PyProof.Rows hiding St
section
variable {X : Cx}
/-- the end of C(..) as a value: the exception stays, its dict as an exception's dict -/
theorem mk_endV {pins : List (Addr × Obj)} {σ : L2.St} {H1 H2 : Hp} {hp hp2 h2 : Heap} {g1 g2 : Array GenState} {d1 d2 : Drawn} {t1 t2 : Nat} {os1 os2 : OsState} {a C d : Addr} {fs : List (Str × V)} (I1 : L2.Inv X pins σ H1 ⟨hp, g1, d1, t1, os1⟩)
    (ha : hp.objs.size ≤ a) (k : ∀ b o, hp.get? b = some o → hp2.get? b = some o) (un : Un (frs X.stack) [] (upd H1 a (exo a C none)) H2 hp2 h2) (hok : HOk X.prog X.w H2 h2) (ho : os2 = os1) (hb : AllBare g2)
    (ea : H2 a = some (exo a C (some d))) (ed : H2 d = some (exd d fs)) (hd1 : H1 d = none) :
    L2.Inv X pins σ (upd (upd H2 a (exq (.ref C) (some d) a)) d (.xd fs)) ⟨h2, g2, d2, t2, os2⟩ := by
  obtain ⟨t0, hoe⟩ := exo_at hok ea
  obtain ⟨mA, hns, rel⟩ := exd_at hok ed
  have hn : H1 a = none := I1.hok.fresh ha
  have hda : d ≠ a := fun z => by
    obtain ⟨o, es, ep, e1, e2, _⟩ := hns
    rw [z, hoe] at e1
    have z2 := Option.some.inj e1
    subst z2
    cases e2
  have nha : ∀ {b : Addr} {o : Obj}, hp.get? b = some o → b ≠ a := fun {b o} z => Nat.ne_of_lt (Nat.lt_of_lt_of_le (Heap.lt_size z) ha)
  have up : ∀ {b : Addr}, b ≠ a → H1 b = none → upd H1 a (exo a C none) b = none := fun {b} hb n => by rw [upd_ne hb]; exact n
  have nd : ∀ {b : Addr} {o : Obj}, hp.get? b = some o → H1 b = none → b ≠ d := fun {b o} z n e => by
    have y := un.free b o (k b o z) (up (nha z) n) (by simp)
    rw [e, ed] at y
    cases y
  have U : Un (frs X.stack) [] H1 (upd (upd H2 a (exq (.ref C) (some d) a)) d (.xd fs)) hp h2 := {
    keep := fun b o z n hf hx => un.keep b o (k b o z) (up (nha z) n) hf hx
    slot := fun b o z n hf hx => un.slot b o (k b o z) (up (nha z) n) hf hx
    free := fun b o z n hx => by
      rw [upd_ne (nd z n), upd_ne (nha z)]
      exact un.free b o (k b o z) (up (nha z) n) hx
    there := fun b o z hx => un.there b o (k b o z) hx
    tups := fun b xs z => by
      rw [upd_ne (ne_of_none z hd1), upd_ne (ne_of_none z hn)]
      exact un.tups b xs (by rw [upd_ne (ne_of_none z hn)]; exact z)
    frzs := fun b o v z => by
      rw [upd_ne (ne_of_none z hd1), upd_ne (ne_of_none z hn)]
      exact un.frzs b o v (by rw [upd_ne (ne_of_none z hn)]; exact z)
    tbls := fun b ps z => by
      rw [upd_ne (ne_of_none z hd1), upd_ne (ne_of_none z hn)]
      exact un.tbls b ps (by rw [upd_ne (ne_of_none z hn)]; exact z) }
  have hok3 : HOk X.prog X.w (upd (upd H2 a (exq (.ref C) (some d) a)) d (.xd fs)) h2 := fun b o z => by
    by_cases hbd : b = d
    · subst hbd
      rw [upd_same] at z
      cases z
      exact ⟨mA, hns, rel⟩
    · rw [upd_ne hbd] at z
      by_cases hba : b = a
      · subst hba
        rw [upd_same] at z
        cases z
        exact exq_ok hoe ⟨rfl, rfl⟩ rfl
      · rw [upd_ne hba] at z
        exact (hok b o z).stay (fun c v hc y => y)
          (fun c hc => by rw [upd_ne (at_ne ed hc exd_own), upd_ne (at_ne ea hc exo_own)]; exact hc) (fun c xs hc => by rw [upd_ne (at_ne ed hc exd_tup), upd_ne (at_ne ea hc exo_tup)]; exact hc)
  exact I1.call' (ch := []) ho U hok3 hb (fun b z => absurd z (by simp))
/-- C(e, ..) as a value: the values, then C's own __init__; a new exception at a, its dict at d -/
def rMkV (C : Addr) (sp : Sp) : List V → Hp → VK → Prop := fun vs H Q => ∀ a, H a = none → sp (.ref a :: vs) (upd H a (exo a C none))
  (fun v H2 => v = .non ∧ ∃ (d : Addr) (fs : List (Str × V)), H2 a = some (exo a C (some d)) ∧ H2 d = some (exd d fs) ∧ H d = none ∧ Q (.ref a) (upd (upd H2 a (exq (.ref C) (some d) a)) d (.xd fs))) (fun _ _ _ => False)
section
variable {CX : CXT} {C fI : Addr} {k n : Nat} {fd : FuncData} {ps ks : List Str} {sp : Sp} {g : List Value → List Value → List Value} {gV : List V → List V → List V}
theorem run_mkV (T : OexC X.K C) (iC : PySem.W.findIn X.K (.ref C) "__init__" = some (some (.ref fI))) (tI : PySem.W.typeIn X.K (.ref fI) = some (.type "function"))
    (F1 : FnOk X.prog X.w X.K X.mg X.base CX k fI fd ps sp) (hr : Room (k + 1) X.A) (hb : KBn X.K fd ps (n + 1) ks g gV) (hx : Passes CX X (fun _ _ _ => False))
    {pins : List (Addr × Obj)} {σ : L2.St} {H : Hp} {s : Shared} {Q : VK} {us ws : List Value} {vs zs : List V} (hgc : ∀ x, gV (x :: vs) zs = x :: gV vs zs) (I : L2.Inv X pins σ H s) (r : Vals vs us) (rz : Vals zs ws) (l1 : vs.length = n) (l2 : zs.length = ks.length) (hz : n ≤ 1000) (q1 : rMkV C sp (gV vs zs) H Q) :
    wpAny (model X.prog X.w) X.A (call (.ref C) us (ks.zip ws)) (EP X pins σ Q) X.xe s := by
  obtain ⟨nm, q, N, bs, bm, sn, sub, ab, col, dd, k0, k1, k2, k3, k5, hC, hbm⟩ := T.cls
  obtain ⟨hp, gs, dr, tk, os⟩ := s
  have hsz : hp.objs.size ≤ hp.objs.size + 1 := Nat.le_succ _
  have hn : H (hp.objs.size + 1) = none := I.hok.fresh hsz
  have hq := q1 (hp.objs.size + 1) hn
  rw [← hgc] at hq
  have kk : ∀ b o, hp.get? b = some o → ((hp.push (PySem.W.kdv_tup us)).push (PySem.HandSPX.excO C hp.objs.size)).get? b = some o := fun b o e => Heap.get?_push_of_some _ (Heap.get?_push_of_some _ e)
  have hget : ((hp.push (PySem.W.kdv_tup us)).push (PySem.HandSPX.excO C hp.objs.size)).get? (hp.objs.size + 1) = some (PySem.HandSPX.excO C hp.objs.size) := by heap_get
  have I2 : L2.Inv X pins σ (upd H (hp.objs.size + 1) (exo (hp.objs.size + 1) C none)) ⟨(hp.push (PySem.W.kdv_tup us)).push (PySem.HandSPX.excO C hp.objs.size), gs, dr, tk, os⟩ :=
    I.laid (t' := tk) (a := hp.objs.size + 1) (o := exo (hp.objs.size + 1) C none) (h' := (hp.push (PySem.W.kdv_tup us)).push (PySem.HandSPX.excO C hp.objs.size)) kk hsz (L2.exo_ok hget)
  have r1 : Vals (V.ref (hp.objs.size + 1) :: vs) (Value.ref (hp.objs.size + 1) :: us) := .cons rfl r
  have r2 := hb.rel r1 rz
  have e1 : (Value.ref (hp.objs.size + 1) :: us).length = n + 1 := r1.length.symm.trans (congrArg Nat.succ l1)
  have e2 : ws.length = ks.length := rz.length.symm.trans l2
  have hus : us.length ≤ sizeLine := by
    rw [← Paired.length r, l1, sizeLine_eq]
    omega
  refine wpAny_call (PySem.PkE.call_kw F.excBase_ValueError (fun Y => PySem.HandSPX.refsVE_contains Y bm hbm) (I.kIn _ _ hC) (PySem.W.looks_findIn I.kIn iC) (fun self => PySem.W.bind_fn I.kIn self tI) hus
    (codeAny_mono (F1.run _ X.stack _ _ ⟨Value.ref (hp.objs.size + 1) :: us, ks.zip ws⟩ (g (Value.ref (hp.objs.size + 1) :: us) ws) _ _ (fun _ _ _ => False) (hr.make C us (ks.zip ws)) (I2.env0.make C us (ks.zip ws)) (hb.to _ (Value.ref (hp.objs.size + 1) :: us) ws I2.kIn e1 e2) r2 hq) fun r s' hq' => ?_))
  cases r with
  | error er => exact hx pins σ _ _ er s' I2 hq'
  | ok fl =>
    cases fl with
    | ret u =>
      obtain ⟨v, H2, os2, bare2, un2, hok2, rv, ev, d, fs, ea, ed, hd1, q2⟩ := hq'
      subst ev
      obtain ⟨h2, g2, d2, t2, os'⟩ := s'
      exact ⟨rv, .ref (hp.objs.size + 1), _, mk_endV I hsz kk un2 hok2 os2 bare2 ea ed hd1, rfl, q2⟩
    | next => exact False.elim hq'
    | brk => exact False.elim hq'
    | cont => exact False.elim hq'
end
end
end Pk
end

section -- PkZ
set_option linter.all false
set_option maxRecDepth 100000
set_option maxHeartbeats 4000000
/-! PkZ: made exceptions, their fields and classes, lists of them, at the level of what they tell. -/
namespace Pk
open PySem PySem.Spec L2 Evl
open PyProof.Rows hiding St
/-- a class and what an exception of it tells; no dict yet: none -/
abbrev XD := Addr × Option (List (Str × V))
/-- v is an exception that tells p -/
def XcAt (H : Hp) (v : V) (p : XD) : Prop := ∃ a d, v = .ref a ∧ H a = some (exq (.ref p.1) d a) ∧ (match p.2 with | none => d = none | some fs => ∃ dd, d = some dd ∧ H dd = some (.xd fs))
theorem XcAt.ext {H H2 : Hp} {v : V} {p : XD} (h : XcAt H v p) (e : Ex H H2) : XcAt H2 v p := by
  obtain ⟨a, d, rfl, ha, hd⟩ := h
  refine ⟨a, d, rfl, e _ _ ha, ?_⟩
  obtain ⟨C, o⟩ := p
  cases o with
  | none => exact hd
  | some fs =>
    obtain ⟨dd, h1, h2⟩ := hd
    exact ⟨dd, h1, e _ _ h2⟩
def AllX (H : Hp) (vs : List V) (ps : List XD) : Prop := vs.length = ps.length ∧ ∀ (i : Nat) (v : V) (p : XD), vs[i]? = some v → ps[i]? = some p → XcAt H v p
theorem AllX.ext {H H2 : Hp} {vs : List V} {ps : List XD} (h : AllX H vs ps) (e : Ex H H2) : AllX H2 vs ps := ⟨h.1, fun i v p a b => (h.2 i v p a b).ext e⟩
theorem AllX.nil {H : Hp} : AllX H [] [] := ⟨rfl, fun i v p a _ => by cases a⟩
theorem AllX.cons {H : Hp} {v : V} {p : XD} {vs : List V} {ps : List XD} (h : XcAt H v p) (r : AllX H vs ps) : AllX H (v :: vs) (p :: ps) := ⟨by show vs.length + 1 = ps.length + 1; rw [r.1], fun i u q a b => by
  cases i with
  | zero =>
    cases a
    cases b
    exact h
  | succ i => exact r.2 i u q a b⟩
theorem AllX.app {H : Hp} {vs us : List V} {ps qs : List XD} (h : AllX H vs ps) (r : AllX H us qs) : AllX H (vs ++ us) (ps ++ qs) := ⟨by rw [List.length_append, List.length_append, h.1, r.1], fun i v p a b => by
  by_cases c : i < vs.length
  · rw [List.getElem?_append_left c] at a
    rw [List.getElem?_append_left (by rw [← h.1]; exact c)] at b
    exact h.2 i v p a b
  · rw [List.getElem?_append_right (by omega)] at a
    rw [List.getElem?_append_right (by rw [← h.1]; omega), ← h.1] at b
    exact r.2 _ v p a b⟩
/-! ### what evaluates to them -/
def EvC (te : TE) (σ : L2.St) (H : Hp) (p : XD) : Prop := ∀ H1, Ex H H1 → ∀ Q : VK, (∀ v H2, Ex H1 H2 → XcAt H2 v p → Q v H2) → te σ H1 Q
def EaC (ta : TA) (σ : L2.St) (H : Hp) (ps : List XD) : Prop := ∀ H1, Ex H H1 → ∀ Q : List V → Hp → Prop, (∀ vs H2, Ex H1 H2 → AllX H2 vs ps → Q vs H2) → ta σ H1 Q
def ElC (te : TE) (σ : L2.St) (H : Hp) (ps : List XD) : Prop := ∀ H1, Ex H H1 → ∀ Q : VK, (∀ p vs H2, Ex H1 H2 → H2 p = some (.lst vs) → AllX H2 vs ps → Q (.ref p) H2) → te σ H1 Q
section
variable {σ : L2.St} {H : Hp} {te ta tb : TE}
theorem eaC_nil : EaC tNil σ H [] := fun H1 _ _ k => k [] H1 (Ex.refl H1) .nil
theorem eaC_cons {tr : TA} {p : XD} {ps : List XD} (h : EvC te σ H p) (r : EaC tr σ H ps) : EaC (tCons te tr) σ H (p :: ps) := fun H1 e Q k =>
  h H1 e _ fun v H2 e2 hv => r H2 (e.trans e2) _ fun vs H3 e3 hvs => k (v :: vs) H3 (e2.trans e3) (.cons (hv.ext e3) hvs)
theorem elC_lst {t : TA} {ps : List XD} (h : EaC t σ H ps) (hl : ps.length ≤ 100000) : ElC (tLst t) σ H ps := fun H1 e Q k =>
  h H1 e _ fun vs H2 e2 hvs => ⟨sz_of (by rw [hvs.1]; exact hl), fun p np => k p vs _ (e2.trans (Ex.new np)) upd_same (hvs.ext (Ex.new np))⟩
theorem elC_var {i : Nat} {l : Addr} {vs : List V} {ps : List XD} (s : σ[i]? = some (some (.ref l))) (h : H l = some (.lst vs)) (hv : AllX H vs ps) : ElC (tVar i) σ H ps := fun H1 e Q k => ⟨_, s, k l vs H1 (Ex.refl H1) (e _ _ h) (hv.ext e)⟩
theorem elC_cat {ps qs : List XD} (ha : ElC ta σ H ps) (hb : ElC tb σ H qs) (hl : ps.length + qs.length ≤ 1000000) : ElC (tOp rCat ta tb) σ H (ps ++ qs) := fun H1 e Q k =>
  ha H1 e _ fun p us H2 e2 hp au => hb H2 (e.trans e2) _ fun q ws H3 e3 hq aw => ⟨p, q, us, ws, rfl, rfl, e3 p _ hp, hq, sz (by rw [au.1, aw.1]; exact hl), fun l hl => k l _ _ ((e2.trans e3).trans (Ex.new hl)) upd_same (((au.ext e3).app aw).ext (Ex.new hl))⟩
theorem s_asgC {D : Ends} {i : Nat} {ps : List XD} (h : ElC te σ H ps) (k : ∀ p vs H1, Ex H H1 → H1 p = some (.lst vs) → AllX H1 vs ps → D.nx (σ.set i (some (.ref p))) H1) : tAsg te (gName i) D σ H := h H (Ex.refl H) _ k
theorem s_retC {D : Ends} {ps : List XD} (h : ElC te σ H ps) (k : ∀ p vs H1, Ex H H1 → H1 p = some (.lst vs) → AllX H1 vs ps → D.rt (.ref p) H1) : tRet te D σ H := h H (Ex.refl H) _ k
theorem elC_is {ps qs : List XD} (h : ElC te σ H ps) (e : ps = qs) : ElC te σ H qs := e ▸ h
end
/-! ### made -/
/-- C.__init__(self, n, ..): self.n = n, .. -/
def spIn (C : Addr) (ns : List Str) : Sp := fun vs H Q _ => ∃ (a : Addr) (xs : List V), vs = .ref a :: xs ∧ xs.length = ns.length ∧ H a = some (exo a C none) ∧
  ∀ d H2, H d = none → d ≠ a → (∀ b, b ≠ a → b ≠ d → H2 b = H b) → H2 a = some (exo a C (some d)) → H2 d = some (exd d (ns.zip xs).reverse) → Q .non H2
theorem mkV_in {C : Addr} {ns : List Str} {xs : List V} {H : Hp} {Q : VK} (hl : xs.length = ns.length) (k : ∀ v H2, Ex H H2 → XcAt H2 v (C, some (ns.zip xs).reverse) → Q v H2) : rMkV C (spIn C ns) xs H Q := fun a na =>
  ⟨a, xs, rfl, hl, upd_same, fun d H2 nd dne same ea ed => ⟨rfl, d, _, ea, ed, by rw [upd_ne dne] at nd; exact nd, k _ _ (fun b o hb => by
    rw [upd_ne dne] at nd
    have b1 : b ≠ a := ne_of_none hb na
    have b2 : b ≠ d := ne_of_none hb nd
    rw [upd_ne b2, upd_ne b1, same b b1 b2, upd_ne b1]
    exact hb) ⟨a, some d, rfl, by rw [upd_ne (Ne.symm dne), upd_same], d, rfl, upd_same⟩⟩⟩
/-- what is known of an own exception class at C -/
structure XK (P : Program) (w : World) (K : PySem.W.Frag) (mg : Str → Option Value) (base : Heap) (x : Str) (C fI : Addr) (fd : FuncData) (ns : List Str) : Prop where
  gl : mg x = some (.ref C)
  ox : OexC K C
  iC : PySem.W.findIn K (.ref C) "__init__" = some (some (.ref fI))
  tI : PySem.W.typeIn K (.ref fI) = some (.type "function")
  G : FnOk P w K mg base CX0 2 fI fd ("self" :: ns) (spIn C ns)
  b : KBn K fd ("self" :: ns) (ns.length + 1) [] (fun us _ => us) (fun vs _ => vs)
  bk : KBn K fd ("self" :: ns) 1 ns.reverse (fun us ws => us ++ ws.reverse) (fun vs zs => vs ++ zs.reverse)
section
variable {X : Cx} {x : Str} {C fI : Addr} {fd : FuncData} {ns : List Str} {e : Expr} {es : List Expr} {t : TA} {p pos : Pos} {kws : List Keyword}
/-- C(e, ..) -/
def tMkX (C : Addr) (ns : List Str) (t : TA) : TE := fun σ H Q => t σ H fun vs H1 => vs.length = ns.length ∧ rMkV C (spIn C ns) vs H1 Q
theorem pe_mkX (T : XK X.prog X.w X.K X.mg X.base x C fI fd ns) (hr : Room 3 X.A) (hn : ns.length ≤ 1000) (ha : PA X (e :: es) t) (hg : Gl X x := by rfl) (hdb : (x == ("__debug__" : Str)) = false := by decide)
    (he : starEach (e :: es) X.env = (false, eval e X.env) :: starEach es X.env := by rfl) (hpl : (backTo pos (starEach es X.env)).any (·.1) = false := by rfl) : PE X (.Call (.Name x p) (e :: es) [] pos) (tMkX C ns t) := by
  refine ⟨fun pins s σ H Q I q => ?_⟩
  refine wpAny_Call_Name_kw (ld_glob I hg T.gl ?_ hdb)
  refine PySem.W.callWith_K (h₀ := X.base) I.ok.mod.kin T.ox.kC (thn (ha.run pos pins s σ H _ I q) fun us s1 ⟨vs, H1, I1, rv, hl, q1⟩ => ⟨I1.kIn, ?_⟩) he hpl
  exact run_mkV T.ox T.iC T.tI T.G hr T.b pass0 (zs := []) (ws := []) (fun _ => rfl) I1 rv .nil hl rfl hn q1
/-- C(n = e, ..), backwards -/
def tMkXK (C : Addr) (ns : List Str) (t : TA) : TE := fun σ H Q => t σ H fun zs H1 => zs.length = ns.length ∧ rMkV C (spIn C ns) zs.reverse H1 Q
theorem pe_mkXK (T : XK X.prog X.w X.K X.mg X.base x C fI fd ns) (hr : Room 3 X.A) (hkw : PK X kws t) (hg : Gl X x := by rfl)
    (hall : (backToKw pos (keywordEach kws X.env)).all (·.1.isSome) = true := by rfl) (hks : (backToKw pos (keywordEach kws X.env)).filterMap (·.1) = ns.reverse := by rfl) (hdb : (x == ("__debug__" : Str)) = false := by decide)
    (hpl : ((backTo pos (starEach [] X.env)).any (·.1) || (backToKw pos (keywordEach kws X.env)).any (·.1.isNone)) = false := by rfl) : PE X (.Call (.Name x p) [] kws pos) (tMkXK C ns t) := by
  refine ⟨fun pins s σ H Q I h => ?_⟩
  refine wpAny_Call_Name_kw (ld_glob I hg T.gl ?_ hdb)
  refine PySem.W.callWith_KW0 (h₀ := X.base) (first := []) I.ok.mod.kin T.ox.kC hall (thn (hkw.run pos pins s σ H _ I h) fun ws s2 ⟨zs, H2, I2, rz, hl, q2⟩ => ⟨I2.kIn, ?_⟩) hpl
  rw [hks]
  exact run_mkV (n := 0) (vs := []) (us := []) T.ox T.iC T.tI T.G hr T.bk pass0 (fun _ => rfl) I2 .nil rz rfl (by rw [hl, List.length_reverse]) (by decide) q2
/-- C(), C without own __init__ -/
theorem pe_mkX0 {bmB : List Value} {B newId initId : String} (F : ExcBaseFacts B newId initId bmB) (q : PySem.W.excIn X.K C bmB newId = true) (gC : X.mg x = some (.ref C)) (kC : PySem.W.keepIn X.K (.ref C) = true) (hg : Gl X x := by rfl) (hdb : (x == ("__debug__" : Str)) = false := by decide) :
    PE X (.Call (.Name x p) [] [] pos) (fun σ H Q => ∀ v H2, Ex H H2 → XcAt H2 v (C, none) → Q v H2) := by
  refine ⟨fun pins s σ H Q I h => ?_⟩
  refine wpAny_Call_Name_kw (ld_glob I hg gC ?_ hdb)
  refine PySem.W.callWith_KW0 (h₀ := X.base) (first := []) I.ok.mod.kin kC (by rfl) (thn (pk_nil.run pos pins s σ H (fun zs H1 => zs = [] ∧ H1 = H) I ⟨rfl, rfl⟩) fun ws s2 ⟨zs, H2, I2, rz, hl, eH⟩ => ⟨I2.kIn, ?_⟩) (by rfl)
  subst hl eH
  cases rz
  show wpAny _ _ (call (.ref C) []) _ _ _
  obtain ⟨bm, N, nm, qn, bs, hdct, sn, sub, ab, col, dd, k0, k1, k2, k3, k5, mN, hC, hN, hni, T⟩ := exc_obj I2.kIn q
  refine wpAny_call_exc_subT F T hC hN hni (fun h' a hm => ?_) (by show 0 ≤ sizeLine; exact Nat.zero_le _)
  have hn : H2 a = none := I2.hok.gone hm.new
  obtain ⟨t, ht, _, _⟩ := hm.there
  exact ⟨.ref a, upd H2 a (exq (.ref C) none a), I2.laidN hm.keeps hm.new hn (exq_ok ht ⟨rfl, rfl⟩ rfl), rfl, h _ _ (Ex.new hn) ⟨a, none, rfl, upd_same, rfl⟩⟩
/-- e.n, e a kept exception, whatever its class -/
def tXa (K : PySem.W.Frag) (n : Str) (te : TE) : TE := fun σ H Q => te σ H fun x H1 => ∃ (a C dd : Addr) (fs : List (Str × V)) (v : V), x = .ref a ∧ XfC K C ∧ PySem.W.findIn K (.ref C) n = some none ∧ H1 a = some (exq (.ref C) (some dd) a) ∧ H1 dd = some (.xd fs) ∧ fs.lookup n = some v ∧ Q v H1
theorem pe_xa {te : TE} {n : Str} (he : PE X e te) (hb : attributeBase e n X.env (eval e X.env) = eval e X.env := by rfl) : PE X (.Attribute e n pos) (tXa X.K n te) := by
  refine ⟨fun pins s σ H Q I h => attr_of hb (thn (he.run pins s σ H _ I h) fun u s1 ⟨x, H1, I1, rx, a, C, dd, fs, v, ex, T, hno, ea, ed, l, q⟩ => ?_)⟩
  subst ex
  obtain rfl : u = Value.ref a := rx
  obtain ⟨oe, vs, ho, hcl, hdc, hda⟩ := exq_at I1.hok ea
  have hx : ObjOk X.prog X.w H1 s1.heap dd (.xd fs) := I1.hok dd _ ed
  obtain ⟨mA, hns, hr⟩ := hx
  obtain ⟨od, hod, hl⟩ := lookIn_ns hns
  obtain ⟨y, hy, ry⟩ := RelO.some_of (v := v) (o := mA n) (by rw [← l]; exact hr n)
  have J : PySem.W.InstAt s1.heap a oe C (some od) := ⟨ho, hcl, (by unfold PySem.W.notCls; rw [hda] <;> rfl), (by rw [hdc]; exact hod)⟩
  exact HandSPX.exc_get I1.kIn J T.ga T.gg T.exC (PySem.W.findObj_own T.hdC hno rfl (by rw [hl, hy])) (handed_of ry) ⟨v, H1, I1.tok _, ry, q⟩
end
section
variable {K : PySem.W.Frag} {σ : L2.St} {H : Hp} {te ta tb : TE} {C : Addr} {ns : List Str} {xs : List V} {t : TA}
theorem evC_mk (h : EvA t σ H xs) (hl : xs.length = ns.length) : EvC (tMkX C ns t) σ H (C, some (ns.zip xs).reverse) := fun H1 e Q k => h H1 e _ fun H2 e2 => ⟨hl, mkV_in hl fun v H3 e3 hv => k v H3 (e2.trans e3) hv⟩
theorem evC_mkK (h : EvA t σ H xs.reverse) (hl : xs.length = ns.length) : EvC (tMkXK C ns t) σ H (C, some (ns.zip xs).reverse) := fun H1 e Q k => h H1 e _ fun H2 e2 => ⟨by rw [List.length_reverse]; exact hl, by
  rw [List.reverse_reverse]
  exact mkV_in hl fun v H3 e3 hv => k v H3 (e2.trans e3) hv⟩
theorem evC_mk0 : EvC (fun σ H Q => ∀ v H2, Ex H H2 → XcAt H2 v (C, none) → Q v H2) σ H (C, none) := fun H1 e Q k => fun v H2 e2 hv => k v H2 e2 hv
theorem ev_xa {n : Str} {x v : V} {fs : List (Str × V)} (h : Ev te σ H x) (hx : XcAt H x (C, some fs)) (T : XfC K C) (hno : PySem.W.findIn K (.ref C) n = some none) (hl : fs.lookup n = some v) : Ev (tXa K n te) σ H v := fun H1 e Q k => h H1 e _ fun H2 e2 => by
  obtain ⟨a, d, rfl, ha, dd, rfl, hd⟩ := hx.ext (e.trans e2)
  exact ⟨a, C, dd, fs, v, rfl, T, hno, ha, hd, hl, k H2 e2⟩
theorem ev_isQ {x c : V} {cv : Value} {p : XD} {b : Bool} (h : EvA t σ H [x, c]) (hx : XcAt H x p) (hc : ClsV c cv) (T : ExcC K p.1) (hk : PySem.W.kitOne K (.ref p.1) cv = some b) : Ev (tCB (rIsQ K) t) σ H (.bl b) := fun H1 e Q k => h H1 e _ fun H2 e2 => by
  obtain ⟨a, d, rfl, ha, hd⟩ := hx.ext (e.trans e2)
  refine ⟨a, p.1, d, c, cv, b, rfl, fun o ho => ?_, ha, hc, T, hk, k H2 e2⟩
  obtain ⟨C, q⟩ := p
  cases q with
  | none =>
    rw [show d = none from hd] at ho
    cases ho
  | some fs =>
    obtain ⟨dd, h1, h2⟩ := hd
    rw [h1] at ho
    cases ho
    exact ⟨fs, h2⟩
end
end Pk
end

section -- K00a
set_option linter.all false
set_option maxRecDepth 100000
set_option maxHeartbeats 4000000
namespace K00
open PySem PySem.Spec L2 Pk
open PyProof.Rows hiding St
/-- the built-in names are free -/
structure Bi (mg : Str → Option Value) : Prop where
  n_isinstance : mg "isinstance" = none
  n_int : mg "int" = none
  n_bool : mg "bool" = none
  n_str : mg "str" = none
  n_list : mg "list" = none
  n_len : mg "len" = none
  n_all : mg "all" = none
  n_abs : mg "abs" = none
  n_range : mg "range" = none
  n_repr : mg "repr" = none
  n_tuple : mg "tuple" = none
  n_any : mg "any" = none
  n_enumerate : mg "enumerate" = none
  n_ValueError : mg "ValueError" = none
  n_LookupError : mg "LookupError" = none
  n_TypeError : mg "TypeError" = none
  n_ArithmeticError : mg "ArithmeticError" = none
  n_RuntimeError : mg "RuntimeError" = none
  n_AttributeError : mg "AttributeError" = none
/-! ### ratios -/
/-- the divisor that both are divided by -/
def sg (t b : Int) : Int := if b < 0 then -((Nat.gcd t.natAbs b.natAbs : Nat) : Int) else ((Nat.gcd t.natAbs b.natAbs : Nat) : Int)
theorem sg_ne {t b : Int} (h : b ≠ 0) : sg t b ≠ 0 := by
  have h1 : 0 < Nat.gcd t.natAbs b.natAbs := Nat.gcd_pos_of_pos_right _ (by omega)
  unfold sg
  split <;> omega
theorem sg_abs (t b : Int) : (sg t b).natAbs = Nat.gcd t.natAbs b.natAbs := by
  unfold sg
  split <;> omega
theorem sg_log {t b : Int} (h : b ≠ 0) (hb : b.natAbs < 2 ^ 8000) : CDivZ t (sg t b) := by
  refine divZ (a := 8000) (sg_ne h) ?_ (by decide) (by decide)
  rw [sg_abs]
  exact Nat.lt_of_le_of_lt (Nat.gcd_le_right _ (by omega)) hb
/-- a ratio's fields, as __init__ stores them -/
def rf (t b : Int) : List (Str × V) := putF "bottom" (.int b) (putF "top" (.int t) [])
theorem tb_ne : ¬ (("top" : Str) = "bottom") := by decide +kernel
theorem rf_eq (t b : Int) : rf t b = ([("top", V.int t), ("bottom", V.int b)] : List (Str × V)) := by
  show (if ("top" : Str) = "bottom" then [(("top" : Str), V.int b)] else (("top" : Str), V.int t) :: putF "bottom" (V.int b) []) = ([("top", V.int t), ("bottom", V.int b)] : List (Str × V))
  rw [if_neg tb_ne] <;> rfl
theorem rf_top (t b : Int) : (rf t b).lookup ("top" : Str) = some (.int t) := by
  unfold rf
  rw [lookup_putF, if_neg tb_ne, lookup_putF, if_pos rfl]
theorem rf_bot (t b : Int) : (rf t b).lookup ("bottom" : Str) = some (.int b) := by
  unfold rf
  rw [lookup_putF, if_pos rfl]
/-- a ratio of this top and bottom stands at x -/
def RatAt (C : Addr) (H : Hp) (x : Addr) (t b : Int) : Prop := ∃ dx, H x = some (.ins C dx (rf t b))
/-- what the text tells of the class Ratio -/
structure RCl (K : PySem.W.Frag) (mg : Str → Option Value) (C : Addr) : Prop where
  cl : Cls K C
  nT : NoAttr K C "top"
  nB : NoAttr K C "bottom"
  v_Ratio : ∃ u, mg "Ratio" = some u ∧ RelV (.ref C) u
  ha : PySem.W.findIn K (.ref C) "__class__" = some (some (.builtin "object.__class__"))
  hn : PySem.W.specialIn K (.builtin "object.__class__") "__get__" = some (some (.builtin "getset_descriptor.__get__"))
  ht : PySem.W.takesIn K (.builtin "object.__class__") = some true
  hm : PySem.W.mroIn K C (.type "object") = some true
  me : PySem.W.kitOne K (.ref C) (.ref C) = some true
  gcd : mg "gcd" = some (.builtin "math.gcd")
/-! ### a value of any kind -/
/-- no integer: of a type told, which is no int or is bool -/
def NotI (K : PySem.W.Frag) (H : Hp) (v : V) : Prop := ∃ T, TyX K H v T ∧ (PySem.W.kitOne K T (.type "int") = some false ∨ (PySem.W.kitOne K T (.type "int") = some true ∧ PySem.W.kitOne K T (.type "bool") = some true))
/-- what is left of a raised BadRatio -/
def RzR (D : Addr) (H : Hp) (E : XK) (part : Str) : Prop := ∀ d H2, H d = none → Same H H2 → H2 d = some (.xd [("part", .str part)]) → E (.ref D) (some d) H2
theorem RzR.ext {D : Addr} {H H2 : Hp} {E : XK} {p : Str} (h : RzR D H E p) (e : Same H H2) : RzR D H2 E p := fun d H3 n e2 hd => h d H3 (Evl.fresh_back e n) (e.trans e2) hd
/-! ### promises -/
def spInt (K : PySem.W.Frag) : Sp := fun vs H Q _ => ∃ v : V, vs = [v] ∧ ((∃ i : Int, v = .int i ∧ Q (.bl true) H) ∨ (NotI K H v ∧ Q (.bl false) H))
/-- BadRatio(part) -/
def spBR (D : Addr) : Sp := fun vs H Q _ => ∃ (a : Addr) (x : V), vs = [.ref a, x] ∧ H a = some (exo a D none) ∧ ∀ d, H d = none → d ≠ a → Q .non (upd (upd H d (exd d [("part", x)])) a (exo a D (some d)))
/-- what the text tells of BadRatio, at D, its __init__ at fI -/
structure BRC (K : PySem.W.Frag) (mg : Str → Option Value) (D fI : Addr) : Prop where
  ox : OexC K D
  nP : PySem.W.findIn K (.ref D) "part" = some none
  gl : mg "BadRatio" = some (.ref D)
  iC : PySem.W.findIn K (.ref D) "__init__" = some (some (.ref fI))
  tI : PySem.W.typeIn K (.ref fI) = some (.type "function")
/-- Ratio(top, bottom), any values -/
def spRi (K : PySem.W.Frag) (C D : Addr) : Sp := fun vs H Q E => ∃ (x dx : Addr) (v1 v2 : V), vs = [.ref x, v1, v2] ∧ H x = some (.ins C dx []) ∧ ((NotI K H v1 ∧ RzR D H E "top") ∨ ∃ t : Int, v1 = .int t ∧ (((NotI K H v2 ∨ v2 = .int 0) ∧ RzR D H E "bottom") ∨
  ∃ b : Int, v2 = .int b ∧ b ≠ 0 ∧ b.natAbs < 2 ^ 8000 ∧ Q .non (upd (upd H x (.ins C dx (putF "top" (.int (t.fdiv (sg t b))) []))) x (.ins C dx (rf (t.fdiv (sg t b)) (b.fdiv (sg t b)))))))
section
variable {P : Program} {w : World} {K : PySem.W.Frag} {mg : Str → Option Value} {base : Heap}
theorem scInt : FnScope ["value"] ["value"] (defScope sIsInt) := ⟨rfl, rfl, rfl, by decide +kernel, rfl, by decide +kernel, by decide +kernel⟩
theorem ok_int {f : Addr} {fd : FuncData} (F : Fun K "is_integer" "is_integer" sIsInt f fd) (T : Bi mg) : FnOk P w K mg base CX0 1 f fd ["value"] (spInt K) := by
  refine F.ok scInt (fun vs H Q E h => ?_) (fun cdv A outer s H vs Q E hr h => ?_)
  · obtain ⟨i, rfl, _⟩ := h
    rfl
  · obtain ⟨v, rfl, h⟩ := h
    have nd := scInt.nd
    refine ⟨_, (pss_one (ps_ret (pe_and (pe_callB call_isi (by rfl) T.n_isinstance (by decide +kernel) (pa_cons (pv 0) (pa_cons (pe_tyname "int" T.n_int (by decide +kernel)) pa_nil))) (pe_one (pe_not (pe_callB call_isi (by rfl) T.n_isinstance (by decide +kernel) (pa_cons (pv 0) (pa_cons (pe_tyname "bool" T.n_bool (by decide +kernel)) pa_nil)))))))), ?_⟩
    rcases h with ⟨i, rfl, k⟩ | ⟨⟨ty, t1, t2⟩, k⟩
    · refine ⟨_, rfl, _, _, _, _, true, rfl, ClsV.ty "int", .base (.int i), kit_ty (by decide +kernel), true, rfl, iteT ?_⟩
      exact ⟨_, rfl, _, _, _, _, false, rfl, ClsV.ty "bool", .base (.int i), kit_ty (by decide +kernel), false, rfl, k⟩
    · rcases t2 with t2 | ⟨t2, t3⟩
      · exact ⟨_, rfl, _, _, _, _, false, rfl, ClsV.ty "int", t1, t2, false, rfl, iteF k⟩
      · refine ⟨_, rfl, _, _, _, _, true, rfl, ClsV.ty "int", t1, t2, true, rfl, iteT ?_⟩
        exact ⟨_, rfl, _, _, _, _, true, rfl, ClsV.ty "bool", t1, t3, true, rfl, k⟩
theorem scBR : FnScope ["self", "part"] ["self", "part"] (defScope sBRi) := ⟨rfl, rfl, rfl, by decide +kernel, rfl, by decide +kernel, by decide +kernel⟩
theorem ok_br {f D : Addr} {fd : FuncData} (F : Fun K "__init__" "BadRatio.__init__" sBRi f fd) (T : BRC K mg D f) : FnOk P w K mg base CX0 1 f fd ["self", "part"] (spBR D) := by
  refine F.ok scBR (fun vs H Q E h => ?_) (fun cdv A outer s H vs Q E hr h => ?_)
  · obtain ⟨a, x, rfl, _⟩ := h
    rfl
  · obtain ⟨a, x, rfl, ha, k⟩ := h
    refine ⟨_, pss_one (ps_ost (pv 0) (pv 1)), ?_⟩
    exact ⟨_, rfl, _, rfl, a, D, rfl, T.ox, T.nP, .inl ⟨ha, fun d nd ne => k d nd ne⟩⟩
theorem rzr_mk {D : Addr} {H : Hp} {E : XK} {p : Str} (h : RzR D H E p) {ta : TA} {σ : L2.St} (ha : Evl.EvA ta σ H [.str p]) : tMkO D (spBR D) [] ta σ H E := ha H (Evl.Ex.refl H) _ fun H1 e1 => by
  refine ⟨by show 1 ≤ 1000; decide, fun a na => ⟨a, .str p, rfl, upd_same, fun d nd ne => ⟨rfl, d, [("part", .str p)], upd_same, ?_, ?_, ?_⟩⟩⟩
  · rw [upd_ne ne, upd_same]
  · rw [upd_ne ne] at nd
    exact nd
  · rw [upd_ne ne] at nd
    refine h d _ (Evl.fresh_back e1 nd) (fun b o hb => ?_) upd_same
    have hb1 := e1 b o hb
    rw [upd_ne (ne_of_none hb1 nd), del_ne (ne_of_none hb1 na), upd_ne (ne_of_none hb1 na), upd_ne (ne_of_none hb1 nd), upd_ne (ne_of_none hb1 na)]
    exact hb1
theorem scRi : FnScope ["self", "top", "bottom", "shared"] ["self", "top", "bottom"] (defScope sRi) := ⟨rfl, rfl, rfl, by decide +kernel, rfl, by decide +kernel, by decide +kernel⟩
theorem ok_rinit {f fI fB C D : Addr} {fd fdI fdB : FuncData} (F : FunD K "__init__" "Ratio.__init__" (defArgs sRi) (defBody sRi) (defScope sRi) [.int 1] [] f fd) (T : RCl K mg C) (Tb : BRC K mg D fB) (G_br : FnOk P w K mg base CX0 1 fB fdB ["self", "part"] (spBR D)) (b_br : Binds K fdB ["self", "part"] [])
    (GI : FnOk P w K mg base CX0 1 fI fdI ["value"] (spInt K)) (bI : Binds K fdI ["value"] []) (dI : Df K mg "is_integer" fI) : FnOk P w K mg base (L2.CX P w) 3 f fd ["self", "top", "bottom"] (spRi K C D) := by
  refine F.ok scRi (fun vs H Q E h => ?_) (fun cdv A outer s H vs Q E hr h => ?_)
  · obtain ⟨x, dx, t, b, rfl, _⟩ := h
    rfl
  · obtain ⟨x, dx, v1, v2, rfl, hx, h⟩ := h
    have nd := scRi.nd
    refine ⟨_, (pss_cons (ps_if (pt_not (pt_val (pe_cs (calls_fn GI (hr.mono (by decide)) bI .nil pass0) dI.1 dI.2 (pa_cons (pv 1) pa_nil))))
(pss_one (ps_raise rfl (takes_of rfl rfl rfl rfl) (pmk_oex Tb.ox Tb.iC Tb.tI G_br (hr.mono (by decide)) b_br .nil pass0 rfl Tb.gl (pa_cons pe_str pa_nil))))
pss_nil)
(pss_cons (ps_if (PW.pt (pw_or (pt_not (pt_val (pe_cs (calls_fn GI (hr.mono (by decide)) bI .nil pass0) dI.1 dI.2 (pa_cons (pv 2) pa_nil)))) (pw_or1 (pt_cmpR op_eq (pv 2) pe_int (nomark _)))))
(pss_one (ps_raise rfl (takes_of rfl rfl rfl rfl) (pmk_oex Tb.ox Tb.iC Tb.tI G_br (hr.mono (by decide)) b_br .nil pass0 rfl Tb.gl (pa_cons pe_str pa_nil))))
pss_nil)
(pss_cons (ps_set (i := 3) nd rfl (Or.inl rfl) (pe_callBfun cr_gcd (by rfl) T.gcd (pa_cons (pv 1) (pa_cons (pv 2) pa_nil))))
(pss_cons (ps_if (pt_cmpR op_lt (pv 2) pe_int (nomark _))
(pss_one (ps_set (i := 3) nd rfl (Or.inl rfl) (pe_un un_neg (pv 3))))
pss_nil)
(pss_cons (ps_fld (pv 0) (pe_op op_fdivZ (pv 1) (pv 3)) rfl)
(pss_one (ps_fld (pv 0) (pe_op op_fdivZ (pv 2) (pv 3)) rfl))))))), ?_⟩
    rcases h with ⟨n1, z⟩ | ⟨t, rfl, ⟨n2, z⟩ | ⟨b, rfl, hb, hl, k⟩⟩
    · refine ⟨_, rfl, v1, rfl, .inr ⟨n1, false, rfl, iteT ?_⟩⟩
      exact rzr_mk z (Evl.ea_cons Evl.ev_c Evl.ea_nil)
    · refine ⟨_, rfl, _, rfl, .inl ⟨t, rfl, true, rfl, iteF ?_⟩⟩
      rcases n2 with n2 | rfl
      · refine ⟨_, rfl, v2, rfl, .inr ⟨n2, false, rfl, iteT (iteT ?_)⟩⟩
        exact rzr_mk z (Evl.ea_cons Evl.ev_c Evl.ea_nil)
      · refine ⟨_, rfl, _, rfl, .inl ⟨0, rfl, true, rfl, iteF ⟨_, rfl, rfl, true, rfl, iteT ?_⟩⟩⟩
        exact rzr_mk z (Evl.ea_cons Evl.ev_c Evl.ea_nil)
    · refine ⟨_, rfl, _, rfl, .inl ⟨t, rfl, true, rfl, iteF ?_⟩⟩
      refine ⟨_, rfl, _, rfl, .inl ⟨b, rfl, true, rfl, iteF ?_⟩⟩
      refine ⟨_, rfl, rfl, _, rfl, if_f (decide_eq_false fun z => hb (V.int.inj z)) ?_⟩
      refine ⟨_, rfl, _, rfl, t, b, rfl, ?_⟩
      refine ⟨_, rfl, _, _, rfl, rfl, _, rfl, ?_⟩
      have go : ∀ g : Int, g = sg t b → tSeq (sFld K (tVar 0) (tOp (rI CDivZ fun i j => V.int (i.fdiv j)) (tVar 1) (tVar 3)) "top") (sFld K (tVar 0) (tOp (rI CDivZ fun i j => V.int (i.fdiv j)) (tVar 2) (tVar 3)) "bottom")
          { nx := fun _ G => Q .non G, rt := Q } [some (.ref x), some (.int t), some (.int b), some (.int g)] H := fun g hg => by
        subst hg
        refine ⟨_, rfl, _, rfl, _, _, rfl, rfl, sg_log hb hl, _, rfl, x, C, dx, _, rfl, hx, T.cl, T.nT, (by show 0 < 1000; decide), ?_⟩
        refine ⟨_, rfl, _, rfl, _, _, rfl, rfl, ⟨sg_ne hb, (sg_log (t := t) hb hl).2⟩, _, rfl, x, C, dx, _, rfl, upd_same, T.cl, T.nB, (by show 1 < 1000; decide), ?_⟩
        exact k
      refine if_b (fun c => ?_) (fun c => ?_)
      · have c' : b < 0 := of_decide_eq_true c
        exact ⟨_, rfl, _, rfl, go _ (by unfold sg; rw [if_pos c'])⟩
      · have c' : ¬ b < 0 := of_decide_eq_false c
        exact go _ (by unfold sg; rw [if_neg c'])
def spStr (C : Addr) : Sp := fun vs H Q _ => ∃ (x : Addr) (t b : Int), vs = [.ref x] ∧ RatAt C H x t b ∧ t.natAbs.log2 < 1000 ∧ b.natAbs.log2 < 1000 ∧ Q (.str (ratText t b)) H
theorem scRStr : FnScope ["self"] ["self"] (defScope sRStr) := ⟨rfl, rfl, rfl, by decide +kernel, rfl, by decide +kernel, by decide +kernel⟩
theorem ok_rstr {f C : Addr} {fd : FuncData} (F : Fun K "__str__" "Ratio.__str__" sRStr f fd) (T : RCl K mg C) (B : Bi mg) : FnOk P w K mg base CX0 1 f fd ["self"] (spStr C) := by
  refine F.ok scRStr (fun vs H Q E h => ?_) (fun cdv A outer s H vs Q E hr h => ?_)
  · obtain ⟨x, t, b, rfl, _⟩ := h
    rfl
  · obtain ⟨x, t, b, rfl, hx, ht, hb, k⟩ := h
    have nd := scRStr.nd
    refine ⟨_, (pss_cons (ps_if (pt_cmpR op_eq (pe_fld (pv 0) rfl) pe_int (nomark _))
(pss_one (ps_ret (pe_callTy call_str_int (by rfl) B.n_str (by decide +kernel) (pa_cons (pe_fld (pv 0) rfl) pa_nil))))
pss_nil)
(pss_one (ps_ret (pe_joined (.cons (pe_fmt (pe_fld (pv 0) rfl)) (.cons pe_str (.cons (pe_fmt (pe_fld (pv 0) rfl)) .nil))))))), ?_⟩
    obtain ⟨dx, ex⟩ := id hx
    refine ⟨_, rfl, x, C, dx, _, _, rfl, ex, T.cl, T.nB, rf_bot _ _, rfl, _, rfl, ?_⟩
    have e1 : decide (V.int b = V.int 1) = decide (b = 1) := by simp
    rw [e1]
    refine if_b (fun z => ?_) (fun z => ?_)
    · refine ⟨_, rfl, x, C, dx, _, _, rfl, ex, T.cl, T.nT, rf_top _ _, t, rfl, by omega, ?_⟩
      unfold ratText at k
      rw [if_pos (of_decide_eq_true z)] at k
      exact k
    · unfold ratText at k
      rw [if_neg (of_decide_eq_false z)] at k
      have l1 := numLen ht
      have l2 := numLen hb
      refine ⟨_, rfl, x, C, dx, _, _, rfl, ex, T.cl, T.nT, rf_top _ _, .inr ⟨t, rfl, by omega, _, rfl, ?_, _, rfl, ?_, ?_⟩⟩
      · rw [Str.length_append, len_empty]
        exact sz (by omega)
      · have l0 : (Str.ofString "/").length = 1 := by decide +kernel
        rw [Str.length_append, Str.length_append, len_empty, l0]
        exact sz (by omega)
      · refine ⟨_, rfl, x, C, dx, _, _, rfl, ex, T.cl, T.nB, rf_bot _ _, .inr ⟨b, rfl, by omega, _, rfl, ?_, k⟩⟩
        have l0 : (Str.ofString "/").length = 1 := by decide +kernel
        rw [Str.length_append, Str.length_append, Str.length_append, len_empty, l0]
        exact sz (by omega)
theorem scRRepr : FnScope ["self"] ["self"] (defScope sRRepr) := ⟨rfl, rfl, rfl, by decide +kernel, rfl, by decide +kernel, by decide +kernel⟩
theorem ok_rrepr {f g C : Addr} {fd gd : FuncData} (F : Fun K "__repr__" "Ratio.__repr__" sRRepr f fd) (B : Bi mg) (G_str : FnOk P w K mg base CX0 1 g gd ["self"] (spStr C)) (b_str : Binds K gd ["self"] [])
    (fs : PySem.W.findIn K (.ref C) "__str__" = some (some (.ref g))) (is : PySem.W.isFn K (.ref g) = true) : FnOk P w K mg base CX0 5 f fd ["self"] (spStr C) := by
  refine F.ok scRRepr (fun vs H Q E h => ?_) (fun cdv A outer s H vs Q E hr h => ?_)
  · obtain ⟨x, t, b, rfl, _⟩ := h
    rfl
  · obtain ⟨x, t, b, rfl, hx, ht, hb, k⟩ := h
    have nd := scRRepr.nd
    have r3 := (hr.mono (by decide : 3 ≤ 4)).in1.in1
    refine ⟨_, (pss_one (ps_ret (pe_callTy (call_strO (C := C) r3.units0 fs is (runAt_fn G_str r3 rfl b_str pass0)) (by rfl) B.n_str (by decide +kernel) (pa_cons (pv 0) pa_nil)))), ?_⟩
    obtain ⟨dx, ex⟩ := id hx
    exact ⟨_, rfl, x, dx, _, rfl, ex, x, t, b, rfl, hx, ht, hb, _, rfl, k⟩
/-! ### the exceptions' own __init__ -/
theorem q_init1 {C a : Addr} {n : Str} {x : V} {H : Hp} {Q : VK} (ox : OexC K C) (no : PySem.W.findIn K (.ref C) n = some none) (ha : H a = some (exo a C none))
    (k : ∀ d H2, H d = none → d ≠ a → (∀ b, b ≠ a → b ≠ d → H2 b = H b) → H2 a = some (exo a C (some d)) → H2 d = some (exd d [(n, x)]) → Q .non H2) :
    tOst K n (tVar 0) (tVar 1) { nx := fun _ G => Q .non G, rt := Q } [some (.ref a), some x] H :=
  ⟨_, rfl, _, rfl, a, C, rfl, ox, no, .inl ⟨ha, fun d nd ne => k d _ nd ne (fun b b1 b2 => by rw [upd_ne b1, upd_ne b2]) upd_same (by rw [upd_ne ne, upd_same])⟩⟩
theorem q_init2 {C a : Addr} {n m : Str} {x y : V} {H : Hp} {Q : VK} (ox : OexC K C) (no : PySem.W.findIn K (.ref C) n = some none) (nm : PySem.W.findIn K (.ref C) m = some none) (ha : H a = some (exo a C none))
    (k : ∀ d H2, H d = none → d ≠ a → (∀ b, b ≠ a → b ≠ d → H2 b = H b) → H2 a = some (exo a C (some d)) → H2 d = some (exd d [(m, y), (n, x)]) → Q .non H2) :
    tSeq (tOst K n (tVar 0) (tVar 1)) (tOst K m (tVar 0) (tVar 2)) { nx := fun _ G => Q .non G, rt := Q } [some (.ref a), some x, some y] H :=
  ⟨_, rfl, _, rfl, a, C, rfl, ox, no, .inl ⟨ha, fun d nd ne => ⟨_, rfl, _, rfl, a, C, rfl, ox, nm, .inr ⟨d, [(n, x)], upd_same, by rw [upd_ne ne, upd_same], (by show 1 ≤ 900; decide), k d _ nd ne (fun b b1 b2 => by rw [upd_ne b2, upd_ne b1, upd_ne b2]) (by rw [upd_ne (Ne.symm ne), upd_same]) upd_same⟩⟩⟩⟩
theorem xs1 {xs : List V} (h : xs.length = 1) : ∃ x, xs = [x] := by
  rcases xs with _ | ⟨x, _ | ⟨y, r⟩⟩
  · cases h
  · exact ⟨x, rfl⟩
  · simp at h
theorem xs2 {xs : List V} (h : xs.length = 2) : ∃ x y, xs = [x, y] := by
  rcases xs with _ | ⟨x, _ | ⟨y, _ | ⟨z, r⟩⟩⟩
  · cases h
  · cases h
  · exact ⟨x, y, rfl⟩
  · simp at h
theorem scX13 : FnScope ["self", "part"] ["self", "part"] (defScope sX13) := ⟨rfl, rfl, rfl, by decide +kernel, rfl, by decide +kernel, by decide +kernel⟩
theorem ok_X13 {f C : Addr} {fd : FuncData} (F : Fun K "__init__" "BadRatio.__init__" sX13 f fd) (ox : OexC K C) (no0 : PySem.W.findIn K (.ref C) "part" = some none) : FnOk P w K mg base CX0 2 f fd ["self", "part"] (spIn C ["part"]) := by
  refine F.ok scX13 (fun vs H Q E h => ?_) (fun cdv A outer s H vs Q E hr h => ?_)
  · obtain ⟨a, xs, rfl, hl, _⟩ := h
    exact congrArg Nat.succ hl
  · obtain ⟨a, xs, rfl, hl, ha, k⟩ := h
    obtain ⟨x, rfl⟩ := xs1 hl
    exact ⟨_, pss_one (ps_ost (pv 0) (pv 1)), q_init1 ox no0 ha k⟩
theorem scX14 : FnScope ["self", "part"] ["self", "part"] (defScope sX14) := ⟨rfl, rfl, rfl, by decide +kernel, rfl, by decide +kernel, by decide +kernel⟩
theorem ok_X14 {f C : Addr} {fd : FuncData} (F : Fun K "__init__" "BadCrowd.__init__" sX14 f fd) (ox : OexC K C) (no0 : PySem.W.findIn K (.ref C) "part" = some none) : FnOk P w K mg base CX0 2 f fd ["self", "part"] (spIn C ["part"]) := by
  refine F.ok scX14 (fun vs H Q E h => ?_) (fun cdv A outer s H vs Q E hr h => ?_)
  · obtain ⟨a, xs, rfl, hl, _⟩ := h
    exact congrArg Nat.succ hl
  · obtain ⟨a, xs, rfl, hl, ha, k⟩ := h
    obtain ⟨x, rfl⟩ := xs1 hl
    exact ⟨_, pss_one (ps_ost (pv 0) (pv 1)), q_init1 ox no0 ha k⟩
theorem scX15 : FnScope ["self", "part"] ["self", "part"] (defScope sX15) := ⟨rfl, rfl, rfl, by decide +kernel, rfl, by decide +kernel, by decide +kernel⟩
theorem ok_X15 {f C : Addr} {fd : FuncData} (F : Fun K "__init__" "BadTable.__init__" sX15 f fd) (ox : OexC K C) (no0 : PySem.W.findIn K (.ref C) "part" = some none) : FnOk P w K mg base CX0 2 f fd ["self", "part"] (spIn C ["part"]) := by
  refine F.ok scX15 (fun vs H Q E h => ?_) (fun cdv A outer s H vs Q E hr h => ?_)
  · obtain ⟨a, xs, rfl, hl, _⟩ := h
    exact congrArg Nat.succ hl
  · obtain ⟨a, xs, rfl, hl, ha, k⟩ := h
    obtain ⟨x, rfl⟩ := xs1 hl
    exact ⟨_, pss_one (ps_ost (pv 0) (pv 1)), q_init1 ox no0 ha k⟩
theorem scX16 : FnScope ["self", "part"] ["self", "part"] (defScope sX16) := ⟨rfl, rfl, rfl, by decide +kernel, rfl, by decide +kernel, by decide +kernel⟩
theorem ok_X16 {f C : Addr} {fd : FuncData} (F : Fun K "__init__" "BadChances.__init__" sX16 f fd) (ox : OexC K C) (no0 : PySem.W.findIn K (.ref C) "part" = some none) : FnOk P w K mg base CX0 2 f fd ["self", "part"] (spIn C ["part"]) := by
  refine F.ok scX16 (fun vs H Q E h => ?_) (fun cdv A outer s H vs Q E hr h => ?_)
  · obtain ⟨a, xs, rfl, hl, _⟩ := h
    exact congrArg Nat.succ hl
  · obtain ⟨a, xs, rfl, hl, ha, k⟩ := h
    obtain ⟨x, rfl⟩ := xs1 hl
    exact ⟨_, pss_one (ps_ost (pv 0) (pv 1)), q_init1 ox no0 ha k⟩
theorem scX17 : FnScope ["self", "part"] ["self", "part"] (defScope sX17) := ⟨rfl, rfl, rfl, by decide +kernel, rfl, by decide +kernel, by decide +kernel⟩
theorem ok_X17 {f C : Addr} {fd : FuncData} (F : Fun K "__init__" "BadWatch.__init__" sX17 f fd) (ox : OexC K C) (no0 : PySem.W.findIn K (.ref C) "part" = some none) : FnOk P w K mg base CX0 2 f fd ["self", "part"] (spIn C ["part"]) := by
  refine F.ok scX17 (fun vs H Q E h => ?_) (fun cdv A outer s H vs Q E hr h => ?_)
  · obtain ⟨a, xs, rfl, hl, _⟩ := h
    exact congrArg Nat.succ hl
  · obtain ⟨a, xs, rfl, hl, ha, k⟩ := h
    obtain ⟨x, rfl⟩ := xs1 hl
    exact ⟨_, pss_one (ps_ost (pv 0) (pv 1)), q_init1 ox no0 ha k⟩
theorem scX18 : FnScope ["self", "part"] ["self", "part"] (defScope sX18) := ⟨rfl, rfl, rfl, by decide +kernel, rfl, by decide +kernel, by decide +kernel⟩
theorem ok_X18 {f C : Addr} {fd : FuncData} (F : Fun K "__init__" "BadStudy.__init__" sX18 f fd) (ox : OexC K C) (no0 : PySem.W.findIn K (.ref C) "part" = some none) : FnOk P w K mg base CX0 2 f fd ["self", "part"] (spIn C ["part"]) := by
  refine F.ok scX18 (fun vs H Q E h => ?_) (fun cdv A outer s H vs Q E hr h => ?_)
  · obtain ⟨a, xs, rfl, hl, _⟩ := h
    exact congrArg Nat.succ hl
  · obtain ⟨a, xs, rfl, hl, ha, k⟩ := h
    obtain ⟨x, rfl⟩ := xs1 hl
    exact ⟨_, pss_one (ps_ost (pv 0) (pv 1)), q_init1 ox no0 ha k⟩
theorem scX19 : FnScope ["self", "part"] ["self", "part"] (defScope sX19) := ⟨rfl, rfl, rfl, by decide +kernel, rfl, by decide +kernel, by decide +kernel⟩
theorem ok_X19 {f C : Addr} {fd : FuncData} (F : Fun K "__init__" "BadWorths.__init__" sX19 f fd) (ox : OexC K C) (no0 : PySem.W.findIn K (.ref C) "part" = some none) : FnOk P w K mg base CX0 2 f fd ["self", "part"] (spIn C ["part"]) := by
  refine F.ok scX19 (fun vs H Q E h => ?_) (fun cdv A outer s H vs Q E hr h => ?_)
  · obtain ⟨a, xs, rfl, hl, _⟩ := h
    exact congrArg Nat.succ hl
  · obtain ⟨a, xs, rfl, hl, ha, k⟩ := h
    obtain ⟨x, rfl⟩ := xs1 hl
    exact ⟨_, pss_one (ps_ost (pv 0) (pv 1)), q_init1 ox no0 ha k⟩
theorem scX20 : FnScope ["self", "part"] ["self", "part"] (defScope sX20) := ⟨rfl, rfl, rfl, by decide +kernel, rfl, by decide +kernel, by decide +kernel⟩
theorem ok_X20 {f C : Addr} {fd : FuncData} (F : Fun K "__init__" "BadWorld.__init__" sX20 f fd) (ox : OexC K C) (no0 : PySem.W.findIn K (.ref C) "part" = some none) : FnOk P w K mg base CX0 2 f fd ["self", "part"] (spIn C ["part"]) := by
  refine F.ok scX20 (fun vs H Q E h => ?_) (fun cdv A outer s H vs Q E hr h => ?_)
  · obtain ⟨a, xs, rfl, hl, _⟩ := h
    exact congrArg Nat.succ hl
  · obtain ⟨a, xs, rfl, hl, ha, k⟩ := h
    obtain ⟨x, rfl⟩ := xs1 hl
    exact ⟨_, pss_one (ps_ost (pv 0) (pv 1)), q_init1 ox no0 ha k⟩
theorem scX21 : FnScope ["self", "part"] ["self", "part"] (defScope sX21) := ⟨rfl, rfl, rfl, by decide +kernel, rfl, by decide +kernel, by decide +kernel⟩
theorem ok_X21 {f C : Addr} {fd : FuncData} (F : Fun K "__init__" "BadCosts.__init__" sX21 f fd) (ox : OexC K C) (no0 : PySem.W.findIn K (.ref C) "part" = some none) : FnOk P w K mg base CX0 2 f fd ["self", "part"] (spIn C ["part"]) := by
  refine F.ok scX21 (fun vs H Q E h => ?_) (fun cdv A outer s H vs Q E hr h => ?_)
  · obtain ⟨a, xs, rfl, hl, _⟩ := h
    exact congrArg Nat.succ hl
  · obtain ⟨a, xs, rfl, hl, ha, k⟩ := h
    obtain ⟨x, rfl⟩ := xs1 hl
    exact ⟨_, pss_one (ps_ost (pv 0) (pv 1)), q_init1 ox no0 ha k⟩
theorem scX22 : FnScope ["self", "part"] ["self", "part"] (defScope sX22) := ⟨rfl, rfl, rfl, by decide +kernel, rfl, by decide +kernel, by decide +kernel⟩
theorem ok_X22 {f C : Addr} {fd : FuncData} (F : Fun K "__init__" "BadNest.__init__" sX22 f fd) (ox : OexC K C) (no0 : PySem.W.findIn K (.ref C) "part" = some none) : FnOk P w K mg base CX0 2 f fd ["self", "part"] (spIn C ["part"]) := by
  refine F.ok scX22 (fun vs H Q E h => ?_) (fun cdv A outer s H vs Q E hr h => ?_)
  · obtain ⟨a, xs, rfl, hl, _⟩ := h
    exact congrArg Nat.succ hl
  · obtain ⟨a, xs, rfl, hl, ha, k⟩ := h
    obtain ⟨x, rfl⟩ := xs1 hl
    exact ⟨_, pss_one (ps_ost (pv 0) (pv 1)), q_init1 ox no0 ha k⟩
theorem scX23 : FnScope ["self", "part"] ["self", "part"] (defScope sX23) := ⟨rfl, rfl, rfl, by decide +kernel, rfl, by decide +kernel, by decide +kernel⟩
theorem ok_X23 {f C : Addr} {fd : FuncData} (F : Fun K "__init__" "BadBoard.__init__" sX23 f fd) (ox : OexC K C) (no0 : PySem.W.findIn K (.ref C) "part" = some none) : FnOk P w K mg base CX0 2 f fd ["self", "part"] (spIn C ["part"]) := by
  refine F.ok scX23 (fun vs H Q E h => ?_) (fun cdv A outer s H vs Q E hr h => ?_)
  · obtain ⟨a, xs, rfl, hl, _⟩ := h
    exact congrArg Nat.succ hl
  · obtain ⟨a, xs, rfl, hl, ha, k⟩ := h
    obtain ⟨x, rfl⟩ := xs1 hl
    exact ⟨_, pss_one (ps_ost (pv 0) (pv 1)), q_init1 ox no0 ha k⟩
theorem scX24 : FnScope ["self", "part"] ["self", "part"] (defScope sX24) := ⟨rfl, rfl, rfl, by decide +kernel, rfl, by decide +kernel, by decide +kernel⟩
theorem ok_X24 {f C : Addr} {fd : FuncData} (F : Fun K "__init__" "BadNumbers.__init__" sX24 f fd) (ox : OexC K C) (no0 : PySem.W.findIn K (.ref C) "part" = some none) : FnOk P w K mg base CX0 2 f fd ["self", "part"] (spIn C ["part"]) := by
  refine F.ok scX24 (fun vs H Q E h => ?_) (fun cdv A outer s H vs Q E hr h => ?_)
  · obtain ⟨a, xs, rfl, hl, _⟩ := h
    exact congrArg Nat.succ hl
  · obtain ⟨a, xs, rfl, hl, ha, k⟩ := h
    obtain ⟨x, rfl⟩ := xs1 hl
    exact ⟨_, pss_one (ps_ost (pv 0) (pv 1)), q_init1 ox no0 ha k⟩
theorem scX25 : FnScope ["self", "part"] ["self", "part"] (defScope sX25) := ⟨rfl, rfl, rfl, by decide +kernel, rfl, by decide +kernel, by decide +kernel⟩
theorem ok_X25 {f C : Addr} {fd : FuncData} (F : Fun K "__init__" "BadBet.__init__" sX25 f fd) (ox : OexC K C) (no0 : PySem.W.findIn K (.ref C) "part" = some none) : FnOk P w K mg base CX0 2 f fd ["self", "part"] (spIn C ["part"]) := by
  refine F.ok scX25 (fun vs H Q E h => ?_) (fun cdv A outer s H vs Q E hr h => ?_)
  · obtain ⟨a, xs, rfl, hl, _⟩ := h
    exact congrArg Nat.succ hl
  · obtain ⟨a, xs, rfl, hl, ha, k⟩ := h
    obtain ⟨x, rfl⟩ := xs1 hl
    exact ⟨_, pss_one (ps_ost (pv 0) (pv 1)), q_init1 ox no0 ha k⟩
theorem scX26 : FnScope ["self", "part"] ["self", "part"] (defScope sX26) := ⟨rfl, rfl, rfl, by decide +kernel, rfl, by decide +kernel, by decide +kernel⟩
theorem ok_X26 {f C : Addr} {fd : FuncData} (F : Fun K "__init__" "BadShelf.__init__" sX26 f fd) (ox : OexC K C) (no0 : PySem.W.findIn K (.ref C) "part" = some none) : FnOk P w K mg base CX0 2 f fd ["self", "part"] (spIn C ["part"]) := by
  refine F.ok scX26 (fun vs H Q E h => ?_) (fun cdv A outer s H vs Q E hr h => ?_)
  · obtain ⟨a, xs, rfl, hl, _⟩ := h
    exact congrArg Nat.succ hl
  · obtain ⟨a, xs, rfl, hl, ha, k⟩ := h
    obtain ⟨x, rfl⟩ := xs1 hl
    exact ⟨_, pss_one (ps_ost (pv 0) (pv 1)), q_init1 ox no0 ha k⟩
theorem scX27 : FnScope ["self", "part"] ["self", "part"] (defScope sX27) := ⟨rfl, rfl, rfl, by decide +kernel, rfl, by decide +kernel, by decide +kernel⟩
theorem ok_X27 {f C : Addr} {fd : FuncData} (F : Fun K "__init__" "BadHall.__init__" sX27 f fd) (ox : OexC K C) (no0 : PySem.W.findIn K (.ref C) "part" = some none) : FnOk P w K mg base CX0 2 f fd ["self", "part"] (spIn C ["part"]) := by
  refine F.ok scX27 (fun vs H Q E h => ?_) (fun cdv A outer s H vs Q E hr h => ?_)
  · obtain ⟨a, xs, rfl, hl, _⟩ := h
    exact congrArg Nat.succ hl
  · obtain ⟨a, xs, rfl, hl, ha, k⟩ := h
    obtain ⟨x, rfl⟩ := xs1 hl
    exact ⟨_, pss_one (ps_ost (pv 0) (pv 1)), q_init1 ox no0 ha k⟩
theorem scX28 : FnScope ["self", "part"] ["self", "part"] (defScope sX28) := ⟨rfl, rfl, rfl, by decide +kernel, rfl, by decide +kernel, by decide +kernel⟩
theorem ok_X28 {f C : Addr} {fd : FuncData} (F : Fun K "__init__" "BadLog.__init__" sX28 f fd) (ox : OexC K C) (no0 : PySem.W.findIn K (.ref C) "part" = some none) : FnOk P w K mg base CX0 2 f fd ["self", "part"] (spIn C ["part"]) := by
  refine F.ok scX28 (fun vs H Q E h => ?_) (fun cdv A outer s H vs Q E hr h => ?_)
  · obtain ⟨a, xs, rfl, hl, _⟩ := h
    exact congrArg Nat.succ hl
  · obtain ⟨a, xs, rfl, hl, ha, k⟩ := h
    obtain ⟨x, rfl⟩ := xs1 hl
    exact ⟨_, pss_one (ps_ost (pv 0) (pv 1)), q_init1 ox no0 ha k⟩
theorem scX29 : FnScope ["self", "part"] ["self", "part"] (defScope sX29) := ⟨rfl, rfl, rfl, by decide +kernel, rfl, by decide +kernel, by decide +kernel⟩
theorem ok_X29 {f C : Addr} {fd : FuncData} (F : Fun K "__init__" "BadStory.__init__" sX29 f fd) (ox : OexC K C) (no0 : PySem.W.findIn K (.ref C) "part" = some none) : FnOk P w K mg base CX0 2 f fd ["self", "part"] (spIn C ["part"]) := by
  refine F.ok scX29 (fun vs H Q E h => ?_) (fun cdv A outer s H vs Q E hr h => ?_)
  · obtain ⟨a, xs, rfl, hl, _⟩ := h
    exact congrArg Nat.succ hl
  · obtain ⟨a, xs, rfl, hl, ha, k⟩ := h
    obtain ⟨x, rfl⟩ := xs1 hl
    exact ⟨_, pss_one (ps_ost (pv 0) (pv 1)), q_init1 ox no0 ha k⟩
theorem scX30 : FnScope ["self", "part"] ["self", "part"] (defScope sX30) := ⟨rfl, rfl, rfl, by decide +kernel, rfl, by decide +kernel, by decide +kernel⟩
theorem ok_X30 {f C : Addr} {fd : FuncData} (F : Fun K "__init__" "BadPaper.__init__" sX30 f fd) (ox : OexC K C) (no0 : PySem.W.findIn K (.ref C) "part" = some none) : FnOk P w K mg base CX0 2 f fd ["self", "part"] (spIn C ["part"]) := by
  refine F.ok scX30 (fun vs H Q E h => ?_) (fun cdv A outer s H vs Q E hr h => ?_)
  · obtain ⟨a, xs, rfl, hl, _⟩ := h
    exact congrArg Nat.succ hl
  · obtain ⟨a, xs, rfl, hl, ha, k⟩ := h
    obtain ⟨x, rfl⟩ := xs1 hl
    exact ⟨_, pss_one (ps_ost (pv 0) (pv 1)), q_init1 ox no0 ha k⟩
theorem scX31 : FnScope ["self", "name"] ["self", "name"] (defScope sX31) := ⟨rfl, rfl, rfl, by decide +kernel, rfl, by decide +kernel, by decide +kernel⟩
theorem ok_X31 {f C : Addr} {fd : FuncData} (F : Fun K "__init__" "Missing.__init__" sX31 f fd) (ox : OexC K C) (no0 : PySem.W.findIn K (.ref C) "name" = some none) : FnOk P w K mg base CX0 2 f fd ["self", "name"] (spIn C ["name"]) := by
  refine F.ok scX31 (fun vs H Q E h => ?_) (fun cdv A outer s H vs Q E hr h => ?_)
  · obtain ⟨a, xs, rfl, hl, _⟩ := h
    exact congrArg Nat.succ hl
  · obtain ⟨a, xs, rfl, hl, ha, k⟩ := h
    obtain ⟨x, rfl⟩ := xs1 hl
    exact ⟨_, pss_one (ps_ost (pv 0) (pv 1)), q_init1 ox no0 ha k⟩
theorem scX37 : FnScope ["self", "name"] ["self", "name"] (defScope sX37) := ⟨rfl, rfl, rfl, by decide +kernel, rfl, by decide +kernel, by decide +kernel⟩
theorem ok_X37 {f C : Addr} {fd : FuncData} (F : Fun K "__init__" "Twice.__init__" sX37 f fd) (ox : OexC K C) (no0 : PySem.W.findIn K (.ref C) "name" = some none) : FnOk P w K mg base CX0 2 f fd ["self", "name"] (spIn C ["name"]) := by
  refine F.ok scX37 (fun vs H Q E h => ?_) (fun cdv A outer s H vs Q E hr h => ?_)
  · obtain ⟨a, xs, rfl, hl, _⟩ := h
    exact congrArg Nat.succ hl
  · obtain ⟨a, xs, rfl, hl, ha, k⟩ := h
    obtain ⟨x, rfl⟩ := xs1 hl
    exact ⟨_, pss_one (ps_ost (pv 0) (pv 1)), q_init1 ox no0 ha k⟩
theorem scX38 : FnScope ["self", "label"] ["self", "label"] (defScope sX38) := ⟨rfl, rfl, rfl, by decide +kernel, rfl, by decide +kernel, by decide +kernel⟩
theorem ok_X38 {f C : Addr} {fd : FuncData} (F : Fun K "__init__" "UnlikeSigns.__init__" sX38 f fd) (ox : OexC K C) (no0 : PySem.W.findIn K (.ref C) "label" = some none) : FnOk P w K mg base CX0 2 f fd ["self", "label"] (spIn C ["label"]) := by
  refine F.ok scX38 (fun vs H Q E h => ?_) (fun cdv A outer s H vs Q E hr h => ?_)
  · obtain ⟨a, xs, rfl, hl, _⟩ := h
    exact congrArg Nat.succ hl
  · obtain ⟨a, xs, rfl, hl, ha, k⟩ := h
    obtain ⟨x, rfl⟩ := xs1 hl
    exact ⟨_, pss_one (ps_ost (pv 0) (pv 1)), q_init1 ox no0 ha k⟩
theorem scX39 : FnScope ["self", "one", "other"] ["self", "one", "other"] (defScope sX39) := ⟨rfl, rfl, rfl, by decide +kernel, rfl, by decide +kernel, by decide +kernel⟩
theorem ok_X39 {f C : Addr} {fd : FuncData} (F : Fun K "__init__" "UnlikeArms.__init__" sX39 f fd) (ox : OexC K C) (no0 : PySem.W.findIn K (.ref C) "one" = some none) (no1 : PySem.W.findIn K (.ref C) "other" = some none) : FnOk P w K mg base CX0 2 f fd ["self", "one", "other"] (spIn C ["one", "other"]) := by
  refine F.ok scX39 (fun vs H Q E h => ?_) (fun cdv A outer s H vs Q E hr h => ?_)
  · obtain ⟨a, xs, rfl, hl, _⟩ := h
    exact congrArg Nat.succ hl
  · obtain ⟨a, xs, rfl, hl, ha, k⟩ := h
    obtain ⟨x, y, rfl⟩ := xs2 hl
    exact ⟨_, pss_cons (ps_ost (pv 0) (pv 1)) (pss_one (ps_ost (pv 0) (pv 2))), q_init2 ox no0 no1 ha k⟩
theorem scX40 : FnScope ["self", "trap"] ["self", "trap"] (defScope sX40) := ⟨rfl, rfl, rfl, by decide +kernel, rfl, by decide +kernel, by decide +kernel⟩
theorem ok_X40 {f C : Addr} {fd : FuncData} (F : Fun K "__init__" "Unsure.__init__" sX40 f fd) (ox : OexC K C) (no0 : PySem.W.findIn K (.ref C) "trap" = some none) : FnOk P w K mg base CX0 2 f fd ["self", "trap"] (spIn C ["trap"]) := by
  refine F.ok scX40 (fun vs H Q E h => ?_) (fun cdv A outer s H vs Q E hr h => ?_)
  · obtain ⟨a, xs, rfl, hl, _⟩ := h
    exact congrArg Nat.succ hl
  · obtain ⟨a, xs, rfl, hl, ha, k⟩ := h
    obtain ⟨x, rfl⟩ := xs1 hl
    exact ⟨_, pss_one (ps_ost (pv 0) (pv 1)), q_init1 ox no0 ha k⟩
theorem scX41 : FnScope ["self", "state", "corner"] ["self", "state", "corner"] (defScope sX41) := ⟨rfl, rfl, rfl, by decide +kernel, rfl, by decide +kernel, by decide +kernel⟩
theorem ok_X41 {f C : Addr} {fd : FuncData} (F : Fun K "__init__" "Unfair.__init__" sX41 f fd) (ox : OexC K C) (no0 : PySem.W.findIn K (.ref C) "state" = some none) (no1 : PySem.W.findIn K (.ref C) "corner" = some none) : FnOk P w K mg base CX0 2 f fd ["self", "state", "corner"] (spIn C ["state", "corner"]) := by
  refine F.ok scX41 (fun vs H Q E h => ?_) (fun cdv A outer s H vs Q E hr h => ?_)
  · obtain ⟨a, xs, rfl, hl, _⟩ := h
    exact congrArg Nat.succ hl
  · obtain ⟨a, xs, rfl, hl, ha, k⟩ := h
    obtain ⟨x, y, rfl⟩ := xs2 hl
    exact ⟨_, pss_cons (ps_ost (pv 0) (pv 1)) (pss_one (ps_ost (pv 0) (pv 2))), q_init2 ox no0 no1 ha k⟩
theorem scX42 : FnScope ["self", "word"] ["self", "word"] (defScope sX42) := ⟨rfl, rfl, rfl, by decide +kernel, rfl, by decide +kernel, by decide +kernel⟩
theorem ok_X42 {f C : Addr} {fd : FuncData} (F : Fun K "__init__" "NoPurse.__init__" sX42 f fd) (ox : OexC K C) (no0 : PySem.W.findIn K (.ref C) "word" = some none) : FnOk P w K mg base CX0 2 f fd ["self", "word"] (spIn C ["word"]) := by
  refine F.ok scX42 (fun vs H Q E h => ?_) (fun cdv A outer s H vs Q E hr h => ?_)
  · obtain ⟨a, xs, rfl, hl, _⟩ := h
    exact congrArg Nat.succ hl
  · obtain ⟨a, xs, rfl, hl, ha, k⟩ := h
    obtain ⟨x, rfl⟩ := xs1 hl
    exact ⟨_, pss_one (ps_ost (pv 0) (pv 1)), q_init1 ox no0 ha k⟩
theorem scX43 : FnScope ["self", "name", "row"] ["self", "name", "row"] (defScope sX43) := ⟨rfl, rfl, rfl, by decide +kernel, rfl, by decide +kernel, by decide +kernel⟩
theorem ok_X43 {f C : Addr} {fd : FuncData} (F : Fun K "__init__" "NotWithin.__init__" sX43 f fd) (ox : OexC K C) (no0 : PySem.W.findIn K (.ref C) "name" = some none) (no1 : PySem.W.findIn K (.ref C) "row" = some none) : FnOk P w K mg base CX0 2 f fd ["self", "name", "row"] (spIn C ["name", "row"]) := by
  refine F.ok scX43 (fun vs H Q E h => ?_) (fun cdv A outer s H vs Q E hr h => ?_)
  · obtain ⟨a, xs, rfl, hl, _⟩ := h
    exact congrArg Nat.succ hl
  · obtain ⟨a, xs, rfl, hl, ha, k⟩ := h
    obtain ⟨x, y, rfl⟩ := xs2 hl
    exact ⟨_, pss_cons (ps_ost (pv 0) (pv 1)) (pss_one (ps_ost (pv 0) (pv 2))), q_init2 ox no0 no1 ha k⟩
theorem scX44 : FnScope ["self", "name"] ["self", "name"] (defScope sX44) := ⟨rfl, rfl, rfl, by decide +kernel, rfl, by decide +kernel, by decide +kernel⟩
theorem ok_X44 {f C : Addr} {fd : FuncData} (F : Fun K "__init__" "Over.__init__" sX44 f fd) (ox : OexC K C) (no0 : PySem.W.findIn K (.ref C) "name" = some none) : FnOk P w K mg base CX0 2 f fd ["self", "name"] (spIn C ["name"]) := by
  refine F.ok scX44 (fun vs H Q E h => ?_) (fun cdv A outer s H vs Q E hr h => ?_)
  · obtain ⟨a, xs, rfl, hl, _⟩ := h
    exact congrArg Nat.succ hl
  · obtain ⟨a, xs, rfl, hl, ha, k⟩ := h
    obtain ⟨x, rfl⟩ := xs1 hl
    exact ⟨_, pss_one (ps_ost (pv 0) (pv 1)), q_init1 ox no0 ha k⟩
theorem scX45 : FnScope ["self", "name", "label"] ["self", "name", "label"] (defScope sX45) := ⟨rfl, rfl, rfl, by decide +kernel, rfl, by decide +kernel, by decide +kernel⟩
theorem ok_X45 {f C : Addr} {fd : FuncData} (F : Fun K "__init__" "Refuted.__init__" sX45 f fd) (ox : OexC K C) (no0 : PySem.W.findIn K (.ref C) "name" = some none) (no1 : PySem.W.findIn K (.ref C) "label" = some none) : FnOk P w K mg base CX0 2 f fd ["self", "name", "label"] (spIn C ["name", "label"]) := by
  refine F.ok scX45 (fun vs H Q E h => ?_) (fun cdv A outer s H vs Q E hr h => ?_)
  · obtain ⟨a, xs, rfl, hl, _⟩ := h
    exact congrArg Nat.succ hl
  · obtain ⟨a, xs, rfl, hl, ha, k⟩ := h
    obtain ⟨x, y, rfl⟩ := xs2 hl
    exact ⟨_, pss_cons (ps_ost (pv 0) (pv 1)) (pss_one (ps_ost (pv 0) (pv 2))), q_init2 ox no0 no1 ha k⟩
theorem scX47 : FnScope ["self", "what", "most"] ["self", "what", "most"] (defScope sX47) := ⟨rfl, rfl, rfl, by decide +kernel, rfl, by decide +kernel, by decide +kernel⟩
theorem ok_X47 {f C : Addr} {fd : FuncData} (F : Fun K "__init__" "TooMany.__init__" sX47 f fd) (ox : OexC K C) (no0 : PySem.W.findIn K (.ref C) "what" = some none) (no1 : PySem.W.findIn K (.ref C) "most" = some none) : FnOk P w K mg base CX0 2 f fd ["self", "what", "most"] (spIn C ["what", "most"]) := by
  refine F.ok scX47 (fun vs H Q E h => ?_) (fun cdv A outer s H vs Q E hr h => ?_)
  · obtain ⟨a, xs, rfl, hl, _⟩ := h
    exact congrArg Nat.succ hl
  · obtain ⟨a, xs, rfl, hl, ha, k⟩ := h
    obtain ⟨x, y, rfl⟩ := xs2 hl
    exact ⟨_, pss_cons (ps_ost (pv 0) (pv 1)) (pss_one (ps_ost (pv 0) (pv 2))), q_init2 ox no0 no1 ha k⟩
theorem scX48 : FnScope ["self", "line", "word"] ["self", "line", "word"] (defScope sX48) := ⟨rfl, rfl, rfl, by decide +kernel, rfl, by decide +kernel, by decide +kernel⟩
theorem ok_X48 {f C : Addr} {fd : FuncData} (F : Fun K "__init__" "BadText.__init__" sX48 f fd) (ox : OexC K C) (no0 : PySem.W.findIn K (.ref C) "line" = some none) (no1 : PySem.W.findIn K (.ref C) "word" = some none) : FnOk P w K mg base CX0 2 f fd ["self", "line", "word"] (spIn C ["line", "word"]) := by
  refine F.ok scX48 (fun vs H Q E h => ?_) (fun cdv A outer s H vs Q E hr h => ?_)
  · obtain ⟨a, xs, rfl, hl, _⟩ := h
    exact congrArg Nat.succ hl
  · obtain ⟨a, xs, rfl, hl, ha, k⟩ := h
    obtain ⟨x, y, rfl⟩ := xs2 hl
    exact ⟨_, pss_cons (ps_ost (pv 0) (pv 1)) (pss_one (ps_ost (pv 0) (pv 2))), q_init2 ox no0 no1 ha k⟩
theorem scX49 : FnScope ["self", "line", "error"] ["self", "line", "error"] (defScope sX49) := ⟨rfl, rfl, rfl, by decide +kernel, rfl, by decide +kernel, by decide +kernel⟩
theorem ok_X49 {f C : Addr} {fd : FuncData} (F : Fun K "__init__" "BadLine.__init__" sX49 f fd) (ox : OexC K C) (no0 : PySem.W.findIn K (.ref C) "line" = some none) (no1 : PySem.W.findIn K (.ref C) "error" = some none) : FnOk P w K mg base CX0 2 f fd ["self", "line", "error"] (spIn C ["line", "error"]) := by
  refine F.ok scX49 (fun vs H Q E h => ?_) (fun cdv A outer s H vs Q E hr h => ?_)
  · obtain ⟨a, xs, rfl, hl, _⟩ := h
    exact congrArg Nat.succ hl
  · obtain ⟨a, xs, rfl, hl, ha, k⟩ := h
    obtain ⟨x, y, rfl⟩ := xs2 hl
    exact ⟨_, pss_cons (ps_ost (pv 0) (pv 1)) (pss_one (ps_ost (pv 0) (pv 2))), q_init2 ox no0 no1 ha k⟩
end
end K00
end

section -- K00b
set_option linter.all false
set_option maxRecDepth 100000
set_option maxHeartbeats 4000000
namespace K00
open PySem PySem.Spec L2 Pk Evl
open PyProof.Rows hiding St
def XKE (P : Program) (w : World) (K : PySem.W.Frag) (mg : Str → Option Value) (base : Heap) (x : Str) (C : Addr) (ns : List Str) : Prop := ∃ fI fd, XK P w K mg base x C fI fd ns
/-- all that is told of the exceptions: Cs their classes, M Missing, PE PeekError -/
structure XS (P : Program) (w : World) (K : PySem.W.Frag) (mg : Str → Option Value) (base : Heap) (Cs : Nat → Addr) (M PE : Addr) : Prop where
  mkx : ∀ i, i < 35 → XKE P w K mg base (nm i) (Cs i) (fl i)
  mkM : XKE P w K mg base "Missing" M ["name"]
  n0 : PySem.W.excIn K (Cs 35) PySem.HandSPX.veTail "ValueError.__new__" = true
  n1 : PySem.W.keepIn K (.ref (Cs 35)) = true
  gl : ∀ i, i < 36 → mg (nm i) = some (.ref (Cs i))
  glM : mg "Missing" = some (.ref M)
  glP : mg "PeekError" = some (.ref PE)
  ec : ∀ i, i < 36 → ExcC K (Cs i)
  ecM : ExcC K M
  xf : ∀ i, i < 35 → XfC K (Cs i)
  xfM : XfC K M
  no : ∀ i, i < 35 → ∀ n ∈ fl i, PySem.W.findIn K (.ref (Cs i)) n = some none
  noM : PySem.W.findIn K (.ref M) "name" = some none
  kit : ∀ i j, i < 36 → j < 36 → PySem.W.kitOne K (.ref (Cs i)) (.ref (Cs j)) = some (decide (i = j))
  kitM : ∀ j, j < 36 → PySem.W.kitOne K (.ref M) (.ref (Cs j)) = some false
  kP : ∀ i, i < 36 → PySem.W.kitOne K (.ref (Cs i)) (.ref PE) = some true
  kMP : PySem.W.kitOne K (.ref M) (.ref PE) = some true
  kMis : ∀ i, i < 36 → PySem.W.kitOne K (.ref (Cs i)) (.ref M) = some (decide (18 ≤ i ∧ i < 23))
  kV : ∀ i, i < 36 → PySem.W.kitOne K (.ref (Cs i)) (.type "ValueError") = some true
  kMV : PySem.W.kitOne K (.ref M) (.type "ValueError") = some true
  kF : ∀ i, i < 36 → ∀ T ∈ (["LookupError", "TypeError", "ArithmeticError", "RuntimeError", "AttributeError"] : List String), PySem.W.kitOne K (.ref (Cs i)) (.type T) = some false
section
variable {P : Program} {w : World} {K : PySem.W.Frag} {mg : Str → Option Value} {base : Heap} {Cs : Nat → Addr} {M PE : Addr}
/-- Parts -/
def dtParts (Cs : Nat → Addr) (x : V) : List XD := [(Cs 0, some [("part", x)]), (Cs 1, some [("part", x)]), (Cs 2, some [("part", x)]), (Cs 3, some [("part", x)]), (Cs 4, some [("part", x)]), (Cs 5, some [("part", x)]), (Cs 6, some [("part", x)]), (Cs 7, some [("part", x)]), (Cs 8, some [("part", x)]), (Cs 9, some [("part", x)]), (Cs 10, some [("part", x)]), (Cs 11, some [("part", x)]), (Cs 12, some [("part", x)]), (Cs 13, some [("part", x)]), (Cs 14, some [("part", x)]), (Cs 15, some [("part", x)]), (Cs 16, some [("part", x)]), (Cs 17, some [("part", x)])]
def spParts (Cs : Nat → Addr) : Sp := fun vs H Q _ => ∃ x : V, vs = [x] ∧ ∀ p ws H2, Ex H H2 → H2 p = some (.lst ws) → AllX H2 ws (dtParts Cs x) → Q (.ref p) H2
theorem scParts : FnScope ["_law_part", "_law_made"] ["_law_part"] (defScope sParts) := ⟨rfl, rfl, rfl, by decide +kernel, rfl, by decide +kernel, by decide +kernel⟩
theorem ok_parts {f : Addr} {fd : FuncData} (F0 : Fun K "_law_parts" "_law_parts" sParts f fd) (S : XS P w K mg base Cs M PE) : FnOk P w K mg base CX0 4 f fd ["_law_part"] (spParts Cs) := by
  have h0 : XKE P w K mg base "BadRatio" (Cs 0) ["part"] := S.mkx 0 (by decide)
  obtain ⟨f0, fd0, x0⟩ := h0
  have h1 : XKE P w K mg base "BadCrowd" (Cs 1) ["part"] := S.mkx 1 (by decide)
  obtain ⟨f1, fd1, x1⟩ := h1
  have h2 : XKE P w K mg base "BadTable" (Cs 2) ["part"] := S.mkx 2 (by decide)
  obtain ⟨f2, fd2, x2⟩ := h2
  have h3 : XKE P w K mg base "BadChances" (Cs 3) ["part"] := S.mkx 3 (by decide)
  obtain ⟨f3, fd3, x3⟩ := h3
  have h4 : XKE P w K mg base "BadWatch" (Cs 4) ["part"] := S.mkx 4 (by decide)
  obtain ⟨f4, fd4, x4⟩ := h4
  have h5 : XKE P w K mg base "BadStudy" (Cs 5) ["part"] := S.mkx 5 (by decide)
  obtain ⟨f5, fd5, x5⟩ := h5
  have h6 : XKE P w K mg base "BadWorths" (Cs 6) ["part"] := S.mkx 6 (by decide)
  obtain ⟨f6, fd6, x6⟩ := h6
  have h7 : XKE P w K mg base "BadWorld" (Cs 7) ["part"] := S.mkx 7 (by decide)
  obtain ⟨f7, fd7, x7⟩ := h7
  have h8 : XKE P w K mg base "BadCosts" (Cs 8) ["part"] := S.mkx 8 (by decide)
  obtain ⟨f8, fd8, x8⟩ := h8
  have h9 : XKE P w K mg base "BadNest" (Cs 9) ["part"] := S.mkx 9 (by decide)
  obtain ⟨f9, fd9, x9⟩ := h9
  have h10 : XKE P w K mg base "BadBoard" (Cs 10) ["part"] := S.mkx 10 (by decide)
  obtain ⟨f10, fd10, x10⟩ := h10
  have h11 : XKE P w K mg base "BadNumbers" (Cs 11) ["part"] := S.mkx 11 (by decide)
  obtain ⟨f11, fd11, x11⟩ := h11
  have h12 : XKE P w K mg base "BadBet" (Cs 12) ["part"] := S.mkx 12 (by decide)
  obtain ⟨f12, fd12, x12⟩ := h12
  have h13 : XKE P w K mg base "BadShelf" (Cs 13) ["part"] := S.mkx 13 (by decide)
  obtain ⟨f13, fd13, x13⟩ := h13
  have h14 : XKE P w K mg base "BadHall" (Cs 14) ["part"] := S.mkx 14 (by decide)
  obtain ⟨f14, fd14, x14⟩ := h14
  have h15 : XKE P w K mg base "BadLog" (Cs 15) ["part"] := S.mkx 15 (by decide)
  obtain ⟨f15, fd15, x15⟩ := h15
  have h16 : XKE P w K mg base "BadStory" (Cs 16) ["part"] := S.mkx 16 (by decide)
  obtain ⟨f16, fd16, x16⟩ := h16
  have h17 : XKE P w K mg base "BadPaper" (Cs 17) ["part"] := S.mkx 17 (by decide)
  obtain ⟨f17, fd17, x17⟩ := h17
  refine F0.ok scParts (fun vs H Q E h => ?_) (fun cdv A outer s H vs Q E hr h => ?_)
  · obtain ⟨x, rfl, _⟩ := h
    rfl
  · obtain ⟨x, rfl, k⟩ := h
    have nd := scParts.nd
    refine ⟨_, (pss_cons (ps_set (i := 1) nd rfl (Or.inl rfl) (pe_lst (pa_cons (pe_mkX x0 hr (by decide) (pa_cons (pv 0) pa_nil)) (pa_cons (pe_mkX x1 hr (by decide) (pa_cons (pv 0) pa_nil)) (pa_cons (pe_mkX x2 hr (by decide) (pa_cons (pv 0) pa_nil)) (pa_cons (pe_mkX x3 hr (by decide) (pa_cons (pv 0) pa_nil)) (pa_cons (pe_mkX x4 hr (by decide) (pa_cons (pv 0) pa_nil)) (pa_cons (pe_mkX x5 hr (by decide) (pa_cons (pv 0) pa_nil)) pa_nil))))))))
(pss_cons (ps_set (i := 1) nd rfl (Or.inl rfl) (pe_op op_cat (pv 1) (pe_lst (pa_cons (pe_mkX x6 hr (by decide) (pa_cons (pv 0) pa_nil)) (pa_cons (pe_mkX x7 hr (by decide) (pa_cons (pv 0) pa_nil)) (pa_cons (pe_mkX x8 hr (by decide) (pa_cons (pv 0) pa_nil)) (pa_cons (pe_mkX x9 hr (by decide) (pa_cons (pv 0) pa_nil)) (pa_cons (pe_mkX x10 hr (by decide) (pa_cons (pv 0) pa_nil)) (pa_cons (pe_mkX x11 hr (by decide) (pa_cons (pv 0) pa_nil)) pa_nil)))))))))
(pss_one (ps_ret (pe_op op_cat (pv 1) (pe_lst (pa_cons (pe_mkX x12 hr (by decide) (pa_cons (pv 0) pa_nil)) (pa_cons (pe_mkX x13 hr (by decide) (pa_cons (pv 0) pa_nil)) (pa_cons (pe_mkX x14 hr (by decide) (pa_cons (pv 0) pa_nil)) (pa_cons (pe_mkX x15 hr (by decide) (pa_cons (pv 0) pa_nil)) (pa_cons (pe_mkX x16 hr (by decide) (pa_cons (pv 0) pa_nil)) (pa_cons (pe_mkX x17 hr (by decide) (pa_cons (pv 0) pa_nil)) pa_nil)))))))))))), ?_⟩
    refine s_asgC (elC_lst (eaC_cons (evC_mk (ns := ["part"]) (ea_cons (ev_var rfl) ea_nil) rfl) (eaC_cons (evC_mk (ns := ["part"]) (ea_cons (ev_var rfl) ea_nil) rfl) (eaC_cons (evC_mk (ns := ["part"]) (ea_cons (ev_var rfl) ea_nil) rfl) (eaC_cons (evC_mk (ns := ["part"]) (ea_cons (ev_var rfl) ea_nil) rfl) (eaC_cons (evC_mk (ns := ["part"]) (ea_cons (ev_var rfl) ea_nil) rfl) (eaC_cons (evC_mk (ns := ["part"]) (ea_cons (ev_var rfl) ea_nil) rfl) eaC_nil)))))) (Nat.le_of_ble_eq_true rfl)) fun p vs H1 e1 hp av => ?_
    refine s_asgC (elC_cat (elC_var rfl hp av) (elC_lst (eaC_cons (evC_mk (ns := ["part"]) (ea_cons (ev_var rfl) ea_nil) rfl) (eaC_cons (evC_mk (ns := ["part"]) (ea_cons (ev_var rfl) ea_nil) rfl) (eaC_cons (evC_mk (ns := ["part"]) (ea_cons (ev_var rfl) ea_nil) rfl) (eaC_cons (evC_mk (ns := ["part"]) (ea_cons (ev_var rfl) ea_nil) rfl) (eaC_cons (evC_mk (ns := ["part"]) (ea_cons (ev_var rfl) ea_nil) rfl) (eaC_cons (evC_mk (ns := ["part"]) (ea_cons (ev_var rfl) ea_nil) rfl) eaC_nil)))))) (Nat.le_of_ble_eq_true rfl)) (Nat.le_of_ble_eq_true rfl)) fun p vs H2 e2 hp av => ?_
    exact s_retC (elC_cat (elC_var rfl hp av) (elC_lst (eaC_cons (evC_mk (ns := ["part"]) (ea_cons (ev_var rfl) ea_nil) rfl) (eaC_cons (evC_mk (ns := ["part"]) (ea_cons (ev_var rfl) ea_nil) rfl) (eaC_cons (evC_mk (ns := ["part"]) (ea_cons (ev_var rfl) ea_nil) rfl) (eaC_cons (evC_mk (ns := ["part"]) (ea_cons (ev_var rfl) ea_nil) rfl) (eaC_cons (evC_mk (ns := ["part"]) (ea_cons (ev_var rfl) ea_nil) rfl) (eaC_cons (evC_mk (ns := ["part"]) (ea_cons (ev_var rfl) ea_nil) rfl) eaC_nil)))))) (Nat.le_of_ble_eq_true rfl)) (Nat.le_of_ble_eq_true rfl)) fun q ws H9 e9 hq aw => k q ws H9 (((e1).trans e2).trans e9) hq aw
/-- PartsN -/
def dtPartsN (Cs : Nat → Addr) (x : V) : List XD := [(Cs 0, some [("part", x)]), (Cs 1, some [("part", x)]), (Cs 2, some [("part", x)]), (Cs 3, some [("part", x)]), (Cs 4, some [("part", x)]), (Cs 5, some [("part", x)]), (Cs 6, some [("part", x)]), (Cs 7, some [("part", x)]), (Cs 8, some [("part", x)]), (Cs 9, some [("part", x)]), (Cs 10, some [("part", x)]), (Cs 11, some [("part", x)]), (Cs 12, some [("part", x)]), (Cs 13, some [("part", x)]), (Cs 14, some [("part", x)]), (Cs 15, some [("part", x)]), (Cs 16, some [("part", x)]), (Cs 17, some [("part", x)])]
def spPartsN (Cs : Nat → Addr) : Sp := fun vs H Q _ => ∃ x : V, vs = [x] ∧ ∀ p ws H2, Ex H H2 → H2 p = some (.lst ws) → AllX H2 ws (dtPartsN Cs x) → Q (.ref p) H2
theorem scPartsN : FnScope ["_law_part", "_law_made"] ["_law_part"] (defScope sPartsN) := ⟨rfl, rfl, rfl, by decide +kernel, rfl, by decide +kernel, by decide +kernel⟩
theorem ok_partsn {f : Addr} {fd : FuncData} (F0 : Fun K "_law_parts_named" "_law_parts_named" sPartsN f fd) (S : XS P w K mg base Cs M PE) : FnOk P w K mg base CX0 4 f fd ["_law_part"] (spPartsN Cs) := by
  have h0 : XKE P w K mg base "BadRatio" (Cs 0) ["part"] := S.mkx 0 (by decide)
  obtain ⟨f0, fd0, x0⟩ := h0
  have h1 : XKE P w K mg base "BadCrowd" (Cs 1) ["part"] := S.mkx 1 (by decide)
  obtain ⟨f1, fd1, x1⟩ := h1
  have h2 : XKE P w K mg base "BadTable" (Cs 2) ["part"] := S.mkx 2 (by decide)
  obtain ⟨f2, fd2, x2⟩ := h2
  have h3 : XKE P w K mg base "BadChances" (Cs 3) ["part"] := S.mkx 3 (by decide)
  obtain ⟨f3, fd3, x3⟩ := h3
  have h4 : XKE P w K mg base "BadWatch" (Cs 4) ["part"] := S.mkx 4 (by decide)
  obtain ⟨f4, fd4, x4⟩ := h4
  have h5 : XKE P w K mg base "BadStudy" (Cs 5) ["part"] := S.mkx 5 (by decide)
  obtain ⟨f5, fd5, x5⟩ := h5
  have h6 : XKE P w K mg base "BadWorths" (Cs 6) ["part"] := S.mkx 6 (by decide)
  obtain ⟨f6, fd6, x6⟩ := h6
  have h7 : XKE P w K mg base "BadWorld" (Cs 7) ["part"] := S.mkx 7 (by decide)
  obtain ⟨f7, fd7, x7⟩ := h7
  have h8 : XKE P w K mg base "BadCosts" (Cs 8) ["part"] := S.mkx 8 (by decide)
  obtain ⟨f8, fd8, x8⟩ := h8
  have h9 : XKE P w K mg base "BadNest" (Cs 9) ["part"] := S.mkx 9 (by decide)
  obtain ⟨f9, fd9, x9⟩ := h9
  have h10 : XKE P w K mg base "BadBoard" (Cs 10) ["part"] := S.mkx 10 (by decide)
  obtain ⟨f10, fd10, x10⟩ := h10
  have h11 : XKE P w K mg base "BadNumbers" (Cs 11) ["part"] := S.mkx 11 (by decide)
  obtain ⟨f11, fd11, x11⟩ := h11
  have h12 : XKE P w K mg base "BadBet" (Cs 12) ["part"] := S.mkx 12 (by decide)
  obtain ⟨f12, fd12, x12⟩ := h12
  have h13 : XKE P w K mg base "BadShelf" (Cs 13) ["part"] := S.mkx 13 (by decide)
  obtain ⟨f13, fd13, x13⟩ := h13
  have h14 : XKE P w K mg base "BadHall" (Cs 14) ["part"] := S.mkx 14 (by decide)
  obtain ⟨f14, fd14, x14⟩ := h14
  have h15 : XKE P w K mg base "BadLog" (Cs 15) ["part"] := S.mkx 15 (by decide)
  obtain ⟨f15, fd15, x15⟩ := h15
  have h16 : XKE P w K mg base "BadStory" (Cs 16) ["part"] := S.mkx 16 (by decide)
  obtain ⟨f16, fd16, x16⟩ := h16
  have h17 : XKE P w K mg base "BadPaper" (Cs 17) ["part"] := S.mkx 17 (by decide)
  obtain ⟨f17, fd17, x17⟩ := h17
  refine F0.ok scPartsN (fun vs H Q E h => ?_) (fun cdv A outer s H vs Q E hr h => ?_)
  · obtain ⟨x, rfl, _⟩ := h
    rfl
  · obtain ⟨x, rfl, k⟩ := h
    have nd := scPartsN.nd
    refine ⟨_, (pss_cons (ps_set (i := 1) nd rfl (Or.inl rfl) (pe_lst (pa_cons (pe_mkXK x0 hr (pk_cons (pv 0) pk_nil)) (pa_cons (pe_mkXK x1 hr (pk_cons (pv 0) pk_nil)) (pa_cons (pe_mkXK x2 hr (pk_cons (pv 0) pk_nil)) (pa_cons (pe_mkXK x3 hr (pk_cons (pv 0) pk_nil)) (pa_cons (pe_mkXK x4 hr (pk_cons (pv 0) pk_nil)) pa_nil)))))))
(pss_cons (ps_set (i := 1) nd rfl (Or.inl rfl) (pe_op op_cat (pv 1) (pe_lst (pa_cons (pe_mkXK x5 hr (pk_cons (pv 0) pk_nil)) (pa_cons (pe_mkXK x6 hr (pk_cons (pv 0) pk_nil)) (pa_cons (pe_mkXK x7 hr (pk_cons (pv 0) pk_nil)) (pa_cons (pe_mkXK x8 hr (pk_cons (pv 0) pk_nil)) pa_nil)))))))
(pss_cons (ps_set (i := 1) nd rfl (Or.inl rfl) (pe_op op_cat (pv 1) (pe_lst (pa_cons (pe_mkXK x9 hr (pk_cons (pv 0) pk_nil)) (pa_cons (pe_mkXK x10 hr (pk_cons (pv 0) pk_nil)) (pa_cons (pe_mkXK x11 hr (pk_cons (pv 0) pk_nil)) (pa_cons (pe_mkXK x12 hr (pk_cons (pv 0) pk_nil)) pa_nil)))))))
(pss_one (ps_ret (pe_op op_cat (pv 1) (pe_lst (pa_cons (pe_mkXK x13 hr (pk_cons (pv 0) pk_nil)) (pa_cons (pe_mkXK x14 hr (pk_cons (pv 0) pk_nil)) (pa_cons (pe_mkXK x15 hr (pk_cons (pv 0) pk_nil)) (pa_cons (pe_mkXK x16 hr (pk_cons (pv 0) pk_nil)) (pa_cons (pe_mkXK x17 hr (pk_cons (pv 0) pk_nil)) pa_nil)))))))))))), ?_⟩
    refine s_asgC (elC_lst (eaC_cons (evC_mkK (xs := [x]) (ns := ["part"]) (ea_cons (ev_var rfl) ea_nil) rfl) (eaC_cons (evC_mkK (xs := [x]) (ns := ["part"]) (ea_cons (ev_var rfl) ea_nil) rfl) (eaC_cons (evC_mkK (xs := [x]) (ns := ["part"]) (ea_cons (ev_var rfl) ea_nil) rfl) (eaC_cons (evC_mkK (xs := [x]) (ns := ["part"]) (ea_cons (ev_var rfl) ea_nil) rfl) (eaC_cons (evC_mkK (xs := [x]) (ns := ["part"]) (ea_cons (ev_var rfl) ea_nil) rfl) eaC_nil))))) (Nat.le_of_ble_eq_true rfl)) fun p vs H1 e1 hp av => ?_
    refine s_asgC (elC_cat (elC_var rfl hp av) (elC_lst (eaC_cons (evC_mkK (xs := [x]) (ns := ["part"]) (ea_cons (ev_var rfl) ea_nil) rfl) (eaC_cons (evC_mkK (xs := [x]) (ns := ["part"]) (ea_cons (ev_var rfl) ea_nil) rfl) (eaC_cons (evC_mkK (xs := [x]) (ns := ["part"]) (ea_cons (ev_var rfl) ea_nil) rfl) (eaC_cons (evC_mkK (xs := [x]) (ns := ["part"]) (ea_cons (ev_var rfl) ea_nil) rfl) eaC_nil)))) (Nat.le_of_ble_eq_true rfl)) (Nat.le_of_ble_eq_true rfl)) fun p vs H2 e2 hp av => ?_
    refine s_asgC (elC_cat (elC_var rfl hp av) (elC_lst (eaC_cons (evC_mkK (xs := [x]) (ns := ["part"]) (ea_cons (ev_var rfl) ea_nil) rfl) (eaC_cons (evC_mkK (xs := [x]) (ns := ["part"]) (ea_cons (ev_var rfl) ea_nil) rfl) (eaC_cons (evC_mkK (xs := [x]) (ns := ["part"]) (ea_cons (ev_var rfl) ea_nil) rfl) (eaC_cons (evC_mkK (xs := [x]) (ns := ["part"]) (ea_cons (ev_var rfl) ea_nil) rfl) eaC_nil)))) (Nat.le_of_ble_eq_true rfl)) (Nat.le_of_ble_eq_true rfl)) fun p vs H3 e3 hp av => ?_
    exact s_retC (elC_cat (elC_var rfl hp av) (elC_lst (eaC_cons (evC_mkK (xs := [x]) (ns := ["part"]) (ea_cons (ev_var rfl) ea_nil) rfl) (eaC_cons (evC_mkK (xs := [x]) (ns := ["part"]) (ea_cons (ev_var rfl) ea_nil) rfl) (eaC_cons (evC_mkK (xs := [x]) (ns := ["part"]) (ea_cons (ev_var rfl) ea_nil) rfl) (eaC_cons (evC_mkK (xs := [x]) (ns := ["part"]) (ea_cons (ev_var rfl) ea_nil) rfl) (eaC_cons (evC_mkK (xs := [x]) (ns := ["part"]) (ea_cons (ev_var rfl) ea_nil) rfl) eaC_nil))))) (Nat.le_of_ble_eq_true rfl)) (Nat.le_of_ble_eq_true rfl)) fun q ws H9 e9 hq aw => k q ws H9 ((((e1).trans e2).trans e3).trans e9) hq aw
/-- Others -/
def dtOthers (Cs : Nat → Addr) (x y : V) : List XD := [(Cs 18, some [("name", x)]), (Cs 19, some [("name", x)]), (Cs 20, some [("name", x)]), (Cs 21, some [("name", x)]), (Cs 22, some [("name", x)]), (Cs 23, some [("name", x)]), (Cs 24, some [("name", x)]), (Cs 25, some [("label", x)]), (Cs 26, some [("trap", x)]), (Cs 27, some [("word", x)]), (Cs 28, some [("other", y), ("one", x)]), (Cs 29, some [("corner", y), ("state", x)]), (Cs 30, some [("row", y), ("name", x)]), (Cs 31, some [("label", y), ("name", x)]), (Cs 32, some [("most", y), ("what", x)]), (Cs 33, some [("word", y), ("line", x)]), (Cs 34, some [("error", y), ("line", x)]), (Cs 35, none)]
def spOthers (Cs : Nat → Addr) : Sp := fun vs H Q _ => ∃ x y : V, vs = [x, y] ∧ ∀ p ws H2, Ex H H2 → H2 p = some (.lst ws) → AllX H2 ws (dtOthers Cs x y) → Q (.ref p) H2
theorem scOthers : FnScope ["_law_one", "_law_two", "_law_made"] ["_law_one", "_law_two"] (defScope sOthers) := ⟨rfl, rfl, rfl, by decide +kernel, rfl, by decide +kernel, by decide +kernel⟩
theorem ok_others {f : Addr} {fd : FuncData} (F0 : Fun K "_law_others" "_law_others" sOthers f fd) (S : XS P w K mg base Cs M PE) : FnOk P w K mg base CX0 4 f fd ["_law_one", "_law_two"] (spOthers Cs) := by
  have h18 : XKE P w K mg base "NoSign" (Cs 18) ["name"] := S.mkx 18 (by decide)
  obtain ⟨f18, fd18, x18⟩ := h18
  have h19 : XKE P w K mg base "NoState" (Cs 19) ["name"] := S.mkx 19 (by decide)
  obtain ⟨f19, fd19, x19⟩ := h19
  have h20 : XKE P w K mg base "NoEnd" (Cs 20) ["name"] := S.mkx 20 (by decide)
  obtain ⟨f20, fd20, x20⟩ := h20
  have h21 : XKE P w K mg base "NoArm" (Cs 21) ["name"] := S.mkx 21 (by decide)
  obtain ⟨f21, fd21, x21⟩ := h21
  have h22 : XKE P w K mg base "NoStudy" (Cs 22) ["name"] := S.mkx 22 (by decide)
  obtain ⟨f22, fd22, x22⟩ := h22
  have h23 : XKE P w K mg base "Twice" (Cs 23) ["name"] := S.mkx 23 (by decide)
  obtain ⟨f23, fd23, x23⟩ := h23
  have h24 : XKE P w K mg base "Over" (Cs 24) ["name"] := S.mkx 24 (by decide)
  obtain ⟨f24, fd24, x24⟩ := h24
  have h25 : XKE P w K mg base "UnlikeSigns" (Cs 25) ["label"] := S.mkx 25 (by decide)
  obtain ⟨f25, fd25, x25⟩ := h25
  have h26 : XKE P w K mg base "Unsure" (Cs 26) ["trap"] := S.mkx 26 (by decide)
  obtain ⟨f26, fd26, x26⟩ := h26
  have h27 : XKE P w K mg base "NoPurse" (Cs 27) ["word"] := S.mkx 27 (by decide)
  obtain ⟨f27, fd27, x27⟩ := h27
  have h28 : XKE P w K mg base "UnlikeArms" (Cs 28) ["one", "other"] := S.mkx 28 (by decide)
  obtain ⟨f28, fd28, x28⟩ := h28
  have h29 : XKE P w K mg base "Unfair" (Cs 29) ["state", "corner"] := S.mkx 29 (by decide)
  obtain ⟨f29, fd29, x29⟩ := h29
  have h30 : XKE P w K mg base "NotWithin" (Cs 30) ["name", "row"] := S.mkx 30 (by decide)
  obtain ⟨f30, fd30, x30⟩ := h30
  have h31 : XKE P w K mg base "Refuted" (Cs 31) ["name", "label"] := S.mkx 31 (by decide)
  obtain ⟨f31, fd31, x31⟩ := h31
  have h32 : XKE P w K mg base "TooMany" (Cs 32) ["what", "most"] := S.mkx 32 (by decide)
  obtain ⟨f32, fd32, x32⟩ := h32
  have h33 : XKE P w K mg base "BadText" (Cs 33) ["line", "word"] := S.mkx 33 (by decide)
  obtain ⟨f33, fd33, x33⟩ := h33
  have h34 : XKE P w K mg base "BadLine" (Cs 34) ["line", "error"] := S.mkx 34 (by decide)
  obtain ⟨f34, fd34, x34⟩ := h34
  refine F0.ok scOthers (fun vs H Q E h => ?_) (fun cdv A outer s H vs Q E hr h => ?_)
  · obtain ⟨x, y, rfl, _⟩ := h
    rfl
  · obtain ⟨x, y, rfl, k⟩ := h
    have nd := scOthers.nd
    refine ⟨_, (pss_cons (ps_set (i := 2) nd rfl (Or.inl rfl) (pe_lst (pa_cons (pe_mkX x18 hr (by decide) (pa_cons (pv 0) pa_nil)) (pa_cons (pe_mkX x19 hr (by decide) (pa_cons (pv 0) pa_nil)) (pa_cons (pe_mkX x20 hr (by decide) (pa_cons (pv 0) pa_nil)) (pa_cons (pe_mkX x21 hr (by decide) (pa_cons (pv 0) pa_nil)) (pa_cons (pe_mkX x22 hr (by decide) (pa_cons (pv 0) pa_nil)) (pa_cons (pe_mkX x23 hr (by decide) (pa_cons (pv 0) pa_nil)) (pa_cons (pe_mkX x24 hr (by decide) (pa_cons (pv 0) pa_nil)) pa_nil)))))))))
(pss_cons (ps_set (i := 2) nd rfl (Or.inl rfl) (pe_op op_cat (pv 2) (pe_lst (pa_cons (pe_mkX x25 hr (by decide) (pa_cons (pv 0) pa_nil)) (pa_cons (pe_mkX x26 hr (by decide) (pa_cons (pv 0) pa_nil)) (pa_cons (pe_mkX x27 hr (by decide) (pa_cons (pv 0) pa_nil)) (pa_cons (pe_mkX x28 hr (by decide) (pa_cons (pv 0) (pa_cons (pv 1) pa_nil))) (pa_cons (pe_mkX x29 hr (by decide) (pa_cons (pv 0) (pa_cons (pv 1) pa_nil))) pa_nil))))))))
(pss_cons (ps_set (i := 2) nd rfl (Or.inl rfl) (pe_op op_cat (pv 2) (pe_lst (pa_cons (pe_mkX x30 hr (by decide) (pa_cons (pv 0) (pa_cons (pv 1) pa_nil))) (pa_cons (pe_mkX x31 hr (by decide) (pa_cons (pv 0) (pa_cons (pv 1) pa_nil))) (pa_cons (pe_mkX x32 hr (by decide) (pa_cons (pv 0) (pa_cons (pv 1) pa_nil))) (pa_cons (pe_mkX x33 hr (by decide) (pa_cons (pv 0) (pa_cons (pv 1) pa_nil))) (pa_cons (pe_mkX x34 hr (by decide) (pa_cons (pv 0) (pa_cons (pv 1) pa_nil))) pa_nil))))))))
(pss_one (ps_ret (pe_op op_cat (pv 2) (pe_lst (pa_cons (pe_mkX0 F.excBase_ValueError S.n0 (S.gl 35 (by decide)) S.n1) pa_nil)))))))), ?_⟩
    refine s_asgC (elC_lst (eaC_cons (evC_mk (ns := ["name"]) (ea_cons (ev_var rfl) ea_nil) rfl) (eaC_cons (evC_mk (ns := ["name"]) (ea_cons (ev_var rfl) ea_nil) rfl) (eaC_cons (evC_mk (ns := ["name"]) (ea_cons (ev_var rfl) ea_nil) rfl) (eaC_cons (evC_mk (ns := ["name"]) (ea_cons (ev_var rfl) ea_nil) rfl) (eaC_cons (evC_mk (ns := ["name"]) (ea_cons (ev_var rfl) ea_nil) rfl) (eaC_cons (evC_mk (ns := ["name"]) (ea_cons (ev_var rfl) ea_nil) rfl) (eaC_cons (evC_mk (ns := ["name"]) (ea_cons (ev_var rfl) ea_nil) rfl) eaC_nil))))))) (Nat.le_of_ble_eq_true rfl)) fun p vs H1 e1 hp av => ?_
    refine s_asgC (elC_cat (elC_var rfl hp av) (elC_lst (eaC_cons (evC_mk (ns := ["label"]) (ea_cons (ev_var rfl) ea_nil) rfl) (eaC_cons (evC_mk (ns := ["trap"]) (ea_cons (ev_var rfl) ea_nil) rfl) (eaC_cons (evC_mk (ns := ["word"]) (ea_cons (ev_var rfl) ea_nil) rfl) (eaC_cons (evC_mk (ns := ["one", "other"]) (ea_cons (ev_var rfl) (ea_cons (ev_var rfl) ea_nil)) rfl) (eaC_cons (evC_mk (ns := ["state", "corner"]) (ea_cons (ev_var rfl) (ea_cons (ev_var rfl) ea_nil)) rfl) eaC_nil))))) (Nat.le_of_ble_eq_true rfl)) (Nat.le_of_ble_eq_true rfl)) fun p vs H2 e2 hp av => ?_
    refine s_asgC (elC_cat (elC_var rfl hp av) (elC_lst (eaC_cons (evC_mk (ns := ["name", "row"]) (ea_cons (ev_var rfl) (ea_cons (ev_var rfl) ea_nil)) rfl) (eaC_cons (evC_mk (ns := ["name", "label"]) (ea_cons (ev_var rfl) (ea_cons (ev_var rfl) ea_nil)) rfl) (eaC_cons (evC_mk (ns := ["what", "most"]) (ea_cons (ev_var rfl) (ea_cons (ev_var rfl) ea_nil)) rfl) (eaC_cons (evC_mk (ns := ["line", "word"]) (ea_cons (ev_var rfl) (ea_cons (ev_var rfl) ea_nil)) rfl) (eaC_cons (evC_mk (ns := ["line", "error"]) (ea_cons (ev_var rfl) (ea_cons (ev_var rfl) ea_nil)) rfl) eaC_nil))))) (Nat.le_of_ble_eq_true rfl)) (Nat.le_of_ble_eq_true rfl)) fun p vs H3 e3 hp av => ?_
    exact s_retC (elC_cat (elC_var rfl hp av) (elC_lst (eaC_cons evC_mk0 eaC_nil) (Nat.le_of_ble_eq_true rfl)) (Nat.le_of_ble_eq_true rfl)) fun q ws H9 e9 hq aw => k q ws H9 ((((e1).trans e2).trans e3).trans e9) hq aw
/-- OthersN -/
def dtOthersN (Cs : Nat → Addr) (x y : V) : List XD := [(Cs 18, some [("name", x)]), (Cs 19, some [("name", x)]), (Cs 20, some [("name", x)]), (Cs 21, some [("name", x)]), (Cs 22, some [("name", x)]), (Cs 23, some [("name", x)]), (Cs 24, some [("name", x)]), (Cs 25, some [("label", x)]), (Cs 26, some [("trap", x)]), (Cs 27, some [("word", x)]), (Cs 28, some [("other", y), ("one", x)]), (Cs 29, some [("corner", y), ("state", x)]), (Cs 30, some [("row", y), ("name", x)]), (Cs 31, some [("label", y), ("name", x)]), (Cs 32, some [("most", y), ("what", x)]), (Cs 33, some [("word", y), ("line", x)]), (Cs 34, some [("error", y), ("line", x)]), (Cs 35, none)]
def spOthersN (Cs : Nat → Addr) : Sp := fun vs H Q _ => ∃ x y : V, vs = [x, y] ∧ ∀ p ws H2, Ex H H2 → H2 p = some (.lst ws) → AllX H2 ws (dtOthersN Cs x y) → Q (.ref p) H2
theorem scOthersN : FnScope ["_law_one", "_law_two", "_law_made"] ["_law_one", "_law_two"] (defScope sOthersN) := ⟨rfl, rfl, rfl, by decide +kernel, rfl, by decide +kernel, by decide +kernel⟩
theorem ok_othersn {f : Addr} {fd : FuncData} (F0 : Fun K "_law_others_named" "_law_others_named" sOthersN f fd) (S : XS P w K mg base Cs M PE) : FnOk P w K mg base CX0 4 f fd ["_law_one", "_law_two"] (spOthersN Cs) := by
  have h18 : XKE P w K mg base "NoSign" (Cs 18) ["name"] := S.mkx 18 (by decide)
  obtain ⟨f18, fd18, x18⟩ := h18
  have h19 : XKE P w K mg base "NoState" (Cs 19) ["name"] := S.mkx 19 (by decide)
  obtain ⟨f19, fd19, x19⟩ := h19
  have h20 : XKE P w K mg base "NoEnd" (Cs 20) ["name"] := S.mkx 20 (by decide)
  obtain ⟨f20, fd20, x20⟩ := h20
  have h21 : XKE P w K mg base "NoArm" (Cs 21) ["name"] := S.mkx 21 (by decide)
  obtain ⟨f21, fd21, x21⟩ := h21
  have h22 : XKE P w K mg base "NoStudy" (Cs 22) ["name"] := S.mkx 22 (by decide)
  obtain ⟨f22, fd22, x22⟩ := h22
  have h23 : XKE P w K mg base "Twice" (Cs 23) ["name"] := S.mkx 23 (by decide)
  obtain ⟨f23, fd23, x23⟩ := h23
  have h24 : XKE P w K mg base "Over" (Cs 24) ["name"] := S.mkx 24 (by decide)
  obtain ⟨f24, fd24, x24⟩ := h24
  have h25 : XKE P w K mg base "UnlikeSigns" (Cs 25) ["label"] := S.mkx 25 (by decide)
  obtain ⟨f25, fd25, x25⟩ := h25
  have h26 : XKE P w K mg base "Unsure" (Cs 26) ["trap"] := S.mkx 26 (by decide)
  obtain ⟨f26, fd26, x26⟩ := h26
  have h27 : XKE P w K mg base "NoPurse" (Cs 27) ["word"] := S.mkx 27 (by decide)
  obtain ⟨f27, fd27, x27⟩ := h27
  have h28 : XKE P w K mg base "UnlikeArms" (Cs 28) ["one", "other"] := S.mkx 28 (by decide)
  obtain ⟨f28, fd28, x28⟩ := h28
  have h29 : XKE P w K mg base "Unfair" (Cs 29) ["state", "corner"] := S.mkx 29 (by decide)
  obtain ⟨f29, fd29, x29⟩ := h29
  have h30 : XKE P w K mg base "NotWithin" (Cs 30) ["name", "row"] := S.mkx 30 (by decide)
  obtain ⟨f30, fd30, x30⟩ := h30
  have h31 : XKE P w K mg base "Refuted" (Cs 31) ["name", "label"] := S.mkx 31 (by decide)
  obtain ⟨f31, fd31, x31⟩ := h31
  have h32 : XKE P w K mg base "TooMany" (Cs 32) ["what", "most"] := S.mkx 32 (by decide)
  obtain ⟨f32, fd32, x32⟩ := h32
  have h33 : XKE P w K mg base "BadText" (Cs 33) ["line", "word"] := S.mkx 33 (by decide)
  obtain ⟨f33, fd33, x33⟩ := h33
  have h34 : XKE P w K mg base "BadLine" (Cs 34) ["line", "error"] := S.mkx 34 (by decide)
  obtain ⟨f34, fd34, x34⟩ := h34
  refine F0.ok scOthersN (fun vs H Q E h => ?_) (fun cdv A outer s H vs Q E hr h => ?_)
  · obtain ⟨x, y, rfl, _⟩ := h
    rfl
  · obtain ⟨x, y, rfl, k⟩ := h
    have nd := scOthersN.nd
    refine ⟨_, (pss_cons (ps_set (i := 2) nd rfl (Or.inl rfl) (pe_lst (pa_cons (pe_mkXK x18 hr (pk_cons (pv 0) pk_nil)) (pa_cons (pe_mkXK x19 hr (pk_cons (pv 0) pk_nil)) (pa_cons (pe_mkXK x20 hr (pk_cons (pv 0) pk_nil)) (pa_cons (pe_mkXK x21 hr (pk_cons (pv 0) pk_nil)) (pa_cons (pe_mkXK x22 hr (pk_cons (pv 0) pk_nil)) pa_nil)))))))
(pss_cons (ps_set (i := 2) nd rfl (Or.inl rfl) (pe_op op_cat (pv 2) (pe_lst (pa_cons (pe_mkXK x23 hr (pk_cons (pv 0) pk_nil)) (pa_cons (pe_mkXK x24 hr (pk_cons (pv 0) pk_nil)) (pa_cons (pe_mkXK x25 hr (pk_cons (pv 0) pk_nil)) (pa_cons (pe_mkXK x26 hr (pk_cons (pv 0) pk_nil)) (pa_cons (pe_mkXK x27 hr (pk_cons (pv 0) pk_nil)) pa_nil))))))))
(pss_cons (ps_set (i := 2) nd rfl (Or.inl rfl) (pe_op op_cat (pv 2) (pe_lst (pa_cons (pe_mkXK x28 hr (pk_cons (pv 1) (pk_cons (pv 0) pk_nil))) (pa_cons (pe_mkXK x29 hr (pk_cons (pv 1) (pk_cons (pv 0) pk_nil))) (pa_cons (pe_mkXK x30 hr (pk_cons (pv 1) (pk_cons (pv 0) pk_nil))) pa_nil))))))
(pss_cons (ps_set (i := 2) nd rfl (Or.inl rfl) (pe_op op_cat (pv 2) (pe_lst (pa_cons (pe_mkXK x31 hr (pk_cons (pv 1) (pk_cons (pv 0) pk_nil))) (pa_cons (pe_mkXK x32 hr (pk_cons (pv 1) (pk_cons (pv 0) pk_nil))) (pa_cons (pe_mkXK x33 hr (pk_cons (pv 1) (pk_cons (pv 0) pk_nil))) pa_nil))))))
(pss_one (ps_ret (pe_op op_cat (pv 2) (pe_lst (pa_cons (pe_mkXK x34 hr (pk_cons (pv 1) (pk_cons (pv 0) pk_nil))) (pa_cons (pe_mkX0 F.excBase_ValueError S.n0 (S.gl 35 (by decide)) S.n1) pa_nil)))))))))), ?_⟩
    refine s_asgC (elC_lst (eaC_cons (evC_mkK (xs := [x]) (ns := ["name"]) (ea_cons (ev_var rfl) ea_nil) rfl) (eaC_cons (evC_mkK (xs := [x]) (ns := ["name"]) (ea_cons (ev_var rfl) ea_nil) rfl) (eaC_cons (evC_mkK (xs := [x]) (ns := ["name"]) (ea_cons (ev_var rfl) ea_nil) rfl) (eaC_cons (evC_mkK (xs := [x]) (ns := ["name"]) (ea_cons (ev_var rfl) ea_nil) rfl) (eaC_cons (evC_mkK (xs := [x]) (ns := ["name"]) (ea_cons (ev_var rfl) ea_nil) rfl) eaC_nil))))) (Nat.le_of_ble_eq_true rfl)) fun p vs H1 e1 hp av => ?_
    refine s_asgC (elC_cat (elC_var rfl hp av) (elC_lst (eaC_cons (evC_mkK (xs := [x]) (ns := ["name"]) (ea_cons (ev_var rfl) ea_nil) rfl) (eaC_cons (evC_mkK (xs := [x]) (ns := ["name"]) (ea_cons (ev_var rfl) ea_nil) rfl) (eaC_cons (evC_mkK (xs := [x]) (ns := ["label"]) (ea_cons (ev_var rfl) ea_nil) rfl) (eaC_cons (evC_mkK (xs := [x]) (ns := ["trap"]) (ea_cons (ev_var rfl) ea_nil) rfl) (eaC_cons (evC_mkK (xs := [x]) (ns := ["word"]) (ea_cons (ev_var rfl) ea_nil) rfl) eaC_nil))))) (Nat.le_of_ble_eq_true rfl)) (Nat.le_of_ble_eq_true rfl)) fun p vs H2 e2 hp av => ?_
    refine s_asgC (elC_cat (elC_var rfl hp av) (elC_lst (eaC_cons (evC_mkK (xs := [x, y]) (ns := ["one", "other"]) (ea_cons (ev_var rfl) (ea_cons (ev_var rfl) ea_nil)) rfl) (eaC_cons (evC_mkK (xs := [x, y]) (ns := ["state", "corner"]) (ea_cons (ev_var rfl) (ea_cons (ev_var rfl) ea_nil)) rfl) (eaC_cons (evC_mkK (xs := [x, y]) (ns := ["name", "row"]) (ea_cons (ev_var rfl) (ea_cons (ev_var rfl) ea_nil)) rfl) eaC_nil))) (Nat.le_of_ble_eq_true rfl)) (Nat.le_of_ble_eq_true rfl)) fun p vs H3 e3 hp av => ?_
    refine s_asgC (elC_cat (elC_var rfl hp av) (elC_lst (eaC_cons (evC_mkK (xs := [x, y]) (ns := ["name", "label"]) (ea_cons (ev_var rfl) (ea_cons (ev_var rfl) ea_nil)) rfl) (eaC_cons (evC_mkK (xs := [x, y]) (ns := ["what", "most"]) (ea_cons (ev_var rfl) (ea_cons (ev_var rfl) ea_nil)) rfl) (eaC_cons (evC_mkK (xs := [x, y]) (ns := ["line", "word"]) (ea_cons (ev_var rfl) (ea_cons (ev_var rfl) ea_nil)) rfl) eaC_nil))) (Nat.le_of_ble_eq_true rfl)) (Nat.le_of_ble_eq_true rfl)) fun p vs H4 e4 hp av => ?_
    exact s_retC (elC_cat (elC_var rfl hp av) (elC_lst (eaC_cons (evC_mkK (xs := [x, y]) (ns := ["line", "error"]) (ea_cons (ev_var rfl) (ea_cons (ev_var rfl) ea_nil)) rfl) (eaC_cons evC_mk0 eaC_nil)) (Nat.le_of_ble_eq_true rfl)) (Nat.le_of_ble_eq_true rfl)) fun q ws H9 e9 hq aw => k q ws H9 (((((e1).trans e2).trans e3).trans e4).trans e9) hq aw
end
end K00
end

section -- K00c
set_option linter.all false
set_option maxRecDepth 100000
set_option maxHeartbeats 4000000
namespace K00
open PySem PySem.Spec L2 Pk Evl
open PyProof.Rows hiding St
/-- the i-th exception's data -/
def dat (Cs : Nat → Addr) (one two : V) (i : Nat) : XD := (Cs i, if i = 35 then none else some ((fl i).zip [one, two]).reverse)
def due (one two : V) (i : Nat) : List V := if i < 28 then [one] else if i < 35 then [one, two] else []
theorem fl_a : ∀ i, i < 18 → fl i = [("part" : Str)] := by decide +kernel
theorem fl_b : ∀ i, i < 25 → 18 ≤ i → fl i = [("name" : Str)] := by decide +kernel
def spFields (Cs : Nat → Addr) : Sp := fun vs H Q _ => ∃ (v one two : V) (i : Nat), vs = [v, .int (i : Int)] ∧ i < 36 ∧ XcAt H v (dat Cs one two i) ∧ ∀ p H2, H p = none → Ex H H2 → H2 p = some (.tup (due one two i)) → Q (.ref p) H2
def kins (f : Nat → Bool) : List V := (List.range 36).map fun j => .bl (f j)
def spKin (K : PySem.W.Frag) (Cs : Nat → Addr) : Sp := fun vs H Q _ => ∃ (v : V) (p : XD) (f : Nat → Bool), vs = [v] ∧ XcAt H v p ∧ ExcC K p.1 ∧ (∀ j, j < 36 → PySem.W.kitOne K (.ref p.1) (.ref (Cs j)) = some (f j)) ∧ RetL (kins f) H Q
section
variable {K : PySem.W.Frag} {σ : L2.St} {H : Hp} {ta tb : TE} {t : TT}
theorem eu_if {b : Bool} {xs : List V} (h : EvT t σ H b) (h1 : b = true → EvU ta σ H xs) (h2 : b = false → EvU tb σ H xs) : EvU (tIf t ta tb) σ H xs := fun H1 e Q q => h H1 e _ fun H2 e2 => by
  cases b with
  | true => exact (h1 rfl) H2 (e.trans e2) Q fun p H3 np e3 hp => q p H3 (fresh_back e2 np) (e2.trans e3) hp
  | false => exact (h2 rfl) H2 (e.trans e2) Q fun p H3 np e3 hp => q p H3 (fresh_back e2 np) (e2.trans e3) hp
theorem et_lt {k : Nat} {i : Nat} {b : Bool} {j : Int} (s : σ[k]? = some (some (.int (i : Int)))) (h : decide ((i : Int) < j) = b) : EvT (tTest (tOp (rI0 fun i j => .bl (decide (i < j))) (tVar k) (tC (.int j)))) σ H b := et_is (et_test (ev_op (ev_var s) ev_c rv_I0)) h
theorem et_eqI {k : Nat} {i : Nat} {b : Bool} {j : Int} (s : σ[k]? = some (some (.int (i : Int)))) (h : decide (V.int (i : Int) = V.int j) = b) : EvT (tTest (tOp rEq (tVar k) (tC (.int j)))) σ H b := et_is (et_test (ev_op (ev_var s) ev_c (rv_eq rfl))) h
end
section
variable {P : Program} {w : World} {K : PySem.W.Frag} {mg : Str → Option Value} {base : Heap} {Cs : Nat → Addr} {M PE : Addr}
theorem sc_fields : FnScope ["_law_error", "_law_place"] ["_law_error", "_law_place"] (defScope sFields) := ⟨rfl, rfl, rfl, by decide +kernel, rfl, by decide +kernel, by decide +kernel⟩
theorem ok_fields {f : Addr} {fd : FuncData} (F0 : Fun K "_law_fields" "_law_fields" sFields f fd) (S : XS P w K mg base Cs M PE) : FnOk P w K mg base CX0 1 f fd ["_law_error", "_law_place"] (spFields Cs) := by
  refine F0.ok sc_fields (fun vs H Q E h => ?_) (fun cdv A outer s H vs Q E hr h => ?_)
  · obtain ⟨v, one, two, i, rfl, _⟩ := h
    rfl
  · obtain ⟨v, one, two, i, rfl, hi, hx, k⟩ := h
    have nd := sc_fields.nd
    refine ⟨_, (pss_cons (ps_if (pt_cmpR op_lt (pv 1) pe_int (nomark _))
(pss_one (ps_ret (pe_tup (pa_cons (pe_xa (pv 0)) pa_nil))))
pss_nil)
(pss_cons (ps_if (pt_cmpR op_lt (pv 1) pe_int (nomark _))
(pss_one (ps_ret (pe_tup (pa_cons (pe_xa (pv 0)) pa_nil))))
pss_nil)
(pss_cons (ps_if (pt_cmpR op_lt (pv 1) pe_int (nomark _))
(pss_one (ps_ret (pe_ifExp (pt_cmpR op_eq (pv 1) pe_int (nomark _)) (pe_tup (pa_cons (pe_xa (pv 0)) pa_nil)) (pe_ifExp (pt_cmpR op_eq (pv 1) pe_int (nomark _)) (pe_tup (pa_cons (pe_xa (pv 0)) pa_nil)) (pe_tup (pa_cons (pe_xa (pv 0)) pa_nil))))))
pss_nil)
(pss_cons (ps_if (pt_cmpR op_lt (pv 1) pe_int (nomark _))
(pss_one (ps_ret (pe_ifExp (pt_cmpR op_eq (pv 1) pe_int (nomark _)) (pe_tup (pa_cons (pe_xa (pv 0)) (pa_cons (pe_xa (pv 0)) pa_nil))) (pe_tup (pa_cons (pe_xa (pv 0)) (pa_cons (pe_xa (pv 0)) pa_nil))))))
pss_nil)
(pss_cons (ps_if (pt_cmpR op_lt (pv 1) pe_int (nomark _))
(pss_one (ps_ret (pe_ifExp (pt_cmpR op_eq (pv 1) pe_int (nomark _)) (pe_tup (pa_cons (pe_xa (pv 0)) (pa_cons (pe_xa (pv 0)) pa_nil))) (pe_tup (pa_cons (pe_xa (pv 0)) (pa_cons (pe_xa (pv 0)) pa_nil))))))
pss_nil)
(pss_cons (ps_if (pt_cmpR op_lt (pv 1) pe_int (nomark _))
(pss_one (ps_ret (pe_ifExp (pt_cmpR op_eq (pv 1) pe_int (nomark _)) (pe_tup (pa_cons (pe_xa (pv 0)) (pa_cons (pe_xa (pv 0)) pa_nil))) (pe_tup (pa_cons (pe_xa (pv 0)) (pa_cons (pe_xa (pv 0)) pa_nil))))))
pss_nil)
(pss_one (ps_ret (pe_ifExp (pt_cmpR op_eq (pv 1) pe_int (nomark _)) (pe_tup (pa_cons (pe_xa (pv 0)) (pa_cons (pe_xa (pv 0)) pa_nil))) (pe_tup pa_nil)))))))))), ?_⟩
    by_cases c18 : i < 18
    · have ef := fl_a i c18
      have hx : XcAt H v (Cs i, some [("part", one)]) := by
        unfold dat at hx
        rw [if_neg (by omega), ef] at hx
        exact hx
      have hn : ("part" : Str) ∈ fl i := by rw [ef]; exact List.mem_cons_self
      have hd : due one two i = [one] := if_pos (by omega)
      rw [hd] at k
      refine q_when (b := true) (et_lt rfl (decide_eq_true (by omega))) (fun _ H1 e1 => ?_) (fun c => by cases c)
      have ee := e1
      refine s_retU (eu_tup (ea_cons (ev_xa (ev_var rfl) (hx.ext ee) (S.xf i (by omega)) (S.no i (by omega) "part" hn) rfl) ea_nil) (by show 1 ≤ 100000; decide)) fun p H9 np e9 hp => k p H9 (fresh_back ee np) (ee.trans e9) hp
    by_cases c25 : i < 25
    · have ef := fl_b i c25 (by omega)
      have hx : XcAt H v (Cs i, some [("name", one)]) := by
        unfold dat at hx
        rw [if_neg (by omega), ef] at hx
        exact hx
      have hn : ("name" : Str) ∈ fl i := by rw [ef]; exact List.mem_cons_self
      have hd : due one two i = [one] := if_pos (by omega)
      rw [hd] at k
      refine q_when (b := false) (et_lt rfl (decide_eq_false (by omega))) (fun c => by cases c) fun _ H1 e1 => ?_
      refine q_when (b := true) (et_lt rfl (decide_eq_true (by omega))) (fun _ H2 e2 => ?_) (fun c => by cases c)
      have ee := (e1).trans e2
      refine s_retU (eu_tup (ea_cons (ev_xa (ev_var rfl) (hx.ext ee) (S.xf i (by omega)) (S.no i (by omega) "name" hn) rfl) ea_nil) (by show 1 ≤ 100000; decide)) fun p H9 np e9 hp => k p H9 (fresh_back ee np) (ee.trans e9) hp
    by_cases c25 : i = 25
    · subst c25
      have hx : XcAt H v (Cs 25, some [("label", one)]) := hx
      refine q_when (b := false) (et_lt rfl (decide_eq_false (by omega))) (fun c => by cases c) fun _ H1 e1 => ?_
      refine q_when (b := false) (et_lt rfl (decide_eq_false (by omega))) (fun c => by cases c) fun _ H2 e2 => ?_
      refine q_when (b := true) (et_lt rfl (decide_eq_true (by omega))) (fun _ H3 e3 => ?_) (fun c => by cases c)
      have ee := ((e1).trans e2).trans e3
      refine s_retU (eu_if (b := true) (et_eqI rfl (by simp)) (fun _ => (eu_tup (ea_cons (ev_xa (ev_var rfl) (hx.ext ee) (S.xf 25 (by decide)) (S.no 25 (by decide) "label" (by decide +kernel)) rfl) ea_nil) (by show 1 ≤ 100000; decide))) (fun c => by cases c)) fun p H9 np e9 hp => k p H9 (fresh_back ee np) (ee.trans e9) hp
    by_cases c26 : i = 26
    · subst c26
      have hx : XcAt H v (Cs 26, some [("trap", one)]) := hx
      refine q_when (b := false) (et_lt rfl (decide_eq_false (by omega))) (fun c => by cases c) fun _ H1 e1 => ?_
      refine q_when (b := false) (et_lt rfl (decide_eq_false (by omega))) (fun c => by cases c) fun _ H2 e2 => ?_
      refine q_when (b := true) (et_lt rfl (decide_eq_true (by omega))) (fun _ H3 e3 => ?_) (fun c => by cases c)
      have ee := ((e1).trans e2).trans e3
      refine s_retU (eu_if (b := false) (et_eqI rfl (by simp)) (fun c => by cases c) (fun _ => (eu_if (b := true) (et_eqI rfl (by simp)) (fun _ => (eu_tup (ea_cons (ev_xa (ev_var rfl) (hx.ext ee) (S.xf 26 (by decide)) (S.no 26 (by decide) "trap" (by decide +kernel)) rfl) ea_nil) (by show 1 ≤ 100000; decide))) (fun c => by cases c)))) fun p H9 np e9 hp => k p H9 (fresh_back ee np) (ee.trans e9) hp
    by_cases c27 : i = 27
    · subst c27
      have hx : XcAt H v (Cs 27, some [("word", one)]) := hx
      refine q_when (b := false) (et_lt rfl (decide_eq_false (by omega))) (fun c => by cases c) fun _ H1 e1 => ?_
      refine q_when (b := false) (et_lt rfl (decide_eq_false (by omega))) (fun c => by cases c) fun _ H2 e2 => ?_
      refine q_when (b := true) (et_lt rfl (decide_eq_true (by omega))) (fun _ H3 e3 => ?_) (fun c => by cases c)
      have ee := ((e1).trans e2).trans e3
      refine s_retU (eu_if (b := false) (et_eqI rfl (by simp)) (fun c => by cases c) (fun _ => (eu_if (b := false) (et_eqI rfl (by simp)) (fun c => by cases c) (fun _ => (eu_tup (ea_cons (ev_xa (ev_var rfl) (hx.ext ee) (S.xf 27 (by decide)) (S.no 27 (by decide) "word" (by decide +kernel)) rfl) ea_nil) (by show 1 ≤ 100000; decide)))))) fun p H9 np e9 hp => k p H9 (fresh_back ee np) (ee.trans e9) hp
    by_cases c28 : i = 28
    · subst c28
      have hx : XcAt H v (Cs 28, some [("other", two), ("one", one)]) := hx
      refine q_when (b := false) (et_lt rfl (decide_eq_false (by omega))) (fun c => by cases c) fun _ H1 e1 => ?_
      refine q_when (b := false) (et_lt rfl (decide_eq_false (by omega))) (fun c => by cases c) fun _ H2 e2 => ?_
      refine q_when (b := false) (et_lt rfl (decide_eq_false (by omega))) (fun c => by cases c) fun _ H3 e3 => ?_
      refine q_when (b := true) (et_lt rfl (decide_eq_true (by omega))) (fun _ H4 e4 => ?_) (fun c => by cases c)
      have ee := (((e1).trans e2).trans e3).trans e4
      refine s_retU (eu_if (b := true) (et_eqI rfl (by simp)) (fun _ => (eu_tup (ea_cons (ev_xa (ev_var rfl) (hx.ext ee) (S.xf 28 (by decide)) (S.no 28 (by decide) "one" (by decide +kernel)) rfl) (ea_cons (ev_xa (ev_var rfl) (hx.ext ee) (S.xf 28 (by decide)) (S.no 28 (by decide) "other" (by decide +kernel)) rfl) ea_nil)) (by show 2 ≤ 100000; decide))) (fun c => by cases c)) fun p H9 np e9 hp => k p H9 (fresh_back ee np) (ee.trans e9) hp
    by_cases c29 : i = 29
    · subst c29
      have hx : XcAt H v (Cs 29, some [("corner", two), ("state", one)]) := hx
      refine q_when (b := false) (et_lt rfl (decide_eq_false (by omega))) (fun c => by cases c) fun _ H1 e1 => ?_
      refine q_when (b := false) (et_lt rfl (decide_eq_false (by omega))) (fun c => by cases c) fun _ H2 e2 => ?_
      refine q_when (b := false) (et_lt rfl (decide_eq_false (by omega))) (fun c => by cases c) fun _ H3 e3 => ?_
      refine q_when (b := true) (et_lt rfl (decide_eq_true (by omega))) (fun _ H4 e4 => ?_) (fun c => by cases c)
      have ee := (((e1).trans e2).trans e3).trans e4
      refine s_retU (eu_if (b := false) (et_eqI rfl (by simp)) (fun c => by cases c) (fun _ => (eu_tup (ea_cons (ev_xa (ev_var rfl) (hx.ext ee) (S.xf 29 (by decide)) (S.no 29 (by decide) "state" (by decide +kernel)) rfl) (ea_cons (ev_xa (ev_var rfl) (hx.ext ee) (S.xf 29 (by decide)) (S.no 29 (by decide) "corner" (by decide +kernel)) rfl) ea_nil)) (by show 2 ≤ 100000; decide)))) fun p H9 np e9 hp => k p H9 (fresh_back ee np) (ee.trans e9) hp
    by_cases c30 : i = 30
    · subst c30
      have hx : XcAt H v (Cs 30, some [("row", two), ("name", one)]) := hx
      refine q_when (b := false) (et_lt rfl (decide_eq_false (by omega))) (fun c => by cases c) fun _ H1 e1 => ?_
      refine q_when (b := false) (et_lt rfl (decide_eq_false (by omega))) (fun c => by cases c) fun _ H2 e2 => ?_
      refine q_when (b := false) (et_lt rfl (decide_eq_false (by omega))) (fun c => by cases c) fun _ H3 e3 => ?_
      refine q_when (b := false) (et_lt rfl (decide_eq_false (by omega))) (fun c => by cases c) fun _ H4 e4 => ?_
      refine q_when (b := true) (et_lt rfl (decide_eq_true (by omega))) (fun _ H5 e5 => ?_) (fun c => by cases c)
      have ee := ((((e1).trans e2).trans e3).trans e4).trans e5
      refine s_retU (eu_if (b := true) (et_eqI rfl (by simp)) (fun _ => (eu_tup (ea_cons (ev_xa (ev_var rfl) (hx.ext ee) (S.xf 30 (by decide)) (S.no 30 (by decide) "name" (by decide +kernel)) rfl) (ea_cons (ev_xa (ev_var rfl) (hx.ext ee) (S.xf 30 (by decide)) (S.no 30 (by decide) "row" (by decide +kernel)) rfl) ea_nil)) (by show 2 ≤ 100000; decide))) (fun c => by cases c)) fun p H9 np e9 hp => k p H9 (fresh_back ee np) (ee.trans e9) hp
    by_cases c31 : i = 31
    · subst c31
      have hx : XcAt H v (Cs 31, some [("label", two), ("name", one)]) := hx
      refine q_when (b := false) (et_lt rfl (decide_eq_false (by omega))) (fun c => by cases c) fun _ H1 e1 => ?_
      refine q_when (b := false) (et_lt rfl (decide_eq_false (by omega))) (fun c => by cases c) fun _ H2 e2 => ?_
      refine q_when (b := false) (et_lt rfl (decide_eq_false (by omega))) (fun c => by cases c) fun _ H3 e3 => ?_
      refine q_when (b := false) (et_lt rfl (decide_eq_false (by omega))) (fun c => by cases c) fun _ H4 e4 => ?_
      refine q_when (b := true) (et_lt rfl (decide_eq_true (by omega))) (fun _ H5 e5 => ?_) (fun c => by cases c)
      have ee := ((((e1).trans e2).trans e3).trans e4).trans e5
      refine s_retU (eu_if (b := false) (et_eqI rfl (by simp)) (fun c => by cases c) (fun _ => (eu_tup (ea_cons (ev_xa (ev_var rfl) (hx.ext ee) (S.xf 31 (by decide)) (S.no 31 (by decide) "name" (by decide +kernel)) rfl) (ea_cons (ev_xa (ev_var rfl) (hx.ext ee) (S.xf 31 (by decide)) (S.no 31 (by decide) "label" (by decide +kernel)) rfl) ea_nil)) (by show 2 ≤ 100000; decide)))) fun p H9 np e9 hp => k p H9 (fresh_back ee np) (ee.trans e9) hp
    by_cases c32 : i = 32
    · subst c32
      have hx : XcAt H v (Cs 32, some [("most", two), ("what", one)]) := hx
      refine q_when (b := false) (et_lt rfl (decide_eq_false (by omega))) (fun c => by cases c) fun _ H1 e1 => ?_
      refine q_when (b := false) (et_lt rfl (decide_eq_false (by omega))) (fun c => by cases c) fun _ H2 e2 => ?_
      refine q_when (b := false) (et_lt rfl (decide_eq_false (by omega))) (fun c => by cases c) fun _ H3 e3 => ?_
      refine q_when (b := false) (et_lt rfl (decide_eq_false (by omega))) (fun c => by cases c) fun _ H4 e4 => ?_
      refine q_when (b := false) (et_lt rfl (decide_eq_false (by omega))) (fun c => by cases c) fun _ H5 e5 => ?_
      refine q_when (b := true) (et_lt rfl (decide_eq_true (by omega))) (fun _ H6 e6 => ?_) (fun c => by cases c)
      have ee := (((((e1).trans e2).trans e3).trans e4).trans e5).trans e6
      refine s_retU (eu_if (b := true) (et_eqI rfl (by simp)) (fun _ => (eu_tup (ea_cons (ev_xa (ev_var rfl) (hx.ext ee) (S.xf 32 (by decide)) (S.no 32 (by decide) "what" (by decide +kernel)) rfl) (ea_cons (ev_xa (ev_var rfl) (hx.ext ee) (S.xf 32 (by decide)) (S.no 32 (by decide) "most" (by decide +kernel)) rfl) ea_nil)) (by show 2 ≤ 100000; decide))) (fun c => by cases c)) fun p H9 np e9 hp => k p H9 (fresh_back ee np) (ee.trans e9) hp
    by_cases c33 : i = 33
    · subst c33
      have hx : XcAt H v (Cs 33, some [("word", two), ("line", one)]) := hx
      refine q_when (b := false) (et_lt rfl (decide_eq_false (by omega))) (fun c => by cases c) fun _ H1 e1 => ?_
      refine q_when (b := false) (et_lt rfl (decide_eq_false (by omega))) (fun c => by cases c) fun _ H2 e2 => ?_
      refine q_when (b := false) (et_lt rfl (decide_eq_false (by omega))) (fun c => by cases c) fun _ H3 e3 => ?_
      refine q_when (b := false) (et_lt rfl (decide_eq_false (by omega))) (fun c => by cases c) fun _ H4 e4 => ?_
      refine q_when (b := false) (et_lt rfl (decide_eq_false (by omega))) (fun c => by cases c) fun _ H5 e5 => ?_
      refine q_when (b := true) (et_lt rfl (decide_eq_true (by omega))) (fun _ H6 e6 => ?_) (fun c => by cases c)
      have ee := (((((e1).trans e2).trans e3).trans e4).trans e5).trans e6
      refine s_retU (eu_if (b := false) (et_eqI rfl (by simp)) (fun c => by cases c) (fun _ => (eu_tup (ea_cons (ev_xa (ev_var rfl) (hx.ext ee) (S.xf 33 (by decide)) (S.no 33 (by decide) "line" (by decide +kernel)) rfl) (ea_cons (ev_xa (ev_var rfl) (hx.ext ee) (S.xf 33 (by decide)) (S.no 33 (by decide) "word" (by decide +kernel)) rfl) ea_nil)) (by show 2 ≤ 100000; decide)))) fun p H9 np e9 hp => k p H9 (fresh_back ee np) (ee.trans e9) hp
    by_cases c34 : i = 34
    · subst c34
      have hx : XcAt H v (Cs 34, some [("error", two), ("line", one)]) := hx
      refine q_when (b := false) (et_lt rfl (decide_eq_false (by omega))) (fun c => by cases c) fun _ H1 e1 => ?_
      refine q_when (b := false) (et_lt rfl (decide_eq_false (by omega))) (fun c => by cases c) fun _ H2 e2 => ?_
      refine q_when (b := false) (et_lt rfl (decide_eq_false (by omega))) (fun c => by cases c) fun _ H3 e3 => ?_
      refine q_when (b := false) (et_lt rfl (decide_eq_false (by omega))) (fun c => by cases c) fun _ H4 e4 => ?_
      refine q_when (b := false) (et_lt rfl (decide_eq_false (by omega))) (fun c => by cases c) fun _ H5 e5 => ?_
      refine q_when (b := false) (et_lt rfl (decide_eq_false (by omega))) (fun c => by cases c) fun _ H6 e6 => ?_
      have ee := (((((e1).trans e2).trans e3).trans e4).trans e5).trans e6
      refine s_retU (eu_if (b := true) (et_eqI rfl (by simp)) (fun _ => (eu_tup (ea_cons (ev_xa (ev_var rfl) (hx.ext ee) (S.xf 34 (by decide)) (S.no 34 (by decide) "line" (by decide +kernel)) rfl) (ea_cons (ev_xa (ev_var rfl) (hx.ext ee) (S.xf 34 (by decide)) (S.no 34 (by decide) "error" (by decide +kernel)) rfl) ea_nil)) (by show 2 ≤ 100000; decide))) (fun c => by cases c)) fun p H9 np e9 hp => k p H9 (fresh_back ee np) (ee.trans e9) hp
    by_cases c35 : i = 35
    · subst c35
      have hx : XcAt H v (Cs 35, none) := hx
      refine q_when (b := false) (et_lt rfl (decide_eq_false (by omega))) (fun c => by cases c) fun _ H1 e1 => ?_
      refine q_when (b := false) (et_lt rfl (decide_eq_false (by omega))) (fun c => by cases c) fun _ H2 e2 => ?_
      refine q_when (b := false) (et_lt rfl (decide_eq_false (by omega))) (fun c => by cases c) fun _ H3 e3 => ?_
      refine q_when (b := false) (et_lt rfl (decide_eq_false (by omega))) (fun c => by cases c) fun _ H4 e4 => ?_
      refine q_when (b := false) (et_lt rfl (decide_eq_false (by omega))) (fun c => by cases c) fun _ H5 e5 => ?_
      refine q_when (b := false) (et_lt rfl (decide_eq_false (by omega))) (fun c => by cases c) fun _ H6 e6 => ?_
      have ee := (((((e1).trans e2).trans e3).trans e4).trans e5).trans e6
      refine s_retU (eu_if (b := false) (et_eqI rfl (by simp)) (fun c => by cases c) (fun _ => (eu_tup ea_nil (by show 0 ≤ 100000; decide)))) fun p H9 np e9 hp => k p H9 (fresh_back ee np) (ee.trans e9) hp
    omega
theorem sc_kin : FnScope ["_law_error", "_law_found"] ["_law_error"] (defScope sKin) := ⟨rfl, rfl, rfl, by decide +kernel, rfl, by decide +kernel, by decide +kernel⟩
theorem ok_kin {f : Addr} {fd : FuncData} (F0 : Fun K "_law_kin" "_law_kin" sKin f fd) (B : Bi mg) (S : XS P w K mg base Cs M PE) : FnOk P w K mg base CX0 1 f fd ["_law_error"] (spKin K Cs) := by
  refine F0.ok sc_kin (fun vs H Q E h => ?_) (fun cdv A outer s H vs Q E hr h => ?_)
  · obtain ⟨v, p, f, rfl, _⟩ := h
    rfl
  · obtain ⟨v, p, kf, rfl, hx, T, kit, k⟩ := h
    have nd := sc_kin.nd
    have is : ∀ {σ : L2.St} {H1 : Hp} (j : Nat) (hj : j < 36), Ex H H1 → σ[0]? = some (some v) → Ev (tCB (rIsQ K) (tCons (tVar 0) (tCons (tC (.ref (Cs j))) tNil))) σ H1 (.bl (kf j)) := fun j hj e s => ev_isQ (ea_cons (ev_var s) (ea_cons ev_c ea_nil)) (hx.ext e) (ClsV.own _) T (kit j hj)
    refine ⟨_, (pss_cons (ps_set (i := 1) nd rfl (Or.inl rfl) (pe_lst (pa_cons (pe_callB call_isQ (by rfl) B.n_isinstance (by decide +kernel) (pa_cons (pv 0) (pa_cons (pe_gv (v := .ref (Cs 0)) ⟨_, S.gl 0 (by decide), rfl⟩) pa_nil))) (pa_cons (pe_callB call_isQ (by rfl) B.n_isinstance (by decide +kernel) (pa_cons (pv 0) (pa_cons (pe_gv (v := .ref (Cs 1)) ⟨_, S.gl 1 (by decide), rfl⟩) pa_nil))) (pa_cons (pe_callB call_isQ (by rfl) B.n_isinstance (by decide +kernel) (pa_cons (pv 0) (pa_cons (pe_gv (v := .ref (Cs 2)) ⟨_, S.gl 2 (by decide), rfl⟩) pa_nil))) pa_nil)))))
(pss_cons (ps_set (i := 1) nd rfl (Or.inl rfl) (pe_op op_cat (pv 1) (pe_lst (pa_cons (pe_callB call_isQ (by rfl) B.n_isinstance (by decide +kernel) (pa_cons (pv 0) (pa_cons (pe_gv (v := .ref (Cs 3)) ⟨_, S.gl 3 (by decide), rfl⟩) pa_nil))) (pa_cons (pe_callB call_isQ (by rfl) B.n_isinstance (by decide +kernel) (pa_cons (pv 0) (pa_cons (pe_gv (v := .ref (Cs 4)) ⟨_, S.gl 4 (by decide), rfl⟩) pa_nil))) (pa_cons (pe_callB call_isQ (by rfl) B.n_isinstance (by decide +kernel) (pa_cons (pv 0) (pa_cons (pe_gv (v := .ref (Cs 5)) ⟨_, S.gl 5 (by decide), rfl⟩) pa_nil))) pa_nil))))))
(pss_cons (ps_set (i := 1) nd rfl (Or.inl rfl) (pe_op op_cat (pv 1) (pe_lst (pa_cons (pe_callB call_isQ (by rfl) B.n_isinstance (by decide +kernel) (pa_cons (pv 0) (pa_cons (pe_gv (v := .ref (Cs 6)) ⟨_, S.gl 6 (by decide), rfl⟩) pa_nil))) (pa_cons (pe_callB call_isQ (by rfl) B.n_isinstance (by decide +kernel) (pa_cons (pv 0) (pa_cons (pe_gv (v := .ref (Cs 7)) ⟨_, S.gl 7 (by decide), rfl⟩) pa_nil))) (pa_cons (pe_callB call_isQ (by rfl) B.n_isinstance (by decide +kernel) (pa_cons (pv 0) (pa_cons (pe_gv (v := .ref (Cs 8)) ⟨_, S.gl 8 (by decide), rfl⟩) pa_nil))) pa_nil))))))
(pss_cons (ps_set (i := 1) nd rfl (Or.inl rfl) (pe_op op_cat (pv 1) (pe_lst (pa_cons (pe_callB call_isQ (by rfl) B.n_isinstance (by decide +kernel) (pa_cons (pv 0) (pa_cons (pe_gv (v := .ref (Cs 9)) ⟨_, S.gl 9 (by decide), rfl⟩) pa_nil))) (pa_cons (pe_callB call_isQ (by rfl) B.n_isinstance (by decide +kernel) (pa_cons (pv 0) (pa_cons (pe_gv (v := .ref (Cs 10)) ⟨_, S.gl 10 (by decide), rfl⟩) pa_nil))) (pa_cons (pe_callB call_isQ (by rfl) B.n_isinstance (by decide +kernel) (pa_cons (pv 0) (pa_cons (pe_gv (v := .ref (Cs 11)) ⟨_, S.gl 11 (by decide), rfl⟩) pa_nil))) pa_nil))))))
(pss_cons (ps_set (i := 1) nd rfl (Or.inl rfl) (pe_op op_cat (pv 1) (pe_lst (pa_cons (pe_callB call_isQ (by rfl) B.n_isinstance (by decide +kernel) (pa_cons (pv 0) (pa_cons (pe_gv (v := .ref (Cs 12)) ⟨_, S.gl 12 (by decide), rfl⟩) pa_nil))) (pa_cons (pe_callB call_isQ (by rfl) B.n_isinstance (by decide +kernel) (pa_cons (pv 0) (pa_cons (pe_gv (v := .ref (Cs 13)) ⟨_, S.gl 13 (by decide), rfl⟩) pa_nil))) (pa_cons (pe_callB call_isQ (by rfl) B.n_isinstance (by decide +kernel) (pa_cons (pv 0) (pa_cons (pe_gv (v := .ref (Cs 14)) ⟨_, S.gl 14 (by decide), rfl⟩) pa_nil))) pa_nil))))))
(pss_cons (ps_set (i := 1) nd rfl (Or.inl rfl) (pe_op op_cat (pv 1) (pe_lst (pa_cons (pe_callB call_isQ (by rfl) B.n_isinstance (by decide +kernel) (pa_cons (pv 0) (pa_cons (pe_gv (v := .ref (Cs 15)) ⟨_, S.gl 15 (by decide), rfl⟩) pa_nil))) (pa_cons (pe_callB call_isQ (by rfl) B.n_isinstance (by decide +kernel) (pa_cons (pv 0) (pa_cons (pe_gv (v := .ref (Cs 16)) ⟨_, S.gl 16 (by decide), rfl⟩) pa_nil))) (pa_cons (pe_callB call_isQ (by rfl) B.n_isinstance (by decide +kernel) (pa_cons (pv 0) (pa_cons (pe_gv (v := .ref (Cs 17)) ⟨_, S.gl 17 (by decide), rfl⟩) pa_nil))) pa_nil))))))
(pss_cons (ps_set (i := 1) nd rfl (Or.inl rfl) (pe_op op_cat (pv 1) (pe_lst (pa_cons (pe_callB call_isQ (by rfl) B.n_isinstance (by decide +kernel) (pa_cons (pv 0) (pa_cons (pe_gv (v := .ref (Cs 18)) ⟨_, S.gl 18 (by decide), rfl⟩) pa_nil))) (pa_cons (pe_callB call_isQ (by rfl) B.n_isinstance (by decide +kernel) (pa_cons (pv 0) (pa_cons (pe_gv (v := .ref (Cs 19)) ⟨_, S.gl 19 (by decide), rfl⟩) pa_nil))) (pa_cons (pe_callB call_isQ (by rfl) B.n_isinstance (by decide +kernel) (pa_cons (pv 0) (pa_cons (pe_gv (v := .ref (Cs 20)) ⟨_, S.gl 20 (by decide), rfl⟩) pa_nil))) pa_nil))))))
(pss_cons (ps_set (i := 1) nd rfl (Or.inl rfl) (pe_op op_cat (pv 1) (pe_lst (pa_cons (pe_callB call_isQ (by rfl) B.n_isinstance (by decide +kernel) (pa_cons (pv 0) (pa_cons (pe_gv (v := .ref (Cs 21)) ⟨_, S.gl 21 (by decide), rfl⟩) pa_nil))) (pa_cons (pe_callB call_isQ (by rfl) B.n_isinstance (by decide +kernel) (pa_cons (pv 0) (pa_cons (pe_gv (v := .ref (Cs 22)) ⟨_, S.gl 22 (by decide), rfl⟩) pa_nil))) (pa_cons (pe_callB call_isQ (by rfl) B.n_isinstance (by decide +kernel) (pa_cons (pv 0) (pa_cons (pe_gv (v := .ref (Cs 23)) ⟨_, S.gl 23 (by decide), rfl⟩) pa_nil))) pa_nil))))))
(pss_cons (ps_set (i := 1) nd rfl (Or.inl rfl) (pe_op op_cat (pv 1) (pe_lst (pa_cons (pe_callB call_isQ (by rfl) B.n_isinstance (by decide +kernel) (pa_cons (pv 0) (pa_cons (pe_gv (v := .ref (Cs 24)) ⟨_, S.gl 24 (by decide), rfl⟩) pa_nil))) (pa_cons (pe_callB call_isQ (by rfl) B.n_isinstance (by decide +kernel) (pa_cons (pv 0) (pa_cons (pe_gv (v := .ref (Cs 25)) ⟨_, S.gl 25 (by decide), rfl⟩) pa_nil))) (pa_cons (pe_callB call_isQ (by rfl) B.n_isinstance (by decide +kernel) (pa_cons (pv 0) (pa_cons (pe_gv (v := .ref (Cs 26)) ⟨_, S.gl 26 (by decide), rfl⟩) pa_nil))) pa_nil))))))
(pss_cons (ps_set (i := 1) nd rfl (Or.inl rfl) (pe_op op_cat (pv 1) (pe_lst (pa_cons (pe_callB call_isQ (by rfl) B.n_isinstance (by decide +kernel) (pa_cons (pv 0) (pa_cons (pe_gv (v := .ref (Cs 27)) ⟨_, S.gl 27 (by decide), rfl⟩) pa_nil))) (pa_cons (pe_callB call_isQ (by rfl) B.n_isinstance (by decide +kernel) (pa_cons (pv 0) (pa_cons (pe_gv (v := .ref (Cs 28)) ⟨_, S.gl 28 (by decide), rfl⟩) pa_nil))) (pa_cons (pe_callB call_isQ (by rfl) B.n_isinstance (by decide +kernel) (pa_cons (pv 0) (pa_cons (pe_gv (v := .ref (Cs 29)) ⟨_, S.gl 29 (by decide), rfl⟩) pa_nil))) pa_nil))))))
(pss_cons (ps_set (i := 1) nd rfl (Or.inl rfl) (pe_op op_cat (pv 1) (pe_lst (pa_cons (pe_callB call_isQ (by rfl) B.n_isinstance (by decide +kernel) (pa_cons (pv 0) (pa_cons (pe_gv (v := .ref (Cs 30)) ⟨_, S.gl 30 (by decide), rfl⟩) pa_nil))) (pa_cons (pe_callB call_isQ (by rfl) B.n_isinstance (by decide +kernel) (pa_cons (pv 0) (pa_cons (pe_gv (v := .ref (Cs 31)) ⟨_, S.gl 31 (by decide), rfl⟩) pa_nil))) (pa_cons (pe_callB call_isQ (by rfl) B.n_isinstance (by decide +kernel) (pa_cons (pv 0) (pa_cons (pe_gv (v := .ref (Cs 32)) ⟨_, S.gl 32 (by decide), rfl⟩) pa_nil))) pa_nil))))))
(pss_one (ps_ret (pe_op op_cat (pv 1) (pe_lst (pa_cons (pe_callB call_isQ (by rfl) B.n_isinstance (by decide +kernel) (pa_cons (pv 0) (pa_cons (pe_gv (v := .ref (Cs 33)) ⟨_, S.gl 33 (by decide), rfl⟩) pa_nil))) (pa_cons (pe_callB call_isQ (by rfl) B.n_isinstance (by decide +kernel) (pa_cons (pv 0) (pa_cons (pe_gv (v := .ref (Cs 34)) ⟨_, S.gl 34 (by decide), rfl⟩) pa_nil))) (pa_cons (pe_callB call_isQ (by rfl) B.n_isinstance (by decide +kernel) (pa_cons (pv 0) (pa_cons (pe_gv (v := .ref (Cs 35)) ⟨_, S.gl 35 (by decide), rfl⟩) pa_nil))) pa_nil)))))))))))))))))), ?_⟩
    refine q_asgL (el_lst (ea_cons (is 0 (by decide) (Ex.refl H) rfl) (ea_cons (is 1 (by decide) (Ex.refl H) rfl) (ea_cons (is 2 (by decide) (Ex.refl H) rfl) ea_nil))) (by show 3 ≤ 100000; decide)) fun p1 H1 np1 e1 h1 => ?_
    refine q_asgL (el_catVL (ev_var rfl) h1 (el_lst (ea_cons (is 3 (by decide) ((Ex.refl H).trans e1) rfl) (ea_cons (is 4 (by decide) ((Ex.refl H).trans e1) rfl) (ea_cons (is 5 (by decide) ((Ex.refl H).trans e1) rfl) ea_nil))) (by show 3 ≤ 100000; decide)) (by show 3 + 3 ≤ 1000000; decide)) fun p2 H2 np2 e2 h2 => ?_
    refine q_asgL (el_catVL (ev_var rfl) h2 (el_lst (ea_cons (is 6 (by decide) (((Ex.refl H).trans e1).trans e2) rfl) (ea_cons (is 7 (by decide) (((Ex.refl H).trans e1).trans e2) rfl) (ea_cons (is 8 (by decide) (((Ex.refl H).trans e1).trans e2) rfl) ea_nil))) (by show 3 ≤ 100000; decide)) (by show 6 + 3 ≤ 1000000; decide)) fun p3 H3 np3 e3 h3 => ?_
    refine q_asgL (el_catVL (ev_var rfl) h3 (el_lst (ea_cons (is 9 (by decide) ((((Ex.refl H).trans e1).trans e2).trans e3) rfl) (ea_cons (is 10 (by decide) ((((Ex.refl H).trans e1).trans e2).trans e3) rfl) (ea_cons (is 11 (by decide) ((((Ex.refl H).trans e1).trans e2).trans e3) rfl) ea_nil))) (by show 3 ≤ 100000; decide)) (by show 9 + 3 ≤ 1000000; decide)) fun p4 H4 np4 e4 h4 => ?_
    refine q_asgL (el_catVL (ev_var rfl) h4 (el_lst (ea_cons (is 12 (by decide) (((((Ex.refl H).trans e1).trans e2).trans e3).trans e4) rfl) (ea_cons (is 13 (by decide) (((((Ex.refl H).trans e1).trans e2).trans e3).trans e4) rfl) (ea_cons (is 14 (by decide) (((((Ex.refl H).trans e1).trans e2).trans e3).trans e4) rfl) ea_nil))) (by show 3 ≤ 100000; decide)) (by show 12 + 3 ≤ 1000000; decide)) fun p5 H5 np5 e5 h5 => ?_
    refine q_asgL (el_catVL (ev_var rfl) h5 (el_lst (ea_cons (is 15 (by decide) ((((((Ex.refl H).trans e1).trans e2).trans e3).trans e4).trans e5) rfl) (ea_cons (is 16 (by decide) ((((((Ex.refl H).trans e1).trans e2).trans e3).trans e4).trans e5) rfl) (ea_cons (is 17 (by decide) ((((((Ex.refl H).trans e1).trans e2).trans e3).trans e4).trans e5) rfl) ea_nil))) (by show 3 ≤ 100000; decide)) (by show 15 + 3 ≤ 1000000; decide)) fun p6 H6 np6 e6 h6 => ?_
    refine q_asgL (el_catVL (ev_var rfl) h6 (el_lst (ea_cons (is 18 (by decide) (((((((Ex.refl H).trans e1).trans e2).trans e3).trans e4).trans e5).trans e6) rfl) (ea_cons (is 19 (by decide) (((((((Ex.refl H).trans e1).trans e2).trans e3).trans e4).trans e5).trans e6) rfl) (ea_cons (is 20 (by decide) (((((((Ex.refl H).trans e1).trans e2).trans e3).trans e4).trans e5).trans e6) rfl) ea_nil))) (by show 3 ≤ 100000; decide)) (by show 18 + 3 ≤ 1000000; decide)) fun p7 H7 np7 e7 h7 => ?_
    refine q_asgL (el_catVL (ev_var rfl) h7 (el_lst (ea_cons (is 21 (by decide) ((((((((Ex.refl H).trans e1).trans e2).trans e3).trans e4).trans e5).trans e6).trans e7) rfl) (ea_cons (is 22 (by decide) ((((((((Ex.refl H).trans e1).trans e2).trans e3).trans e4).trans e5).trans e6).trans e7) rfl) (ea_cons (is 23 (by decide) ((((((((Ex.refl H).trans e1).trans e2).trans e3).trans e4).trans e5).trans e6).trans e7) rfl) ea_nil))) (by show 3 ≤ 100000; decide)) (by show 21 + 3 ≤ 1000000; decide)) fun p8 H8 np8 e8 h8 => ?_
    refine q_asgL (el_catVL (ev_var rfl) h8 (el_lst (ea_cons (is 24 (by decide) (((((((((Ex.refl H).trans e1).trans e2).trans e3).trans e4).trans e5).trans e6).trans e7).trans e8) rfl) (ea_cons (is 25 (by decide) (((((((((Ex.refl H).trans e1).trans e2).trans e3).trans e4).trans e5).trans e6).trans e7).trans e8) rfl) (ea_cons (is 26 (by decide) (((((((((Ex.refl H).trans e1).trans e2).trans e3).trans e4).trans e5).trans e6).trans e7).trans e8) rfl) ea_nil))) (by show 3 ≤ 100000; decide)) (by show 24 + 3 ≤ 1000000; decide)) fun p9 H9 np9 e9 h9 => ?_
    refine q_asgL (el_catVL (ev_var rfl) h9 (el_lst (ea_cons (is 27 (by decide) ((((((((((Ex.refl H).trans e1).trans e2).trans e3).trans e4).trans e5).trans e6).trans e7).trans e8).trans e9) rfl) (ea_cons (is 28 (by decide) ((((((((((Ex.refl H).trans e1).trans e2).trans e3).trans e4).trans e5).trans e6).trans e7).trans e8).trans e9) rfl) (ea_cons (is 29 (by decide) ((((((((((Ex.refl H).trans e1).trans e2).trans e3).trans e4).trans e5).trans e6).trans e7).trans e8).trans e9) rfl) ea_nil))) (by show 3 ≤ 100000; decide)) (by show 27 + 3 ≤ 1000000; decide)) fun p10 H10 np10 e10 h10 => ?_
    refine q_asgL (el_catVL (ev_var rfl) h10 (el_lst (ea_cons (is 30 (by decide) (((((((((((Ex.refl H).trans e1).trans e2).trans e3).trans e4).trans e5).trans e6).trans e7).trans e8).trans e9).trans e10) rfl) (ea_cons (is 31 (by decide) (((((((((((Ex.refl H).trans e1).trans e2).trans e3).trans e4).trans e5).trans e6).trans e7).trans e8).trans e9).trans e10) rfl) (ea_cons (is 32 (by decide) (((((((((((Ex.refl H).trans e1).trans e2).trans e3).trans e4).trans e5).trans e6).trans e7).trans e8).trans e9).trans e10) rfl) ea_nil))) (by show 3 ≤ 100000; decide)) (by show 30 + 3 ≤ 1000000; decide)) fun p11 H11 np11 e11 h11 => ?_
    exact s_retL (el_catVL (ev_var rfl) h11 (el_lst (ea_cons (is 33 (by decide) ((((((((((((Ex.refl H).trans e1).trans e2).trans e3).trans e4).trans e5).trans e6).trans e7).trans e8).trans e9).trans e10).trans e11) rfl) (ea_cons (is 34 (by decide) ((((((((((((Ex.refl H).trans e1).trans e2).trans e3).trans e4).trans e5).trans e6).trans e7).trans e8).trans e9).trans e10).trans e11) rfl) (ea_cons (is 35 (by decide) ((((((((((((Ex.refl H).trans e1).trans e2).trans e3).trans e4).trans e5).trans e6).trans e7).trans e8).trans e9).trans e10).trans e11) rfl) ea_nil))) (by show 3 ≤ 100000; decide)) (by show 33 + 3 ≤ 1000000; decide)) fun pz Hz nz ez hz => k pz Hz (fresh_back ((((((((((((Ex.refl H).trans e1).trans e2).trans e3).trans e4).trans e5).trans e6).trans e7).trans e8).trans e9).trans e10).trans e11) nz) (((((((((((((Ex.refl H).trans e1).trans e2).trans e3).trans e4).trans e5).trans e6).trans e7).trans e8).trans e9).trans e10).trans e11).trans ez) hz
end
end K00
end

section -- PkAA
set_option linter.all false
set_option maxRecDepth 100000
set_option maxHeartbeats 4000000
/-! PkAA: repr of tuples whose items are data, dicts among them, or instances with their own __repr__. -/
namespace PySem.W
open PySem PySem.Spec PySem.Calls PyProof.Rows
section
variable {prog : Program} {w : World} {A : Around} {E : Value → Shared → Prop} {s : Shared} {K : Frag} {x C f : Addr} {ox : Obj} {od : Option Obj}
/-- the repr of an item that has its own __repr__ -/
theorem pk_reprUnder {b : Nat} {Q : Str → Shared → Prop} (hb : b ≤ sizeLine) (hu : A.units < cLine) (X : K.In s.heap) (I : InstAt s.heap x ox C od) (hs : findIn K (.ref C) "__repr__" = some (some (.ref f))) (hf : isFn K (.ref f) = true)
    (h : wpAny (model prog w) A (call (.ref f) [.ref x]) (fun v s' => ∃ t u, v = .str t u ∧ Q t s') E s) : wpAny (model prog w) A (pyReprUnder b (.ref x)) Q E s := by
  refine wpAny_pyReprUnder_ref hb ?_
  unfold pyReprObjUnder pyReprObjBy
  refine wpAny_bind (wpAny_cRoomFor hu ?_)
  refine wpAny_bind (wpAny_bind (I.type.here ((looks_findIn X hs).here ?_)))
  show wpAny _ _ (if (some (Value.ref f)).isNone = true then _ else _) _ _ _
  rw [if_neg (by simp)]
  refine wpAny_bind (m := callSpecialIfBoundBy? _ (.ref x) (Str.ofString "__repr__")) ?_
  simp only [callSpecialIfBoundBy?, bindSpecialIfBound?]
  refine wpAny_holding (wpAny_bind (wpAny_bind (wpAny_bind (I.type.here ((looks_findIn X hs).here ?_)))))
  refine wpAny_bind (wpAny_askSetting (wpAny_ite ?_))
  have fin : ∀ {R : Option Value → Shared → Prop}, (∀ v s', (∃ t u, v = Value.str t u ∧ Q t s') → R (some v) s') → wpAny (model prog w) A (call (.ref f) [.ref x] >>= fun v => pure (some v)) R E s := fun {R} hR => wpAny_bind (wpAny_mono h (fun v s' h' => wpAny_pure (hR v s' h')) fun _ _ h' => h')
  split
  · refine wpAny_bind ((bind_fn X _ (beq_iff_eq.mp hf)).here (wpAny_pure ?_))
    refine fin fun v s' hv => ?_
    obtain ⟨t, u, rfl, q⟩ := hv
    exact wpAny_bind (wpAny_isInstance (typeIs_str _ _ _) isSubtype_str_str (wpAny_pure ⟨t, u, rfl, q⟩))
  · refine wpAny_tryCatch (wpAny_bind ((bind_fn X _ (beq_iff_eq.mp hf)).here (wpAny_pure ?_)))
    refine fin fun v s' hv => ?_
    obtain ⟨t, u, rfl, q⟩ := hv
    exact wpAny_bind (wpAny_isInstance (typeIs_str _ _ _) isSubtype_str_str (wpAny_pure ⟨t, u, rfl, q⟩))
end
end PySem.W
namespace Pk
open PySem PySem.Spec L2 Evl
open PyProof.Rows hiding St
/-- this value, in this heap, is data that repr shows as t -/
def RkK (P : Program) (w : World) (h : Heap) (u : Value) (t : Str) : Prop := ∃ d as bs, Reads h u d as ∧ ReadAtMost h d.depth bs ∧ ReprK P w bs h d.depth u t ∧ d.depth ≤ 40 ∧ t.length ≤ 2000
/-- the same of what is told -/
def RkD (P : Program) (w : World) (K : PySem.W.Frag) (H : Hp) (v : V) (t : Str) : Prop :=
  ∀ (X : Cx) (pins : List (Addr × Obj)) (σ : L2.St) (s : Shared) (u : Value) (H1 : Hp), Ex H H1 → X.prog = P → X.w = w → X.K = K → L2.Inv X pins σ H1 s → RelV v u → RkK P w s.heap u t
section
variable {P : Program} {w : World} {K : PySem.W.Frag} {H : Hp}
theorem RkD.ext {H2 : Hp} {v : V} {t : Str} (h : RkD P w K H v t) (e : Ex H H2) : RkD P w K H2 v t := fun X pins σ s u H1 e1 => h X pins σ s u H1 (e.trans e1)
mutual
theorem dp_ext {H H2 : Hp} (e : Ex H H2) : ∀ (d : PyData) (v : V), Dp K H v d → Dp K H2 v d
  | .none, _, h => by cases h; exact .non
  | .bool b, _, h => by cases h; exact .bl b
  | .int i, _, h => by cases h; exact .int i
  | .str x, _, h => by cases h; exact .str x
  | .list ds, _, h => by
    cases h with
    | lst hs ha => exact .lst (ex_l e hs) (dpA_ext e ds _ ha)
  | .tuple ds, _, h => by
    cases h with
    | tup hs ha => exact .tup (ex_t e hs) (dpA_ext e ds _ ha)
  | .dict _, _, h => by cases h
theorem dpA_ext {H H2 : Hp} (e : Ex H H2) : ∀ (ds : List PyData) (vs : List V), DpAll K H vs ds → DpAll K H2 vs ds
  | [], _, h => by cases h; exact .nil
  | d :: ds, _, h => by
    cases h with
    | cons h1 h2 => exact .cons (dp_ext e d _ h1) (dpA_ext e ds _ h2)
end
theorem rk_dp {v : V} {d : PyData} (hd : Dp K H v d) (h1 : d.showable = true) (h2 : d.hasDict = false) (h3 : d.depth ≤ 40) (h4 : d.shown.length ≤ 2000) : RkD P w K H v d.shown := fun X pins σ s u H1 e hP hw hK I r => by
  subst hP hw hK
  obtain ⟨as, rd⟩ := Dp.reads I d _ _ (dp_ext e d v hd) r
  obtain ⟨bs, hb, hk⟩ := ReprK.of_reads (prog := X.prog) (w := X.w) rd h1 (PyData.noDict_hsm h2) (sz (by omega))
  exact ⟨d, as, bs, rd, hb, hk, h3, h4⟩
theorem readAtMost_nil {h : Heap} {n : Nat} : ReadAtMost h n [] := fun _ hm => nomatch hm
/-- {k: v}, k a text -/
theorem rk_dict1 {a : Addr} {k : Str} {v : V} (ha : H a = some (.dK [(Sum.inr k, v)])) {d : PyData} (hv : Dp K H v d) (h1d : d.showable = true) (h2d : d.hasDict = false) (hk : (reprText k).length ≤ 400) (ht : d.shown.length ≤ 400) (d30 : d.depth ≤ 30) : RkD P w K H (.ref a) (dictText [reprText k ++ ": " ++ d.shown]) := fun X pins σ s u H1 e hP hw hK I r => by
  subst hP hw hK
  cases r
  obtain ⟨_, hsys, vs, kv, o, es, ep, ho, hex, hdt, _, hp, _⟩ := dk_of I.hok (e _ _ ha)
  cases kv with
  | @cons _ q _ _ h1 h2 =>
    cases h2
    obtain ⟨qk, qv⟩ := q
    obtain ⟨rfl, rv⟩ := h1
    obtain ⟨el⟩ := es
    cases hp with
    | @cons e1 _ _ _ g1 g2 g3 =>
      cases g3
      obtain ⟨tk, hkey⟩ : ∃ tk, e1.key = Value.str k tk := by
        have g1' : keyIs (Sum.inr k) e1.key = true := g1
        rcases keyIs_shape g1' with ⟨i, t, z, _⟩ | ⟨x, t, z, z2⟩
        · cases z
        · cases z
          exact ⟨t, z2⟩
      have hval : e1.val = qv := g2
      obtain ⟨as, rd⟩ := Dp.reads I d _ _ (dp_ext e d v hv) rv
      obtain ⟨bs, hb, hrk⟩ := ReprK.of_reads (prog := X.prog) (w := X.w) rd h1d (PyData.noDict_hsm h2d) (sz (by omega))
      have rdk : Reads s.heap e1.key (.str k) [] := hkey ▸ Reads.str k tk
      have rdv : Reads s.heap e1.val d as := hval ▸ rd
      have rD : Reads s.heap (.ref a) (.dict [(.str k, d)]) (a :: ([] ++ []) ++ (as ++ [])) := Reads.dict ho hex.1 hdt (.cons rdk .nil) (.cons rdv .nil)
      have dD : (PyData.dict [(.str k, d)]).depth = d.depth + 1 := by simp [PyData.depth, PyData.depthKv]
      have hna : a ∉ bs := not_mem_of_deeper rD (by rw [dD]; omega) hb
      have rk0 : ReprK X.prog X.w bs s.heap d.depth e1.key (reprText k) := by
        rw [hkey]
        exact .of_is (ReprIs.str k tk (sz (by omega))) _ _ _
      have rk1 : ReprK X.prog X.w bs s.heap d.depth e1.val d.shown := by
        rw [hval]
        exact hrk
      have l0 : ((": " : String) : Str).length = 2 := by decide +kernel
      have l1 : (("{" : String) : Str).length = 1 := by decide +kernel
      have l2 : (("}" : String) : Str).length = 1 := by decide +kernel
      have lj : (dictText [reprText k ++ ": " ++ d.shown]).length = 1 + ((reprText k).length + 2 + d.shown.length) + 1 := by
        show (("{" : Str) ++ (reprText k ++ ": " ++ d.shown) ++ "}").length = _
        rw [strLen_append, strLen_append, strLen_append, strLen_append, l0, l1, l2]
      refine ⟨_, _, a :: bs, rD, ?_, ?_, by rw [dD]; omega, by rw [lj]; omega⟩
      · exact ReadAtMost.cons rD (by rw [dD]; omega) hb
      · rw [dD]
        exact ReprK.dict ho hex.1 hdt hsys hna (.cons rk0 rk1 .nil)
/-! ### a tuple of such items and of instances -/
/-- what repr shows of an item: data, or an instance of the class at C by the def at f, which keeps r -/
def ItR (P : Program) (w : World) (K : PySem.W.Frag) (C : Addr) (r : V → Str → Hp → Prop) (H : Hp) (v : V) (t : Str) : Prop := RkD P w K H v t ∨ (t.length ≤ 2000 ∧ (∃ a dx fs, v = .ref a ∧ H a = some (.ins C dx fs)) ∧ r v t H)
inductive ItRs (P : Program) (w : World) (K : PySem.W.Frag) (C : Addr) (r : V → Str → Hp → Prop) (H : Hp) : List V → List Str → Prop
  | nil : ItRs P w K C r H [] []
  | cons {v : V} {t : Str} {vs : List V} {ts : List Str} : ItR P w K C r H v t → ItRs P w K C r H vs ts → ItRs P w K C r H (v :: vs) (t :: ts)
theorem ItRs.len {C : Addr} {r : V → Str → Hp → Prop} : ∀ {vs : List V} {ts : List Str}, ItRs P w K C r H vs ts → ts.length = vs.length
  | _, _, .nil => rfl
  | _, _, .cons _ h => congrArg Nat.succ (ItRs.len h)
end
section
variable {X : Cx} {C f : Addr} {r : V → Str → Hp → Prop} {A : Around} {sp : List V → Hp → VK → Prop} {pins : List (Addr × Obj)} {σ : L2.St} {H : Hp}
/-- an item, shown under the tuple at p -/
theorem item_run {p : Addr} {c : Code} {s : Shared} {v : V} {u : Value} {t : Str} {base : Nat} {Q : Str → Shared → Prop} (hg : A.guards = some [c]) (hc : ∃ id rest kw, c = .builtin id ⟨.ref p :: rest, kw⟩) (hu : A.units + 64 < cLine)
    (hs : PySem.W.findIn X.K (.ref C) "__repr__" = some (some (.ref f))) (hf : PySem.W.isFn X.K (.ref f) = true) (run : RunAt X A f sp) (hsp : ∀ v t H Q, r v t H → Q (.str t) H → sp [v] H Q)
    (I : L2.Inv X pins σ H s) (hi : ItR X.prog X.w X.K C r H v t) (rv : RelV v u) (hno : ∀ d as bs, Reads s.heap u d as → ReadAtMost s.heap d.depth bs → p ∉ bs) (hb : base + t.length ≤ sizeLine) (k : ∀ s', L2.Inv X pins σ H s' → Q t s') : wpAny (model X.prog X.w) A (pyReprUnder base u) Q X.xe s := by
  rcases hi with hd | ⟨_, ⟨a, dx, fs, rfl, ha⟩, hr⟩
  · obtain ⟨d, as, bs, rd, hbs, hk, hdp, hln⟩ := hd X pins σ s u H (Ex.refl H) rfl rfl rfl I rv
    have np := hno d as bs rd hbs
    obtain ⟨id, rest, kw, rfl⟩ := hc
    refine hk base hb A _ _ s _ hg (fun b hm => (Clear.nil b).cons fun e => np (e ▸ hm)) (by omega) (fun _ _ e => e) fun h' tk kp => k _ (I.kept (t' := tk) kp)
  · cases (show u = Value.ref a from rv)
    obtain ⟨mA, O, _⟩ := ins_get I.hok ha
    obtain ⟨od, J, _⟩ := O.look
    refine PySem.W.pk_reprUnder (by omega) (by omega) I.kIn J hs hf (thn (run pins s σ H [.ref a] [.ref a] _ I (.cons rfl .nil) (hsp (.ref a) t H (fun v G => v = .str t ∧ G = H) hr ⟨rfl, rfl⟩)) fun u s1 z => ?_)
    obtain ⟨v, G, J1, ru, rfl, rfl⟩ := z
    obtain ⟨tk, rfl⟩ := ru
    exact ⟨t, tk, rfl, k _ J1⟩
theorem readsAll_mem {h : Heap} : ∀ {us : List Value} {ds : List PyData} {as : List Addr}, ReadsAll h us ds as → ∀ u ∈ us, ∃ d bs, Reads h u d bs ∧ d.depth ≤ PyData.depthAll ds
  | _, _, _, .nil, u, hu => nomatch hu
  | _, _, _, .cons (d := d) (ds := ds) r1 r2, u, hu => by
    rcases List.mem_cons.mp hu with rfl | hm
    · exact ⟨_, _, r1, by simp only [PyData.depthAll]; omega⟩
    · obtain ⟨d2, bs, r, hd⟩ := readsAll_mem r2 u hm
      exact ⟨d2, bs, r, by simp only [PyData.depthAll]; omega⟩
theorem reads_depth0 {h : Heap} {u : Value} {d : PyData} {as : List Addr} (r : Reads h u d as) (hu : ∀ a, u ≠ .ref a) : d.depth = 0 := by
  cases r with
  | none => rfl
  | bool b => rfl
  | int i t => rfl
  | str x t => rfl
  | list => exact absurd rfl (hu _)
  | tuple => exact absurd rfl (hu _)
  | dict => exact absurd rfl (hu _)
theorem vals_mem : ∀ {vs : List V} {us : List Value} {a : Addr}, Vals vs us → .ref a ∈ vs → Value.ref a ∈ us
  | _, _, _, .nil, h => nomatch h
  | _, _, _, .cons h1 h2, h => by
    rcases List.mem_cons.mp h with e | hm
    · subst e
      rw [show _ = Value.ref _ from h1]
      exact List.mem_cons_self
    · exact List.mem_cons_of_mem _ (vals_mem h2 hm)
/-- a tuple lies in none of its items -/
theorem not_in_item {p : Addr} {s : Shared} {xs : List V} {v : V} {u : Value} (I : L2.Inv X pins σ H s) (hp : H p = some (.tup xs)) (hv : v ∈ xs) (rv : RelV v u) : ∀ d as bs, Reads s.heap u d as → ReadAtMost s.heap d.depth bs → p ∉ bs := by
  intro d as bs rd hb hm
  obtain ⟨d2, as2, r2, hd2⟩ := hb p hm
  obtain ⟨its, ri, ⟨o, ho, hc, n, hdt⟩, _⟩ := I.tuple (st_of hp)
  cases r2 with
  | list h1 h2 h3 h4 =>
    rw [ho] at h1
    cases h1
    have z := hc.symm.trans h2
    simp at z
  | dict h1 h2 h3 h4 h5 =>
    rw [ho] at h1
    cases h1
    have z := hc.symm.trans h2
    simp at z
  | tuple h1 h2 h3 h4 =>
    rw [ho] at h1
    cases h1
    rw [hdt] at h3
    cases h3
    simp only [PyData.depth] at hd2
    by_cases hr : ∃ a, u = .ref a
    · obtain ⟨a, rfl⟩ := hr
      have ev : v = .ref a := by
        cases v with
        | ref b => cases (show Value.ref a = Value.ref b from rv); rfl
        | non => cases (show Value.ref a = Value.none from rv)
        | bl b => cases (show Value.ref a = Value.bool b from rv)
        | int i => obtain ⟨t, z⟩ := rv; cases z
        | str x => obtain ⟨t, z⟩ := rv; cases z
        | _ => first | (obtain ⟨t, z⟩ := rv; cases z) | cases rv
      subst ev
      obtain ⟨d3, bs3, r3, hd3⟩ := readsAll_mem h4 (.ref a) (by simpa using vals_mem ri hv)
      obtain ⟨e, _⟩ := PyProof.Rows.reads_det (fun _ _ e _ => e) rd r3
      subst e
      omega
    · have z := reads_depth0 rd fun a e => hr ⟨a, e⟩
      omega
theorem fold_run {p : Addr} {c : Code} {ps : List V} (hg : A.guards = some [c]) (hc : ∃ id rest kw, c = .builtin id ⟨.ref p :: rest, kw⟩) (hu : A.units + 64 < cLine)
    (hs : PySem.W.findIn X.K (.ref C) "__repr__" = some (some (.ref f))) (hf : PySem.W.isFn X.K (.ref f) = true) (run : RunAt X A f sp) (hsp : ∀ v t H Q, r v t H → Q (.str t) H → sp [v] H Q) (hp : H p = some (.tup ps)) :
    ∀ (us : List Value) (vs : List V) (ts : List Str) (acc : Array Str) (n : Nat) (s : Shared) (Q : (Array Str × Nat) → Shared → Prop), L2.Inv X pins σ H s → ItRs X.prog X.w X.K C r H vs ts → Vals vs us → (∀ v ∈ vs, v ∈ ps) → n + piled ts ≤ sizeLine →
    (∀ s', L2.Inv X pins σ H s' → Q ⟨acc ++ ts.toArray, n + piled ts⟩ s') → wpAny (model X.prog X.w) A (forIn us (⟨acc, n⟩ : (Array Str × Nat)) tupBody) Q X.xe s := by
  intro us
  induction us with
  | nil =>
    intro vs ts acc n s Q I hT rv _ _ h
    cases rv
    cases hT
    have h0 := h s I
    simp only [List.forIn_nil]
    exact wpAny_pure (by simpa [piled] using h0)
  | cons x l ih =>
    intro vs ts acc n s Q I hT rv hv hn h
    cases rv with
    | cons r1 r2 =>
      cases hT with
      | cons hx hl =>
        rename_i v vs t ts'
        rw [piled_cons] at hn
        rw [List.forIn_cons]
        refine wpAny_bind (wpAny_bind (item_run hg hc hu hs hf run hsp I hx r1 (not_in_item I hp (hv v List.mem_cons_self) r1) (base := n + 1) (by omega) fun s1 I1 => wpAny_pure ?_))
        refine ih vs ts' (acc.push t) (n + (t.length + 2)) _ Q I1 hl r2 (fun y hy => hv y (List.mem_cons_of_mem _ hy)) (by omega) fun s2 I2 => ?_
        have h1 := h s2 I2
        have e : n + piled (t :: ts') = n + (t.length + 2) + piled ts' := by rw [piled_cons]; omega
        rw [e] at h1
        simpa using h1
/-- repr(x), x a tuple of such items -/
def rReprU (P : Program) (w : World) (K : PySem.W.Frag) (C : Addr) (r : V → Str → Hp → Prop) : List V → Hp → VK → Prop := fun vs H Q => ∃ (p : Addr) (xs : List V) (ts : List Str), vs = [.ref p] ∧ H p = some (.tup xs) ∧ ItRs P w K C r H xs ts ∧ (tupleText ts).length ≤ 100000 ∧ Q (.str (tupleText ts)) H
theorem tr_depth {B : Around} {args : Args} : (B.under (.builtin "tuple.__repr__" args)).depth = B.depth + 1 := by
  first | rfl | simp [Around.under, Code.weight, Code.isCreation, Code.isGuard, Code.isCaller, Code.frames, Code.isFrame, guardIds]
theorem tr_frames {B : Around} {args : Args} : (B.under (.builtin "tuple.__repr__" args)).frames = B.frames := by
  first | rfl | simp [Around.under, Code.envs, pushEnvs]
theorem tr_room {k : Nat} {B : Around} {args : Args} (h : Room (k + 1) B) : Room k (B.under (.builtin "tuple.__repr__" args)) :=
  ⟨h.hd, by have := h.dp; rw [tr_depth]; omega, by have := h.un; rw [units_under_tuple_repr]; omega⟩
theorem call_reprU {k : Nat} (hg : X.A.guards = some []) (hr : Room (k + 2) X.A) (hs : PySem.W.findIn X.K (.ref C) "__repr__" = some (some (.ref f))) (hf : PySem.W.isFn X.K (.ref f) = true)
    (run : ∀ A : Around, Room k A → A.frames = X.A.frames → RunAt X A f sp) (hsp : ∀ v t H Q, r v t H → Q (.str t) H → sp [v] H Q) : CallR X (.builtin "repr") (rReprU X.prog X.w X.K C r) := by
  intro pins s σ H vs us Q I rv q
  obtain ⟨p, xs, ts, rfl, hp, hT, hz, q⟩ := q
  cases rv with
  | cons ra rn =>
    cases rn
    cases (show _ = Value.ref p from ra)
    obtain ⟨its, ri, ⟨o, ho, hc, n, hd⟩, _⟩ := I.tuple (st_of hp)
    have hlen : ts.length = its.toArray.size := by rw [List.size_toArray, ← ri.length]; exact hT.len
    have hpl := piled_le_tupleText ts
    have hz1 : (tupleText ts).length ≤ sizeLine := sz_of hz
    have r1 : Room (k + 1) X.A.in1 := hr.in1
    refine call_repr_slot (by have := hr.un; omega) ⟨o, ho, hc⟩ F.slot_tuple_repr ?_
    refine wpAny_call (codeAny_call_builtin_own (Code.quiet_builtin _ (by decide +kernel)) F.entry_tuple_repr (F.slot_tuple_repr.check _ _ _ _ _ _ _ _ ⟨o, ho, hc⟩ (F.args_tuple_repr_1 _) ?_))
    show wpOwn _ _ _ (Builtin.tupleReprAt 0 ⟨[.ref p], []⟩) _ _ s
    rw [tuple_repr_tree, tupleReprUnderWay_eq]
    have hg1 : X.A.in1.guards = some [] := hg
    refine wpOwn_bind (wpOwn_stackTailAny hg1 (tupGuardF_off _) (tupGuardF_pos _) ?_)
    show wpOwn _ _ _ (tupleReprRest 0 (.ref p)) _ _ s
    refine wpOwn_of_wpAny ?_
    unfold tupleReprRest Builtin.Tuple.tupleItemsOf
    refine wpAny_bind (wpAny_bind (wpAny_seqItems ho hd (wpAny_pure ?_)))
    rw [← Array.forIn_toList]
    have rk := tr_room (args := ⟨[Value.ref p], []⟩) r1
    refine wpAny_bind (fold_run (A := X.A.in1.under (.builtin "tuple.__repr__" ⟨[.ref p], []⟩)) (guards_under_guard (isGuard_tuple_repr _) hg1) ⟨_, [], [], rfl⟩ (by have := rk.un; omega) hs hf (run _ rk tr_frames) hsp hp its xs ts #[] 0 s _ I hT ri (fun v hv => hv) (by omega) fun s' I' => ?_)
    refine wpAny_bind (wpAny_mkStr (wpAny_pure ?_) (by simpa [tupleText, hlen] using hz1))
    have I2 : L2.Inv X pins σ H { s' with toks := s'.toks + 1 } := I'.tok _
    have fin : ∃ x t, Value.str (tupleText ts) s'.toks = .str x t ∧ EP X pins σ Q (.str (tupleText ts) s'.toks) { s' with toks := s'.toks + 1 } := ⟨_, _, rfl, .str (tupleText ts), H, I2, ⟨_, rfl⟩, q⟩
    simpa [tupleText, hlen] using fin
end
/-- repr(v) at the top: data -/
def TopD (P : Program) (w : World) (K : PySem.W.Frag) (H : Hp) (v : V) (t : Str) : Prop :=
  ∀ (X : Cx) (pins : List (Addr × Obj)) (σ : L2.St) (s : Shared) (u : Value) (H1 : Hp), Ex H H1 → X.prog = P → X.w = w → X.K = K → L2.Inv X pins σ H1 s → RelV v u →
    ∀ (A : Around) (E : Value → Shared → Prop) (Q : Value → Shared → Prop), A.guards = some [] → A.units + 64 < cLine → (∀ h' tk u', (∀ b o, s.heap.get? b = some o → h'.get? b = some o) → Q (.str t u') { s with heap := h', toks := tk }) → wpAny (model P w) A (call (.builtin "repr") [u]) Q E s
section
variable {P : Program} {w : World} {K : PySem.W.Frag} {H : Hp}
theorem TopD.ext {H2 : Hp} {v : V} {t : Str} (h : TopD P w K H v t) (e : Ex H H2) : TopD P w K H2 v t := fun X pins σ s u H1 e1 => h X pins σ s u H1 (e.trans e1)
theorem top_non : TopD P w K H .non "None" := fun X pins σ s u H1 e hP hw hK I r A E Q hg hu k => by
  cases r
  exact PySem.P.repr_of_none (k s.heap _ _ fun _ _ e => e)
theorem top_bl (b : Bool) : TopD P w K H (.bl b) (if b then "True" else "False") := fun X pins σ s u H1 e hP hw hK I r A E Q hg hu k => by
  cases r
  exact PySem.P.repr_of_bool (k s.heap _ _ fun _ _ e => e)
theorem top_int {i : Int} (hi : i.natAbs.log2 < 1920) : TopD P w K H (.int i) (toString i) := fun X pins σ s u H1 e hP hw hK I r A E Q hg hu k => by
  obtain ⟨t, rfl⟩ := r
  exact PySem.P.repr_of_int hi (k s.heap _ _ fun _ _ e => e)
theorem top_str {x : Str} (hz : (reprText x).length ≤ sizeLine) : TopD P w K H (.str x) (reprText x) := fun X pins σ s u H1 e hP hw hK I r A E Q hg hu k => by
  obtain ⟨t, rfl⟩ := r
  exact PySem.P.repr_of_str (k s.heap _ _ fun _ _ e => e) hz
theorem top_ref {a : Addr} {d : PyData} (hd : Dp K H (.ref a) d) (h1 : d.showable = true) (h2 : d.hasDict = false) (h3 : d.depth ≤ 40) (h4 : d.shown.length ≤ 2000) : TopD P w K H (.ref a) d.shown := fun X pins σ s u H1 e hP hw hK I r A E Q hg hu k => by
  subst hP hw hK
  cases r
  obtain ⟨as, rd⟩ := Dp.reads I d _ _ (dp_ext e d _ hd) rfl
  exact repr_of_reads' rd h1 (PyData.noDict_hsm h2) hg (by omega) (fun _ _ e => e) (fun h' u tk kp => k h' tk u kp) (sz (by omega))
theorem top_dict1 {a : Addr} {kk : Str} {v : V} (ha : H a = some (.dK [(Sum.inr kk, v)])) {d : PyData} (hv : Dp K H v d) (h1d : d.showable = true) (h2d : d.hasDict = false) (hk : (reprText kk).length ≤ 400) (ht : d.shown.length ≤ 400) (d30 : d.depth ≤ 30) : TopD P w K H (.ref a) (dictText [reprText kk ++ ": " ++ d.shown]) := fun X pins σ s u H1 e hP hw hK I r A E Q hg hu k => by
  subst hP hw hK
  cases r
  obtain ⟨_, hsys, vs, kv, o, es, ep, ho, hex, hdt, _, hp, _⟩ := dk_of I.hok (e _ _ ha)
  cases kv with
  | @cons _ q _ _ h1 h2 =>
    cases h2
    obtain ⟨qk, qv⟩ := q
    obtain ⟨rfl, rv⟩ := h1
    obtain ⟨el⟩ := es
    cases hp with
    | @cons e1 _ _ _ g1 g2 g3 =>
      cases g3
      obtain ⟨tk, hkey⟩ : ∃ tk, e1.key = Value.str kk tk := by
        have g1' : keyIs (Sum.inr kk) e1.key = true := g1
        rcases keyIs_shape g1' with ⟨i, t, z, _⟩ | ⟨x, t, z, z2⟩
        · cases z
        · cases z
          exact ⟨t, z2⟩
      have hval : e1.val = qv := g2
      obtain ⟨as, rd⟩ := Dp.reads I d _ _ (dp_ext e d v hv) rv
      obtain ⟨bs, hb, hrk⟩ := ReprK.of_reads (prog := X.prog) (w := X.w) rd h1d (PyData.noDict_hsm h2d) (sz (by omega))
      have rdk : Reads s.heap e1.key (.str kk) [] := hkey ▸ Reads.str kk tk
      have rdv : Reads s.heap e1.val d as := hval ▸ rd
      have rD : Reads s.heap (.ref a) (.dict [(.str kk, d)]) (a :: ([] ++ []) ++ (as ++ [])) := Reads.dict ho hex.1 hdt (.cons rdk .nil) (.cons rdv .nil)
      have dD : (PyData.dict [(.str kk, d)]).depth = d.depth + 1 := by simp [PyData.depth, PyData.depthKv]
      have hna : a ∉ bs := not_mem_of_deeper rD (by rw [dD]; omega) hb
      have rk0 : ReprK X.prog X.w bs s.heap d.depth e1.key (reprText kk) := by
        rw [hkey]
        exact .of_is (ReprIs.str kk tk (sz (by omega))) _ _ _
      have rk1 : ReprK X.prog X.w bs s.heap d.depth e1.val d.shown := by
        rw [hval]
        exact hrk
      have l0 : ((": " : String) : Str).length = 2 := by decide +kernel
      have l1 : (("{" : String) : Str).length = 1 := by decide +kernel
      have l2 : (("}" : String) : Str).length = 1 := by decide +kernel
      have lj : (dictText [reprText kk ++ ": " ++ d.shown]).length = 1 + ((reprText kk).length + 2 + d.shown.length) + 1 := by
        show (("{" : Str) ++ (reprText kk ++ ": " ++ d.shown) ++ "}").length = _
        rw [strLen_append, strLen_append, strLen_append, strLen_append, l0, l1, l2]
      exact call_repr_slot (by omega) ⟨o, ho, hex.1⟩ F.slot_dict_repr (call_dict_reprK (A := A.in1) ho hex.1 hdt hsys hna (.cons rk0 rk1 .nil) hg (fun b _ => Clear.nil b) (by show A.units + 1 + (d.depth + 1) < cLine; omega) (fun _ _ e => e) (fun h' u tk kp => ⟨_, _, rfl, k h' tk u kp⟩) (sz (by rw [lj]; omega)))
end
section
variable {X : Cx}
def rTop (P : Program) (w : World) (K : PySem.W.Frag) : List V → Hp → VK → Prop := fun vs H Q => ∃ (v : V) (t : Str), vs = [v] ∧ TopD P w K H v t ∧ Q (.str t) H
theorem call_reprTop (hg : X.A.guards = some []) (hu : X.A.units + 64 < cLine) : CallR X (.builtin "repr") (rTop X.prog X.w X.K) := by
  intro pins s σ H vs us Q I rv q
  obtain ⟨v, t, rfl, hd, q⟩ := q
  cases rv with
  | cons ra rn =>
    cases rn
    exact hd X pins σ s _ H (Ex.refl H) rfl rfl rfl I ra X.A _ _ hg hu fun h' tk u kp => ⟨.str t, H, I.kept (t' := tk) kp, ⟨u, rfl⟩, q⟩
theorem callR_or {f : Value} {r1 r2 : List V → Hp → VK → Prop} (c1 : CallR X f r1) (c2 : CallR X f r2) : CallR X f (fun vs H Q => r1 vs H Q ∨ r2 vs H Q) := fun pins s σ H vs us Q I rv q => q.elim (c1 pins s σ H vs us Q I rv) (c2 pins s σ H vs us Q I rv)
end
end Pk
end

section -- K00d
set_option linter.all false
set_option maxRecDepth 100000
set_option maxHeartbeats 4000000
namespace K00
open PySem PySem.Spec L2 Pk Evl
open PyProof.Rows hiding St
/-! ### values that can be shown -/
theorem RatAt.ext {C : Addr} {H H2 : Hp} {x : Addr} {t b : Int} (h : RatAt C H x t b) (e : Ex H H2) : RatAt C H2 x t b := by
  obtain ⟨dx, h⟩ := h
  exact ⟨dx, e _ _ h⟩
def rr (C : Addr) : V → Str → Hp → Prop := fun v t H => ∃ (x : Addr) (a b : Int), v = .ref x ∧ RatAt C H x a b ∧ a.natAbs.log2 < 1000 ∧ b.natAbs.log2 < 1000 ∧ ratText a b = t
def Sho (P : Program) (w : World) (K : PySem.W.Frag) (C : Addr) (H : Hp) (v : V) (t : Str) : Prop := t.length ≤ 2000 ∧ ((RkD P w K H v t ∧ TopD P w K H v t) ∨ rr C v t H)
theorem Sho.ext {P : Program} {w : World} {K : PySem.W.Frag} {C : Addr} {H H2 : Hp} {v : V} {t : Str} (h : Sho P w K C H v t) (e : Ex H H2) : Sho P w K C H2 v t := ⟨h.1, h.2.elim (fun q => .inl ⟨q.1.ext e, q.2.ext e⟩) fun ⟨x, a, b, h1, h2, h3⟩ => .inr ⟨x, a, b, h1, h2.ext e, h3⟩⟩
theorem Sho.it {P : Program} {w : World} {K : PySem.W.Frag} {C : Addr} {H : Hp} {v : V} {t : Str} (h : Sho P w K C H v t) : ItR P w K C (rr C) H v t := by
  obtain ⟨hl, h | h⟩ := h
  · exact .inl h.1
  · obtain ⟨x, a, b, rfl, ⟨dx, hx⟩, h3⟩ := id h
    exact .inr ⟨hl, ⟨x, dx, _, rfl, hx⟩, h⟩
def spS (C : Addr) : List V → Hp → VK → Prop := fun vs H Q => spStr C vs H Q E0
def rRp (P : Program) (w : World) (K : PySem.W.Frag) (C : Addr) : List V → Hp → VK → Prop := fun vs H Q => rReprU P w K C (rr C) vs H Q ∨ (rTop P w K vs H Q ∨ rOwnT C (spS C) vs H Q)
section
variable {X : Cx} {C f : Addr} {fd : FuncData}
theorem call_rp (hg : X.A.guards = some []) (hr : Room 7 X.A) (hs : PySem.W.findIn X.K (.ref C) "__repr__" = some (some (.ref f))) (hf : PySem.W.isFn X.K (.ref f) = true)
    (G : FnOk X.prog X.w X.K X.mg X.base CX0 5 f fd ["self"] (spStr C)) (b : Binds X.K fd ["self"] []) : CallR X (.builtin "repr") (rRp X.prog X.w X.K C) :=
  callR_or (call_reprU (k := 5) hg hr hs hf (sp := spS C) (fun A rA hA => runAt_fn G rA hA b pass0) fun v t H Q h q => by
    obtain ⟨x, a, b, rfl, hx, l1, l2, rfl⟩ := h
    exact ⟨x, a, b, rfl, hx, l1, l2, q⟩) (callR_or (call_reprTop hg hr.units) (call_reprO (r := spS C) (by have := hr.un; show X.A.units + 1 < _; omega) hs hf (runAt_fn G (hr.mono (by decide : 6 ≤ 7)).in1 rfl b pass0)))
end
section
variable {P : Program} {w : World} {K : PySem.W.Frag} {C : Addr} {σ : L2.St} {H : Hp} {te ta tb : TE}
theorem ev_rpU {xs : List V} {ts : List Str} (h : EvU te σ H xs) (hT : ∀ H1, Ex H H1 → ItRs P w K C (rr C) H1 xs ts) (hz : (tupleText ts).length ≤ 100000) : Ev (tCB (rRp P w K C) (tCons te tNil)) σ H (.str (tupleText ts)) := fun H1 e Q k =>
  h H1 e _ fun p H2 np e2 hp => .inl ⟨p, xs, ts, rfl, hp, hT H2 (e.trans e2), hz, k H2 e2⟩
theorem ev_rpV {v : V} {t : Str} (h : Ev te σ H v) (hs : Sho P w K C H v t) : Ev (tCB (rRp P w K C) (tCons te tNil)) σ H (.str t) := fun H1 e Q k => h H1 e _ fun H2 e2 => by
  obtain ⟨hl, q | q⟩ := hs.ext (e.trans e2)
  · exact .inr (.inl ⟨v, t, rfl, q.2, k H2 e2⟩)
  · obtain ⟨x, a, b, rfl, hx, l1, l2, rfl⟩ := q
    obtain ⟨dx, ex⟩ := id hx
    exact .inr (.inr ⟨x, dx, _, rfl, ex, x, a, b, rfl, hx, l1, l2, _, rfl, k H2 e2⟩)
theorem dp_bls {H : Hp} : ∀ zs : List Bool, DpAll K H (zs.map V.bl) (zs.map PyData.bool)
  | [] => .nil
  | z :: zs => .cons (.bl z) (dp_bls zs)
theorem lay_bls : ∀ zs : List Bool, PyData.canLayAll0 (zs.map PyData.bool) = true
  | [] => rfl
  | z :: zs => by
    simp only [List.map_cons, PyData.canLayAll0, PyData.canLay0, Bool.true_and]
    exact lay_bls zs
theorem depth_bls : ∀ zs : List Bool, PyData.depthAll (zs.map PyData.bool) ≤ 1
  | [] => Nat.zero_le _
  | z :: zs => by
    have := depth_bls zs
    simp only [List.map_cons, PyData.depthAll, PyData.depth]
    omega
theorem shaped_bls {zs : List Bool} : SeqAt.shaped (.list (zs.map PyData.bool)) = true := by
  have h := depth_bls zs
  unfold SeqAt.shaped
  rw [Bool.and_eq_true, decide_eq_true_iff]
  refine ⟨by simp only [PyData.canLay0]; exact lay_bls zs, ?_⟩
  simp only [PyData.depth]
  omega
theorem ev_neBls {zs : List Bool} (ha : EvL ta σ H (zs.map V.bl)) (hb : EvL tb σ H (zs.map V.bl)) : Ev (tOp (rNeD K) ta tb) σ H (.bl false) := ev_opLL ha hb fun p q H1 hp hq e => fun H2 e2 Q k =>
  ⟨_, _, .lst (sq_of (e2 _ _ hp)) (dp_bls zs), .lst (sq_of (e2 _ _ hq)) (dp_bls zs), shaped_bls, shaped_bls, by rw [SeqAt.eqv_refl _ (by simp only [PyData.canLay0]; exact lay_bls zs)]; exact k H2 (Ex.refl H2)⟩
theorem elC_cs {r : L2.St → List V → Hp → VK → Prop} {t : TA} {vs : List V} {ps : List XD} (h : EvA t σ H vs) (hs : ∀ H1, Ex H H1 → ∀ Q : VK, (∀ p ws H2, Ex H1 H2 → H2 p = some (.lst ws) → AllX H2 ws ps → Q (.ref p) H2) → r σ vs H1 Q) : ElC (tCS r t) σ H ps := fun H1 e Q k =>
  h H1 e _ fun H2 e2 => hs H2 (e.trans e2) Q fun p ws H3 e3 hp hw => k p ws H3 (e2.trans e3) hp hw
theorem eu_cs {r : L2.St → List V → Hp → VK → Prop} {t : TA} {vs xs : List V} (h : EvA t σ H vs) (hs : ∀ H1, Ex H H1 → ∀ Q : VK, (∀ p H2, H1 p = none → Ex H1 H2 → H2 p = some (.tup xs) → Q (.ref p) H2) → r σ vs H1 Q) : EvU (tCS r t) σ H xs := fun H1 e Q k =>
  h H1 e _ fun H2 e2 => hs H2 (e.trans e2) Q fun p H3 np e3 hp => k p H3 (fresh_back e2 np) (e2.trans e3) hp
theorem el_csL {r : L2.St → List V → Hp → VK → Prop} {t : TA} {vs xs : List V} (h : EvA t σ H vs) (hs : ∀ H1, Ex H H1 → ∀ Q : VK, RetL xs H1 Q → r σ vs H1 Q) : EvL (tCS r t) σ H xs := fun H1 e Q k =>
  h H1 e _ fun H2 e2 => hs H2 (e.trans e2) Q fun p H3 np e3 hp => k p H3 (fresh_back e2 np) (e2.trans e3) hp
theorem el_isL {xs ys : List V} (h : EvL te σ H xs) (e : xs = ys) : EvL te σ H ys := e ▸ h
theorem ev_rpP {p : Addr} {xs : List V} {ts : List Str} (h : Ev te σ H (.ref p)) (hp : H p = some (.tup xs)) (hT : ∀ H1, Ex H H1 → ItRs P w K C (rr C) H1 xs ts) (hz : (tupleText ts).length ≤ 100000) : Ev (tCB (rRp P w K C) (tCons te tNil)) σ H (.str (tupleText ts)) := fun H1 e Q k =>
  h H1 e _ fun H2 e2 => .inl ⟨p, xs, ts, rfl, e2 _ _ (e _ _ hp), hT H2 (e.trans e2), hz, k H2 e2⟩
theorem ev_chain {r r' : R2} {tc : TE} {x y z : V} {a b : Bool} (ha : Ev ta σ H x) (hb : Ev tb σ H y) (hr : RV r x y H (.bl a)) (hc : Ev tc σ H z) (hr' : RV r' y z H (.bl b)) : Ev (tChain r r' ta tb tc) σ H (.bl (a && b)) := fun H1 e Q q =>
  ha H1 e _ fun H2 e2 => hb H2 (e.trans e2) _ fun H3 e3 => hr H3 ((e.trans e2).trans e3) _ fun H4 e4 => ⟨a, rfl, by
    cases a with
    | false => exact iteF (q H4 ((e2.trans e3).trans e4))
    | true =>
      refine iteT (hc H4 (((e.trans e2).trans e3).trans e4) _ fun H5 e5 => hr' H5 ((((e.trans e2).trans e3).trans e4).trans e5) _ fun H6 e6 => ?_)
      exact q H6 ((((e2.trans e3).trans e4).trans e5).trans e6)⟩
theorem et_yes : EvT tYes σ H true := fun H1 _ _ q => q H1 (Ex.refl H1)
theorem q_forX {g : TG} {tu tz : TS} {D : Ends} (M : List V → Hp → Prop) (h : ∀ Q : VK, (∀ l xs H1, Ex H H1 → H1 l = some (.lst xs) → M xs H1 → Q (.ref l) H1) → te σ H Q) (Pv : Addr → List V → Hp → Nat → L2.St → Hp → Prop) (h0 : ∀ l xs H1, Ex H H1 → H1 l = some (.lst xs) → M xs H1 → Pv l xs H1 0 σ H1)
    (hl : ∀ l xs H1 i σ' H', H1 l = some (.lst xs) → Pv l xs H1 i σ' H' → SqL K H' l xs)
    (hs : ∀ l xs H1, Ex H H1 → H1 l = some (.lst xs) → M xs H1 → ∀ i x σ' H', xs[i]? = some x → Pv l xs H1 i σ' H' → g x σ' H' fun σ2 H2 => tu { D with nx := Pv l xs H1 (i + 1), ct := Pv l xs H1 (i + 1), bk := tz D } σ2 H2)
    (hd : ∀ l xs H1, Ex H H1 → M xs H1 → ∀ σ' H', Pv l xs H1 xs.length σ' H' → tz D σ' H') : tSeq (tFor (iList K te) g tu) tz D σ H :=
  h _ fun l xs H1 e hx hm => ⟨l, rfl, ⟨xs, sq_of hx⟩, for_list (D := { D with nx := tz D }) (Pv l xs H1) (h0 l xs H1 e hx hm) (fun i σ' H' _ p => hl l xs H1 i σ' H' hx p) (hs l xs H1 e hx hm) (hd l xs H1 e hm)⟩
theorem s_forE {a : Addr} {xs : List V} {t : TE} {g : TG} {tu : TS} {D : Ends} (h : Ev t σ H (.ref a)) (hx : SqL K H a xs) (Pv : Nat → L2.St → Hp → Prop) (h0 : ∀ H1, Ex H H1 → Pv 0 σ H1) (hl : ∀ i σ' H', Pv i σ' H' → SqL K H' a xs)
    (hs : ∀ i x T σ' H', i < xs.length → xs[i]? = some x → Pv i σ' H' → H' T = none → g (.ref T) σ' (upd H' T (.tup [.int (i : Int), x])) fun σ2 H2 => tu { D with nx := Pv (i + 1), ct := Pv (i + 1), bk := D.nx } σ2 H2) (hd : ∀ σ' H', Pv xs.length σ' H' → D.nx σ' H') : tFor (iEnum K (tCons t tNil)) g tu D σ H :=
  h H (Ex.refl H) _ fun H1 e => ⟨a, xs, rfl, ex_l e hx, for_it walk_enum Pv (h0 H1 e) (fun i σ' H' _ p => hl i σ' H' p) (fun i x σ' H' H3 hi p y => by
    obtain ⟨T, x', y, rfl, nT, rfl, hx', hy⟩ := y
    cases hx'
    exact hs i y T σ' H' hi hy p nT) hd⟩
theorem listLL {t1 t2 : TE} {ps qs : List XD} (h1 : ElC t1 σ H ps) (h2 : ElC t2 σ H qs) (Q : VK) (k : ∀ l p q us ws H1, Ex H H1 → H1 l = some (.lst [.ref p, .ref q]) → H1 p = some (.lst us) → AllX H1 us ps → H1 q = some (.lst ws) → AllX H1 ws qs → Q (.ref l) H1) : tLst (tCons t1 (tCons t2 tNil)) σ H Q :=
  h1 H (Ex.refl H) _ fun p us H1 e1 hp hu => h2 H1 e1 _ fun q ws H2 e2 hq hw => ⟨by show 2 ≤ sizeLine; exact sz_of (by decide), fun l nl => k l p q us ws _ ((e1.trans e2).trans (Ex.new nl)) upd_same (Ex.new nl _ _ (e2 _ _ hp)) ((hu.ext e2).ext (Ex.new nl)) (Ex.new nl _ _ hq) (hw.ext (Ex.new nl))⟩
end
theorem chain_eq (j : Nat) : (!decide (V.bl (decide (18 ≤ j ∧ j < 23)) = V.bl (decide ((18 : Int) ≤ (j : Int)) && decide ((j : Int) < 23)))) = false := by
  have h : decide (18 ≤ j ∧ j < 23) = (decide ((18 : Int) ≤ (j : Int)) && decide ((j : Int) < 23)) := by
    rw [Bool.eq_iff_iff]
    simp
    omega
  rw [h]
  simp
theorem kins_eq {f : Nat → Bool} : kins f = ((List.range 36).map f).map V.bl := by
  unfold kins
  rw [List.map_map]
  rfl
theorem given_eq {j : Nat} : given (Int.toNat 36) (fun _ => true) (fun a => V.bl (decide (j = a))) = ((List.range 36).map fun a => decide (j = a)).map V.bl := by
  unfold given
  rw [List.filter_eq_self.mpr (fun _ _ => rfl), List.map_map]
  rfl
def dueT (t1 t2 : Str) (i : Nat) : List Str := if i < 28 then [t1] else if i < 35 then [t1, t2] else []
theorem tt_len (ts : List Str) : (tupleText ts).length ≤ piled ts + 3 := by
  unfold tupleText
  rw [strLen_append, strLen_append]
  have e1 : ((("(" : String) : Str)).length = 1 := rfl
  have e3 : (((if ts.length == 1 then ",)" else ")" : String) : Str)).length ≤ 2 := by split <;> decide
  rw [e1]
  by_cases h : ts = []
  · subst h
    have e4 : (Str.join ", " []).length = 0 := rfl
    rw [e4]
    omega
  · have := join_length_add ts h
    omega
theorem its_due {P : Program} {w : World} {K : PySem.W.Frag} {C : Addr} {H : Hp} {one two : V} {t1 t2 : Str} {j : Nat} (h1 : Sho P w K C H one t1) (h2 : Sho P w K C H two t2) :
    (tupleText (dueT t1 t2 j)).length ≤ 100000 ∧ ∀ H1, Ex H H1 → ItRs P w K C (rr C) H1 (due one two j) (dueT t1 t2 j) := by
  have l1 := h1.1
  have l2 := h2.1
  have tt := tt_len (dueT t1 t2 j)
  unfold due dueT at *
  split
  · rename_i c
    rw [if_pos c] at tt
    rw [piled_cons, piled_nil] at tt
    exact ⟨by omega, fun H1 e => .cons (h1.ext e).it .nil⟩
  · rename_i c
    rw [if_neg c] at tt
    split
    · rename_i c2
      rw [if_pos c2, piled_cons, piled_cons, piled_nil] at tt
      exact ⟨by omega, fun H1 e => .cons (h1.ext e).it (.cons (h2.ext e).it .nil)⟩
    · rename_i c2
      rw [if_neg c2, piled_nil] at tt
      exact ⟨by omega, fun H1 e => .nil⟩
def all36 (Cs : Nat → Addr) (x y : V) : List XD := (List.range 36).map (dat Cs x y)
theorem all36_a (Cs : Nat → Addr) (x y : V) : dtParts Cs x ++ dtOthers Cs x y = all36 Cs x y := rfl
theorem all36_b (Cs : Nat → Addr) (x y : V) : dtPartsN Cs x ++ dtOthersN Cs x y = all36 Cs x y := rfl
theorem all36_at {Cs : Nat → Addr} {x y : V} {i : Nat} (h : i < 36) : (all36 Cs x y)[i]? = some (dat Cs x y i) := by
  unfold all36
  rw [List.getElem?_map, List.getElem?_range h]
  rfl
theorem all36_len {Cs : Nat → Addr} {x y : V} : (all36 Cs x y).length = 36 := by
  unfold all36
  rw [List.length_map, List.length_range]
def spErrors (P : Program) (w : World) (K : PySem.W.Frag) (C : Addr) : Sp := fun vs H Q _ => ∃ (one two : V) (t1 t2 : Str), vs = [one, two] ∧ Sho P w K C H one t1 ∧ Sho P w K C H two t2 ∧ RetV (.bl true) H Q
section
variable {P : Program} {w : World} {K : PySem.W.Frag} {mg : Str → Option Value} {base : Heap} {Cs : Nat → Addr} {M PE C : Addr}
theorem sc_errors : FnScope ["_law_one", "_law_two", "_law_made", "_law_place", "_law_error", "_law_due", "_law_at"] ["_law_one", "_law_two"] (defScope sErrors) := ⟨rfl, rfl, rfl, by decide +kernel, rfl, by decide +kernel, by decide +kernel⟩
theorem ok_errors {f fR fP fO fPN fON fF fK : Addr} {fd fdR fdP fdO fdPN fdON fdF fdK : FuncData} (F0 : Fun K "_law_errors_right" "_law_errors_right" sErrors f fd) (B : Bi mg) (S : XS P w K mg base Cs M PE)
    (fsR : PySem.W.findIn K (.ref C) "__repr__" = some (some (.ref fR))) (isR : PySem.W.isFn K (.ref fR) = true) (G_repr : FnOk P w K mg base CX0 5 fR fdR ["self"] (spStr C)) (b_repr : Binds K fdR ["self"] [])
    (G_parts : FnOk P w K mg base CX0 4 fP fdP ["_law_part"] (spParts Cs)) (b_parts : Binds K fdP ["_law_part"] []) (d_parts : Df K mg "_law_parts" fP)
    (G_others : FnOk P w K mg base CX0 4 fO fdO ["_law_one", "_law_two"] (spOthers Cs)) (b_others : Binds K fdO ["_law_one", "_law_two"] []) (d_others : Df K mg "_law_others" fO)
    (G_partsn : FnOk P w K mg base CX0 4 fPN fdPN ["_law_part"] (spPartsN Cs)) (b_partsn : Binds K fdPN ["_law_part"] []) (d_partsn : Df K mg "_law_parts_named" fPN)
    (G_othersn : FnOk P w K mg base CX0 4 fON fdON ["_law_one", "_law_two"] (spOthersN Cs)) (b_othersn : Binds K fdON ["_law_one", "_law_two"] []) (d_othersn : Df K mg "_law_others_named" fON)
    (G_fields : FnOk P w K mg base CX0 1 fF fdF ["_law_error", "_law_place"] (spFields Cs)) (b_fields : Binds K fdF ["_law_error", "_law_place"] []) (d_fields : Df K mg "_law_fields" fF)
    (G_kin : FnOk P w K mg base CX0 1 fK fdK ["_law_error"] (spKin K Cs)) (b_kin : Binds K fdK ["_law_error"] []) (d_kin : Df K mg "_law_kin" fK) : FnG P w K mg base CX0 8 f fd ["_law_one", "_law_two"] (spErrors P w K C) := by
  obtain ⟨fIM, fdIM, xM⟩ := S.mkM
  refine fnG_of F0 sc_errors (fun vs H Q E h => ?_) (fun cdv A outer s H vs Q E hr hg h => ?_)
  · obtain ⟨one, two, t1, t2, rfl, _⟩ := h
    rfl
  · obtain ⟨one, two, t1, t2, rfl, ho, ht, k⟩ := h
    have nd := sc_errors.nd
    refine ⟨_, PSs.nox (pss_cons (ps_for PassesOwn.never rfl (pi_list (pe_lst (pa_cons (pe_op op_cat (pe_cs (calls_fn G_parts (hr.mono (by decide)) b_parts .nil pass0) d_parts.1 d_parts.2 (pa_cons (pv 0) pa_nil)) (pe_cs (calls_fn G_others (hr.mono (by decide)) b_others .nil pass0) d_others.1 d_others.2 (pa_cons (pv 0) (pa_cons (pv 1) pa_nil)))) (pa_cons (pe_op op_cat (pe_cs (calls_fn G_partsn (hr.mono (by decide)) b_partsn .nil pass0) d_partsn.1 d_partsn.2 (pa_cons (pv 0) pa_nil)) (pe_cs (calls_fn G_othersn (hr.mono (by decide)) b_othersn .nil pass0) d_othersn.1 d_othersn.2 (pa_cons (pv 0) (pa_cons (pv 1) pa_nil)))) pa_nil)))) (pg_name (i := 2) nd rfl (Or.inl rfl))
(pss_one (ps_for PassesOwn.never rfl (pi_enum (by rfl) B.n_enumerate (pa_cons (pv 2) pa_nil)) (pg_tup (by rfl) (pgs_cons (pg_name (i := 3) nd rfl (Or.inr rfl)) (pgs_cons (pg_name (i := 4) nd rfl (Or.inl rfl)) pgs_nil)))
(pss_cons (ps_set (i := 5) nd rfl (Or.inl rfl) (pe_ifExp (pt_cmpR op_lt (pv 3) pe_int (nomark _)) (pe_tup (pa_cons (pv 0) pa_nil)) (pe_ifExp (pt_cmpR op_lt (pv 3) pe_int (nomark _)) (pe_tup (pa_cons (pv 0) (pa_cons (pv 1) pa_nil))) (pe_tup pa_nil))))
(pss_cons (ps_if (PW.pt (pw_or (pt_cmpR op_ne (pe_callB (call_rp hg hr fsR isR G_repr b_repr) (by rfl) B.n_repr (by decide +kernel) (pa_cons (pe_cs (calls_fn G_fields (hr.mono (by decide)) b_fields .nil pass0) d_fields.1 d_fields.2 (pa_cons (pv 4) (pa_cons (pv 3) pa_nil))) pa_nil)) (pe_callB (call_rp hg hr fsR isR G_repr b_repr) (by rfl) B.n_repr (by decide +kernel) (pa_cons (pv 5) pa_nil)) (nomark _)) (pw_or1 (pt_cmpR (op_neD hr.units) (pe_cs (calls_fn G_kin (hr.mono (by decide)) b_kin .nil pass0) d_kin.1 d_kin.2 (pa_cons (pv 4) pa_nil)) (pe_lc (own := [("_law_at", 6)]) (g := gName 6) (by rfl) nd (pi_range1 (by rfl) B.n_range (pa_cons pe_int pa_nil)) (blkOk_by (own := [("_law_at", 6)]) (N := ["_law_one", "_law_two", "_law_made", "_law_place", "_law_error", "_law_due", "_law_at"]) (sc := (defScope sErrors)) (by decide +kernel)) (fun _ _ _ _ _ => pg_name (i := 6) nd rfl (Or.inl rfl)) (fun _ _ _ _ _ => pts_nil) (fun _ _ _ _ _ => (pe_cmpR op_eq (pv 3) (pv 6) (nomark _)))) (nomark _)))))
(pss_one (ps_ret pe_bl))
pss_nil)
(pss_cons (ps_if (PW.pt (pw_or (pt_not (pt_val (pe_callB call_isQ (by rfl) B.n_isinstance (by decide +kernel) (pa_cons (pv 4) (pa_cons (pe_gv (v := .ref PE) ⟨_, S.glP, rfl⟩) pa_nil))))) (pw_or1 (pt_not (pt_val (pe_callB call_isQ (by rfl) B.n_isinstance (by decide +kernel) (pa_cons (pv 4) (pa_cons (pe_tyname "ValueError" B.n_ValueError (by decide +kernel)) pa_nil))))))))
(pss_one (ps_ret pe_bl))
pss_nil)
(pss_cons (ps_if (pt_cmpR op_ne (pe_callB call_isQ (by rfl) B.n_isinstance (by decide +kernel) (pa_cons (pv 4) (pa_cons (pe_gv (v := .ref M) ⟨_, S.glM, rfl⟩) pa_nil))) (pe_chain op_le op_lt pe_int (pv 3) pe_int) (nomark _))
(pss_one (ps_ret pe_bl))
pss_nil)
(pss_cons (ps_if (PW.pt (pw_or (pt_val (pe_callB call_isQ (by rfl) B.n_isinstance (by decide +kernel) (pa_cons (pv 4) (pa_cons (pe_tyname "LookupError" B.n_LookupError (by decide +kernel)) pa_nil)))) (pw_or (pt_val (pe_callB call_isQ (by rfl) B.n_isinstance (by decide +kernel) (pa_cons (pv 4) (pa_cons (pe_tyname "TypeError" B.n_TypeError (by decide +kernel)) pa_nil)))) (pw_or1 (pt_val (pe_callB call_isQ (by rfl) B.n_isinstance (by decide +kernel) (pa_cons (pv 4) (pa_cons (pe_tyname "ArithmeticError" B.n_ArithmeticError (by decide +kernel)) pa_nil))))))))
(pss_one (ps_ret pe_bl))
pss_nil)
(pss_one (ps_if (PW.pt (pw_or (pt_val (pe_callB call_isQ (by rfl) B.n_isinstance (by decide +kernel) (pa_cons (pv 4) (pa_cons (pe_tyname "RuntimeError" B.n_RuntimeError (by decide +kernel)) pa_nil)))) (pw_or1 (pt_val (pe_callB call_isQ (by rfl) B.n_isinstance (by decide +kernel) (pa_cons (pv 4) (pa_cons (pe_tyname "AttributeError" B.n_AttributeError (by decide +kernel)) pa_nil)))))))
(pss_one (ps_ret pe_bl))
pss_nil))))))))))
(pss_cons (ps_for PassesOwn.never rfl (pi_list (pe_lst (pa_cons (pe_mkX xM (hr.mono (by decide)) (by decide) (pa_cons (pv 0) pa_nil)) (pa_cons (pe_mkXK xM (hr.mono (by decide)) (pk_cons (pv 0) pk_nil)) pa_nil)))) (pg_name (i := 4) nd rfl (Or.inl rfl))
(pss_cons (ps_if (PW.pt (pw_or (pt_cmpR op_ne (pe_callB (call_rp hg hr fsR isR G_repr b_repr) (by rfl) B.n_repr (by decide +kernel) (pa_cons (pe_xa (pv 4)) pa_nil)) (pe_callB (call_rp hg hr fsR isR G_repr b_repr) (by rfl) B.n_repr (by decide +kernel) (pa_cons (pv 0) pa_nil)) (nomark _)) (pw_or1 (pt_cmpR op_in_seq pe_bl (pe_cs (calls_fn G_kin (hr.mono (by decide)) b_kin .nil pass0) d_kin.1 d_kin.2 (pa_cons (pv 4) pa_nil)) rfl))))
(pss_one (ps_ret pe_bl))
pss_nil)
(pss_one (ps_if (PW.pt (pw_or (pt_not (pt_val (pe_callB call_isQ (by rfl) B.n_isinstance (by decide +kernel) (pa_cons (pv 4) (pa_cons (pe_gv (v := .ref PE) ⟨_, S.glP, rfl⟩) pa_nil))))) (pw_or1 (pt_not (pt_val (pe_callB call_isQ (by rfl) B.n_isinstance (by decide +kernel) (pa_cons (pv 4) (pa_cons (pe_tyname "ValueError" B.n_ValueError (by decide +kernel)) pa_nil))))))))
(pss_one (ps_ret pe_bl))
pss_nil))))
(pss_one (ps_ret pe_bl)))), ?_⟩
    refine q_forX (fun xs H1 => ∀ x ∈ xs, ∃ m vs, x = .ref m ∧ H1 m = some (.lst vs) ∧ AllX H1 vs (all36 Cs one two)) (fun Q k => listLL (ps := all36 Cs one two) (qs := all36 Cs one two) ?_ ?_ Q fun l p q us ws H1 e1 hl hp au hq aw => k l _ H1 e1 hl fun x hx => ?_) (fun l xs H1 i σ' H' => ∃ o2 o3 o4 o5 o6 : Option V, σ' = [some one, some two, o2, o3, o4, o5, o6] ∧ Ex H1 H') (fun l xs H1 e1 hl hm => ⟨_, _, _, _, _, rfl, Ex.refl H1⟩) (fun l xs H1 i σ' H' hl pv => ?_) (fun l xs H1 e1 hl hM i x σ' H' hx pv => ?_) (fun l xs H1 e1 hM σ' H' pv => ?_)
    · refine elC_is (ps := dtParts Cs one ++ dtOthers Cs one two) (elC_cat ?_ ?_ (by show 18 + 18 ≤ 1000000; decide)) (all36_a Cs one two)
      · exact elC_cs (ea_cons (ev_var rfl) ea_nil) fun H1 e1 Q k => ⟨one, rfl, k⟩
      · exact elC_cs (ea_cons (ev_var rfl) (ea_cons (ev_var rfl) ea_nil)) fun H1 e1 Q k => ⟨one, two, rfl, k⟩
    · refine elC_is (ps := dtPartsN Cs one ++ dtOthersN Cs one two) (elC_cat ?_ ?_ (by show 18 + 18 ≤ 1000000; decide)) (all36_b Cs one two)
      · exact elC_cs (ea_cons (ev_var rfl) ea_nil) fun H1 e1 Q k => ⟨one, rfl, k⟩
      · exact elC_cs (ea_cons (ev_var rfl) (ea_cons (ev_var rfl) ea_nil)) fun H1 e1 Q k => ⟨one, two, rfl, k⟩
    · simp only [List.mem_cons, List.not_mem_nil, or_false] at hx
      rcases hx with rfl | rfl
      · exact ⟨p, us, rfl, hp, au⟩
      · exact ⟨q, ws, rfl, hq, aw⟩
    · obtain ⟨o2, o3, o4, o5, o6, rfl, e2⟩ := pv
      exact sq_of (e2 _ _ hl)
    · obtain ⟨o2, o3, o4, o5, o6, rfl, e2⟩ := pv
      obtain ⟨m, vs, rfl, hm, am⟩ := hM x (List.mem_of_getElem? hx)
      have l36 : vs.length = 36 := am.1.trans all36_len
      refine s_forE (xs := vs) (ev_var rfl) (sq_of (e2 _ _ hm)) (fun j σ' H' => ∃ o3 o4 o5 o6 : Option V, σ' = [some one, some two, some (.ref m), o3, o4, o5, o6] ∧ Ex H1 H') (fun H3 e3 => ⟨_, _, _, _, rfl, e2.trans e3⟩) (fun j σ' H' pv => ?_) (fun j y T σ' H' hj hy pv nT => ?_) (fun σ' H' pv => ?_)
      · obtain ⟨o3, o4, o5, o6, rfl, e3⟩ := pv
        exact sq_of (e3 _ _ hm)
      · obtain ⟨o3, o4, o5, o6, rfl, e3⟩ := pv
        have hj : j < 36 := by omega
        have e4 : Ex H1 (upd H' T (.tup [.int (j : Int), y])) := e3.trans (Ex.new nT)
        have hx := (am.2 j y _ hy (all36_at hj)).ext e4
        refine ⟨T, _, rfl, st_of upd_same, rfl, _, _, rfl, _, _, rfl, rfl, ?_⟩
        generalize upd H' T (.tup [.int (j : Int), y]) = H4 at e4 hx
        have e0 := e1.trans e4
        refine q_asgU (xs := due one two j) ?_ fun pd H5 npd e5 hpd => ?_
        · by_cases c : j < 28
          · rw [show due one two j = [one] from if_pos c]
            exact eu_if (b := true) (et_lt rfl (decide_eq_true (by omega))) (fun _ => eu_tup (ea_cons (ev_var rfl) ea_nil) (by show 1 ≤ 100000; decide)) (fun c => by cases c)
          · refine eu_if (b := false) (et_lt rfl (decide_eq_false (by omega))) (fun c => by cases c) fun _ => ?_
            by_cases c2 : j < 35
            · rw [show due one two j = [one, two] from by unfold due; rw [if_neg c, if_pos c2]]
              exact eu_if (b := true) (et_lt rfl (decide_eq_true (by omega))) (fun _ => eu_tup (ea_cons (ev_var rfl) (ea_cons (ev_var rfl) ea_nil)) (by show 2 ≤ 100000; decide)) (fun c => by cases c)
            · rw [show due one two j = [] from by unfold due; rw [if_neg c, if_neg c2]]
              exact eu_if (b := false) (et_lt rfl (decide_eq_false (by omega))) (fun c => by cases c) (fun _ => eu_tup ea_nil (by show 0 ≤ 100000; decide))
        have hx5 := hx.ext e5
        have e05 := e0.trans e5
        obtain ⟨dz, dI⟩ := its_due (j := j) ho ht
        refine q_when (b := false) (et_is (et_or (a := false) (b := false) (et_is (et_test (ev_op (ev_rpU (eu_cs (ea_cons (ev_var rfl) (ea_cons (ev_var rfl) ea_nil)) fun H6 e6 Q k => ⟨y, one, two, j, rfl, hj, hx5.ext e6, k⟩) (fun H6 e6 => dI H6 (e05.trans e6)) dz) (ev_rpP (ev_var rfl) hpd (fun H6 e6 => dI H6 (e05.trans e6)) dz) (rv_ne rfl))) (by simp)) fun _ => et_test (ev_neBls (zs := (List.range 36).map fun a => decide (j = a)) (el_isL (el_csL (ea_cons (ev_var rfl) ea_nil) fun H6 e6 Q k => ⟨y, _, fun a => decide (j = a), rfl, hx5.ext e6, S.ec j hj, fun a ha => S.kit j a hj ha, k⟩) kins_eq) (el_isL (el_lcR1 (fun _ => true) (fun a => .bl (decide (j = a))) (ea_cons ev_c ea_nil) (by decide) (fun _ => rfl) (fun a H6 e6 ha => et_yes) fun a H6 e6 ha _ => ev_is (ev_op (ev_var rfl) (ev_var rfl) (rv_eq rfl)) (by simp; omega)) given_eq))) rfl) (fun c => by cases c) fun _ H6 e6 => ?_
        have hx6 := hx5.ext e6
        have is : ∀ {σ : L2.St} {H7 : Hp} {c : V} {cv : Value} {b : Bool}, Ex H6 H7 → σ[4]? = some (some y) → ClsV c cv → PySem.W.kitOne K (.ref (Cs j)) cv = some b → Ev (tCB (rIsQ K) (tCons (tVar 4) (tCons (tC c) tNil))) σ H7 (.bl b) := fun e s hc hk => ev_isQ (ea_cons (ev_var s) (ea_cons ev_c ea_nil)) (hx6.ext e) hc (S.ec j hj) hk
        refine q_when (b := false) (et_is (et_or (a := false) (b := false) (et_is (et_not (et_B (is (Ex.refl _) rfl (ClsV.own _) (S.kP j hj)))) rfl) fun _ => et_is (et_not (et_B (is (Ex.refl _) rfl (ClsV.ty _) (S.kV j hj)))) rfl) rfl) (fun c => by cases c) fun _ H7 e7 => ?_
        have e67 := e7
        refine q_when (b := false) (et_is (et_test (ev_op (is e67 rfl (ClsV.own _) (S.kMis j hj)) (ev_chain ev_c (ev_var rfl) rv_I0 ev_c rv_I0) (rv_ne rfl))) (chain_eq j)) (fun c => by cases c) fun _ H8 e8 => ?_
        have e68 := e67.trans e8
        refine q_when (b := false) (et_is (et_or (a := false) (b := false) (et_B (is e68 rfl (ClsV.ty _) (S.kF j hj "LookupError" (by decide)))) fun _ => et_is (et_or (a := false) (b := false) (et_B (is e68 rfl (ClsV.ty _) (S.kF j hj "TypeError" (by decide)))) fun _ => et_B (is e68 rfl (ClsV.ty _) (S.kF j hj "ArithmeticError" (by decide)))) rfl) rfl) (fun c => by cases c) fun _ H9 e9 => ?_
        have e69 := e68.trans e9
        refine s_when (b := false) (et_is (et_or (a := false) (b := false) (et_B (is e69 rfl (ClsV.ty _) (S.kF j hj "RuntimeError" (by decide)))) fun _ => et_B (is e69 rfl (ClsV.ty _) (S.kF j hj "AttributeError" (by decide)))) rfl) (fun c => by cases c) fun _ H10 e10 => ?_
        exact ⟨_, _, _, _, rfl, (((e4.trans e5).trans e6).trans e69).trans e10⟩
      · obtain ⟨o3, o4, o5, o6, rfl, e3⟩ := pv
        exact ⟨_, _, _, _, _, rfl, e3⟩
    · obtain ⟨o2, o3, o4, o5, o6, rfl, e2⟩ := pv
      have e02 := e1.trans e2
      refine q_forX (fun xs H1 => AllX H1 xs [(M, some [("name", one)]), (M, some [("name", one)])]) (fun Q k => (elC_lst (eaC_cons (evC_mk (xs := [one]) (ns := ["name"]) (ea_cons (ev_var rfl) ea_nil) rfl) (eaC_cons (evC_mkK (xs := [one]) (ns := ["name"]) (ea_cons (ev_var rfl) ea_nil) rfl) eaC_nil)) (by show 2 ≤ 100000; decide)) H' (Ex.refl H') Q k) (fun l xs H1 i σ' H' => ∃ o2 o3 o4 o5 o6 : Option V, σ' = [some one, some two, o2, o3, o4, o5, o6] ∧ Ex H1 H') (fun l xs H1 e1 hl hm => ⟨_, _, _, _, _, rfl, Ex.refl H1⟩) (fun l xs H1 i σ' H' hl pv => ?_) (fun l vs H3 e3 hl av i x σ' H' hx pv => ?_) (fun l xs H3 e3 hM σ' H' pv => ?_)
      · obtain ⟨o2, o3, o4, o5, o6, rfl, e2⟩ := pv
        exact sq_of (e2 _ _ hl)
      · obtain ⟨o2, o3, o4, o5, o6, rfl, e4⟩ := pv
        have hi : i < 2 := by
          have h1 := (List.getElem?_eq_some_iff.mp hx).1
          have h2 : vs.length = 2 := av.1
          omega
        have hd : XcAt H' x (M, some [("name", one)]) := by
          rcases i with _ | _ | i
          · exact (av.2 0 x _ hx rfl).ext e4
          · exact (av.2 1 x _ hx rfl).ext e4
          · omega
        have e04 := (e02.trans e3).trans e4
        have ho4 := ho.ext e04
        refine q_when (b := false) (et_is (et_or (a := false) (b := false) (et_is (et_test (ev_op (ev_rpV (ev_xa (ev_var rfl) hd S.xfM S.noM rfl) ho4) (ev_rpV (ev_var rfl) ho4) (rv_ne rfl))) (by simp)) fun _ => et_is (et_test (ev_opL ev_c (el_csL (ea_cons (ev_var rfl) ea_nil) fun H6 e6 Q k => ⟨x, _, fun a => false, rfl, hd.ext e6, S.ecM, fun a ha => S.kitM a ha, k⟩) fun pz Hz hz ez => rv_isL (sq_of hz) rfl (by decide +kernel))) (by decide +kernel)) rfl) (fun c => by cases c) fun _ H6 e6 => ?_
        have hd6 := hd.ext e6
        refine s_when (b := false) (et_is (et_or (a := false) (b := false) (et_is (et_not (et_B (ev_isQ (ea_cons (ev_var rfl) (ea_cons ev_c ea_nil)) hd6 (ClsV.own _) S.ecM S.kMP))) rfl) fun _ => et_is (et_not (et_B (ev_isQ (ea_cons (ev_var rfl) (ea_cons ev_c ea_nil)) hd6 (ClsV.ty _) S.ecM S.kMV))) rfl) rfl) (fun c => by cases c) fun _ H7 e7 => ?_
        exact ⟨_, _, _, _, _, rfl, (e4.trans e6).trans e7⟩
      · obtain ⟨o2, o3, o4, o5, o6, rfl, e4⟩ := pv
        exact s_ret ev_c fun H5 e5 => k.go (((e02.trans e3).trans e4).trans e5)
end
end K00
end

section -- K00e
set_option linter.all false
set_option maxRecDepth 100000
set_option maxHeartbeats 4000000
namespace K00
open PySem PySem.Spec L2 Pk Evl
open PyProof.Rows hiding St
open TL (tl numL)
/-! ### the pen: a list of cells, the turn, what is left -/
def PenAt (c : Addr) (H : Hp) (p : Addr) (k : Nat) : Prop := ∃ (t l : Int) (ns : List Int), H p = some (.lst [.ref c, .int t, .int l]) ∧ H c = some (.lst (ns.map V.int)) ∧ c ≠ p ∧ ns.length ≤ 63 ∧ 0 ≤ t ∧ t + (k : Int) ≤ 2 ^ 40 ∧ 0 ≤ l
/-- what stands beside p stays -/
def Fr (p : Addr) (H H1 : Hp) : Prop := ∀ b o, b ≠ p → H b = some o → H1 b = some o
theorem Fr.of {p : Addr} {H H1 : Hp} (e : Ex H H1) : Fr p H H1 := fun b o _ h => e b o h
theorem Fr.trans {p : Addr} {H H1 H2 : Hp} (a : Fr p H H1) (b : Fr p H1 H2) : Fr p H H2 := fun x o n h => b x o n (a x o n h)
theorem Fr.upd {p : Addr} {H H1 : Hp} {o : HO} (a : Fr p H H1) : Fr p H (upd H1 p o) := fun x u n h => by rw [upd_ne n]; exact a x u n h
theorem PenAt.ext {c : Addr} {H H1 : Hp} {p : Addr} {k : Nat} (h : PenAt c H p k) (e : Ex H H1) : PenAt c H1 p k := by
  obtain ⟨t, l, ns, a, b, r⟩ := h
  exact ⟨t, l, ns, e _ _ a, e _ _ b, r⟩
theorem PenAt.upd {c : Addr} {H : Hp} {p b : Addr} {k : Nat} {o : HO} (h : PenAt c H p k) (np : b ≠ p) (nc : b ≠ c) : PenAt c (upd H b o) p k := by
  obtain ⟨t, l, ns, a, b, r⟩ := h
  exact ⟨t, l, ns, by rw [upd_ne (Ne.symm np)]; exact a, by rw [upd_ne (Ne.symm nc)]; exact b, r⟩
theorem PenAt.less {c : Addr} {H : Hp} {p : Addr} {k m : Nat} (h : PenAt c H p k) (e : m ≤ k) : PenAt c H p m := by
  obtain ⟨t, l, ns, a, b, n, z, t0, tk, l0⟩ := h
  exact ⟨t, l, ns, a, b, n, z, t0, by omega, l0⟩
/-- _law_pen -/
def spPen (K : PySem.W.Frag) : Sp := fun vs H Q _ => ∃ (s : Addr) (ns : List Int), vs = [.ref s] ∧ SqL K H s (ns.map V.int) ∧ ∀ p c H1, H p = none → Ex H H1 → PenAt c H1 p (2 ^ 40) → Q (.ref p) H1
/-- _law_draw -/
def spDraw : Sp := fun vs H Q _ => ∃ (p : Addr) (n : Int) (k : Nat) (c : Addr), vs = [.ref p, .int n] ∧ 0 < n ∧ n < 2 ^ 200 ∧ PenAt c H p (k + 1) ∧ ∀ r H1, 0 ≤ r → r < n → Fr p H H1 → PenAt c H1 p k → Q (.int r) H1
/-- _law_pick, out of a list, out of a text -/
def spPickL : Sp := fun vs H Q _ => ∃ (p a : Addr) (xs : List V) (k : Nat) (c : Addr), vs = [.ref p, .ref a] ∧ H a = some (.lst xs) ∧ a ≠ p ∧ xs ≠ [] ∧ xs.length ≤ 1000 ∧ PenAt c H p (k + 1) ∧ ∀ x H1, x ∈ xs → Fr p H H1 → PenAt c H1 p k → Q x H1
def spPickS : Sp := fun vs H Q _ => ∃ (p : Addr) (z : Str) (k : Nat) (pc : Addr), vs = [.ref p, .str z] ∧ z.length ≠ 0 ∧ z.length ≤ 1000 ∧ PenAt pc H p (k + 1) ∧ ∀ c H1, c ∈ tl z → Fr p H H1 → PenAt pc H1 p k → Q (.str ⟨#[c]⟩) H1
section
variable {P : Program} {w : World} {K : PySem.W.Frag} {mg : Str → Option Value} {base : Heap}
theorem scPen : FnScope ["_law_script", "_law_cell"] ["_law_script"] (defScope sPen) := ⟨rfl, rfl, rfl, by decide +kernel, rfl, by decide +kernel, by decide +kernel⟩
theorem cut_ints (ns : List Int) (lo hi : Option Int) : ∃ ms : List Int, cutV (ns.map V.int) lo hi = ms.map V.int := ⟨(ns.drop (HT.sIx (ns.map V.int).length 0 lo)).take (HT.sIx (ns.map V.int).length (ns.map V.int).length hi - HT.sIx (ns.map V.int).length 0 lo), by
  unfold cutV
  rw [List.map_take, List.map_drop]⟩
theorem ret_lst_c {tl : TE} {tr : TA} {D : Ends} {σ : L2.St} {H : Hp} (h : tl σ H fun x H1 => tr σ H1 fun vs H2 => (x :: vs).length ≤ sizeLine ∧ ∀ p, H2 p = none → D.rt (.ref p) (upd H2 p (.lst (x :: vs)))) : tRet (tLst (tCons tl tr)) D σ H := h
theorem ok_pen {f : Addr} {fd : FuncData} (F : Fun K "_law_pen" "_law_pen" sPen f fd) (B : Bi mg) : FnOk P w K mg base CX0 1 f fd ["_law_script"] (spPen K) := by
  refine F.ok scPen (fun vs H Q E h => ?_) (fun cdv A outer s H vs Q E hr h => ?_)
  · obtain ⟨x, _, rfl, _⟩ := h
    rfl
  · obtain ⟨x, ns, rfl, hx, kq⟩ := h
    have nd := scPen.nd
    refine ⟨_, (pss_one (ps_ret (pe_lst (pa_cons (pe_lc (own := [("_law_cell", 1)]) (g := gName 1) (by rfl) nd (pi_list (pe_slice sl_list (pv 0) po_none (po_some pe_int))) (blkOk_by (own := [("_law_cell", 1)]) (N := ["_law_script", "_law_cell"]) (sc := defScope sPen) (by decide +kernel)) (fun _ _ _ _ _ => pg_name (i := 1) nd rfl (Or.inl rfl)) (fun _ _ _ _ _ => pts_nil) (fun _ _ _ _ _ => (pe_callTy call_intI (by rfl) B.n_int (by decide +kernel) (pa_cons (pv 1) pa_nil)))) (pa_cons pe_int (pa_cons pe_int pa_nil)))))), ?_⟩
    obtain ⟨ms, hms⟩ := cut_ints ns none (some 63)
    have hl : ms.length ≤ 63 := by
      have h1 := congrArg List.length hms
      rw [List.length_map] at h1
      rw [← h1]
      unfold cutV
      have h2 : HT.sIx (ns.map V.int).length (ns.map V.int).length (some ((63 : Nat) : Int)) ≤ 63 := by rw [HT.sIx_nat]; omega
      have h3 : HT.sIx (ns.map V.int).length (ns.map V.int).length (some 63) ≤ 63 := h2
      rw [List.length_take]
      omega
    have esl : EvL (tSl (rSlL K) (tVar 0) tNoPart (tPart (tC (.int 63)))) (L2.start ["_law_script", "_law_cell"] [V.ref x]) H (ms.map V.int) := by
      rw [← hms]
      exact el_sl (ev_var rfl) eo_none (eo_some ev_c) hx
    have el := el_lcN (K := K) (te := tCB rInt1 (tCons (tVar 1) tNil)) (j := 1) (vs := [1]) (ms.map V.int) esl rfl (by rw [List.length_map]; omega) (fun _ => rfl) (fun i a b h1 h2 H1 e => by
      rw [h1] at h2
      cases h2
      rw [List.getElem?_map] at h1
      cases h3 : ms[i]? with
      | none => rw [h3] at h1; cases h1
      | some j =>
        rw [h3] at h1
        cases h1
        exact ev_cb (ea_cons (ev_var rfl) ea_nil) rc_int)
    refine ret_lst_c (el H (Ex.refl H) _ fun c H1 hc e1 h1 => ⟨sz (by show 3 ≤ 1000000; decide), fun p hp => ?_⟩)
    have nc : c ≠ p := fun z => by rw [z, hp] at h1; cases h1
    refine kq p c _ (fresh_back e1 hp) (e1.trans (Ex.new hp)) ⟨0, 0, ms, upd_same, ?_, nc, hl, by decide, by decide, by decide⟩
    rw [upd_ne nc]
    exact h1
theorem mulWb {i j : Int} {a b : Nat} (hi : i.natAbs < 2 ^ a) (hj : j.natAbs < 2 ^ b) (h : 0 < a ∧ 0 < b ∧ a + b ≤ 100000) : CMulW i j := by
  have h1 := PySem.Flt.log2_lt_of h.1 hi
  have h2 := PySem.Flt.log2_lt_of h.2.1 hj
  unfold CMulW
  omega
theorem mulW40 {i j : Int} (hi : i.natAbs < 2 ^ 40) (h0 : 0 ≤ j) (h1 : j < 2 ^ 40) : CMulW i j := mulWb hi (b := 40) (by omega) (by decide)
theorem scDraw : FnScope ["_law_pen_here", "_law_many", "_law_left", "_law_turn", "_law_cell", "_law_mixed"] ["_law_pen_here", "_law_many"] (defScope sDraw) := ⟨rfl, rfl, rfl, by decide +kernel, rfl, by decide +kernel, by decide +kernel⟩
theorem nb_ints {H : Hp} : ∀ ns : List Int, DpAll K H (ns.map V.int) (ns.map PyData.int)
  | [] => .nil
  | n :: r => .cons (.int n) (nb_ints r)
theorem eqv_nil (ns : List Int) : PyData.eqv (.list (ns.map PyData.int)) (.list []) = decide (ns = []) := by
  cases ns <;> simp [PyData.eqv, PyData.eqvAll]
/-- pen[i], the pen known -/
theorem ev_pen {H : Hp} {p c : Addr} {t l : Int} {σ : L2.St} {i : Nat} {v : V} (s0 : σ[0]? = some (some (.ref p))) (hp : H p = some (.lst [.ref c, .int t, .int l])) (hv : ([.ref c, .int t, .int l] : List V)[i]? = some v) : Ev (tOp (rIxL K) (tVar 0) (tC (.int (i : Int)))) σ H v := ev_op (ev_var s0) ev_c (rv_ixL (sq_of hp) (atI_nat hv))
theorem ok_draw {f : Addr} {fd : FuncData} (F : Fun K "_law_draw" "_law_draw" sDraw f fd) (B : Bi mg) : FnOk P w K mg base CX0 1 f fd ["_law_pen_here", "_law_many"] spDraw := by
  refine F.ok scDraw (fun vs H Q E h => ?_) (fun cdv A outer s H vs Q E hr h => ?_)
  · obtain ⟨p, n, k, pc, rfl, _⟩ := h
    rfl
  · obtain ⟨p, n, k, c, rfl, n0, nb, ⟨t, l, ns, hp, hc, ne, hn, t0, tk, l0⟩, kq⟩ := h
    have nd := scDraw.nd
    refine ⟨_, (pss_cons (ps_if (pt_cmpR op_gt (pe_ix ix_list (pv 0) pe_int (fun _ _ => rfl)) pe_int (nomark _))
(pss_cons (ps_set (i := 2) nd rfl (Or.inl rfl) (pe_ix ix_list (pv 0) pe_int (fun _ _ => rfl)))
(pss_cons (ps_asg (pe_op op_fdivZ (pe_callTy call_intI (by rfl) B.n_int (by decide +kernel) (pa_cons (pv 2) pa_nil)) (pv 1)) (pg_sub (pv 0) pe_int set_list))
(pss_one (ps_ret (pe_op op_mod (pe_callTy call_intI (by rfl) B.n_int (by decide +kernel) (pa_cons (pv 2) pa_nil)) (pv 1))))))
pss_nil)
(pss_cons (ps_set (i := 3) nd rfl (Or.inl rfl) (pe_ix ix_list (pv 0) pe_int (fun _ _ => rfl)))
(pss_cons (ps_asg (pe_op op_add (pv 3) pe_int) (pg_sub (pv 0) pe_int set_list))
(pss_cons (ps_set (i := 4) nd rfl (Or.inl rfl) (pe_op op_add (pe_op op_mulW pe_int (pv 3)) pe_int))
(pss_cons (ps_if (pt_cmpR (op_neD hr.units) (pe_ix ix_list (pv 0) pe_int (fun _ _ => rfl)) (pe_lst pa_nil) (nomark _))
(pss_one (ps_set (i := 4) nd rfl (Or.inl rfl) (pe_ix ix_list (pe_ix ix_list (pv 0) pe_int (fun _ _ => rfl)) (pe_op op_mod (pe_callTy call_intI (by rfl) B.n_int (by decide +kernel) (pa_cons (pv 3) pa_nil)) (pe_callB call_lenL (by rfl) B.n_len (by decide +kernel) (pa_cons (pe_ix ix_list (pv 0) pe_int (fun _ _ => rfl)) pa_nil))) (fun _ _ => rfl))))
pss_nil)
(pss_cons (ps_if (PW.pt (pw_and (pt_cmpR op_lt (pv 3) (pe_callB call_lenL (by rfl) B.n_len (by decide +kernel) (pa_cons (pe_ix ix_list (pv 0) pe_int (fun _ _ => rfl)) pa_nil)) (nomark _)) (pw_and1 (pt_cmpR op_ge (pe_callB call_absI (by rfl) B.n_abs (by decide +kernel) (pa_cons (pv 4) pa_nil)) (pe_op op_powW pe_int pe_int) (nomark _)))))
(pss_cons (ps_set (i := 2) nd rfl (Or.inl rfl) (pe_op op_sub (pe_callB call_absI (by rfl) B.n_abs (by decide +kernel) (pa_cons (pv 4) pa_nil)) (pe_op op_powW pe_int pe_int)))
(pss_cons (ps_asg (pe_op op_fdivZ (pe_callTy call_intI (by rfl) B.n_int (by decide +kernel) (pa_cons (pv 2) pa_nil)) (pv 1)) (pg_sub (pv 0) pe_int set_list))
(pss_one (ps_ret (pe_op op_mod (pe_callTy call_intI (by rfl) B.n_int (by decide +kernel) (pa_cons (pv 2) pa_nil)) (pv 1))))))
pss_nil)
(pss_cons (ps_set (i := 5) nd rfl (Or.inl rfl) (pe_op op_mod (pe_callTy call_intI (by rfl) B.n_int (by decide +kernel) (pa_cons (pe_op op_powW (pe_op op_add (pe_op op_add (pe_op op_mod (pe_callTy call_intI (by rfl) B.n_int (by decide +kernel) (pa_cons (pv 4) pa_nil)) pe_int) (pe_op op_mulW pe_int (pv 3))) pe_int) pe_int) pa_nil)) pe_int))
(pss_cons (ps_set (i := 5) nd rfl (Or.inl rfl) (pe_op op_mod (pe_callTy call_intI (by rfl) B.n_int (by decide +kernel) (pa_cons (pe_op op_powW (pe_op op_add (pe_op op_add (pe_op op_mulW (pv 5) (pe_op op_add (pe_op op_mulW pe_int (pv 3)) pe_int)) (pe_op op_mulW (pe_op op_mulW pe_int (pv 3)) (pv 3))) pe_int) pe_int) pa_nil)) pe_int))
(pss_one (ps_ret (pe_op op_mod (pe_callTy call_intI (by rfl) B.n_int (by decide +kernel) (pa_cons (pe_op op_fdivZ (pv 5) pe_int) pa_nil)) (pv 1)))))))))))), ?_⟩
    have dn : ∀ i : Int, CDivZ i n := fun i => divZ (a := 200) (by omega) (by omega) (by decide) (by decide)
    have pick : ∀ (σ : L2.St) (H1 : Hp) (t1 l1 : Int), σ[0]? = some (some (.ref p)) → σ[1]? = some (some (.int n)) → σ[2]? = some (some (.int l1)) → Fr p H H1 → H1 p = some (.lst [.ref c, .int t1, .int l]) → 0 ≤ t1 → t1 + (k : Int) ≤ 2 ^ 40 → 0 ≤ l1 →
        tSeq (tAsg (tOp (rI CDivZ fun i j => V.int (i.fdiv j)) (tCB rInt1 (tCons (tVar 2) tNil)) (tVar 1)) (gSub (tVar 0) (tC (.int 2)) rSetL)) (tRet (tOp (rI (fun _ j => 0 < j) fun i j => V.int (i % j)) (tCB rInt1 (tCons (tVar 2) tNil)) (tVar 1))) { nx := fun _ G => Q .non G, rt := Q } σ H1 := fun σ H1 t1 l1 s0 s1 s2 fr h1 t10 t1k l10 => by
      refine q_setL (j := 2) h1 (ev_op (ev_cb (ea_cons (ev_var s2) ea_nil) rc_int) (ev_var s1) (rv_I (dn l1))) (ev_var s0) ev_c (by show 2 < 3; decide) fun H2 e2 => ?_
      refine s_ret (ev_op (ev_cb (ea_cons (ev_var s2) ea_nil) rc_int) (ev_var s1) (rv_I n0)) fun H3 e3 => ?_
      refine kq _ H3 (Int.emod_nonneg _ (by omega)) (Int.emod_lt_of_pos _ n0) ((fr.trans (Fr.of e2)).upd.trans (Fr.of e3)) ⟨t1, l1.fdiv n, ns, e3 _ _ upd_same, e3 _ _ ?_, ne, hn, t10, t1k, Int.fdiv_nonneg l10 (by omega)⟩
      rw [upd_ne ne]
      exact e2 _ _ (fr _ _ ne hc)
    refine q_when (b := decide (l > 0)) (et_test (ev_op (ev_pen (i := 2) rfl hp rfl) ev_c rv_I0)) (fun c1 H1 e1 => ?_) (fun c1 H1 e1 => ?_)
    · refine q_asg (ev_pen (i := 2) rfl (e1 _ _ hp) rfl) fun H2 e2 => ?_
      exact pick _ H2 t l rfl rfl rfl (Fr.of (e1.trans e2)) (e2 _ _ (e1 _ _ hp)) t0 (by omega) l0
    · refine q_asg (ev_pen (i := 1) rfl (e1 _ _ hp) rfl) fun H2 e2 => ?_
      refine q_setL (j := 1) (e2 _ _ (e1 _ _ hp)) (ev_op (ev_var rfl) ev_c rv_I0) (ev_var rfl) ev_c (by show 1 < 3; decide) fun H3 e3 => ?_
      obtain ⟨Hx, hHx⟩ : ∃ Hx, Hx = upd H3 p (.lst (([.ref c, .int t, .int l] : List V).set 1 (.int (t + 1)))) := ⟨_, rfl⟩
      rw [← hHx]
      have fx : Fr p H Hx := by rw [hHx]; exact (Fr.of ((e1.trans e2).trans e3)).upd
      have hpx : Hx p = some (.lst [.ref c, .int (t + 1), .int l]) := by rw [hHx]; exact upd_same
      have hcx : Hx c = some (.lst (ns.map V.int)) := fx _ _ ne hc
      have t1 : t < 2 ^ 40 := by omega
      refine q_asg (ev_op (ev_op ev_c (ev_var rfl) (rv_I (mulW40 (by decide) t0 t1))) ev_c rv_I0) fun H4 e4 => ?_
      have dl : 0 ≤ t % (ns.length : Int) := by
        by_cases z : ns.length = 0
        · rw [z]; show 0 ≤ t % 0; rw [Int.emod_zero]; exact t0
        · exact Int.emod_nonneg _ (by omega)
      obtain ⟨u, hu1, hu2⟩ : ∃ u : Int, (ns ≠ [] → (ns.map V.int)[(t % (ns.length : Int)).toNat]? = some (.int u)) ∧ (ns = [] → u = 60149 * t + 733) := by
        by_cases z : ns = []
        · exact ⟨_, fun w => (w z).elim, fun _ => rfl⟩
        · have h1 : 0 < ns.length := List.length_pos_iff.mpr z
          have h2 : (t % (ns.length : Int)).toNat < ns.length := by
            have := Int.emod_lt_of_pos t (b := (ns.length : Int)) (by omega)
            omega
          exact ⟨ns[(t % (ns.length : Int)).toNat]'h2, fun _ => by rw [List.getElem?_map, List.getElem?_eq_getElem h2]; rfl, fun w => (z w).elim⟩
      refine q_ifAsg (v := .int u) (b := !decide (ns = [])) (et_test fun H5 e5 Q5 q5 => ?_) (fun b5 => ?_) (fun b5 => ?_) fun H6 e6 => ?_
      · refine ev_pen (i := 0) rfl (e4 _ _ hpx) rfl H5 e5 _ fun H6 e6 => ⟨(by decide), fun q hq => ?_⟩
        have nq : Ex H6 (upd H6 q (.lst [])) := Ex.new hq
        refine ⟨.list (ns.map PyData.int), .list [], .lst (sq_of (nq _ _ (e6 _ _ (e5 _ _ (e4 _ _ hcx))))) (nb_ints ns), .lst (sq_of upd_same) .nil, PySem.W.shaped_ints ns, PySem.W.shaped_ints [], ?_⟩
        rw [eqv_nil]
        exact q5 _ (e6.trans nq)
      · have z : ns ≠ [] := fun w => by rw [decide_eq_true w] at b5; cases b5
        refine ev_op (ev_pen (i := 0) rfl (e4 _ _ hpx) rfl) (ev_op (ev_cb (ea_cons (ev_var rfl) ea_nil) rc_int) (ev_len (ev_pen (i := 0) rfl (e4 _ _ hpx) rfl) (sq_of (e4 _ _ hcx))) (rv_I ?_)) (rv_ixL (sq_of (e4 _ _ hcx)) ?_)
        · rw [List.length_map]
          have : 0 < ns.length := List.length_pos_iff.mpr z
          show (0 : Int) < (ns.length : Int)
          omega
        · rw [List.length_map, ← Int.toNat_of_nonneg dl]
          exact atI_nat (hu1 z)
      · have z : ns = [] := by
          by_cases z : ns = []
          · exact z
          · rw [decide_eq_false z] at b5; cases b5
        rw [hu2 z]
        rfl
      · have e46 := e4.trans e6
        have hp6 := e46 _ _ hpx
        have hc6 := e46 _ _ hcx
        refine q_when (et_and (et_test (ev_op (ev_var rfl) (ev_len (ev_pen (i := 0) rfl hp6 rfl) (sq_of hc6)) rv_I0)) fun _ => et_test (ev_op (ev_cb (ea_cons (ev_var rfl) ea_nil) rc_abs) (ev_op ev_c ev_c (rv_I ⟨by decide, by decide, by decide⟩)) rv_I0)) (fun b H7 e7 => ?_) (fun b H7 e7 => ?_)
        · have b2 := of_decide_eq_true (Bool.and_eq_true_iff.mp b).2
          refine q_asg (ev_op (ev_cb (ea_cons (ev_var rfl) ea_nil) rc_abs) (ev_op ev_c ev_c (rv_I ⟨by decide, by decide, by decide⟩)) rv_I0) fun H8 e8 => ?_
          exact pick _ H8 (t + 1) _ rfl rfl rfl (fx.trans (Fr.of ((e46.trans e7).trans e8))) (e8 _ _ (e7 _ _ hp6)) (by omega) (by omega) (by omega)
        · have a1 : 0 ≤ u % 2147483549 ∧ u % 2147483549 < 2147483549 := ⟨Int.emod_nonneg _ (by decide), Int.emod_lt_of_pos _ (by decide)⟩
          refine q_asg (ev_op (ev_cb (ea_cons (ev_op (ev_op (ev_op (ev_op (ev_cb (ea_cons (ev_var rfl) ea_nil) rc_int) ev_c (rv_I (by decide : (0 : Int) < 2147483549))) (ev_op ev_c (ev_var rfl) (rv_I (mulW40 (by decide) t0 t1))) rv_I0) ev_c rv_I0) ev_c (rv_I ⟨by decide, by decide, by omega⟩)) ea_nil) rc_int) ev_c (rv_I (by decide : (0 : Int) < 2147483647))) fun H8 e8 => ?_
          obtain ⟨m, hm⟩ : ∃ m : Int, m = (u % 2147483549 + 69623 * t + 733) ^ (5 : Int).toNat % 2147483647 := ⟨_, rfl⟩
          rw [← hm]
          have m0 : 0 ≤ m ∧ m < 2147483647 := by rw [hm]; exact ⟨Int.emod_nonneg _ (by decide), Int.emod_lt_of_pos _ (by decide)⟩
          have w1 : 0 ≤ m * (2 * t + 1609) ∧ m * (2 * t + 1609) ≤ 2147483647 * (2 * 2 ^ 40 + 1609) := ⟨Int.mul_nonneg m0.1 (by omega), Int.mul_le_mul (by omega) (by omega) (by omega) (by decide)⟩
          have w2 : 0 ≤ 60149 * t * t ∧ 60149 * t * t ≤ (60149 * 2 ^ 40) * 2 ^ 40 := ⟨Int.mul_nonneg (by omega) t0, Int.mul_le_mul (by omega) (by omega) t0 (by decide)⟩
          refine q_asg (ev_op (ev_cb (ea_cons (ev_op (ev_op (ev_op (ev_op (ev_var rfl) (ev_op (ev_op ev_c (ev_var rfl) (rv_I (mulW40 (by decide) t0 t1))) ev_c rv_I0) (rv_I (mulWb (a := 31) (b := 50) (by omega) (by omega) (by decide)))) (ev_op (ev_op ev_c (ev_var rfl) (rv_I (mulW40 (by decide) t0 t1))) (ev_var rfl) (rv_I (mulWb (a := 60) (b := 50) (by omega) (by omega) (by decide)))) rv_I0) ev_c rv_I0) ev_c (rv_I ⟨by decide, by decide, by omega⟩)) ea_nil) rc_int) ev_c (rv_I (by decide : (0 : Int) < 2147483579))) fun H9 e9 => ?_
          refine s_ret (ev_op (ev_cb (ea_cons (ev_op (ev_var rfl) ev_c (rv_I ⟨by decide, by decide⟩)) ea_nil) rc_int) (ev_var rfl) (rv_I n0)) fun H10 e10 => ?_
          have ee := (((e46.trans e7).trans e8).trans e9).trans e10
          exact kq _ H10 (Int.emod_nonneg _ (by omega)) (Int.emod_lt_of_pos _ n0) (fx.trans (Fr.of ee)) ⟨t + 1, l, ns, ee _ _ hpx, ee _ _ hcx, ne, hn, by omega, by omega, l0⟩
theorem scPick : FnScope ["_law_pen_here", "_law_some"] ["_law_pen_here", "_law_some"] (defScope sPick) := ⟨rfl, rfl, rfl, by decide +kernel, rfl, by decide +kernel, by decide +kernel⟩
/-- a draw, called -/
theorem ok_pickL {f fD : Addr} {fd fdD : FuncData} (F : Fun K "_law_pick" "_law_pick" sPick f fd) (B : Bi mg) (G_draw : FnOk P w K mg base CX0 1 fD fdD ["_law_pen_here", "_law_many"] spDraw) (b_draw : Binds K fdD ["_law_pen_here", "_law_many"] []) (d_draw : Df K mg "_law_draw" fD) :
    FnOk P w K mg base CX0 2 f fd ["_law_pen_here", "_law_some"] spPickL := by
  refine F.ok scPick (fun vs H Q E h => ?_) (fun cdv A outer s H vs Q E hr h => ?_)
  · obtain ⟨p, a, xs, k, pc, rfl, _⟩ := h
    rfl
  · obtain ⟨p, a, xs, k, pc, rfl, ha, ne, hx, hz, hp, kq⟩ := h
    refine ⟨_, (pss_one (ps_ret (pe_ix ix_list (pv 1) (pe_cs (calls_fn G_draw (hr.mono (by decide)) b_draw .nil pass0) d_draw.1 d_draw.2 (pa_cons (pv 0) (pa_cons (pe_callB call_lenL (by rfl) B.n_len (by decide +kernel) (pa_cons (pv 1) pa_nil)) pa_nil))) (fun _ _ => rfl)))), ?_⟩
    have h0 : 0 < xs.length := List.length_pos_iff.mpr hx
    refine ⟨_, rfl, _, rfl, _, rfl, a, xs, rfl, Or.inl (sq_of ha), p, _, k, pc, rfl, (by omega), ?_, hp, fun r H1 r0 r1 fr hp1 => ?_⟩
    · exact Int.lt_of_le_of_lt (b := 1000) (by omega) (by decide)
    · obtain ⟨j, rfl⟩ := Int.eq_ofNat_of_zero_le r0
      have hj : j < xs.length := by omega
      exact ⟨a, xs, _, _, rfl, rfl, sq_of (fr a _ ne ha), atI_nat (List.getElem?_eq_getElem hj), kq _ _ (List.getElem_mem hj) fr hp1⟩
theorem ok_pickS {f fD : Addr} {fd fdD : FuncData} (F : Fun K "_law_pick" "_law_pick" sPick f fd) (B : Bi mg) (G_draw : FnOk P w K mg base CX0 1 fD fdD ["_law_pen_here", "_law_many"] spDraw) (b_draw : Binds K fdD ["_law_pen_here", "_law_many"] []) (d_draw : Df K mg "_law_draw" fD) :
    FnOk P w K mg base CX0 2 f fd ["_law_pen_here", "_law_some"] spPickS := by
  refine F.ok scPick (fun vs H Q E h => ?_) (fun cdv A outer s H vs Q E hr h => ?_)
  · obtain ⟨p, z, k, pc, rfl, _⟩ := h
    rfl
  · obtain ⟨p, z, k, pc, rfl, hx, hz, hp, kq⟩ := h
    refine ⟨_, (pss_one (ps_ret (pe_ix ix_str (pv 1) (pe_cs (calls_fn G_draw (hr.mono (by decide)) b_draw .nil pass0) d_draw.1 d_draw.2 (pa_cons (pv 0) (pa_cons (pe_callB call_lenT (by rfl) B.n_len (by decide +kernel) (pa_cons (pv 1) pa_nil)) pa_nil))) (fun _ _ => rfl)))), ?_⟩
    refine ⟨_, rfl, _, rfl, _, rfl, z, rfl, sz (by omega), p, _, k, pc, rfl, (by omega), ?_, hp, fun r H1 r0 r1 fr hp1 => ?_⟩
    · exact Int.lt_of_le_of_lt (b := 1000) (by omega) (by decide)
    · obtain ⟨j, rfl⟩ := Int.eq_ofNat_of_zero_le r0
      have hj : j < z.cps.toList.length := by
        have : z.length = z.cps.toList.length := Array.length_toList.symm
        omega
      exact ⟨z, _, _, rfl, rfl, sz (by omega), atI_nat (List.getElem?_eq_getElem hj), kq _ _ (List.getElem_mem hj) fr hp1⟩
end
end K00
end

section -- K00f
set_option linter.all false
set_option maxRecDepth 100000
set_option maxHeartbeats 4000000
namespace K00
open PySem PySem.Spec L2 Pk Evl
open PyProof.Rows hiding St
open TL (tl numL)
def letL : List Nat := tl (Str.ofString "abcdefghijklmnopqrstuvwxyz")
def figL : List Nat := tl (Str.ofString "0123456789")
def sigL : List Nat := tl (Str.ofString "abcdefghijklmnopqrstuvwxyz0123456789")
theorem sig_eq (c : Nat) : decide (c ∈ sigL) = (decide (c ∈ letL) || decide (c ∈ figL)) := by
  have h : sigL = letL ++ figL := by decide +kernel
  rw [h, Bool.eq_iff_iff]
  simp
def nameOk (l : List Nat) : Bool := match l with
  | [] => false
  | c :: r => decide (r.length + 1 ≤ 12) && (decide (c ∈ letL) && (c :: r).all fun x => decide (x ∈ sigL))
theorem nameOk_cons (c : Nat) (r : List Nat) : nameOk (c :: r) = (decide (r.length + 1 ≤ 12) && (decide (c ∈ letL) && (c :: r).all fun x => decide (x ∈ sigL))) := rfl
theorem spl_mem {c : Nat} : ∀ (l acc w : List Nat), w ∈ TL.spl [c] 0 acc l → w.length ≤ acc.length + l.length
  | [], acc, w, h => by
    rw [spl_end] at h
    rw [List.mem_singleton.mp h]
    simp
  | x :: r, acc, w, h => by
    rw [spl_cons] at h
    split at h
    · rcases List.mem_cons.mp h with e | h
      · rw [e]
        simp
      · have := spl_mem r [] w h
        simp at this ⊢
        omega
    · have := spl_mem r (acc ++ [x]) w h
      simp at this ⊢
      omega
theorem cut_len {c : Nat} {l w : List Nat} (h : w ∈ cutAt c l) : w.length ≤ l.length := by
  have := spl_mem l [] w h
  simpa using this
def labOk (l : List Nat) : Bool := decide ((cutAt 46 l).length ≤ 6) && (cutAt 46 l).all nameOk
/-- no text -/
def NotS (K : PySem.W.Frag) (H : Hp) (v : V) : Prop := ∃ T, TyX K H v T ∧ PySem.W.kitOne K T (.type "str") = some false
section
variable {K : PySem.W.Frag} {σ : L2.St} {H : Hp} {te ta tb : TE}
theorem NotI.ext {H2 : Hp} {v : V} (h : NotI K H v) (e : Ex H H2) : NotI K H2 v := by
  obtain ⟨T, t, r⟩ := h
  exact ⟨T, tyx_ext t e, r⟩
theorem NotS.ext {H2 : Hp} {v : V} (h : NotS K H v) (e : Ex H H2) : NotS K H2 v := by
  obtain ⟨T, t, r⟩ := h
  exact ⟨T, tyx_ext t e, r⟩
theorem ev_isi {t : TA} {v c : V} {T u : Value} {b : Bool} (h : EvA t σ H [v, c]) (ty : TyX K H v T) (hc : ClsV c u) (hk : PySem.W.kitOne K T u = some b) : Ev (tCB (rIsi K) t) σ H (.bl b) := fun H1 e Q k => h H1 e _ fun H2 e2 => ⟨v, c, T, u, b, rfl, hc, tyx_ext ty (e.trans e2), hk, k H2 e2⟩
theorem kS_str : PySem.W.kitOne K (.type "str") (.type "str") = some true := kit_ty (by decide +kernel)
theorem ev_isNon (h : Ev te σ H .non) : Ev (tOp Pk.rIsN te (tC .non)) σ H (.bl true) := ev_op h ev_c fun H1 _ Q k => ⟨rfl, by rw [show decide (V.non = V.non) = true by simp]; exact k H1 (Ex.refl H1)⟩
theorem ev_isNonI {i : Int} (h : Ev te σ H (.int i)) : Ev (tOp Pk.rIsN te (tC .non)) σ H (.bl false) := ev_op h ev_c fun H1 _ Q k => ⟨rfl, by rw [show decide (V.int i = V.non) = false by simp]; exact k H1 (Ex.refl H1)⟩
/-- optional bounds -/
def obV : Option Int → V
  | none => .non
  | some i => .int i
def loOk (o : Option Int) (i : Int) : Bool := match o with | none => true | some l => decide (l ≤ i)
def hiOk (o : Option Int) (i : Int) : Bool := match o with | none => true | some l => decide (i ≤ l)
end
def spWithin (K : PySem.W.Frag) : Sp := fun vs H Q _ => ∃ (v lo hi : V), vs = [v, lo, hi] ∧ ((∃ (i : Int) (l h : Option Int), v = .int i ∧ lo = obV l ∧ hi = obV h ∧ RetV (.bl (loOk l i && hiOk h i)) H Q) ∨ (NotI K H v ∧ RetV (.bl false) H Q))
def spName (K : PySem.W.Frag) : Sp := fun vs H Q _ => ∃ v : V, vs = [v] ∧ ((∃ z : Str, v = .str z ∧ z.length ≤ 1000 ∧ RetV (.bl (nameOk (tl z))) H Q) ∨ (NotS K H v ∧ RetV (.bl false) H Q))
def spLabel (K : PySem.W.Frag) : Sp := fun vs H Q _ => ∃ v : V, vs = [v] ∧ ((∃ z : Str, v = .str z ∧ z.length ≤ 1000 ∧ RetV (.bl (labOk (tl z))) H Q) ∨ (NotS K H v ∧ RetV (.bl false) H Q))
def spLName : Sp := fun vs H Q _ => ∃ z : Str, vs = [.str z] ∧ z.length ≤ 1000 ∧ RetV (.bl (nameOk (tl z))) H Q
def spLLabel : Sp := fun vs H Q _ => ∃ z : Str, vs = [.str z] ∧ z.length ≤ 1000 ∧ RetV (.bl (labOk (tl z))) H Q
section
variable {P : Program} {w : World} {K : PySem.W.Frag} {mg : Str → Option Value} {base : Heap}
theorem sc_within : FnScope ["value", "least", "most"] ["value", "least", "most"] (defScope sWithin) := ⟨rfl, rfl, rfl, by decide +kernel, rfl, by decide +kernel, by decide +kernel⟩
theorem ok_within {f fI : Addr} {fd fdI : FuncData} (F : Fun K "is_within" "is_within" sWithin f fd) (G_int : FnOk P w K mg base CX0 1 fI fdI ["value"] (spInt K)) (b_int : Binds K fdI ["value"] []) (d_int : Df K mg "is_integer" fI) : FnOk P w K mg base CX0 2 f fd ["value", "least", "most"] (spWithin K) := by
  refine F.ok sc_within (fun vs H Q E h => ?_) (fun cdv A outer s H vs Q E hr h => ?_)
  · obtain ⟨v, lo, hi, rfl, _⟩ := h
    rfl
  · obtain ⟨v, lo, hi, rfl, h⟩ := h
    have nd := sc_within.nd
    refine ⟨_, (pss_cons (ps_if (pt_not (pt_val (pe_cs (calls_fn G_int (hr.mono (by decide)) b_int .nil pass0) d_int.1 d_int.2 (pa_cons (pv 0) pa_nil))))
(pss_one (ps_ret pe_bl))
pss_nil)
(pss_one (ps_ret (pe_and (pe_or (pe_cmpR op_isN' (pv 1) pe_non (nomark _)) (pe_one (pe_cmpR op_ge (pv 0) (pv 1) (nomark _)))) (pe_one (pe_or (pe_cmpR op_isN' (pv 2) pe_non (nomark _)) (pe_one (pe_cmpR op_le (pv 0) (pv 2) (nomark _))))))))), ?_⟩
    rcases h with ⟨i, l, h, rfl, rfl, rfl, k⟩ | ⟨no, k⟩
    · refine q_when (b := false) (et_is (et_not (et_B (b := true) (ev_cs (ea_cons (ev_var rfl) ea_nil) fun H1 e1 Q q => ⟨_, rfl, .inl ⟨i, rfl, q H1 (Ex.refl H1)⟩⟩))) rfl) (fun c => by cases c) fun _ H1 e1 => ?_
      refine s_ret (ev_andV (a := loOk l i) (b := hiOk h i) ?_ fun _ => ?_) fun H2 e2 => k.go (e1.trans e2)
      · cases l with
        | none => exact ev_orV (a := true) (b := true) (ev_isNon (ev_var rfl)) fun c => by cases c
        | some j => exact ev_orV (a := false) (b := loOk (some j) i) (ev_isNonI (ev_var rfl)) fun _ => ev_op (ev_var rfl) (ev_var rfl) rv_I0
      · cases h with
        | none => exact ev_orV (a := true) (b := true) (ev_isNon (ev_var rfl)) fun c => by cases c
        | some j => exact ev_orV (a := false) (b := hiOk (some j) i) (ev_isNonI (ev_var rfl)) fun _ => ev_op (ev_var rfl) (ev_var rfl) rv_I0
    · refine q_when (b := true) (et_is (et_not (et_B (b := false) (ev_cs (ea_cons (ev_var rfl) ea_nil) fun H1 e1 Q q => ⟨_, rfl, .inr ⟨no.ext e1, q H1 (Ex.refl H1)⟩⟩))) rfl) (fun _ H1 e1 => ?_) (fun c => by cases c)
      exact s_ret ev_c fun H2 e2 => k.go (e1.trans e2)
theorem mem_cps {c : Nat} {z : Str} : decide (c ∈ z.cps.toList) = decide (c ∈ tl z) := rfl
theorem sc_name : FnScope ["value", "sign"] ["value"] (defScope sIsName) := ⟨rfl, rfl, rfl, by decide +kernel, rfl, by decide +kernel, by decide +kernel⟩
theorem ok_name {f : Addr} {fd : FuncData} (F : Fun K "is_name" "is_name" sIsName f fd) (B : Bi mg) (vL : ∃ u, mg "_LETTERS" = some u ∧ RelV (.str "abcdefghijklmnopqrstuvwxyz") u) (vS : ∃ u, mg "_NAME_SIGNS" = some u ∧ RelV (.str "abcdefghijklmnopqrstuvwxyz0123456789") u) (vM : ∃ u, mg "_MOST_LETTERS" = some u ∧ RelV (.int 12) u) :
    FnOk P w K mg base CX0 1 f fd ["value"] (spName K) := by
  refine F.ok sc_name (fun vs H Q E h => ?_) (fun cdv A outer s H vs Q E hr h => ?_)
  · obtain ⟨v, rfl, _⟩ := h
    rfl
  · obtain ⟨v, rfl, h⟩ := h
    have nd := sc_name.nd
    refine ⟨_, (pss_cons (ps_if (PW.pt (pw_or (pt_not (pt_val (pe_callB call_isi (by rfl) B.n_isinstance (by decide +kernel) (pa_cons (pv 0) (pa_cons (pe_tyname "str" B.n_str (by decide +kernel)) pa_nil))))) (pw_or1 (pt_not (pt_chain op_le op_le pe_int (pe_callB call_lenT (by rfl) B.n_len (by decide +kernel) (pa_cons (pv 0) pa_nil)) (pe_gv vM))))))
(pss_one (ps_ret pe_bl))
pss_nil)
(pss_one (ps_ret (pe_and (pe_cmpR op_inS (pe_ix ix_str (pv 0) pe_int (fun _ _ => rfl)) (pe_gv vL) rfl) (pe_one (pe_callB (cr_all rfl) (by rfl) B.n_all (by decide +kernel) (pa_cons (pe_lc (own := [("sign", 1)]) (g := gName 1) (by rfl) nd (pi_str (pv 0)) (blkOk_by (own := [("sign", 1)]) (N := ["value", "sign"]) (sc := (defScope sIsName)) (by decide +kernel)) (fun _ _ _ _ _ => pg_name (i := 1) nd rfl (Or.inl rfl)) (fun _ _ _ _ _ => pts_nil) (fun _ _ _ _ _ => (pe_cmpR op_inS (pv 1) (pe_gv vS) rfl))) pa_nil))))))), ?_⟩
    rcases h with ⟨z, rfl, hz, k⟩ | ⟨⟨T, ty, hk⟩, k⟩
    · have hl := TL.len_tl z
      have t1 := et_chain (σ := start ["value", "sign"] [V.str z]) (H := H) (ta := tC (.int 1)) (tb := tCB rLenT (tCons (tVar 0) tNil)) (tc := tC (.int 12)) ev_c (ev_cb (ea_cons (ev_var rfl) ea_nil) (rc_lenT (by omega))) (rv_I0 (g := fun i j => .bl (decide (i ≤ j)))) ev_c (rv_I0 (g := fun i j => .bl (decide (i ≤ j))))
      cases hw : tl z with
      | nil =>
        rw [hw] at hl k
        have h0 : z.length = 0 := hl
        rw [h0] at t1
        refine q_when (b := true) (et_is (et_or (a := false) (b := true) (et_is (et_not (et_B (ev_isi (ea_cons (ev_var rfl) (ea_cons ev_c ea_nil)) (.base (.str z)) (ClsV.ty "str") kS_str))) rfl) fun _ => et_is (et_not t1) rfl) rfl) (fun _ H1 e1 => ?_) (fun c => by cases c)
        exact s_ret ev_c fun H2 e2 => k.go (e1.trans e2)
      | cons c r =>
        rw [hw] at hl k
        have h1 : z.length = r.length + 1 := hl
        by_cases h12 : r.length + 1 ≤ 12
        · have en : nameOk (c :: r) = (decide (c ∈ letL) && (c :: r).all fun x => decide (x ∈ sigL)) := by
            rw [nameOk_cons, decide_eq_true h12, Bool.true_and]
          rw [en] at k
          refine q_when (b := false) (et_is (et_or (a := false) (b := false) (et_is (et_not (et_B (ev_isi (ea_cons (ev_var rfl) (ea_cons ev_c ea_nil)) (.base (.str z)) (ClsV.ty "str") kS_str))) rfl) fun _ => et_is (et_not t1) (by rw [h1]; simp; omega)) rfl) (fun c => by cases c) fun _ H1 e1 => ?_
          refine s_ret (ev_andV (a := decide (c ∈ letL)) (b := (c :: r).all fun x => decide (x ∈ sigL)) (ev_op (ev_op (ev_var rfl) ev_c (rv_ixS (c := c) (by omega) (atI_nat (j := 0) (by show (tl z)[0]? = some c; rw [hw] <;> rfl)))) ev_c rv_inS) fun _ => ev_is (ev_all (bs := (tl z).map fun x => decide (x ∈ sigL)) (el_lcS _ (ev_var rfl) ?_ ?_ (fun x => rfl) fun i c y hc hy H2 e2 => ?_)) ?_) fun H2 e2 => k.go (e1.trans e2)
          · simp [tl]
          · have : z.cps.size ≤ 1000 := hz
            omega
          · have e : y = V.bl (decide (c ∈ (Str.ofString "abcdefghijklmnopqrstuvwxyz0123456789").cps.toList)) := by
              rw [List.getElem?_map, List.getElem?_map] at hy
              have hc' : (tl z)[i]? = some c := by simpa [tl] using hc
              rw [hc'] at hy
              exact (Option.some.inj hy).symm
            rw [e]
            exact ev_op (ev_var rfl) ev_c rv_inS
          · rw [hw, List.all_map]
            rfl
        · have en : nameOk (c :: r) = false := by
            rw [nameOk_cons, decide_eq_false h12, Bool.false_and]
          rw [en] at k
          refine q_when (b := true) (et_is (et_or (a := false) (b := true) (et_is (et_not (et_B (ev_isi (ea_cons (ev_var rfl) (ea_cons ev_c ea_nil)) (.base (.str z)) (ClsV.ty "str") kS_str))) rfl) fun _ => et_is (et_not t1) (by rw [h1]; simp; omega)) rfl) (fun _ H1 e1 => ?_) (fun c => by cases c)
          exact s_ret ev_c fun H2 e2 => k.go (e1.trans e2)
    · refine q_when (b := true) (et_is (et_or (a := true) (b := true) (et_is (et_not (et_B (ev_isi (ea_cons (ev_var rfl) (ea_cons ev_c ea_nil)) ty (ClsV.ty "str") hk))) rfl) fun c => by cases c) rfl) (fun _ H1 e1 => ?_) (fun c => by cases c)
      exact s_ret ev_c fun H2 e2 => k.go (e1.trans e2)
theorem sc_label : FnScope ["value", "names", "name"] ["value"] (defScope sIsLabel) := ⟨rfl, rfl, rfl, by decide +kernel, rfl, by decide +kernel, by decide +kernel⟩
theorem ok_label {f fN : Addr} {fd fdN : FuncData} (F : Fun K "is_label" "is_label" sIsLabel f fd) (B : Bi mg) (vN : ∃ u, mg "_MOST_NAMES" = some u ∧ RelV (.int 6) u) (G_name : FnOk P w K mg base CX0 1 fN fdN ["value"] (spName K)) (b_name : Binds K fdN ["value"] []) (d_name : Df K mg "is_name" fN) :
    FnOk P w K mg base CX0 2 f fd ["value"] (spLabel K) := by
  refine F.ok sc_label (fun vs H Q E h => ?_) (fun cdv A outer s H vs Q E hr h => ?_)
  · obtain ⟨v, rfl, _⟩ := h
    rfl
  · obtain ⟨v, rfl, h⟩ := h
    have nd := sc_label.nd
    refine ⟨_, (pss_cons (ps_if (pt_not (pt_val (pe_callB call_isi (by rfl) B.n_isinstance (by decide +kernel) (pa_cons (pv 0) (pa_cons (pe_tyname "str" B.n_str (by decide +kernel)) pa_nil)))))
(pss_one (ps_ret pe_bl))
pss_nil)
(pss_cons (ps_set (i := 1) nd rfl (Or.inl rfl) (pe_splitN (pv 0) pe_str))
(pss_one (ps_ret (pe_and (pe_cmpR op_le (pe_callB call_lenL (by rfl) B.n_len (by decide +kernel) (pa_cons (pv 1) pa_nil)) (pe_gv vN) (nomark _)) (pe_one (pe_callB (cr_all rfl) (by rfl) B.n_all (by decide +kernel) (pa_cons (pe_lc (own := [("name", 2)]) (g := gName 2) (by rfl) nd (pi_list (pv 1)) (blkOk_by (own := [("name", 2)]) (N := ["value", "names", "name"]) (sc := (defScope sIsLabel)) (by decide +kernel)) (fun _ _ _ _ _ => pg_name (i := 2) nd rfl (Or.inl rfl)) (fun _ _ _ _ _ => pts_nil) (fun _ _ _ _ _ => (pe_cs (calls_fn G_name (hr.mono (by decide)) b_name .nil pass0) d_name.1 d_name.2 (pa_cons (pv 2) pa_nil)))) pa_nil)))))))), ?_⟩
    rcases h with ⟨z, rfl, hz, k⟩ | ⟨⟨T, ty, hk⟩, k⟩
    · have hl := TL.len_tl z
      have hs : (Txt.split z (Str.ofString ".")).map tl = cutAt 46 (tl z) := split_tl (by decide +kernel) (by decide) z
      obtain ⟨ws, hws⟩ : ∃ ws, ws = Txt.split z (Str.ofString ".") := ⟨_, rfl⟩
      rw [← hws] at hs
      have hlen : ws.length = (cutAt 46 (tl z)).length := by rw [← hs, List.length_map]
      have hcl : (cutAt 46 (tl z)).length ≤ (tl z).length + 1 := spl_count 46 (tl z) []
      have hmem : ∀ y ∈ ws, y.length ≤ 1000 := fun y hy => by
        have h1 : tl y ∈ cutAt 46 (tl z) := by rw [← hs]; exact List.mem_map.mpr ⟨y, hy, rfl⟩
        have h2 := cut_len h1
        rw [TL.len_tl]
        omega
      refine q_when (b := false) (et_is (et_not (et_B (ev_isi (ea_cons (ev_var rfl) (ea_cons ev_c ea_nil)) (.base (.str z)) (ClsV.ty "str") kS_str))) rfl) (fun c => by cases c) fun _ H1 e1 => ?_
      refine q_asgL (xs := ws.map V.str) ?_ fun p H2 np e2 hp => ?_
      · rw [hws]
        exact el_split (ev_var rfl) ev_c (by decide +kernel) (by omega)
      · refine s_ret (ev_is (ev_andV (a := decide (ws.length ≤ 6)) (b := (ws.map fun y => nameOk (tl y)).all id) (ev_is (ev_op (ev_len (ev_var rfl) (sq_of hp)) ev_c rv_I0) (by rw [List.length_map]; simp; omega)) fun _ => ev_all (bs := ws.map fun y => nameOk (tl y)) (el_lcM _ (ev_var rfl) (sq_of hp) (by simp) (by rw [List.length_map]; omega) (fun x => rfl) fun i x y hx hy H3 e3 => ?_)) (w := .bl (labOk (tl z))) ?_) fun H4 e4 => k.go ((e1.trans e2).trans e4)
        · rw [List.getElem?_map] at hx
          cases hi : ws[i]? with
          | none => rw [hi] at hx; cases hx
          | some u =>
            rw [hi] at hx
            cases hx
            rw [List.getElem?_map, List.getElem?_map, hi] at hy
            cases hy
            exact ev_cs (ea_cons (ev_var rfl) ea_nil) fun H5 e5 Q q => ⟨_, rfl, .inl ⟨u, rfl, hmem u (List.mem_of_getElem? hi), fun H6 e6 => q H6 e6⟩⟩
        · unfold labOk
          rw [← hs, List.length_map, List.all_map, List.all_map]
          rfl
    · refine q_when (b := true) (et_is (et_not (et_B (ev_isi (ea_cons (ev_var rfl) (ea_cons ev_c ea_nil)) ty (ClsV.ty "str") hk))) rfl) (fun _ H1 e1 => ?_) (fun c => by cases c)
      exact s_ret ev_c fun H2 e2 => k.go (e1.trans e2)
theorem q_par {i j : Nat} {ta : TA} {σ : L2.St} {H : Hp} {v u : V} {tz : TS} {D : Ends} (h : EvA ta σ H [v, u]) (k : ∀ H1, Ex H H1 → tz D ((σ.set i (some v)).set j (some u)) H1) : tSeq (tPar i j ta) tz D σ H := h H (Ex.refl H) _ fun H1 e => ⟨v, u, rfl, k H1 e⟩
theorem q_asgTup {i j : Nat} {te : TE} {σ : L2.St} {H : Hp} {v u : V} {tz : TS} {D : Ends} (h : EvU te σ H [v, u]) (k : ∀ H1, Ex H H1 → tz D ((σ.set i (some v)).set j (some u)) H1) : tSeq (tAsg te (gTup K 2 (gCons (gName i) (gCons (gName j) gNil)))) tz D σ H := h H (Ex.refl H) _ fun p H1 np e hp => ⟨p, _, rfl, st_of hp, rfl, _, _, rfl, _, _, rfl, rfl, k H1 e⟩
theorem s_parL {i j : Nat} {t1 : TE} {σ : L2.St} {H : Hp} {xs : List V} {u : V} {D : Ends} (h : EvL t1 σ H xs) (k : ∀ p H1, H p = none → Ex H H1 → H1 p = some (.lst xs) → D.nx ((σ.set i (some (.ref p))).set j (some u)) H1) : tPar i j (tCons t1 (tCons (tC u) tNil)) D σ H := h H (Ex.refl H) _ fun p H1 np e hp => ⟨.ref p, u, rfl, k p H1 np e hp⟩
theorem q_parLc {i j : Nat} {t1 : TE} {σ : L2.St} {H : Hp} {xs : List V} {u : V} {tz : TS} {D : Ends} (h : EvL t1 σ H xs) (k : ∀ p H1, H p = none → Ex H H1 → H1 p = some (.lst xs) → tz D ((σ.set i (some (.ref p))).set j (some u)) H1) : tSeq (tPar i j (tCons t1 (tCons (tC u) tNil))) tz D σ H := h H (Ex.refl H) _ fun p H1 np e hp => ⟨.ref p, u, rfl, k p H1 np e hp⟩
theorem q_forS {z : Str} {tx : TE} {σ : L2.St} {H : Hp} {j : Nat} {tu tz : TS} {D : Ends} (h : Ev tx σ H (.str z)) (Pv : Nat → L2.St → Hp → Prop) (h0 : ∀ H1, Ex H H1 → Pv 0 σ H1)
    (hs : ∀ i c σ' H', z.cps[i]? = some c → Pv i σ' H' → tu { D with nx := Pv (i + 1), ct := Pv (i + 1), bk := tz D } (σ'.set j (some (.str ⟨#[c]⟩))) H') (hd : ∀ σ' H', Pv z.cps.size σ' H' → tz D σ' H') : tSeq (tFor (iStr tx) (gName j) tu) tz D σ H :=
  h H (Ex.refl H) _ fun H1 e => ⟨z, rfl, for_it (D := { D with nx := tz D }) walk_str Pv (h0 H1 e) (fun _ _ _ _ _ => trivial) (fun i x σ' H2 H3 hi pv y => by
    obtain ⟨rfl, c, hc, rfl⟩ := y
    exact hs i c σ' _ hc pv) hd⟩
theorem take_snoc {l : List Nat} {i c : Nat} (h : l[i]? = some c) : l.take (i + 1) = l.take i ++ [c] := Pk.take_succ' h
theorem sc_lname : FnScope ["_law_word_here", "_law_letters", "_law_figures", "_law_sign"] ["_law_word_here"] (defScope sLName) := ⟨rfl, rfl, rfl, by decide +kernel, rfl, by decide +kernel, by decide +kernel⟩
theorem ok_lname {f : Addr} {fd : FuncData} (F : Fun K "_law_is_name" "_law_is_name" sLName f fd) (B : Bi mg) : FnOk P w K mg base CX0 1 f fd ["_law_word_here"] spLName := by
  refine F.ok sc_lname (fun vs H Q E h => ?_) (fun cdv A outer s H vs Q E hr h => ?_)
  · obtain ⟨z, rfl, _⟩ := h
    rfl
  · obtain ⟨z, rfl, hz, k⟩ := h
    have nd := sc_lname.nd
    refine ⟨_, (pss_cons (ps_asg (pe_tup (pa_cons pe_str (pa_cons pe_str pa_nil))) (pg_tup (by rfl) (pgs_cons (pg_name (i := 1) nd rfl (Or.inl rfl)) (pgs_cons (pg_name (i := 2) nd rfl (Or.inl rfl)) pgs_nil))))
(pss_cons (ps_if (PW.pt (pw_or (pt_cmpR op_lt (pe_callB call_lenT (by rfl) B.n_len (by decide +kernel) (pa_cons (pv 0) pa_nil)) pe_int (nomark _)) (pw_or (pt_cmpR op_gt (pe_callB call_lenT (by rfl) B.n_len (by decide +kernel) (pa_cons (pv 0) pa_nil)) pe_int (nomark _)) (pw_or1 (pt_cmpR op_notInS (pe_ix ix_str (pv 0) pe_int (fun _ _ => rfl)) (pv 1) rfl)))))
(pss_one (ps_ret pe_bl))
pss_nil)
(pss_cons (ps_for PassesOwn.never rfl (pi_str (pv 0)) (pg_name (i := 3) nd rfl (Or.inl rfl))
(pss_one (ps_if (PW.pt (pw_and (pt_cmpR op_notInS (pv 3) (pv 1) rfl) (pw_and1 (pt_cmpR op_notInS (pv 3) (pv 2) rfl))))
(pss_one (ps_ret pe_bl))
pss_nil)))
(pss_one (ps_ret pe_bl))))), ?_⟩
    have hl := TL.len_tl z
    have cz : ∀ {i c : Nat}, z.cps[i]? = some c → (tl z)[i]? = some c := fun {i c} h => by simpa [tl] using h
    refine q_asgTup (eu_tup (ea_cons ev_c (ea_cons ev_c ea_nil)) (by show 2 ≤ 100000; decide)) fun H1 e1 => ?_
    have tlen : ∀ {σ : L2.St} {H2 : Hp}, σ[0]? = some (some (.str z)) → Ev (tCB rLenT (tCons (tVar 0) tNil)) σ H2 (.int (z.length : Int)) := fun s => ev_cb (ea_cons (ev_var s) ea_nil) (rc_lenT (by omega))
    cases hw : tl z with
    | nil =>
      rw [hw] at hl k
      have h0 : z.length = 0 := hl
      refine q_when (b := true) (et_is (et_or (a := true) (b := true) (et_is (et_test (ev_op (tlen rfl) ev_c rv_I0)) (by rw [h0]; rfl)) fun c => by cases c) rfl) (fun _ H2 e2 => ?_) (fun c => by cases c)
      exact s_ret ev_c fun H3 e3 => k.go ((e1.trans e2).trans e3)
    | cons c r =>
      rw [hw] at hl
      have h1 : z.length = r.length + 1 := hl
      have t0 : EvT (tTest (tOp (rI0 fun i j => V.bl (decide (i < j))) (tCB rLenT (tCons (tVar 0) tNil)) (tC (.int 1)))) [some (V.str z), some (V.str "abcdefghijklmnopqrstuvwxyz"), some (V.str "0123456789"), none] H1 false := et_is (et_test (ev_op (tlen rfl) ev_c rv_I0)) (decide_eq_false (by rw [h1]; omega))
      have t2 : EvT (tTest (tOp rNotInS (tOp rIxS (tVar 0) (tC (.int 0))) (tVar 1))) [some (V.str z), some (V.str "abcdefghijklmnopqrstuvwxyz"), some (V.str "0123456789"), none] H1 (!decide (c ∈ letL)) := et_test (ev_op (ev_op (ev_var rfl) ev_c (rv_ixS (c := c) (by omega) (atI_nat (j := 0) (by show (tl z)[0]? = some c; rw [hw] <;> rfl)))) (ev_var rfl) rv_notInS)
      by_cases h12 : r.length + 1 ≤ 12
      · have t1 : EvT (tTest (tOp (rI0 fun i j => V.bl (decide (i > j))) (tCB rLenT (tCons (tVar 0) tNil)) (tC (.int 12)))) [some (V.str z), some (V.str "abcdefghijklmnopqrstuvwxyz"), some (V.str "0123456789"), none] H1 false := et_is (et_test (ev_op (tlen rfl) ev_c rv_I0)) (decide_eq_false (by rw [h1]; omega))
        by_cases hc : c ∈ letL
        · have en : nameOk (tl z) = (tl z).all fun x => decide (x ∈ sigL) := by
            rw [hw, nameOk_cons, decide_eq_true h12, decide_eq_true hc, Bool.true_and, Bool.true_and]
          rw [en] at k
          refine q_when (b := false) (et_is (et_or (a := false) (b := false) t0 fun _ => et_is (et_or (a := false) (b := false) t1 fun _ => et_is t2 (by rw [decide_eq_true hc]; rfl)) rfl) rfl) (fun c => by cases c) fun _ H2 e2 => ?_
          refine q_forS (ev_var rfl) (fun i σ' H' => ∃ o : Option V, σ' = [some (V.str z), some (V.str "abcdefghijklmnopqrstuvwxyz"), some (V.str "0123456789"), o] ∧ Ex H H' ∧ ((tl z).take i).all (fun x => decide (x ∈ sigL)) = true) (fun H3 e3 => ⟨_, rfl, (e1.trans e2).trans e3, rfl⟩) (fun i d σ' H' hd pv => ?_) (fun σ' H' pv => ?_)
          · obtain ⟨o, rfl, e3, ha⟩ := pv
            have hd' := cz hd
            refine s_when (b := !decide (d ∈ sigL)) (et_is (et_and (a := !decide (d ∈ letL)) (b := !decide (d ∈ figL)) (et_test (ev_op (ev_var rfl) (ev_var rfl) rv_notInS)) fun _ => et_test (ev_op (ev_var rfl) (ev_var rfl) rv_notInS)) (by rw [sig_eq, Bool.not_or])) (fun hb H4 e4 => ?_) (fun hb H4 e4 => ?_)
            · have no : ((tl z).all fun x => decide (x ∈ sigL)) = false := by
                rw [List.all_eq_false]
                exact ⟨d, List.mem_of_getElem? hd', by simpa using hb⟩
              rw [no] at k
              exact s_ret ev_c fun H5 e5 => k.go ((e3.trans e4).trans e5)
            · refine ⟨_, rfl, e3.trans e4, ?_⟩
              rw [take_snoc hd', List.all_append, ha]
              simpa using hb
          · obtain ⟨o, rfl, e3, ha⟩ := pv
            have hz2 : z.cps.size = (tl z).length := by simp [tl]
            rw [hz2, List.take_length] at ha
            rw [ha] at k
            exact s_ret ev_c fun H5 e5 => k.go (e3.trans e5)
        · have en : nameOk (tl z) = false := by
            rw [hw, nameOk_cons, decide_eq_false hc, Bool.false_and, Bool.and_false]
          rw [en] at k
          refine q_when (b := true) (et_is (et_or (a := false) (b := true) t0 fun _ => et_is (et_or (a := false) (b := true) t1 fun _ => et_is t2 (by rw [decide_eq_false hc]; rfl)) rfl) rfl) (fun _ H2 e2 => ?_) (fun c => by cases c)
          exact s_ret ev_c fun H3 e3 => k.go ((e1.trans e2).trans e3)
      · have t1 : EvT (tTest (tOp (rI0 fun i j => V.bl (decide (i > j))) (tCB rLenT (tCons (tVar 0) tNil)) (tC (.int 12)))) [some (V.str z), some (V.str "abcdefghijklmnopqrstuvwxyz"), some (V.str "0123456789"), none] H1 true := et_is (et_test (ev_op (tlen rfl) ev_c rv_I0)) (decide_eq_true (by rw [h1]; omega))
        have en : nameOk (tl z) = false := by
          rw [hw, nameOk_cons, decide_eq_false h12, Bool.false_and]
        rw [en] at k
        refine q_when (b := true) (et_is (et_or (a := false) (b := true) t0 fun _ => et_is (et_or (a := true) (b := true) t1 fun c => by cases c) rfl) rfl) (fun _ H2 e2 => ?_) (fun c => by cases c)
        exact s_ret ev_c fun H3 e3 => k.go ((e1.trans e2).trans e3)
end
end K00
end

section -- K00g
set_option linter.all false
set_option maxRecDepth 100000
set_option maxHeartbeats 4000000
namespace K00
open PySem PySem.Spec L2 Pk Evl
open PyProof.Rows hiding St
open TL (tl numL)
section
variable {P : Program} {w : World} {K : PySem.W.Frag} {mg : Str → Option Value} {base : Heap} {σ : L2.St} {H : Hp} {te ta tb : TE}
theorem ev_eqLenL {xs : List V} (ha : EvL ta σ H xs) (hb : EvL tb σ H []) : Ev (tOp rEqLen ta tb) σ H (.bl (decide (xs.length = 0))) := ev_opLL ha hb fun p q H1 hp hq e => fun H2 e2 Q k => ⟨p, q, xs, [], rfl, rfl, e2 _ _ hp, e2 _ _ hq, .inr rfl, k H2 (Ex.refl H2)⟩
theorem given_none {ws : List Str} (v : Nat → V) : decide ((given ws.length (fun i => match ws[i]? with | some y => !nameOk (tl y) | none => false) v).length = 0) = ws.all fun y => nameOk (tl y) := by
  rw [Bool.eq_iff_iff, decide_eq_true_iff, List.all_eq_true]
  unfold given
  rw [List.length_map, List.length_eq_zero_iff, List.filter_eq_nil_iff]
  constructor
  · intro h y hy
    obtain ⟨i, hi⟩ := List.mem_iff_getElem?.mp hy
    have hl : i < ws.length := (List.getElem?_eq_some_iff.mp hi).1
    have g := h i (List.mem_range.mpr hl)
    simp only [hi] at g
    simpa using g
  · intro h i hi
    cases hw : ws[i]? with
    | none => simp
    | some y =>
      simp [h y (List.mem_of_getElem? hw)]
theorem sc_llabel : FnScope ["_law_word_here", "_law_names", "_law_begun", "_law_sign", "_law_name"] ["_law_word_here"] (defScope sLLabel) := ⟨rfl, rfl, rfl, by decide +kernel, rfl, by decide +kernel, by decide +kernel⟩
theorem ok_llabel {f fN : Addr} {fd fdN : FuncData} (F : Fun K "_law_is_label" "_law_is_label" sLLabel f fd) (B : Bi mg) (G_lname : FnOk P w K mg base CX0 1 fN fdN ["_law_word_here"] spLName) (b_lname : Binds K fdN ["_law_word_here"] []) (d_lname : Df K mg "_law_is_name" fN) : FnOk P w K mg base CX0 2 f fd ["_law_word_here"] spLLabel := by
  refine F.ok sc_llabel (fun vs H Q E h => ?_) (fun cdv A outer s H vs Q E hr h => ?_)
  · obtain ⟨z, rfl, _⟩ := h
    rfl
  · obtain ⟨z, rfl, hz, k⟩ := h
    have nd := sc_llabel.nd
    refine ⟨_, (pss_cons (ps_par (i := 1) (j := 2) (by rfl) nd rfl rfl (by decide) rfl rfl (pa_cons (pe_lst pa_nil) (pa_cons pe_str pa_nil)) (by rfl))
(pss_cons (ps_for PassesOwn.never rfl (pi_str (pv 0)) (pg_name (i := 3) nd rfl (Or.inl rfl))
(pss_one (ps_if (pt_cmpR op_eq (pv 3) pe_str (nomark _))
(pss_one (ps_par (i := 1) (j := 2) (by rfl) nd rfl rfl (by decide) rfl rfl (pa_cons (pe_op op_cat (pv 1) (pe_lst (pa_cons (pv 2) pa_nil))) (pa_cons pe_str pa_nil)) (by rfl)))
(pss_one (ps_set (i := 2) nd rfl (Or.inl rfl) (pe_op op_addT (pv 2) (pv 3)))))))
(pss_cons (ps_set (i := 1) nd rfl (Or.inl rfl) (pe_op op_cat (pv 1) (pe_lst (pa_cons (pv 2) pa_nil))))
(pss_one (ps_ret (pe_and (pe_cmpR op_le (pe_callB call_lenL (by rfl) B.n_len (by decide +kernel) (pa_cons (pv 1) pa_nil)) pe_int (nomark _)) (pe_one (pe_cmpR (op_eqLen hr.units0) (pe_lc (own := [("_law_name", 4)]) (g := gName 4) (by rfl) nd (pi_list (pv 1)) (blkOk_by (own := [("_law_name", 4)]) (N := ["_law_word_here", "_law_names", "_law_begun", "_law_sign", "_law_name"]) (sc := (defScope sLLabel)) (by decide +kernel)) (fun _ _ _ _ _ => pg_name (i := 4) nd rfl (Or.inl rfl)) (fun _ _ _ _ _ => (pts_one (pt_not (pt_val (pe_cs (calls_fn G_lname (hr.mono (by decide)) b_lname .nil pass0) d_lname.1 d_lname.2 (pa_cons (pv 4) pa_nil)))))) (fun _ _ _ _ _ => (pv 4))) (pe_lst pa_nil) (nomark _))))))))), ?_⟩
    have hl := TL.len_tl z
    have cz : ∀ {i c : Nat}, z.cps[i]? = some c → (tl z)[i]? = some c := fun {i c} h => by simpa [tl] using h
    refine q_parLc (el_lst ea_nil (by show 0 ≤ 100000; decide)) fun p0 H1 np0 e1 hp0 => ?_
    refine q_forS (ev_var rfl) (fun i σ' H' => ∃ (p : Addr) (ws : List Str) (acc : Str) (o3 o4 : Option V), σ' = [some (V.str z), some (V.ref p), some (V.str acc), o3, o4] ∧ Ex H H' ∧ H' p = some (.lst (ws.map V.str)) ∧ cutAt 46 (tl z) = ws.map tl ++ TL.spl [46] 0 (tl acc) ((tl z).drop i) ∧ acc.length ≤ i ∧ ws.length ≤ i ∧ i ≤ 1001)
      (fun H2 e2 => ⟨p0, [], Str.ofString "", _, _, rfl, e1.trans e2, e2 _ _ hp0, by rw [show tl (Str.ofString "") = [] from by decide +kernel]; rfl, by decide +kernel, Nat.le_refl 0, Nat.zero_le _⟩) (fun i c σ' H' hc pv => ?_) (fun σ' H' pv => ?_)
    · obtain ⟨p, ws, acc, o3, o4, rfl, e2, hp, hcut, la, lw, li⟩ := pv
      have hc' := cz hc
      have hi : i < (tl z).length := (List.getElem?_eq_some_iff.mp hc').1
      have hdrop : (tl z).drop i = c :: (tl z).drop (i + 1) := by
        rw [List.drop_eq_getElem_cons hi]
        have : (tl z)[i] = c := (List.getElem?_eq_some_iff.mp hc').2
        rw [this]
      rw [hdrop, spl_cons] at hcut
      have tst : EvT (tTest (tOp rEq (tVar 3) (tC (.str ".")))) [some (V.str z), some (V.ref p), some (V.str acc), some (V.str ⟨#[c]⟩), o4] H' (decide (c = 46)) := et_is (et_test (ev_op (ev_var rfl) ev_c (rv_eq rfl))) (by
        rw [dec_strT]
        have h1 : tl (Str.ofString ".") = [46] := by decide +kernel
        rw [h1, tl_one]
        simp)
      by_cases c46 : c = 46
      · rw [if_pos c46] at hcut
        refine s_if (b := true) (et_is tst (decide_eq_true c46)) (fun _ H2 e3 => ?_) (fun c => by cases c)
        refine s_parL (el_catVL (ev_var rfl) (e3 _ _ hp) (el_lst (ea_cons (ev_var rfl) ea_nil) (by show 1 ≤ 100000; decide)) (by rw [List.length_map]; show ws.length + 1 ≤ 1000000; omega)) fun q H3 nq e4 hq => ?_
        refine ⟨q, ws ++ [acc], Str.ofString "", _, _, rfl, (e2.trans e3).trans e4, by rw [List.map_append]; exact hq, ?_, by rw [show (Str.ofString "").length = 0 from by decide +kernel]; omega, by rw [List.length_append]; show ws.length + 1 ≤ i + 1; omega, by omega⟩
        rw [hcut, show tl (Str.ofString "") = [] from by decide +kernel, List.map_append]
        simp
      · rw [if_neg c46] at hcut
        refine s_if (b := false) (et_is tst (decide_eq_false c46)) (fun c => by cases c) (fun _ H2 e3 => ?_)
        refine s_asg (ev_op (ev_var rfl) (ev_var rfl) (rv_addT (by show acc.length + 1 ≤ 1000000; omega))) fun H3 e4 => ?_
        refine ⟨p, ws, acc ++ ⟨#[c]⟩, _, _, rfl, (e2.trans e3).trans e4, e4 _ _ (e3 _ _ hp), ?_, by rw [strLen_append]; show acc.length + 1 ≤ i + 1; omega, by omega, by omega⟩
        rw [hcut, TL.tl_append, tl_one]
    · obtain ⟨p, ws, acc, o3, o4, rfl, e2, hp, hcut, la, lw, li⟩ := pv
      have hz2 : z.cps.size = (tl z).length := by simp [tl]
      rw [hz2, List.drop_length, spl_end] at hcut
      have hcut2 : cutAt 46 (tl z) = (ws ++ [acc]).map tl := by rw [hcut, List.map_append]; rfl
      have hmem : ∀ y ∈ ws ++ [acc], y.length ≤ 1000 := fun y hy => by
        have h1 : tl y ∈ cutAt 46 (tl z) := by rw [hcut2]; exact List.mem_map.mpr ⟨y, hy, rfl⟩
        have h2 := cut_len h1
        rw [TL.len_tl]
        omega
      have hzs : z.cps.size ≤ 1000 := hz
      refine q_asgL (xs := (ws ++ [acc]).map V.str) ?_ fun q H3 nq e3 hq => ?_
      · rw [List.map_append]
        exact el_catVL (ev_var rfl) hp (el_lst (ea_cons (ev_var rfl) ea_nil) (by show 1 ≤ 100000; decide)) (by rw [List.length_map]; show ws.length + 1 ≤ 1000000; omega)
      · have wl : (ws ++ [acc]).length ≤ 1002 := by rw [List.length_append]; show ws.length + 1 ≤ 1002; omega
        refine s_ret (ev_is (ev_andV (a := decide ((ws ++ [acc]).length ≤ 6)) (b := (ws ++ [acc]).all fun y => nameOk (tl y)) (ev_is (ev_op (ev_len (ev_var rfl) (sq_of hq)) ev_c rv_I0) (by rw [List.length_map]; simp; omega)) fun _ => ev_is (ev_eqLenL (el_lcL (fun i => match (ws ++ [acc])[i]? with | some y => !nameOk (tl y) | none => false) (fun i => match (ws ++ [acc])[i]? with | some y => .str y | none => .non) (ev_var rfl) (sq_of hq) (by rw [List.length_map]; omega) (fun _ => rfl) (fun i x H4 e4 hx => ?_) (fun i x H4 e4 hx _ => ?_)) (el_lst ea_nil (by show 0 ≤ 100000; decide))) ?_) (w := .bl (labOk (tl z))) ?_) fun H4 e4 => k.go ((e2.trans e3).trans e4)
        · rw [List.getElem?_map] at hx
          cases hi : (ws ++ [acc])[i]? with
          | none => rw [hi] at hx; cases hx
          | some u =>
            rw [hi] at hx
            cases hx
            exact et_not (et_B (ev_cs (ea_cons (ev_var rfl) ea_nil) fun H5 e5 Q q => ⟨u, rfl, hmem u (List.mem_of_getElem? hi), fun H6 e6 => q H6 e6⟩))
        · rw [List.getElem?_map] at hx
          cases hi : (ws ++ [acc])[i]? with
          | none => rw [hi] at hx; cases hx
          | some u =>
            rw [hi] at hx
            cases hx
            exact ev_var rfl
        · rw [List.length_map, given_none]
        · unfold labOk
          rw [hcut2, List.length_map, List.all_map]
          rfl
end
end K00
end

section -- K00h
set_option linter.all false
set_option maxRecDepth 100000
set_option maxHeartbeats 8000000
namespace K00
open PySem PySem.Spec L2 Pk Evl
open PyProof.Rows hiding St
open TL (tl numL)
/-! ### the pen, drawn from -/
section
variable {K : PySem.W.Frag} {p pc : Addr} {k j : Nat} {σ : L2.St} {H H2 : Hp} {Q : VK} {ta : TA} {te : TE} {vs ms : List V}
theorem pen_at (h : PenAt pc H p k) : ∃ o, H p = some o := by
  obtain ⟨t, l, ns, a, _⟩ := h
  exact ⟨_, a⟩
theorem pen_ne (h : PenAt pc H p k) {q : Addr} (nq : H q = none) : q ≠ p := fun z => by
  obtain ⟨o, a⟩ := pen_at h
  rw [z, a] at nq
  cases nq
theorem pick_runI (s0 : σ[j]? = some (some (.ref p))) (ha : EvA ta σ H vs) (h0 : vs ≠ []) (hz : vs.length ≤ 1000) (hp : PenAt pc H p (k + 1)) (hq : ∀ x H1, x ∈ vs → Fr p H H1 → PenAt pc H1 p k → Q x H1) :
    tCS (fun _ vs H Q => spPickL (vs ++ []) H Q E0) (tCons (tVar j) (tCons (tLst ta) tNil)) σ H Q := ⟨_, s0, ha H (Ex.refl H) _ fun H1 e1 => ⟨sz (by omega), fun q nq => by
  have e2 := e1.trans (Ex.new (o := .lst vs) nq)
  exact ⟨p, q, vs, k, pc, rfl, upd_same, pen_ne (hp.ext e1) nq, h0, hz, hp.ext e2, fun x H2 hx fr h2 => hq x H2 hx ((Fr.of e2).trans fr) h2⟩⟩⟩
theorem pick_runS {z : Str} (s0 : σ[j]? = some (some (.ref p))) (ha : Ev te σ H (.str z)) (h0 : z.length ≠ 0) (hz : z.length ≤ 1000) (hp : PenAt pc H p (k + 1)) (hq : ∀ c H1, c ∈ tl z → Fr p H H1 → PenAt pc H1 p k → Q (.str ⟨#[c]⟩) H1) :
    tCS (fun _ vs H Q => spPickS (vs ++ []) H Q E0) (tCons (tVar j) (tCons te tNil)) σ H Q := ⟨_, s0, ha H (Ex.refl H) _ fun H1 e1 => ⟨p, z, k, pc, rfl, h0, hz, hp.ext e1, fun c H2 hc fr h2 => hq c H2 hc ((Fr.of e1).trans fr) h2⟩⟩
theorem draw_run {n : Int} (s0 : σ[j]? = some (some (.ref p))) (ha : Ev te σ H (.int n)) (n0 : 0 < n) (nb : n < 2 ^ 200) (hp : PenAt pc H p (k + 1)) (hq : ∀ r H1, 0 ≤ r → r < n → Fr p H H1 → PenAt pc H1 p k → Q (.int r) H1) :
    tCS (fun _ vs H Q => spDraw (vs ++ []) H Q E0) (tCons (tVar j) (tCons te tNil)) σ H Q := ⟨_, s0, ha H (Ex.refl H) _ fun H1 e1 => ⟨p, n, k, pc, rfl, n0, nb, hp.ext e1, fun r H2 r0 r1 fr h2 => hq r H2 r0 r1 ((Fr.of e1).trans fr) h2⟩⟩
theorem nx_go {t : L2.St → Hp → Prop} {rt : VK} {bk ct : L2.St → Hp → Prop} (h : t σ H) : ({ nx := t, rt := rt, bk := bk, ct := ct } : Ends).nx σ H := h
theorem Fr.refl {p : Addr} {H : Hp} : Fr p H H := fun b o _ h => h
theorem sj_le (y : Str) : ∀ ts : List Str, (Str.join y ts).length ≤ (ts.map (·.length)).sum + ts.length * y.length
  | [] => by show (Str.join y []).length ≤ _; exact Nat.zero_le _
  | [x] => by show x.length ≤ _; simp
  | x :: z :: r => by
    have ih := sj_le y (z :: r)
    show (x ++ y ++ Str.join y (z :: r)).length ≤ _
    rw [strLen_append, strLen_append]
    simp only [List.map_cons, List.sum_cons, List.length_cons] at ih ⊢
    have e : (r.length + 1 + 1) * y.length = (r.length + 1) * y.length + y.length := by rw [Nat.add_mul (r.length + 1) 1 y.length, Nat.one_mul]
    omega
theorem sj_ge (y x : Str) : ∀ r : List Str, x.length ≤ (Str.join y (x :: r)).length
  | [] => Nat.le_refl _
  | z :: r => by
    show x.length ≤ (x ++ y ++ Str.join y (z :: r)).length
    rw [strLen_append, strLen_append]
    omega
theorem sum_le {n : Nat} : ∀ ts : List Str, (∀ y ∈ ts, y.length ≤ n) → (ts.map (·.length)).sum ≤ ts.length * n
  | [], _ => Nat.zero_le _
  | x :: r, h => by
    have h1 := h x List.mem_cons_self
    have ih := sum_le r fun y hy => h y (List.mem_cons_of_mem _ hy)
    simp only [List.map_cons, List.sum_cons, List.length_cons]
    have e : (r.length + 1) * n = r.length * n + n := by rw [Nat.add_mul r.length 1 n, Nat.one_mul]
    omega
theorem pen_cell (h : PenAt pc H p k) : ∃ o, H pc = some o := by
  obtain ⟨t, l, ns, a, b, _⟩ := h
  exact ⟨_, b⟩
theorem pen_nc (h : PenAt pc H p k) {q : Addr} (nq : H q = none) : q ≠ pc := fun z => by
  obtain ⟨o, a⟩ := pen_cell h
  rw [z, a] at nq
  cases nq
end
def spWord : Sp := fun vs H Q _ => ∃ (p pc : Addr) (k : Nat), vs = [.ref p] ∧ PenAt pc H p (k + 120) ∧ ∀ z H1, z.length ≤ 500 → Fr p H H1 → PenAt pc H1 p k → Q (.str z) H1
section
variable {P : Program} {w : World} {K : PySem.W.Frag} {mg : Str → Option Value} {base : Heap}
theorem sc_word : FnScope ["_law_pen_here", "_law_letters", "_law_figures", "_law_names", "_law_turn", "_law_more", "_law_word_here", "_law_way", "_law_spot", "_law_odd", "_law_at"] ["_law_pen_here"] (defScope sWord) := ⟨rfl, rfl, rfl, by decide +kernel, rfl, by decide +kernel, by decide +kernel⟩
theorem ok_word {f fD fP : Addr} {fd fdD fdP : FuncData} (F : Fun K "_law_word" "_law_word" sWord f fd) (B : Bi mg) (G_draw : FnOk P w K mg base CX0 1 fD fdD ["_law_pen_here", "_law_many"] spDraw) (b_draw : Binds K fdD ["_law_pen_here", "_law_many"] []) (d_draw : Df K mg "_law_draw" fD)
    (G_pickL : FnOk P w K mg base CX0 2 fP fdP ["_law_pen_here", "_law_some"] spPickL) (G_pickS : FnOk P w K mg base CX0 2 fP fdP ["_law_pen_here", "_law_some"] spPickS) (b_pick : Binds K fdP ["_law_pen_here", "_law_some"] []) (d_pick : Df K mg "_law_pick" fP) : FnOk P w K mg base CX0 3 f fd ["_law_pen_here"] spWord := by
  refine F.ok sc_word (fun vs H Q E h => ?_) (fun cdv A outer s H vs Q E hr h => ?_)
  · obtain ⟨p, pc, k, rfl, _⟩ := h
    rfl
  · obtain ⟨p, pc, k, rfl, hp, kq⟩ := h
    have nd := sc_word.nd
    refine ⟨_, (pss_cons (ps_asg (pe_tup (pa_cons pe_str (pa_cons pe_str (pa_cons (pe_lst pa_nil) pa_nil)))) (pg_tup (by rfl) (pgs_cons (pg_name (i := 1) nd rfl (Or.inr rfl)) (pgs_cons (pg_name (i := 2) nd rfl (Or.inr rfl)) (pgs_cons (pg_name (i := 3) nd rfl (Or.inl rfl)) pgs_nil)))))
(pss_cons (ps_for PassesOwn.never rfl (pi_range1 (by rfl) B.n_range (pa_cons (pe_cs (calls_fn G_pickL (hr.mono (by decide)) b_pick .nil pass0) d_pick.1 d_pick.2 (pa_cons (pv 0) (pa_cons (pe_lst (pa_cons pe_int (pa_cons pe_int (pa_cons pe_int (pa_cons pe_int (pa_cons pe_int (pa_cons pe_int (pa_cons pe_int pa_nil)))))))) pa_nil))) pa_nil)) (pg_name (i := 4) nd rfl (Or.inl rfl))
(pss_cons (ps_setLc (i := 5) (own := [("_law_at", 10)]) (g := gName 10) (by rfl) nd rfl rfl (by rfl) (pi_range1 (by rfl) B.n_range (pa_cons (pe_cs (calls_fn G_pickL (hr.mono (by decide)) b_pick .nil pass0) d_pick.1 d_pick.2 (pa_cons (pv 0) (pa_cons (pe_lst (pa_cons pe_int (pa_cons pe_int (pa_cons pe_int (pa_cons pe_int (pa_cons pe_int (pa_cons pe_int pa_nil))))))) pa_nil))) pa_nil)) (blkOk_by (own := [("_law_at", 10)]) (N := ["_law_pen_here", "_law_letters", "_law_figures", "_law_names", "_law_turn", "_law_more", "_law_word_here", "_law_way", "_law_spot", "_law_odd", "_law_at"]) (sc := (defScope sWord)) (by decide +kernel)) (fun _ _ _ _ _ => pg_name (i := 10) nd rfl (Or.inl rfl)) (fun _ _ _ _ _ => pts_nil) (fun _ _ _ _ _ => (pe_cs (calls_fn G_pickS (hr.mono (by decide)) b_pick .nil pass0) d_pick.1 d_pick.2 (pa_cons (pv 0) (pa_cons (pe_op op_addT (pv 1) (pv 2)) pa_nil)))))
(pss_one (ps_expr (pe_bm PySem.F.plainAttrs_list PySem.F.slot_list_append PySem.F.type_list_append mt_append (pv 3) (pa_cons (pe_op op_addT (pe_cs (calls_fn G_pickS (hr.mono (by decide)) b_pick .nil pass0) d_pick.1 d_pick.2 (pa_cons (pv 0) (pa_cons (pv 1) pa_nil))) (pe_join pe_str (pv 5))) pa_nil))))))
(pss_cons (ps_par (i := 6) (j := 7) (by rfl) nd rfl rfl (by decide) rfl rfl (pa_cons (pe_join pe_str (pv 3)) (pa_cons (pe_cs (calls_fn G_draw (hr.mono (by decide)) b_draw .nil pass0) d_draw.1 d_draw.2 (pa_cons (pv 0) (pa_cons pe_int pa_nil))) pa_nil)) (by rfl))
(pss_cons (ps_par (i := 8) (j := 9) (by rfl) nd rfl rfl (by decide) rfl rfl (pa_cons (pe_cs (calls_fn G_draw (hr.mono (by decide)) b_draw .nil pass0) d_draw.1 d_draw.2 (pa_cons (pv 0) (pa_cons (pe_callB call_lenT (by rfl) B.n_len (by decide +kernel) (pa_cons (pv 6) pa_nil)) pa_nil))) (pa_cons (pe_cs (calls_fn G_pickL (hr.mono (by decide)) b_pick .nil pass0) d_pick.1 d_pick.2 (pa_cons (pv 0) (pa_cons (pe_lst (pa_cons pe_str (pa_cons pe_str (pa_cons pe_str (pa_cons pe_str (pa_cons pe_str (pa_cons pe_str (pa_cons pe_str (pa_cons pe_str (pa_cons pe_str (pa_cons pe_str (pa_cons pe_str (pa_cons pe_str (pa_cons pe_str (pa_cons pe_str pa_nil))))))))))))))) pa_nil))) pa_nil)) (by rfl))
(pss_cons (ps_if (pt_cmpR op_eq (pv 7) pe_int (nomark _))
(pss_one (ps_ret (pe_op op_addT (pe_op op_addT (pe_slice sl_str (pv 6) po_none (po_some (pv 8))) (pv 9)) (pe_slice sl_str (pv 6) (po_some (pe_op op_add (pv 8) pe_int)) po_none))))
pss_nil)
(pss_cons (ps_if (pt_cmpR op_eq (pv 7) pe_int (nomark _))
(pss_one (ps_ret (pe_op op_addT (pe_op op_addT (pe_slice sl_str (pv 6) po_none (po_some (pv 8))) (pv 9)) (pe_slice sl_str (pv 6) (po_some (pv 8)) po_none))))
pss_nil)
(pss_cons (ps_if (pt_cmpR op_eq (pv 7) pe_int (nomark _))
(pss_one (ps_ret (pe_op op_addT (pe_slice sl_str (pv 6) po_none (po_some (pv 8))) (pe_slice sl_str (pv 6) (po_some (pe_op op_add (pv 8) pe_int)) po_none))))
pss_nil)
(pss_one (ps_ret (pe_ifExp (pt_cmpR op_eq (pv 7) pe_int (nomark _)) (pe_op op_addT (pv 6) (pv 9)) (pv 6))))))))))), ?_⟩
    refine ⟨sz (by show 0 ≤ 1000000; decide), fun l nl => ⟨sz (by show 3 ≤ 1000000; decide), fun q nq => ⟨q, _, rfl, st_of upd_same, rfl, _, _, rfl, _, _, rfl, _, _, rfl, rfl, ?_⟩⟩⟩
    have e1 : Ex H (upd (upd H l (.lst [])) q (.tup [.str "abcdefghijklmnopqrstuvwxyz", .str "0123456789", .ref l])) := (Ex.new nl).trans (Ex.new nq)
    have hl1 : (upd (upd H l (.lst [])) q (.tup [.str "abcdefghijklmnopqrstuvwxyz", .str "0123456789", .ref l])) l = some (.lst []) := Ex.new nq _ _ upd_same
    have lp : l ≠ p := pen_ne hp nl
    have lc : l ≠ pc := pen_nc hp nl
    have hp1 := hp.ext e1
    generalize upd (upd H l (.lst [])) q (.tup [.str "abcdefghijklmnopqrstuvwxyz", .str "0123456789", .ref l]) = H1 at e1 hl1 hp1
    refine pick_runI (k := k + 119) rfl (ea_cons ev_c (ea_cons ev_c (ea_cons ev_c (ea_cons ev_c (ea_cons ev_c (ea_cons ev_c (ea_cons ev_c ea_nil))))))) (List.cons_ne_nil _ _) (by show 7 ≤ 1000; decide) hp1 fun x H2 hx f2 hp2 => ?_
    obtain ⟨n, rfl, n1, n7⟩ : ∃ n : Int, x = .int n ∧ 1 ≤ n ∧ n ≤ 7 := by
      simp only [List.mem_cons, List.not_mem_nil, or_false] at hx
      rcases hx with rfl | rfl | rfl | rfl | rfl | rfl | rfl <;> exact ⟨_, rfl, by decide, by decide⟩
    refine ⟨n, rfl, by omega, by omega, for_range (lo := 0) (n := n.toNat) (fun i σ' H' => ∃ (ws : List Str) (o4 o5 : Option V) (m : Nat), σ' = [some (.ref p), some (.str "abcdefghijklmnopqrstuvwxyz"), some (.str "0123456789"), some (.ref l), o4, o5, none, none, none, none, none] ∧ H' l = some (.lst (ws.map V.str)) ∧ ws.length = i ∧ (∀ y ∈ ws, 1 ≤ y.length ∧ y.length ≤ 13) ∧ Fr p H H' ∧ PenAt pc H' p m ∧ k + 119 ≤ m + 14 * i) ⟨[], _, _, k + 119, rfl, f2 _ _ lp hl1, rfl, (fun y hy => nomatch hy), (Fr.of e1).trans f2, hp2, by omega⟩ (fun i σ' H' hi pv => ?_) (fun σ' H' pv => ?_)⟩
    · obtain ⟨ws, o4, o5, m, rfl, hl, hw, hy, fr, hpm, hm⟩ := pv
      have i7 : i < 7 := by omega
      obtain ⟨m', rfl⟩ : ∃ m', m = m' + 14 := ⟨m - 14, by omega⟩
      refine pick_runI (k := m' + 13) rfl (ea_cons ev_c (ea_cons ev_c (ea_cons ev_c (ea_cons ev_c (ea_cons ev_c (ea_cons ev_c ea_nil)))))) (List.cons_ne_nil _ _) (by show 6 ≤ 1000; decide) hpm fun x H3 hx f3 hp3 => ?_
      obtain ⟨r, rfl, r0, r12⟩ : ∃ n : Int, x = .int n ∧ 0 ≤ n ∧ n ≤ 12 := by
        simp only [List.mem_cons, List.not_mem_nil, or_false] at hx
        rcases hx with rfl | rfl | rfl | rfl | rfl | rfl <;> exact ⟨_, rfl, by decide, by decide⟩
      refine ⟨r, rfl, by omega, by omega, fun Dl nD => lc_range (lo := 0) (n := r.toNat) (fun a H' => ∃ (cs : List Str) (u : Nat), H' Dl = some (.lst (cs.map V.str)) ∧ cs.length = a ∧ (∀ y ∈ cs, y.length = 1) ∧ Fr p H3 H' ∧ PenAt pc H' p u ∧ m' + 13 ≤ u + a) ⟨[], m' + 13, upd_same, rfl, (fun y hy => nomatch hy), Fr.of (Ex.new nD), hp3.ext (Ex.new nD), by omega⟩ (fun a H' ha pv => ?_) (fun H' pv => ?_)⟩
      · obtain ⟨cs, u, hD, hcl, hcy, f4, hp4, hu⟩ := pv
        obtain ⟨u', rfl⟩ : ∃ u', u = u' + 1 := ⟨u - 1, by omega⟩
        have Dp : Dl ≠ p := pen_ne hp3 nD
        have Dc : Dl ≠ pc := pen_nc hp3 nD
        refine ⟨rfl, ?_⟩
        unfold tYes
        simp only [↓reduceIte]
        refine pick_runS (z := Str.ofString "abcdefghijklmnopqrstuvwxyz" ++ Str.ofString "0123456789") (k := u') rfl (ev_op (ev_var rfl) (ev_var rfl) (rv_addT (by decide +kernel))) (by decide +kernel) (by decide +kernel) hp4 fun c H5 hc f5 hp5 => ?_
        refine ⟨cs.map V.str, f5 _ _ Dp hD, by rw [List.length_map, hcl]; exact szl (by omega), cs ++ [⟨#[c]⟩], u', by rw [upd_same, List.map_append]; rfl, by rw [List.length_append, hcl]; rfl, (fun y hy => ?_), (fun b o nb hb => ?_), hp5.upd Dp Dc, by omega⟩
        · rcases List.mem_append.mp hy with h | h
          · exact hcy y h
          · rw [List.mem_singleton.mp h]
            rfl
        · rw [upd_ne (ne_of_none hb nD)]
          exact f5 _ _ nb (f4 _ _ nb hb)
      · obtain ⟨cs, u, hD, hcl, hcy, f4, hp4, hu⟩ := pv
        have Dp : Dl ≠ p := pen_ne hp3 nD
        obtain ⟨u', rfl⟩ : ∃ u', u = u' + 1 := ⟨u - 1, by omega⟩
        have hl4 := f4 _ _ lp (f3 _ _ lp hl)
        refine ⟨_, rfl, Or.inl ⟨rfl, _, sq_of hl4⟩, ?_⟩
        refine pick_runS (z := Str.ofString "abcdefghijklmnopqrstuvwxyz") (k := u') rfl (ev_var rfl) (by decide +kernel) (by decide +kernel) hp4 fun c H5 hc f5 hp5 => ?_
        have hD5 := f5 _ _ Dp hD
        have hl5 := f5 _ _ lp hl4
        have csum : (cs.map (·.length)).sum ≤ cs.length * 1 := sum_le cs fun y hy => Nat.le_of_eq (hcy y hy)
        have jl : (Txt.join (Str.ofString "") cs).length ≤ 12 := by
          rw [TL.join_eq]
          have := sj_le (Str.ofString "") cs
          have e0 : (Str.ofString "").length = 0 := by decide +kernel
          rw [e0] at this
          omega
        refine ⟨⟨_, rfl⟩, _, rfl, _, Dl, cs, rfl, rfl, .inl (sq_of hD5), ?_, _, _, rfl, rfl, ?_, l, _, _, rfl, rfl, hl5, ?_, ?_⟩
        · have e0 : (Str.ofString "").length = 0 := by decide +kernel
          rw [e0]
          omega
        · refine sz ?_
          show 1 + (Txt.join (Str.ofString "") cs).length ≤ 1000000
          omega
        · rw [List.length_map, hw]
          exact szl (by omega)
        · refine ⟨ws ++ [⟨#[c]⟩ ++ Txt.join (Str.ofString "") cs], _, _, u', rfl, by rw [upd_same, List.map_append]; rfl, by rw [List.length_append, hw]; rfl, (fun y hy' => ?_), (fun b o nb hb => ?_), hp5.upd lp lc, by omega⟩
          · rcases List.mem_append.mp hy' with h | h
            · exact hy y h
            · rw [List.mem_singleton.mp h, strLen_append]
              have e1 : (⟨#[c]⟩ : Str).length = 1 := rfl
              rw [e1]
              exact ⟨by omega, by omega⟩
          · rw [upd_ne (ne_of_none hb nl)]
            exact f5 _ _ nb (f4 _ _ nb (f3 _ _ nb (fr _ _ nb hb)))
    · obtain ⟨ws, o4, o5, m, rfl, hl, hw, hy, fr, hpm, hm⟩ := pv
      have w1 : 1 ≤ ws.length := by omega
      have w7 : ws.length ≤ 7 := by omega
      have wsum : (ws.map (·.length)).sum ≤ ws.length * 13 := sum_le ws fun y h => (hy y h).2
      have ed : (Str.ofString ".").length = 1 := by decide +kernel
      obtain ⟨z, hz⟩ : ∃ z, z = Txt.join (Str.ofString ".") ws := ⟨_, rfl⟩
      have zle : z.length ≤ 98 := by
        rw [hz, TL.join_eq]
        have := sj_le (Str.ofString ".") ws
        rw [ed] at this
        omega
      have zge : 1 ≤ z.length := by
        rw [hz, TL.join_eq]
        rcases ws with _ | ⟨x, r⟩
        · simp at w1
        · exact Nat.le_trans (hy x List.mem_cons_self).1 (sj_ge _ x r)
      obtain ⟨m', rfl⟩ : ∃ m', m = k + m' + 3 := ⟨m - k - 3, by omega⟩
      refine ⟨⟨_, rfl⟩, _, rfl, _, l, ws, rfl, rfl, .inl (sq_of hl), by rw [ed]; omega, ?_⟩
      rw [← hz]
      refine draw_run (k := k + m' + 2) rfl ev_c (by decide) (by decide) hpm fun way H3 a0 a8 f3 hp3 => ⟨_, _, rfl, ?_⟩
      refine draw_run (k := k + m' + 1) rfl (ev_cb (ea_cons (ev_var rfl) ea_nil) (rc_lenT (by omega))) (by omega) (by omega) hp3 fun spot H4 s0 s1 f4 hp4 => ?_
      refine pick_runI (k := k + m') rfl (ea_cons ev_c (ea_cons ev_c (ea_cons ev_c (ea_cons ev_c (ea_cons ev_c (ea_cons ev_c (ea_cons ev_c (ea_cons ev_c (ea_cons ev_c (ea_cons ev_c (ea_cons ev_c (ea_cons ev_c (ea_cons ev_c (ea_cons ev_c ea_nil)))))))))))))) (List.cons_ne_nil _ _) (by show 14 ≤ 1000; decide) hp4 fun x H5 hx f5 hp5 => ⟨_, _, rfl, ?_⟩
      obtain ⟨o, rfl, ol⟩ : ∃ o : Str, x = .str o ∧ o.length = 1 := by
        simp only [List.mem_cons, List.not_mem_nil, or_false] at hx
        rcases hx with rfl | rfl | rfl | rfl | rfl | rfl | rfl | rfl | rfl | rfl | rfl | rfl | rfl | rfl <;> exact ⟨_, rfl, by decide +kernel⟩
      have fin : ∀ (y : Str) (H6 : Hp), y.length ≤ 500 → Ex H5 H6 → Q (.str y) H6 := fun y H6 hy6 e6 => kq y H6 hy6 (((fr.trans f3).trans (f4.trans f5)).trans (Fr.of e6)) ((hp5.ext e6).less (by omega))
      have ct := fun lo hi => cutS_length z lo hi
      have c1 := ct none (some spot)
      refine q_when (et_test (ev_op (ev_var rfl) ev_c (rv_eq rfl))) (fun _ H6 e6 => ?_) (fun _ H6 e6 => ?_)
      · have c2 := ct (some (spot + 1)) none
        exact s_ret (ev_op (ev_op (ev_slS (ev_var rfl) eo_none (eo_some (ev_var rfl)) (by omega)) (ev_var rfl) (rv_addT (by omega))) (ev_slS (ev_var rfl) (eo_some (ev_op (ev_var rfl) ev_c rv_I0)) eo_none (by omega)) (rv_addT (by rw [strLen_append]; omega))) fun H7 e7 => fin _ H7 (by rw [strLen_append, strLen_append]; omega) (e6.trans e7)
      refine q_when (et_test (ev_op (ev_var rfl) ev_c (rv_eq rfl))) (fun _ H7 e7 => ?_) (fun _ H7 e7 => ?_)
      · have c2 := ct (some spot) none
        exact s_ret (ev_op (ev_op (ev_slS (ev_var rfl) eo_none (eo_some (ev_var rfl)) (by omega)) (ev_var rfl) (rv_addT (by omega))) (ev_slS (ev_var rfl) (eo_some (ev_var rfl)) eo_none (by omega)) (rv_addT (by rw [strLen_append]; omega))) fun H8 e8 => fin _ H8 (by rw [strLen_append, strLen_append]; omega) ((e6.trans e7).trans e8)
      refine q_when (et_test (ev_op (ev_var rfl) ev_c (rv_eq rfl))) (fun _ H8 e8 => ?_) (fun _ H8 e8 => ?_)
      · have c2 := ct (some (spot + 1)) none
        exact s_ret (ev_op (ev_slS (ev_var rfl) eo_none (eo_some (ev_var rfl)) (by omega)) (ev_slS (ev_var rfl) (eo_some (ev_op (ev_var rfl) ev_c rv_I0)) eo_none (by omega)) (rv_addT (by omega))) fun H9 e9 => fin _ H9 (by rw [strLen_append]; omega) (((e6.trans e7).trans e8).trans e9)
      · by_cases w3 : way = 3
        · exact s_ret (v := .str (z ++ o)) (ev_if (b := true) (et_is (et_test (ev_op (ev_var rfl) ev_c (rv_eq rfl))) (by rw [w3]; simp)) (fun _ => ev_op (ev_var rfl) (ev_var rfl) (rv_addT (by omega))) fun c => by cases c) fun H9 e9 => fin _ H9 (by rw [strLen_append]; omega) (((e6.trans e7).trans e8).trans e9)
        · exact s_ret (v := .str z) (ev_if (b := false) (et_is (et_test (ev_op (ev_var rfl) ev_c (rv_eq rfl))) (by simp [w3])) (fun c => by cases c) fun _ => ev_var rfl) fun H9 e9 => fin _ H9 (by omega) (((e6.trans e7).trans e8).trans e9)
end
end K00
end

section -- K00i
set_option linter.all false
set_option exponentiation.threshold 9000
set_option maxRecDepth 100000
set_option maxHeartbeats 8000000
namespace K00
open PySem PySem.Spec L2 Pk Evl
open PyProof.Rows hiding St
open TL (tl numL)
theorem tyRat {K : PySem.W.Frag} {mg : Str → Option Value} {C : Addr} (T : RCl K mg C) {H : Hp} {x : Addr} {t b : Int} (h : RatAt C H x t b) : TyX K H (.ref x) (.ref C) := by
  obtain ⟨dx, h⟩ := h
  exact .base (TyOf.ins h T.cl T.ha T.hn T.ht T.hm)
def rMk (K : PySem.W.Frag) (C D : Addr) (dvs : List V) : L2.St → List V → Hp → VK → Prop := fun _ vs H Q => ∀ x dx, H x = none → H dx = none → dx ≠ x → spRi K C D (.ref x :: (vs ++ dvs)) (upd (upd H dx (.own x)) x (.ins C dx [])) (fun v H2 => v = .non ∧ Q (.ref x) H2) E0
theorem ei_mk {K : PySem.W.Frag} {C D : Addr} {σ : L2.St} {H : Hp} {ta : TA} {vs dvs : List V} {t b : Int} (h : EvA ta σ H vs) (ev : vs ++ dvs = [.int t, .int b]) (h0 : b ≠ 0) (hb : b.natAbs < 2 ^ 8000) : EvI C (rf (t.fdiv (sg t b)) (b.fdiv (sg t b))) (tCS (rMk K C D dvs) ta) σ H := fun H1 e Q q =>
  h H1 e _ fun H2 e2 x dx nx nd ne => by
    refine ⟨x, dx, .int t, .int b, by rw [ev], upd_same, .inr ⟨t, rfl, .inr ⟨b, rfl, h0, hb, rfl, q x dx _ (fresh_back e2 nx) (e2.trans ?_) upd_same⟩⟩⟩
    intro a o ha
    rw [upd_ne (ne_of_none ha nx), upd_ne (ne_of_none ha nx), upd_ne (ne_of_none ha nx), upd_ne (ne_of_none ha nd)]
    exact ha
/-! ### values that stay what they are while the pen moves -/
def RF (p : Addr) (R : V → Hp → Prop) : V → Hp → Prop := fun v H => ∀ H', Fr p H H' → R v H'
def EvM (p : Addr) (R : V → Hp → Prop) (te : TE) (σ : L2.St) (H : Hp) : Prop := ∀ H1, Ex H H1 → ∀ Q : VK, (∀ v H2, Ex H1 H2 → RF p R v H2 → Q v H2) → te σ H1 Q
def EaM (p : Addr) (R : V → Hp → Prop) (n : Nat) (ta : TA) (σ : L2.St) (H : Hp) : Prop := ∀ H1, Ex H H1 → ∀ Q : List V → Hp → Prop, (∀ vs H2, Ex H1 H2 → (∀ v ∈ vs, RF p R v H2) → vs.length = n → Q vs H2) → ta σ H1 Q
section
variable {K : PySem.W.Frag} {p pc : Addr} {k j n : Nat} {σ : L2.St} {H H2 : Hp} {Q : VK} {ta tr : TA} {te : TE} {R : V → Hp → Prop} {v : V}
theorem RF.ext (h : RF p R v H) (e : Ex H H2) : RF p R v H2 := fun H' f => h H' ((Fr.of e).trans f)
theorem RF.fr (h : RF p R v H) (f : Fr p H H2) : RF p R v H2 := fun H' g => h H' (f.trans g)
theorem RF.now (h : RF p R v H) : R v H := h H Fr.refl
theorem eaM_nil : EaM p R 0 tNil σ H := fun H1 _ _ k => k [] H1 (Ex.refl H1) (fun v h => nomatch h) rfl
theorem eaM_cons (h : EvM p R te σ H) (r : EaM p R n tr σ H) : EaM p R (n + 1) (tCons te tr) σ H := fun H1 e Q k =>
  h H1 e _ fun v H2 e2 hv => r H2 (e.trans e2) _ fun vs H3 e3 hvs hl => k (v :: vs) H3 (e2.trans e3) (fun y hy => by
    rcases List.mem_cons.mp hy with rfl | hm
    · exact hv.ext e3
    · exact hvs y hm) (congrArg Nat.succ hl)
theorem em_v (h : Ev te σ H v) (r : ∀ H', R v H') : EvM p R te σ H := fun H1 e Q k => h H1 e _ fun H2 e2 => k v H2 e2 fun H' _ => r H'
theorem em_lst {xs : List V} (hp : ∃ o, H p = some o) (h : EvL te σ H xs) (r : ∀ a H', H' a = some (.lst xs) → R (.ref a) H') : EvM p R te σ H := fun H1 e Q k => h H1 e _ fun a H2 na e2 ha => k _ H2 e2 fun H' f => r a H' (f _ _ (fun z => by
  obtain ⟨o, ho⟩ := hp
  rw [z, e _ _ ho] at na
  cases na) ha)
theorem em_tup {xs : List V} (hp : ∃ o, H p = some o) (h : EvU te σ H xs) (r : ∀ a H', H' a = some (.tup xs) → R (.ref a) H') : EvM p R te σ H := fun H1 e Q k => h H1 e _ fun a H2 na e2 ha => k _ H2 e2 fun H' f => r a H' (f _ _ (fun z => by
  obtain ⟨o, ho⟩ := hp
  rw [z, e _ _ ho] at na
  cases na) ha)
theorem em_ins {C : Addr} {fs : List (Str × V)} (hp : ∃ o, H p = some o) (h : EvI C fs te σ H) (r : ∀ a dx H', H' a = some (.ins C dx fs) → R (.ref a) H') : EvM p R te σ H := fun H1 e Q k => h H1 e _ fun a dx H2 na e2 ha => k _ H2 e2 fun H' f => r a dx H' (f _ _ (fun z => by
  obtain ⟨o, ho⟩ := hp
  rw [z, e _ _ ho] at na
  cases na) ha)
theorem em_d0 (hp : ∃ o, H p = some o) (r : ∀ a H', H' a = some (.dK []) → R (.ref a) H') : EvM p R tDNewK σ H := fun H1 e Q k a na => k _ _ (Ex.new na) fun H' f => r a H' (f _ _ (fun z => by
  obtain ⟨o, ho⟩ := hp
  rw [z, e _ _ ho] at na
  cases na) upd_same)
theorem em_d1 {x : Str} {v : V} (hp : ∃ o, H p = some o) (h : Ev te σ H v) (r : ∀ a H', H' a = some (.dK [(Sum.inr x, v)]) → R (.ref a) H') : EvM p R (tDisp [(tC (.str x), te)]) σ H := fun H1 e Q k a na => h _ (e.trans (Ex.new na)) _ fun H2 e2 => by
  have ap : a ≠ p := fun z => by
    obtain ⟨o, ho⟩ := hp
    rw [z, e _ _ ho] at na
    cases na
  have hd : H2 a = some (.dK []) := e2 _ _ upd_same
  refine ⟨hd, [(Sum.inr x, v)], rfl, (by show 1 ≤ 15; decide), k _ _ (fun b o hb => ?_) fun H' f => r a H' (f _ _ ap upd_same)⟩
  rw [upd_ne (ne_of_none hb na)]
  exact e2 _ _ (Ex.new na _ _ hb)
theorem pick_runM (s0 : σ[j]? = some (some (.ref p))) (ha : EaM p R (n + 1) ta σ H) (hn : n + 1 ≤ 1000) (hp : PenAt pc H p (k + 1)) (hq : ∀ x H1, RF p R x H1 → Fr p H H1 → PenAt pc H1 p k → Q x H1) :
    tCS (fun _ vs H Q => spPickL (vs ++ []) H Q E0) (tCons (tVar j) (tCons (tLst ta) tNil)) σ H Q := ⟨_, s0, ha H (Ex.refl H) _ fun vs H1 e1 hv hl => ⟨sz (by omega), fun q nq => by
  have e2 := e1.trans (Ex.new (o := .lst vs) nq)
  refine ⟨p, q, vs, k, pc, rfl, upd_same, pen_ne (hp.ext e1) nq, (fun z => by rw [z] at hl; cases hl), by omega, hp.ext e2, fun x H2 hx fr h2 => hq x H2 (fun H' f => hv x hx H' ((Fr.of (Ex.new nq)).trans (fr.trans f))) ((Fr.of e2).trans fr) h2⟩⟩⟩
theorem q_asgP {i : Nat} {tz : TS} {D : Ends} (M : V → Hp → Prop) (h : ∀ Q : VK, (∀ v H1, M v H1 → Q v H1) → te σ H Q) (k : ∀ v H1, M v H1 → tz D (σ.set i (some v)) H1) : tSeq (tAsg te (gName i)) tz D σ H := h _ k
/-- the text of Booleans -/
theorem shown_bls : ∀ bs : List Bool, piled (PyData.shownAll (bs.map PyData.bool)) ≤ 7 * bs.length
  | [] => Nat.le_refl 0
  | b :: bs => by
    have ih := shown_bls bs
    have l2 : (PyData.bool b).shown.length ≤ 5 := by cases b <;> decide +kernel
    simp only [List.map_cons, PyData.shownAll, piled_cons, List.length_cons]
    omega
theorem show_bls : ∀ bs : List Bool, PyData.showableAll (bs.map PyData.bool) = true ∧ PyData.hasDictAll (bs.map PyData.bool) = false
  | [] => ⟨rfl, rfl⟩
  | b :: bs => by
    have ih := show_bls bs
    simp only [List.map_cons, PyData.showableAll, PyData.hasDictAll, PyData.showable, PyData.hasDict, ih.1, ih.2]
    decide
theorem rBl {bs : List Bool} (h : bs.length ≤ 100) : (PyData.tuple (bs.map PyData.bool)).showable = true ∧ (PyData.tuple (bs.map PyData.bool)).hasDict = false ∧ (PyData.tuple (bs.map PyData.bool)).depth ≤ 40 ∧ (PyData.tuple (bs.map PyData.bool)).shown.length ≤ sizeLine := by
  refine ⟨?_, ?_, ?_, ?_⟩
  · simp only [PyData.showable]; exact (show_bls bs).1
  · simp only [PyData.hasDict]; exact (show_bls bs).2
  · have := depth_bls bs
    simp only [PyData.depth]
    omega
  · have h1 := tt_len (PyData.shownAll (bs.map PyData.bool))
    have h2 := shown_bls bs
    simp only [PyData.shown]
    exact sz (by omega)
theorem ev_rBlU {ta : TE} {bs : List Bool} (h : EvU ta σ H (bs.map V.bl)) (hb : bs.length ≤ 100) : Ev (tCB (rReprD K) (tCons ta tNil)) σ H (.str (PyData.tuple (bs.map PyData.bool)).shown) := fun H1 e Q q => h H1 e _ fun p H2 _ e2 hp =>
  have o := rBl hb
  ⟨p, _, rfl, .tup (st_of hp) (dp_bls bs), o.1, o.2.1, o.2.2.1, o.2.2.2, q H2 e2⟩
theorem ev_rBlP {ta : TE} {a : Addr} {bs : List Bool} (h : Ev ta σ H (.ref a)) (ha : H a = some (.tup (bs.map V.bl))) (hb : bs.length ≤ 100) : Ev (tCB (rReprD K) (tCons ta tNil)) σ H (.str (PyData.tuple (bs.map PyData.bool)).shown) := fun H1 e Q q => h H1 e _ fun H2 e2 =>
  have o := rBl hb
  ⟨a, _, rfl, .tup (st_of (e2 _ _ (e _ _ ha))) (dp_bls bs), o.1, o.2.1, o.2.2.1, o.2.2.2, q H2 e2⟩
theorem passA0 {X : Cx} {σ : L2.St} : PassesAt CX0 X σ E0 := fun pins H s e s' I c => pass0 pins σ H s e s' I c
end
def gW : List Value → List Value → List Value := fun us ws => match us, ws with | [a], [b, c] => [a, b, c] | _, _ => []
def gWV : List V → List V → List V := fun us ws => match us, ws with | [a], [b, c] => [a, b, c] | _, _ => []
/-- neither an integer nor a text -/
def NoIS (K : PySem.W.Frag) : V → Hp → Prop := fun v H => NotI K H v ∧ NotS K H v
section
variable {K : PySem.W.Frag} {H : Hp} {a : Addr}
theorem ni_non : NoIS K .non H := ⟨⟨_, .base .non, .inl (kit_ty (by decide +kernel))⟩, ⟨_, .base .non, kit_ty (by decide +kernel)⟩⟩
theorem ni_bl {b : Bool} : NoIS K (.bl b) H := ⟨⟨_, .base (.bl b), .inr ⟨kit_ty (by decide +kernel), kit_ty (by decide +kernel)⟩⟩, ⟨_, .base (.bl b), kit_ty (by decide +kernel)⟩⟩
theorem ni_lst {xs : List V} (h : H a = some (.lst xs)) : NoIS K (.ref a) H := ⟨⟨_, .base (.lst h), .inl (kit_ty (by decide +kernel))⟩, ⟨_, .base (.lst h), kit_ty (by decide +kernel)⟩⟩
theorem ni_tup {xs : List V} (h : H a = some (.tup xs)) : NoIS K (.ref a) H := ⟨⟨_, .base (.tup h), .inl (kit_ty (by decide +kernel))⟩, ⟨_, .base (.tup h), kit_ty (by decide +kernel)⟩⟩
theorem ni_d {kvs : List (Key × V)} (h : H a = some (.dK kvs)) : NoIS K (.ref a) H := ⟨⟨_, .base (.dK h), .inl (kit_ty (by decide +kernel))⟩, ⟨_, .base (.dK h), kit_ty (by decide +kernel)⟩⟩
theorem ni_ins {mg : Str → Option Value} {C dx : Addr} {fs : List (Str × V)} (T : RCl K mg C) (kI : PySem.W.kitOne K (.ref C) (.type "int") = some false) (kS : PySem.W.kitOne K (.ref C) (.type "str") = some false) (h : H a = some (.ins C dx fs)) : NoIS K (.ref a) H :=
  ⟨⟨_, .base (TyOf.ins h T.cl T.ha T.hn T.ht T.hm), .inl kI⟩, ⟨_, .base (TyOf.ins h T.cl T.ha T.hn T.ht T.hm), kS⟩⟩
end
def spKinds : Sp := fun vs H Q _ => ∃ (p pc : Addr) (k : Nat), vs = [.ref p] ∧ PenAt pc H p (k + 200) ∧ ∀ H1, Fr p H H1 → PenAt pc H1 p k → Q (.bl true) H1
section
variable {P : Program} {w : World} {K : PySem.W.Frag} {mg : Str → Option Value} {base : Heap}
theorem sc_kinds : FnScope ["_law_pen_here", "_law_word_here", "_law_told", "_law_number", "_law_least", "_law_most", "_law_due", "_law_odd"] ["_law_pen_here"] (defScope sKinds) := ⟨rfl, rfl, rfl, by decide +kernel, rfl, by decide +kernel, by decide +kernel⟩
theorem ok_kinds {f fD fP fW fN fL fI fT fLN fLL fR C D : Addr} {fd fdD fdP fdW fdN fdL fdI fdT fdLN fdLL fdR : FuncData} {ds1 : List Value} (F : Fun K "_law_kinds_right" "_law_kinds_right" sKinds f fd) (B : Bi mg) (T : RCl K mg C) (kI : PySem.W.kitOne K (.ref C) (.type "int") = some false) (kS : PySem.W.kitOne K (.ref C) (.type "str") = some false)
    (G_draw : FnOk P w K mg base CX0 1 fD fdD ["_law_pen_here", "_law_many"] spDraw) (b_draw : Binds K fdD ["_law_pen_here", "_law_many"] []) (d_draw : Df K mg "_law_draw" fD)
    (G_pickL : FnOk P w K mg base CX0 2 fP fdP ["_law_pen_here", "_law_some"] spPickL) (b_pick : Binds K fdP ["_law_pen_here", "_law_some"] []) (d_pick : Df K mg "_law_pick" fP)
    (G_word : FnOk P w K mg base CX0 3 fW fdW ["_law_pen_here"] spWord) (b_word : Binds K fdW ["_law_pen_here"] []) (d_word : Df K mg "_law_word" fW)
    (G_name : FnOk P w K mg base CX0 1 fN fdN ["value"] (spName K)) (b_name : Binds K fdN ["value"] []) (d_name : Df K mg "is_name" fN)
    (G_label : FnOk P w K mg base CX0 2 fL fdL ["value"] (spLabel K)) (b_label : Binds K fdL ["value"] []) (kb_label : KBinds K fdL ["value"] ["value"] (fun us ws => us ++ ws) (fun vs zs => vs ++ zs)) (d_label : Df K mg "is_label" fL)
    (G_int : FnOk P w K mg base CX0 1 fI fdI ["value"] (spInt K)) (b_int : Binds K fdI ["value"] []) (d_int : Df K mg "is_integer" fI)
    (G_within : FnOk P w K mg base CX0 2 fT fdT ["value", "least", "most"] (spWithin K)) (b_within : Binds K fdT ["value", "least", "most"] []) (kb_within : KBinds K fdT ["value", "least", "most"] ["least", "most"] gW gWV) (d_within : Df K mg "is_within" fT)
    (G_lname : FnOk P w K mg base CX0 1 fLN fdLN ["_law_word_here"] spLName) (b_lname : Binds K fdLN ["_law_word_here"] []) (d_lname : Df K mg "_law_is_name" fLN)
    (G_llabel : FnOk P w K mg base CX0 2 fLL fdLL ["_law_word_here"] spLLabel) (b_llabel : Binds K fdLL ["_law_word_here"] []) (d_llabel : Df K mg "_law_is_label" fLL)
    (M_R : Mk K C fR) (G_R : FnOk P w K mg base (L2.CX P w) 3 fR fdR ["self", "top", "bottom"] (spRi K C D)) (b_R : Binds K fdR ["self", "top", "bottom"] []) (b_R1 : Binds K fdR ["self", "top", "bottom"] ds1) (v_R1 : Vals [.int 1] ds1) (d_R : Df K mg "Ratio" C) : FnG P w K mg base CX0 6 f fd ["_law_pen_here"] spKinds := by
  refine fnG_of F sc_kinds (fun vs H Q E h => ?_) (fun cdv A outer s H vs Q E hr hg h => ?_)
  · obtain ⟨p, pc, k, rfl, _⟩ := h
    rfl
  · obtain ⟨p, pc, k, rfl, hp, kq⟩ := h
    have nd := sc_kinds.nd
    refine ⟨_, PSs.nox (pss_cons (ps_set (i := 1) nd rfl (Or.inl rfl) (pe_cs (calls_fn G_word (hr.mono (by decide)) b_word .nil pass0) d_word.1 d_word.2 (pa_cons (pv 0) pa_nil)))
(pss_cons (ps_set (i := 2) nd rfl (Or.inl rfl) (pe_tup (pa_cons (pe_cs (calls_fn G_name (hr.mono (by decide)) b_name .nil pass0) d_name.1 d_name.2 (pa_cons (pv 1) pa_nil)) (pa_cons (pe_cs (calls_fn G_label (hr.mono (by decide)) b_label .nil pass0) d_label.1 d_label.2 (pa_cons (pv 1) pa_nil)) (pa_cons (pe_cs (calls_fn G_int (hr.mono (by decide)) b_int .nil pass0) d_int.1 d_int.2 (pa_cons (pv 1) pa_nil)) (pa_cons (pe_cs (calls_fn G_within (hr.mono (by decide)) b_within .nil pass0) d_within.1 d_within.2 (pa_cons (pv 1) (pa_cons pe_non (pa_cons pe_non pa_nil)))) pa_nil))))))
(pss_cons (ps_if (pt_cmpR op_ne (pe_callB (call_reprD hg hr.units) (by rfl) B.n_repr (by decide +kernel) (pa_cons (pv 2) pa_nil)) (pe_callB (call_reprD hg hr.units) (by rfl) B.n_repr (by decide +kernel) (pa_cons (pe_tup (pa_cons (pe_cs (calls_fn G_lname (hr.mono (by decide)) b_lname .nil pass0) d_lname.1 d_lname.2 (pa_cons (pv 1) pa_nil)) (pa_cons (pe_cs (calls_fn G_llabel (hr.mono (by decide)) b_llabel .nil pass0) d_llabel.1 d_llabel.2 (pa_cons (pv 1) pa_nil)) (pa_cons pe_bl (pa_cons pe_bl pa_nil))))) pa_nil)) (nomark _))
(pss_one (ps_ret pe_bl))
pss_nil)
(pss_cons (ps_set (i := 3) nd rfl (Or.inl rfl) (pe_op op_mulW (pe_cs (calls_fn G_pickL (hr.mono (by decide)) b_pick .nil pass0) d_pick.1 d_pick.2 (pa_cons (pv 0) (pa_cons (pe_lst (pa_cons (pe_un un_neg pe_int) (pa_cons pe_int pa_nil))) pa_nil))) (pe_cs (calls_fn G_draw (hr.mono (by decide)) b_draw .nil pass0) d_draw.1 d_draw.2 (pa_cons (pv 0) (pa_cons (pe_cs (calls_fn G_pickL (hr.mono (by decide)) b_pick .nil pass0) d_pick.1 d_pick.2 (pa_cons (pv 0) (pa_cons (pe_lst (pa_cons pe_int (pa_cons pe_int (pa_cons (pe_op op_powW pe_int pe_int) (pa_cons (pe_op op_powW pe_int pe_int) pa_nil))))) pa_nil))) pa_nil)))))
(pss_cons (ps_set (i := 4) nd rfl (Or.inl rfl) (pe_cs (calls_fn G_pickL (hr.mono (by decide)) b_pick .nil pass0) d_pick.1 d_pick.2 (pa_cons (pv 0) (pa_cons (pe_lst (pa_cons pe_non (pa_cons (pe_op op_sub (pe_op op_sub (pv 3) pe_int) (pe_cs (calls_fn G_draw (hr.mono (by decide)) b_draw .nil pass0) d_draw.1 d_draw.2 (pa_cons (pv 0) (pa_cons pe_int pa_nil)))) (pa_cons (pv 3) (pa_cons (pe_op op_add (pv 3) pe_int) (pa_cons pe_int pa_nil)))))) pa_nil))))
(pss_cons (ps_set (i := 5) nd rfl (Or.inl rfl) (pe_cs (calls_fn G_pickL (hr.mono (by decide)) b_pick .nil pass0) d_pick.1 d_pick.2 (pa_cons (pv 0) (pa_cons (pe_lst (pa_cons pe_non (pa_cons (pe_op op_add (pe_op op_add (pv 3) pe_int) (pe_cs (calls_fn G_draw (hr.mono (by decide)) b_draw .nil pass0) d_draw.1 d_draw.2 (pa_cons (pv 0) (pa_cons pe_int pa_nil)))) (pa_cons (pv 3) (pa_cons (pe_op op_sub (pv 3) pe_int) (pa_cons pe_int pa_nil)))))) pa_nil))))
(pss_cons (ps_set (i := 6) nd rfl (Or.inl rfl) (pe_and (pe_or (pe_cmpR op_isN' (pv 4) pe_non (nomark _)) (pe_one (pe_cmpR op_le (pv 4) (pv 3) (nomark _)))) (pe_one (pe_or (pe_cmpR op_isN' (pv 5) pe_non (nomark _)) (pe_one (pe_cmpR op_le (pv 3) (pv 5) (nomark _)))))))
(pss_cons (ps_set (i := 2) nd rfl (Or.inl rfl) (pe_tup (pa_cons (pe_cs (calls_fn G_int (hr.mono (by decide)) b_int .nil pass0) d_int.1 d_int.2 (pa_cons (pv 3) pa_nil)) (pa_cons (pe_cs (calls_fn G_within (hr.mono (by decide)) b_within .nil pass0) d_within.1 d_within.2 (pa_cons (pv 3) (pa_cons (pv 4) (pa_cons (pv 5) pa_nil)))) (pa_cons (pe_cs (calls_fn G_name (hr.mono (by decide)) b_name .nil pass0) d_name.1 d_name.2 (pa_cons (pv 3) pa_nil)) (pa_cons (pe_csK G_label (hr.mono (by decide)) kb_label (E := fun _ => E0) (fun σ => passA0) d_label.1 d_label.2 (pk_cons (pv 3) pk_nil)) pa_nil))))))
(pss_cons (ps_if (pt_cmpR op_ne (pe_callB (call_reprD hg hr.units) (by rfl) B.n_repr (by decide +kernel) (pa_cons (pv 2) pa_nil)) (pe_callB (call_reprD hg hr.units) (by rfl) B.n_repr (by decide +kernel) (pa_cons (pe_tup (pa_cons pe_bl (pa_cons (pv 6) (pa_cons pe_bl (pa_cons pe_bl pa_nil))))) pa_nil)) (nomark _))
(pss_one (ps_ret pe_bl))
pss_nil)
(pss_cons (ps_set (i := 7) nd rfl (Or.inl rfl) (pe_cs (calls_fn G_pickL (hr.mono (by decide)) b_pick .nil pass0) d_pick.1 d_pick.2 (pa_cons (pv 0) (pa_cons (pe_lst (pa_cons pe_non (pa_cons pe_bl (pa_cons pe_bl (pa_cons (pe_lst pa_nil) (pa_cons (pe_lst (pa_cons (pv 1) pa_nil)) (pa_cons (pe_tup pa_nil) (pa_cons (pe_tup (pa_cons pe_int pa_nil)) (pa_cons pe_dnewK (pa_cons (pe_disp (pps_cons pe_str pe_int pps_nil) rfl rfl (by simp) (by simp)) (pa_cons (pe_cs (calls_make M_R G_R (hr.mono (by decide)) b_R1 v_R1 passL) d_R.1 d_R.2 (pa_cons pe_int pa_nil)) (pa_cons (pe_cs (calls_make M_R G_R (hr.mono (by decide)) b_R .nil passL) d_R.1 d_R.2 (pa_cons pe_int (pa_cons pe_int pa_nil))) (pa_cons (pe_lst (pa_cons pe_str pa_nil)) pa_nil))))))))))))) pa_nil))))
(pss_cons (ps_set (i := 2) nd rfl (Or.inl rfl) (pe_tup (pa_cons (pe_cs (calls_fn G_int (hr.mono (by decide)) b_int .nil pass0) d_int.1 d_int.2 (pa_cons (pv 7) pa_nil)) (pa_cons (pe_callK (E := E0) G_within (hr.mono (by decide)) (by rfl) d_within.1 d_within.2 kb_within pass0 (pa_cons (pv 7) pa_nil) (pk_cons pe_non (pk_cons pe_non pk_nil))) (pa_cons (pe_cs (calls_fn G_name (hr.mono (by decide)) b_name .nil pass0) d_name.1 d_name.2 (pa_cons (pv 7) pa_nil)) (pa_cons (pe_cs (calls_fn G_label (hr.mono (by decide)) b_label .nil pass0) d_label.1 d_label.2 (pa_cons (pv 7) pa_nil)) (pa_cons (pe_cs (calls_fn G_within (hr.mono (by decide)) b_within .nil pass0) d_within.1 d_within.2 (pa_cons (pv 7) (pa_cons pe_int (pa_cons pe_int pa_nil)))) pa_nil)))))))
(pss_one (ps_ret (pe_cmpR op_eq (pe_callB (call_reprD hg hr.units) (by rfl) B.n_repr (by decide +kernel) (pa_cons (pv 2) pa_nil)) (pe_callB (call_reprD hg hr.units) (by rfl) B.n_repr (by decide +kernel) (pa_cons (pe_tup (pa_cons pe_bl (pa_cons pe_bl (pa_cons pe_bl (pa_cons pe_bl (pa_cons pe_bl pa_nil)))))) pa_nil)) (nomark _))))))))))))))), ?_⟩
    refine q_asgP (i := 1) (fun v H1 => ∃ z : Str, v = .str z ∧ z.length ≤ 500 ∧ Fr p H H1 ∧ PenAt pc H1 p (k + 80)) (fun Q kk => ⟨_, rfl, p, pc, k + 80, rfl, hp, fun z H1 hz f1 hp1 => kk _ _ ⟨z, rfl, hz, f1, hp1⟩⟩) fun v H1 hv => ?_
    obtain ⟨z, rfl, hz, f1, hp1⟩ := hv
    obtain ⟨o, ho⟩ := pen_at hp1
    refine q_asgU (xs := [nameOk (tl z), labOk (tl z), false, false].map V.bl) ?_ fun a2 H2 na2 e2 ha2 => ?_
    · refine eu_tup (ea_cons (ev_cs (ea_cons (ev_var rfl) ea_nil) fun H5 e5 Q q => ⟨_, rfl, .inl ⟨z, rfl, by omega, q⟩⟩) (ea_cons (ev_cs (ea_cons (ev_var rfl) ea_nil) fun H5 e5 Q q => ⟨_, rfl, .inl ⟨z, rfl, by omega, q⟩⟩) (ea_cons (ev_cs (ea_cons (ev_var rfl) ea_nil) fun H5 e5 Q q => ⟨_, rfl, .inr ⟨⟨_, .base (.str z), .inl (kit_ty (by decide +kernel))⟩, q H5 (Ex.refl H5)⟩⟩) (ea_cons (ev_cs (ea_cons (ev_var rfl) (ea_cons ev_c (ea_cons ev_c ea_nil))) fun H5 e5 Q q => ⟨_, _, _, rfl, .inr ⟨⟨_, .base (.str z), .inl (kit_ty (by decide +kernel))⟩, q⟩⟩) ea_nil)))) (by show 4 ≤ 100000; decide)
    refine q_when (b := false) (et_is (et_test (ev_op (ev_rBlP (ev_var rfl) ha2 (by show 4 ≤ 100; decide)) (ev_rBlU (bs := [nameOk (tl z), labOk (tl z), false, false]) (eu_tup (ea_cons (ev_cs (ea_cons (ev_var rfl) ea_nil) fun H5 e5 Q q => ⟨z, rfl, by omega, q⟩) (ea_cons (ev_cs (ea_cons (ev_var rfl) ea_nil) fun H5 e5 Q q => ⟨z, rfl, by omega, q⟩) (ea_cons ev_c (ea_cons ev_c ea_nil)))) (by show 4 ≤ 100000; decide)) (by show 4 ≤ 100; decide)) (rv_ne rfl))) (by simp)) (fun c => by cases c) fun _ H3 e3 => ?_
    have f3 : Fr p H H3 := f1.trans (Fr.of (e2.trans e3))
    have hp3 := hp1.ext (e2.trans e3)
    refine q_asgP (i := 3) (fun v H1 => ∃ nb : Int, v = .int nb ∧ Fr p H3 H1 ∧ PenAt pc H1 p (k + 77)) (fun Q kk => ?_) fun v H6 hv => ?_
    · skip
      refine pick_runI (k := k + 79) rfl (ea_cons (ev_un ev_c ru_neg) (ea_cons ev_c ea_nil)) (List.cons_ne_nil _ _) (by show 2 ≤ 1000; decide) hp3 fun x H4 hx f4 hp4 => ?_
      obtain ⟨sg1, rfl, hs1⟩ : ∃ n : Int, x = .int n ∧ (n = 1 ∨ n = -1) := by
        simp only [List.mem_cons, List.not_mem_nil, or_false] at hx
        rcases hx with rfl | rfl
        · exact ⟨_, rfl, .inr rfl⟩
        · exact ⟨_, rfl, .inl rfl⟩
      refine ⟨_, rfl, ?_⟩
      refine pick_runI (k := k + 78) rfl (ea_cons ev_c (ea_cons ev_c (ea_cons (ev_op ev_c ev_c (rv_I ⟨by decide, by decide, by decide⟩)) (ea_cons (ev_op ev_c ev_c (rv_I ⟨by decide, by decide, by decide⟩)) ea_nil)))) (List.cons_ne_nil _ _) (by show 4 ≤ 1000; decide) hp4 fun x H5 hx f5 hp5 => ?_
      obtain ⟨lim, rfl, l0, l1⟩ : ∃ n : Int, x = .int n ∧ 0 < n ∧ n ≤ 10 ^ 60 := by
        simp only [List.mem_cons, List.not_mem_nil, or_false] at hx
        rcases hx with rfl | rfl | rfl | rfl <;> exact ⟨_, rfl, by decide, by decide⟩
      have b60 : (10 : Int) ^ 60 < 2 ^ 200 := by decide
      refine ⟨p, lim, k + 77, pc, rfl, l0, by omega, hp5, fun r H6 r0 r1 f6 hp6 => ?_⟩
      refine ⟨sg1, r, rfl, rfl, ?_, ?_⟩
      · have h1 : r.natAbs.log2 < 200 := PySem.Flt.log2_lt_of (by decide) (by
          have h2 : ((2 ^ 200 : Nat) : Int) = (2 : Int) ^ 200 := by decide
          omega)
        rcases hs1 with rfl | rfl
        · show (1 : Int).natAbs.log2 + r.natAbs.log2 < 1000000
          have : (1 : Int).natAbs.log2 = 0 := by decide
          omega
        · show (-1 : Int).natAbs.log2 + r.natAbs.log2 < 1000000
          have : (-1 : Int).natAbs.log2 = 0 := by decide
          omega
      exact kk _ _ ⟨sg1 * r, rfl, f4.trans (f5.trans f6), hp6⟩
    obtain ⟨nb, rfl, f36, hp6⟩ := hv
    refine q_asgP (i := 4) (fun v H1 => ∃ l : Option Int, v = obV l ∧ Fr p H6 H1 ∧ PenAt pc H1 p (k + 75)) (fun Q kk => ?_) fun v H7 hv => ?_
    · refine ⟨_, rfl, _, rfl, _, _, rfl, rfl, ?_⟩
      refine draw_run (k := k + 76) rfl ev_c (by decide) (by decide) hp6 fun r2 Ha r0 r3 fa hpa => ⟨_, _, rfl, rfl, ?_⟩
      refine ⟨_, rfl, _, rfl, _, _, rfl, rfl, sz (by show 5 ≤ 1000000; decide), fun q nq => ?_⟩
      refine ⟨p, q, _, k + 75, pc, rfl, upd_same, pen_ne hpa nq, List.cons_ne_nil _ _, by show 5 ≤ 1000; decide, hpa.ext (Ex.new nq), fun x Hb hx fb hpb => ?_⟩
      simp only [List.mem_cons, List.not_mem_nil, or_false] at hx
      have fab := fa.trans ((Fr.of (Ex.new nq)).trans fb)
      rcases hx with rfl | rfl | rfl | rfl | rfl
      · exact kk _ _ ⟨none, rfl, fab, hpb⟩
      · exact kk _ _ ⟨some _, rfl, fab, hpb⟩
      · exact kk _ _ ⟨some _, rfl, fab, hpb⟩
      · exact kk _ _ ⟨some _, rfl, fab, hpb⟩
      · exact kk _ _ ⟨some _, rfl, fab, hpb⟩
    obtain ⟨lo, rfl, f67, hp7⟩ := hv
    refine q_asgP (i := 5) (fun v H1 => ∃ l : Option Int, v = obV l ∧ Fr p H7 H1 ∧ PenAt pc H1 p (k + 73)) (fun Q kk => ?_) fun v H8 hv => ?_
    · refine ⟨_, rfl, _, rfl, _, _, rfl, rfl, ?_⟩
      refine draw_run (k := k + 74) rfl ev_c (by decide) (by decide) hp7 fun r2 Ha r0 r3 fa hpa => ⟨_, _, rfl, rfl, ?_⟩
      refine ⟨_, rfl, _, rfl, _, _, rfl, rfl, sz (by show 5 ≤ 1000000; decide), fun q nq => ?_⟩
      refine ⟨p, q, _, k + 73, pc, rfl, upd_same, pen_ne hpa nq, List.cons_ne_nil _ _, by show 5 ≤ 1000; decide, hpa.ext (Ex.new nq), fun x Hb hx fb hpb => ?_⟩
      simp only [List.mem_cons, List.not_mem_nil, or_false] at hx
      have fab := fa.trans ((Fr.of (Ex.new nq)).trans fb)
      rcases hx with rfl | rfl | rfl | rfl | rfl
      · exact kk _ _ ⟨none, rfl, fab, hpb⟩
      · exact kk _ _ ⟨some _, rfl, fab, hpb⟩
      · exact kk _ _ ⟨some _, rfl, fab, hpb⟩
      · exact kk _ _ ⟨some _, rfl, fab, hpb⟩
      · exact kk _ _ ⟨some _, rfl, fab, hpb⟩
    obtain ⟨hi, rfl, f78, hp8⟩ := hv
    refine q_asg (v := .bl (loOk lo nb && hiOk hi nb)) ?_ fun H9 e9 => ?_
    · refine ev_andV (a := loOk lo nb) (b := hiOk hi nb) ?_ fun _ => ?_
      · cases lo with
        | none => exact ev_orV (a := true) (b := true) (ev_isNon (ev_var rfl)) fun c => by cases c
        | some j => exact ev_orV (a := false) (b := loOk (some j) nb) (ev_isNonI (ev_var rfl)) fun _ => ev_op (ev_var rfl) (ev_var rfl) rv_I0
      · cases hi with
        | none => exact ev_orV (a := true) (b := true) (ev_isNon (ev_var rfl)) fun c => by cases c
        | some j => exact ev_orV (a := false) (b := hiOk (some j) nb) (ev_isNonI (ev_var rfl)) fun _ => ev_op (ev_var rfl) (ev_var rfl) rv_I0
    have notS : ∀ H' : Hp, NotS K H' (.int nb) := fun H' => ⟨_, .base (.int nb), kit_ty (by decide +kernel)⟩
    refine q_asgU (xs := [true, loOk lo nb && hiOk hi nb, false, false].map V.bl) ?_ fun a10 H10 na10 e10 ha10 => ?_
    · refine eu_tup (ea_cons (ev_cs (ea_cons (ev_var rfl) ea_nil) fun H5 e5 Q q => ⟨_, rfl, .inl ⟨nb, rfl, q H5 (Ex.refl H5)⟩⟩) (ea_cons (ev_cs (ea_cons (ev_var rfl) (ea_cons (ev_var rfl) (ea_cons (ev_var rfl) ea_nil))) fun H5 e5 Q q => ⟨_, _, _, rfl, .inl ⟨nb, lo, hi, rfl, rfl, rfl, q⟩⟩) (ea_cons (ev_cs (ea_cons (ev_var rfl) ea_nil) fun H5 e5 Q q => ⟨_, rfl, .inr ⟨notS H5, q⟩⟩) (ea_cons (fun H5 e5 Q q => ⟨_, rfl, _, rfl, .inr ⟨notS H5, q⟩⟩) ea_nil)))) (by show 4 ≤ 100000; decide)
    refine q_when (b := false) (et_is (et_test (ev_op (ev_rBlP (ev_var rfl) ha10 (by show 4 ≤ 100; decide)) (ev_rBlU (bs := [true, loOk lo nb && hiOk hi nb, false, false]) (eu_tup (ea_cons ev_c (ea_cons (ev_var rfl) (ea_cons ev_c (ea_cons ev_c ea_nil)))) (by show 4 ≤ 100000; decide)) (by show 4 ≤ 100; decide)) (rv_ne rfl))) (by simp)) (fun c => by cases c) fun _ H11 e11 => ?_
    have e911 := (e9.trans e10).trans e11
    have hp11 := hp8.ext e911
    have pa := pen_at hp11
    have f11 : Fr p H H11 := f3.trans (f36.trans (f67.trans (f78.trans (Fr.of e911))))
    refine q_asgP (i := 7) (fun v H1 => NoIS K v H1 ∧ (∀ H', Ex H1 H' → NoIS K v H') ∧ Fr p H11 H1 ∧ PenAt pc H1 p (k + 72)) (fun Q kk => ?_) fun v H12 hv => ?_
    · refine pick_runM (R := NoIS K) (n := 11) (k := k + 72) rfl ?_ (by decide) (hp11.less (by omega)) fun x H1 hx fx px => kk _ _ ⟨hx.now, fun H' e => (hx.ext e).now, fx, px⟩
      refine eaM_cons (em_v ev_c fun _ => ni_non) (eaM_cons (em_v ev_c fun _ => ni_bl) (eaM_cons (em_v ev_c fun _ => ni_bl) (eaM_cons (em_lst pa (el_lst ea_nil (by show 0 ≤ 100000; decide)) fun a H' h => ni_lst h) (eaM_cons (em_lst pa (el_lst (ea_cons (ev_var rfl) ea_nil) (by show 1 ≤ 100000; decide)) fun a H' h => ni_lst h) (eaM_cons (em_tup pa (eu_tup ea_nil (by show 0 ≤ 100000; decide)) fun a H' h => ni_tup h) (eaM_cons (em_tup pa (eu_tup (ea_cons ev_c ea_nil) (by show 1 ≤ 100000; decide)) fun a H' h => ni_tup h) (eaM_cons (em_d0 pa fun a H' h => ni_d h) (eaM_cons (em_d1 pa ev_c fun a H' h => ni_d h) (eaM_cons (em_ins pa (ei_mk (dvs := [.int 1]) (ea_cons ev_c ea_nil) rfl (by decide) (by decide +kernel)) fun a dx H' h => ni_ins T kI kS h) (eaM_cons (em_ins pa (ei_mk (dvs := []) (ea_cons ev_c (ea_cons ev_c ea_nil)) rfl (by decide) (by decide +kernel)) fun a dx H' h => ni_ins T kI kS h) (eaM_cons (em_lst pa (el_lst (ea_cons ev_c ea_nil) (by show 1 ≤ 100000; decide)) fun a H' h => ni_lst h) eaM_nil)))))))))))
    obtain ⟨_, no, f12, hp12⟩ := hv
    refine q_asgU (xs := [false, false, false, false, false].map V.bl) ?_ fun a13 H13 na13 e13 ha13 => ?_
    · exact eu_tup (ea_cons (ev_cs (ea_cons (ev_var rfl) ea_nil) fun H5 e5 Q q => ⟨_, rfl, .inr ⟨(no H5 e5).1, q H5 (Ex.refl H5)⟩⟩) (ea_cons (fun H5 e5 Q q => ⟨_, rfl, _, _, _, rfl, .inr ⟨(no H5 e5).1, q⟩⟩) (ea_cons (ev_cs (ea_cons (ev_var rfl) ea_nil) fun H5 e5 Q q => ⟨_, rfl, .inr ⟨(no H5 e5).2, q⟩⟩) (ea_cons (ev_cs (ea_cons (ev_var rfl) ea_nil) fun H5 e5 Q q => ⟨_, rfl, .inr ⟨(no H5 e5).2, q⟩⟩) (ea_cons (ev_cs (ea_cons (ev_var rfl) (ea_cons ev_c (ea_cons ev_c ea_nil))) fun H5 e5 Q q => ⟨_, _, _, rfl, .inr ⟨(no H5 e5).1, q⟩⟩) ea_nil))))) (by show 5 ≤ 100000; decide)
    refine s_ret (ev_is (ev_op (ev_rBlP (ev_var rfl) ha13 (by show 5 ≤ 100; decide)) (ev_rBlU (bs := [false, false, false, false, false]) (eu_tup (ea_cons ev_c (ea_cons ev_c (ea_cons ev_c (ea_cons ev_c (ea_cons ev_c ea_nil))))) (by show 5 ≤ 100000; decide)) (by show 5 ≤ 100; decide)) (rv_eq rfl)) (w := .bl true) (by simp)) fun H14 e14 => ?_
    exact kq H14 (f11.trans (f12.trans (Fr.of (e13.trans e14)))) ((hp12.ext (e13.trans e14)).less (by omega))
end
end K00
end

section -- K00j
set_option linter.all false
set_option exponentiation.threshold 9000
set_option maxRecDepth 100000
set_option maxHeartbeats 8000000
namespace K00
open PySem PySem.Spec L2 Pk Evl
open PyProof.Rows hiding St
open TL (tl numL)
section
variable {K : PySem.W.Frag} {p pc : Addr} {σ : L2.St} {H : Hp} {te : TE} {R : V → Hp → Prop} {P : Program} {w : World} {C : Addr}
theorem em_d1L {x : Str} {xs : List V} (hp : ∃ o, H p = some o) (h : EvL te σ H xs) (r : ∀ a b H', H' a = some (.dK [(Sum.inr x, .ref b)]) → H' b = some (.lst xs) → R (.ref a) H') : EvM p R (tDisp [(tC (.str x), te)]) σ H := fun H1 e Q k a na => h _ (e.trans (Ex.new na)) _ fun b H2 nb e2 hb => by
  have ne : ∀ {c : Addr} {H3 : Hp}, Ex H H3 → H3 c = none → c ≠ p := fun {c H3} e3 nc z => by
    obtain ⟨o, ho⟩ := hp
    rw [z, e3 _ _ ho] at nc
    cases nc
  have ap : a ≠ p := ne e na
  have bp : b ≠ p := ne (e.trans (Ex.new na)) nb
  have hd : H2 a = some (.dK []) := e2 _ _ upd_same
  have ba : b ≠ a := fun z => by
    rw [z, hd] at hb
    cases hb
  refine ⟨hd, [(Sum.inr x, .ref b)], rfl, (by show 1 ≤ 15; decide), k _ _ (fun c o hc => ?_) fun H' f => r a b H' (f _ _ ap upd_same) (f _ _ bp (by rw [upd_ne ba]; exact hb))⟩
  rw [upd_ne (ne_of_none hc na)]
  exact e2 _ _ (Ex.new na _ _ hc)
theorem em_lstL {xs : List V} (hp : ∃ o, H p = some o) (h : EvL te σ H xs) (r : ∀ a b H', H' a = some (.lst [.ref b]) → H' b = some (.lst xs) → R (.ref a) H') : EvM p R (tLst (tCons te tNil)) σ H := fun H1 e Q k => h H1 e _ fun b H2 nb e2 hb => ⟨sz_of (by show 1 ≤ 100000; decide), fun a na => by
  have ne : ∀ {c : Addr} {H3 : Hp}, Ex H H3 → H3 c = none → c ≠ p := fun {c H3} e3 nc z => by
    obtain ⟨o, ho⟩ := hp
    rw [z, e3 _ _ ho] at nc
    cases nc
  exact k _ _ (e2.trans (Ex.new na)) fun H' f => r a b H' (f _ _ (ne (e.trans e2) na) upd_same) (f _ _ (ne e nb) (Ex.new na _ _ hb))⟩
theorem sho_ref {a : Addr} {d : PyData} (hd : Dp K H (.ref a) d) (h1 : d.showable = true) (h2 : d.hasDict = false) (h3 : d.depth ≤ 40) (h4 : d.shown.length ≤ 2000) : Sho P w K C H (.ref a) d.shown := ⟨h4, .inl ⟨rk_dp hd h1 h2 h3 h4, top_ref hd h1 h2 h3 h4⟩⟩
theorem sho_non : Sho P w K C H .non (PyData.none).shown := ⟨by decide +kernel, .inl ⟨rk_dp .non (by decide +kernel) (by decide +kernel) (by decide +kernel) (by decide +kernel), by simp only [PyData.shown]; exact top_non⟩⟩
theorem sho_bl (b : Bool) : Sho P w K C H (.bl b) (PyData.bool b).shown := ⟨by cases b <;> decide +kernel, .inl ⟨rk_dp (.bl b) (by cases b <;> decide +kernel) (by cases b <;> decide +kernel) (by cases b <;> decide +kernel) (by cases b <;> decide +kernel), by simp only [PyData.shown]; exact top_bl b⟩⟩
theorem sho_int {i : Int} (hi : i.natAbs.log2 < 1000) : Sho P w K C H (.int i) (PyData.int i).shown := by
  have l : (PyData.int i).shown.length ≤ 2000 := by
    have := numLen hi
    simp only [PyData.shown]
    omega
  exact ⟨l, .inl ⟨rk_dp (.int i) (by simp only [PyData.showable]; exact decide_eq_true (by omega)) (by simp only [PyData.hasDict]) (by simp only [PyData.depth]; omega) l, by simp only [PyData.shown]; exact top_int (by omega)⟩⟩
theorem sho_str {x : Str} (h : (reprText x).length ≤ 2000) : Sho P w K C H (.str x) (PyData.str x).shown := by
  have l : (PyData.str x).shown.length ≤ 2000 := by simp only [PyData.shown]; exact h
  exact ⟨l, .inl ⟨rk_dp (.str x) (by simp only [PyData.showable]) (by simp only [PyData.hasDict]) (by simp only [PyData.depth]; omega) l, by simp only [PyData.shown]; exact top_str (sz (by omega))⟩⟩
theorem sho_rat {a dx : Addr} {t b : Int} (h : H a = some (.ins C dx (rf t b))) (h1 : t.natAbs.log2 < 1000) (h2 : b.natAbs.log2 < 1000) (h3 : (ratText t b).length ≤ 2000) : Sho P w K C H (.ref a) (ratText t b) := ⟨h3, .inr ⟨a, t, b, rfl, ⟨dx, h⟩, h1, h2, rfl⟩⟩
theorem sho_dict {a b : Addr} (ha : H a = some (.dK [(Sum.inr "a", .ref b)])) (hb : H b = some (.lst [.int 1])) : ∃ t, Sho P w K C H (.ref a) t := by
  have d1 : Dp K H (.ref b) (.list [.int 1]) := .lst (sq_of hb) (.cons (.int 1) .nil)
  have l1 : (reprText (Str.ofString "a")).length ≤ 400 := by decide +kernel
  have l2 : (PyData.list [.int 1]).shown.length ≤ 400 := by decide +kernel
  have l3 : (dictText [reprText (Str.ofString "a") ++ ": " ++ (PyData.list [.int 1]).shown]).length ≤ 2000 := by decide +kernel
  exact ⟨_, l3, .inl ⟨rk_dict1 ha d1 (by decide +kernel) (by decide +kernel) l1 l2 (by decide +kernel), top_dict1 ha d1 (by decide +kernel) (by decide +kernel) l1 l2 (by decide +kernel)⟩⟩
end
def spLaw (K : PySem.W.Frag) : Sp := fun vs H Q _ => ∃ (s : Addr) (ns : List Int), vs = [.ref s] ∧ SqL K H s (ns.map V.int) ∧ ∀ H1, Q (.bl true) H1
section
variable {P : Program} {w : World} {K : PySem.W.Frag} {mg : Str → Option Value} {base : Heap}
theorem sc_law : FnScope ["_law_script", "_law_pen_here", "_law_one", "_law_two", "_law_turn"] ["_law_script"] (defScope sLaw) := ⟨rfl, rfl, rfl, by decide +kernel, rfl, by decide +kernel, by decide +kernel⟩
theorem ok_law {f fPen fP fE fKn fR C D : Addr} {fd fdPen fdP fdE fdKn fdR : FuncData} {ds1 : List Value} (F : Fun K "law" "law" sLaw f fd) (B : Bi mg)
    (G_pen : FnOk P w K mg base CX0 1 fPen fdPen ["_law_script"] (spPen K)) (b_pen : Binds K fdPen ["_law_script"] []) (d_pen : Df K mg "_law_pen" fPen)
    (G_pickL : FnOk P w K mg base CX0 2 fP fdP ["_law_pen_here", "_law_some"] spPickL) (b_pick : Binds K fdP ["_law_pen_here", "_law_some"] []) (d_pick : Df K mg "_law_pick" fP)
    (G_errors : FnG P w K mg base CX0 8 fE fdE ["_law_one", "_law_two"] (spErrors P w K C)) (b_errors : Binds K fdE ["_law_one", "_law_two"] []) (d_errors : Df K mg "_law_errors_right" fE)
    (G_kinds : FnG P w K mg base CX0 6 fKn fdKn ["_law_pen_here"] spKinds) (b_kinds : Binds K fdKn ["_law_pen_here"] []) (d_kinds : Df K mg "_law_kinds_right" fKn)
    (M_R : Mk K C fR) (G_R : FnOk P w K mg base (L2.CX P w) 3 fR fdR ["self", "top", "bottom"] (spRi K C D)) (b_R : Binds K fdR ["self", "top", "bottom"] []) (b_R1 : Binds K fdR ["self", "top", "bottom"] ds1) (v_R1 : Vals [.int 1] ds1) (d_R : Df K mg "Ratio" C) : FnG P w K mg base CX0 9 f fd ["_law_script"] (spLaw K) := by
  refine fnG_of F sc_law (fun vs H Q E h => ?_) (fun cdv A outer s H vs Q E hr hg h => ?_)
  · obtain ⟨s, ns, rfl, _⟩ := h
    rfl
  · obtain ⟨s, ns, rfl, hs, kq⟩ := h
    have nd := sc_law.nd
    refine ⟨_, PSs.nox (pss_cons (ps_set (i := 1) nd rfl (Or.inl rfl) (pe_cs (calls_fn G_pen (hr.mono (by decide)) b_pen .nil pass0) d_pen.1 d_pen.2 (pa_cons (pv 0) pa_nil)))
(pss_cons (ps_set (i := 2) nd rfl (Or.inl rfl) (pe_cs (calls_fn G_pickL (hr.mono (by decide)) b_pick .nil pass0) d_pick.1 d_pick.2 (pa_cons (pv 1) (pa_cons (pe_lst (pa_cons pe_non (pa_cons pe_int (pa_cons pe_str (pa_cons (pe_tup (pa_cons pe_int (pa_cons pe_int pa_nil))) (pa_cons (pe_lst (pa_cons pe_int pa_nil)) (pa_cons (pe_disp (pps_cons pe_str (pe_lst (pa_cons pe_int pa_nil)) pps_nil) rfl rfl (by simp) (by simp)) (pa_cons pe_bl (pa_cons (pe_cs (calls_make M_R G_R (hr.mono (by decide)) b_R .nil passL) d_R.1 d_R.2 (pa_cons (pe_un un_neg pe_int) (pa_cons pe_int pa_nil))) (pa_cons (pe_un un_neg (pe_op op_powW pe_int pe_int)) pa_nil)))))))))) pa_nil))))
(pss_cons (ps_set (i := 3) nd rfl (Or.inl rfl) (pe_cs (calls_fn G_pickL (hr.mono (by decide)) b_pick .nil pass0) d_pick.1 d_pick.2 (pa_cons (pv 1) (pa_cons (pe_lst (pa_cons pe_str (pa_cons pe_int (pa_cons pe_non (pa_cons (pe_lst (pa_cons (pe_lst pa_nil) pa_nil)) (pa_cons (pe_tup (pa_cons pe_str pa_nil)) (pa_cons pe_bl (pa_cons (pe_cs (calls_make M_R G_R (hr.mono (by decide)) b_R1 v_R1 passL) d_R.1 d_R.2 (pa_cons pe_int pa_nil)) (pa_cons (pe_op op_powW pe_int pe_int) pa_nil))))))))) pa_nil))))
(pss_cons (ps_if (pt_not (pt_val (pe_cs (callsG G_errors (hr.mono (by decide)) hg b_errors .nil pass0) d_errors.1 d_errors.2 (pa_cons (pv 2) (pa_cons (pv 3) pa_nil)))))
(pss_one (ps_ret pe_bl))
pss_nil)
(pss_cons (ps_for PassesOwn.never rfl (pi_range1 (by rfl) B.n_range (pa_cons pe_int pa_nil)) (pg_name (i := 4) nd rfl (Or.inl rfl))
(pss_one (ps_if (pt_not (pt_val (pe_cs (callsG G_kinds (hr.mono (by decide)) hg b_kinds .nil pass0) d_kinds.1 d_kinds.2 (pa_cons (pv 1) pa_nil))))
(pss_one (ps_ret pe_bl))
pss_nil)))
(pss_one (ps_ret pe_bl))))))), ?_⟩
    refine q_asgP (i := 1) (fun v H1 => ∃ p pc, v = .ref p ∧ PenAt pc H1 p 5000) (fun Q kk => ⟨_, rfl, s, ns, rfl, hs, fun p c H1 np e hp => kk _ _ ⟨p, c, rfl, hp.less (by decide)⟩⟩) fun v H1 hv => ?_
    obtain ⟨p, pc, rfl, hp⟩ := hv
    have pa := pen_at hp
    refine q_asgP (i := 2) (fun v H2 => RF p (fun v H => ∃ t, Sho P w K C H v t) v H2 ∧ PenAt pc H2 p 4000) (fun Q kk => ?_) fun one H2 hv => ?_
    · refine pick_runM (R := fun v H => ∃ t, Sho P w K C H v t) (n := 8) (k := 4000) rfl ?_ (by decide) (hp.less (by decide)) fun x H1 hx fx px => kk _ _ ⟨hx, px⟩
      exact eaM_cons (em_v ev_c fun _ => ⟨_, sho_non⟩) (eaM_cons (em_v ev_c fun _ => ⟨_, sho_int (by decide +kernel)⟩) (eaM_cons (em_v ev_c fun _ => ⟨_, sho_str (by decide +kernel)⟩) (eaM_cons (em_tup pa (eu_tup (ea_cons ev_c (ea_cons ev_c ea_nil)) (by show 2 ≤ 100000; decide)) fun a H' h => ⟨_, sho_ref (.tup (st_of h) (.cons (.int 1) (.cons (.int 2) .nil))) (by decide +kernel) (by decide +kernel) (by decide +kernel) (by decide +kernel)⟩) (eaM_cons (em_lst pa (el_lst (ea_cons ev_c ea_nil) (by show 1 ≤ 100000; decide)) fun a H' h => ⟨_, sho_ref (.lst (sq_of h) (.cons (.int 1) .nil)) (by decide +kernel) (by decide +kernel) (by decide +kernel) (by decide +kernel)⟩) (eaM_cons (em_d1L pa (el_lst (ea_cons ev_c ea_nil) (by show 1 ≤ 100000; decide)) fun a b H' ha hb => sho_dict ha hb) (eaM_cons (em_v ev_c fun _ => ⟨_, sho_bl true⟩) (eaM_cons (em_ins pa (ei_mk (dvs := []) (ea_cons (ev_un ev_c ru_neg) (ea_cons ev_c ea_nil)) rfl (by decide) (by decide +kernel)) fun a dx H' h => ⟨_, sho_rat h (by decide +kernel) (by decide +kernel) (by decide +kernel)⟩) (eaM_cons (em_v (ev_un (ev_op ev_c ev_c (rv_I ⟨by decide, by decide, by decide⟩)) ru_neg) fun _ => ⟨_, sho_int (by decide +kernel)⟩) eaM_nil))))))))
    obtain ⟨ho, hp2⟩ := hv
    have pa2 := pen_at hp2
    refine q_asgP (i := 3) (fun v H3 => RF p (fun v H => ∃ t, Sho P w K C H v t) v H3 ∧ Fr p H2 H3 ∧ PenAt pc H3 p 3000) (fun Q kk => ?_) fun two H3 hv => ?_
    · refine pick_runM (R := fun v H => ∃ t, Sho P w K C H v t) (n := 7) (k := 3000) rfl ?_ (by decide) (hp2.less (by decide)) fun x H1 hx fx px => kk _ _ ⟨hx, fx, px⟩
      exact eaM_cons (em_v ev_c fun _ => ⟨_, sho_str (by decide +kernel)⟩) (eaM_cons (em_v ev_c fun _ => ⟨_, sho_int (by decide +kernel)⟩) (eaM_cons (em_v ev_c fun _ => ⟨_, sho_non⟩) (eaM_cons (em_lstL pa2 (el_lst ea_nil (by show 0 ≤ 100000; decide)) fun a b H' ha hb => ⟨_, sho_ref (.lst (sq_of ha) (.cons (.lst (sq_of hb) .nil) .nil)) (by decide +kernel) (by decide +kernel) (by decide +kernel) (by decide +kernel)⟩) (eaM_cons (em_tup pa2 (eu_tup (ea_cons ev_c ea_nil) (by show 1 ≤ 100000; decide)) fun a H' h => ⟨_, sho_ref (.tup (st_of h) (.cons (.str _) .nil)) (by decide +kernel) (by decide +kernel) (by decide +kernel) (by decide +kernel)⟩) (eaM_cons (em_v ev_c fun _ => ⟨_, sho_bl false⟩) (eaM_cons (em_ins pa2 (ei_mk (dvs := [.int 1]) (ea_cons ev_c ea_nil) rfl (by decide) (by decide +kernel)) fun a dx H' h => ⟨_, sho_rat h (by decide +kernel) (by decide +kernel) (by decide +kernel)⟩) (eaM_cons (em_v (ev_op ev_c ev_c (rv_I ⟨by decide, by decide, by decide⟩)) fun _ => ⟨_, sho_int (by decide +kernel)⟩) eaM_nil)))))))
    obtain ⟨ht, f23, hp3⟩ := hv
    obtain ⟨t1, so⟩ := (ho.fr f23).now
    obtain ⟨t2, st⟩ := ht.now
    refine q_when (b := false) (et_is (et_not (et_B (b := true) (ev_cs (ea_cons (ev_var rfl) (ea_cons (ev_var rfl) ea_nil)) fun H5 e5 Q q => ⟨one, two, t1, t2, rfl, so.ext e5, st.ext e5, q⟩))) rfl) (fun c => by cases c) fun _ H4 e4 => ?_
    have hp4 := hp3.ext e4
    refine q_forR1 (ea_cons ev_c ea_nil) (by decide) (fun i σ' H' => ∃ o4 : Option V, σ' = [some (.ref s), some (.ref p), some one, some two, o4] ∧ PenAt pc H' p (3000 - 200 * i)) (fun H5 e5 => ⟨_, rfl, hp4.ext e5⟩) (fun i σ' H' hi pv => ?_) (fun σ' H' pv => ?_)
    · obtain ⟨o4, rfl, hp5⟩ := pv
      refine ⟨_, rfl, p, pc, 3000 - 200 * (i + 1), rfl, hp5.less (by omega), fun H6 f6 hp6 => ⟨true, rfl, if_f rfl ?_⟩⟩
      exact ⟨_, rfl, hp6⟩
    · obtain ⟨o4, rfl, hp5⟩ := pv
      exact s_ret (v := .bl true) ev_c fun H6 _ => kq H6
end
end K00
end

section -- K00k
set_option linter.all false
set_option maxRecDepth 100000
set_option maxHeartbeats 4000000
namespace K00
open PySem PySem.Spec L2 Pk Evl
open PyProof.Rows hiding St
/-! ### how the exceptions' __init__ bind -/
theorem gW_rel {vs zs : List V} {us ws : List Value} (r1 : Vals vs us) (r2 : Vals zs ws) : Vals (gWV vs zs) (gW us ws) := by
  cases r1 with
  | nil => exact .nil
  | cons h1 t1 =>
    cases t1 with
    | cons _ _ => exact .nil
    | nil =>
      cases r2 with
      | nil => exact .nil
      | cons h2 t2 =>
        cases t2 with
        | nil => exact .nil
        | cons h3 t3 =>
          cases t3 with
          | nil => exact .cons h1 (.cons h2 (.cons h3 .nil))
          | cons _ _ => exact .nil
section
variable {P : Program} {w : World} {K : PySem.W.Frag} {mg : Str → Option Value} {base : Heap}
theorem kb_label {f : Addr} {fd : FuncData} (F : Fun K "is_label" "is_label" sIsLabel f fd) : KBinds K fd ["value"] ["value"] (fun us ws => us ++ ws) (fun vs zs => vs ++ zs) := by
  obtain ⟨oc, od, kV, doc, pm, an, cdv, ct, osl, rfl, lk, hcd⟩ := F.ex
  exact ⟨fun s us ws _ hl => match us, ws, hl with
    | [], [_], _ => .of_eq rfl
    | [_], [], _ => .of_eq rfl, fun r1 r2 => r1.append r2⟩
theorem kb_within {f : Addr} {fd : FuncData} (F : Fun K "is_within" "is_within" sWithin f fd) : KBinds K fd ["value", "least", "most"] ["least", "most"] gW gWV := by
  obtain ⟨oc, od, kV, doc, pm, an, cdv, ct, osl, rfl, lk, hcd⟩ := F.ex
  exact ⟨fun s us ws _ hl => match us, ws, hl with
    | [_], [_, _], _ => .of_eq rfl
    | [], _, h => by simp [gW] at h
    | [_], [], h => by simp [gW] at h
    | [_], [_], h => by simp [gW] at h
    | [_], _ :: _ :: _ :: _, h => by simp [gW] at h
    | _ :: _ :: _, _, h => by simp [gW] at h, gW_rel⟩
theorem xk_BadRatio {f C : Addr} {fd : FuncData} {x : Str} (F : Fun K "__init__" "BadRatio.__init__" sX13 f fd) (gl : mg x = some (.ref C)) (ox : OexC K C) (iC : PySem.W.findIn K (.ref C) "__init__" = some (some (.ref f))) (tI : PySem.W.typeIn K (.ref f) = some (.type "function")) (no0 : PySem.W.findIn K (.ref C) "part" = some none) : XKE P w K mg base x C ["part"] := by
  have G := ok_X13 (P := P) (w := w) (base := base) (mg := mg) F ox no0
  obtain ⟨oc, od, kV, doc, pm, an, cdv, ct, osl, rfl, lk, hcd⟩ := F.ex
  exact ⟨_, _, ⟨gl, ox, iC, tI, G, ⟨fun s us ws _ h1 h2 => match us, ws, h1, h2 with | [_, _], [], _, _ => .of_eq rfl, fun r _ => r⟩, ⟨fun s us ws _ h1 h2 => match us, ws, h1, h2 with | [_], [_], _, _ => .of_eq rfl, fun r1 r2 => r1.append (vals_rev r2)⟩⟩⟩
theorem xk_BadCrowd {f C : Addr} {fd : FuncData} {x : Str} (F : Fun K "__init__" "BadCrowd.__init__" sX14 f fd) (gl : mg x = some (.ref C)) (ox : OexC K C) (iC : PySem.W.findIn K (.ref C) "__init__" = some (some (.ref f))) (tI : PySem.W.typeIn K (.ref f) = some (.type "function")) (no0 : PySem.W.findIn K (.ref C) "part" = some none) : XKE P w K mg base x C ["part"] := by
  have G := ok_X14 (P := P) (w := w) (base := base) (mg := mg) F ox no0
  obtain ⟨oc, od, kV, doc, pm, an, cdv, ct, osl, rfl, lk, hcd⟩ := F.ex
  exact ⟨_, _, ⟨gl, ox, iC, tI, G, ⟨fun s us ws _ h1 h2 => match us, ws, h1, h2 with | [_, _], [], _, _ => .of_eq rfl, fun r _ => r⟩, ⟨fun s us ws _ h1 h2 => match us, ws, h1, h2 with | [_], [_], _, _ => .of_eq rfl, fun r1 r2 => r1.append (vals_rev r2)⟩⟩⟩
theorem xk_BadTable {f C : Addr} {fd : FuncData} {x : Str} (F : Fun K "__init__" "BadTable.__init__" sX15 f fd) (gl : mg x = some (.ref C)) (ox : OexC K C) (iC : PySem.W.findIn K (.ref C) "__init__" = some (some (.ref f))) (tI : PySem.W.typeIn K (.ref f) = some (.type "function")) (no0 : PySem.W.findIn K (.ref C) "part" = some none) : XKE P w K mg base x C ["part"] := by
  have G := ok_X15 (P := P) (w := w) (base := base) (mg := mg) F ox no0
  obtain ⟨oc, od, kV, doc, pm, an, cdv, ct, osl, rfl, lk, hcd⟩ := F.ex
  exact ⟨_, _, ⟨gl, ox, iC, tI, G, ⟨fun s us ws _ h1 h2 => match us, ws, h1, h2 with | [_, _], [], _, _ => .of_eq rfl, fun r _ => r⟩, ⟨fun s us ws _ h1 h2 => match us, ws, h1, h2 with | [_], [_], _, _ => .of_eq rfl, fun r1 r2 => r1.append (vals_rev r2)⟩⟩⟩
theorem xk_BadChances {f C : Addr} {fd : FuncData} {x : Str} (F : Fun K "__init__" "BadChances.__init__" sX16 f fd) (gl : mg x = some (.ref C)) (ox : OexC K C) (iC : PySem.W.findIn K (.ref C) "__init__" = some (some (.ref f))) (tI : PySem.W.typeIn K (.ref f) = some (.type "function")) (no0 : PySem.W.findIn K (.ref C) "part" = some none) : XKE P w K mg base x C ["part"] := by
  have G := ok_X16 (P := P) (w := w) (base := base) (mg := mg) F ox no0
  obtain ⟨oc, od, kV, doc, pm, an, cdv, ct, osl, rfl, lk, hcd⟩ := F.ex
  exact ⟨_, _, ⟨gl, ox, iC, tI, G, ⟨fun s us ws _ h1 h2 => match us, ws, h1, h2 with | [_, _], [], _, _ => .of_eq rfl, fun r _ => r⟩, ⟨fun s us ws _ h1 h2 => match us, ws, h1, h2 with | [_], [_], _, _ => .of_eq rfl, fun r1 r2 => r1.append (vals_rev r2)⟩⟩⟩
theorem xk_BadWatch {f C : Addr} {fd : FuncData} {x : Str} (F : Fun K "__init__" "BadWatch.__init__" sX17 f fd) (gl : mg x = some (.ref C)) (ox : OexC K C) (iC : PySem.W.findIn K (.ref C) "__init__" = some (some (.ref f))) (tI : PySem.W.typeIn K (.ref f) = some (.type "function")) (no0 : PySem.W.findIn K (.ref C) "part" = some none) : XKE P w K mg base x C ["part"] := by
  have G := ok_X17 (P := P) (w := w) (base := base) (mg := mg) F ox no0
  obtain ⟨oc, od, kV, doc, pm, an, cdv, ct, osl, rfl, lk, hcd⟩ := F.ex
  exact ⟨_, _, ⟨gl, ox, iC, tI, G, ⟨fun s us ws _ h1 h2 => match us, ws, h1, h2 with | [_, _], [], _, _ => .of_eq rfl, fun r _ => r⟩, ⟨fun s us ws _ h1 h2 => match us, ws, h1, h2 with | [_], [_], _, _ => .of_eq rfl, fun r1 r2 => r1.append (vals_rev r2)⟩⟩⟩
theorem xk_BadStudy {f C : Addr} {fd : FuncData} {x : Str} (F : Fun K "__init__" "BadStudy.__init__" sX18 f fd) (gl : mg x = some (.ref C)) (ox : OexC K C) (iC : PySem.W.findIn K (.ref C) "__init__" = some (some (.ref f))) (tI : PySem.W.typeIn K (.ref f) = some (.type "function")) (no0 : PySem.W.findIn K (.ref C) "part" = some none) : XKE P w K mg base x C ["part"] := by
  have G := ok_X18 (P := P) (w := w) (base := base) (mg := mg) F ox no0
  obtain ⟨oc, od, kV, doc, pm, an, cdv, ct, osl, rfl, lk, hcd⟩ := F.ex
  exact ⟨_, _, ⟨gl, ox, iC, tI, G, ⟨fun s us ws _ h1 h2 => match us, ws, h1, h2 with | [_, _], [], _, _ => .of_eq rfl, fun r _ => r⟩, ⟨fun s us ws _ h1 h2 => match us, ws, h1, h2 with | [_], [_], _, _ => .of_eq rfl, fun r1 r2 => r1.append (vals_rev r2)⟩⟩⟩
theorem xk_BadWorths {f C : Addr} {fd : FuncData} {x : Str} (F : Fun K "__init__" "BadWorths.__init__" sX19 f fd) (gl : mg x = some (.ref C)) (ox : OexC K C) (iC : PySem.W.findIn K (.ref C) "__init__" = some (some (.ref f))) (tI : PySem.W.typeIn K (.ref f) = some (.type "function")) (no0 : PySem.W.findIn K (.ref C) "part" = some none) : XKE P w K mg base x C ["part"] := by
  have G := ok_X19 (P := P) (w := w) (base := base) (mg := mg) F ox no0
  obtain ⟨oc, od, kV, doc, pm, an, cdv, ct, osl, rfl, lk, hcd⟩ := F.ex
  exact ⟨_, _, ⟨gl, ox, iC, tI, G, ⟨fun s us ws _ h1 h2 => match us, ws, h1, h2 with | [_, _], [], _, _ => .of_eq rfl, fun r _ => r⟩, ⟨fun s us ws _ h1 h2 => match us, ws, h1, h2 with | [_], [_], _, _ => .of_eq rfl, fun r1 r2 => r1.append (vals_rev r2)⟩⟩⟩
theorem xk_BadWorld {f C : Addr} {fd : FuncData} {x : Str} (F : Fun K "__init__" "BadWorld.__init__" sX20 f fd) (gl : mg x = some (.ref C)) (ox : OexC K C) (iC : PySem.W.findIn K (.ref C) "__init__" = some (some (.ref f))) (tI : PySem.W.typeIn K (.ref f) = some (.type "function")) (no0 : PySem.W.findIn K (.ref C) "part" = some none) : XKE P w K mg base x C ["part"] := by
  have G := ok_X20 (P := P) (w := w) (base := base) (mg := mg) F ox no0
  obtain ⟨oc, od, kV, doc, pm, an, cdv, ct, osl, rfl, lk, hcd⟩ := F.ex
  exact ⟨_, _, ⟨gl, ox, iC, tI, G, ⟨fun s us ws _ h1 h2 => match us, ws, h1, h2 with | [_, _], [], _, _ => .of_eq rfl, fun r _ => r⟩, ⟨fun s us ws _ h1 h2 => match us, ws, h1, h2 with | [_], [_], _, _ => .of_eq rfl, fun r1 r2 => r1.append (vals_rev r2)⟩⟩⟩
theorem xk_BadCosts {f C : Addr} {fd : FuncData} {x : Str} (F : Fun K "__init__" "BadCosts.__init__" sX21 f fd) (gl : mg x = some (.ref C)) (ox : OexC K C) (iC : PySem.W.findIn K (.ref C) "__init__" = some (some (.ref f))) (tI : PySem.W.typeIn K (.ref f) = some (.type "function")) (no0 : PySem.W.findIn K (.ref C) "part" = some none) : XKE P w K mg base x C ["part"] := by
  have G := ok_X21 (P := P) (w := w) (base := base) (mg := mg) F ox no0
  obtain ⟨oc, od, kV, doc, pm, an, cdv, ct, osl, rfl, lk, hcd⟩ := F.ex
  exact ⟨_, _, ⟨gl, ox, iC, tI, G, ⟨fun s us ws _ h1 h2 => match us, ws, h1, h2 with | [_, _], [], _, _ => .of_eq rfl, fun r _ => r⟩, ⟨fun s us ws _ h1 h2 => match us, ws, h1, h2 with | [_], [_], _, _ => .of_eq rfl, fun r1 r2 => r1.append (vals_rev r2)⟩⟩⟩
theorem xk_BadNest {f C : Addr} {fd : FuncData} {x : Str} (F : Fun K "__init__" "BadNest.__init__" sX22 f fd) (gl : mg x = some (.ref C)) (ox : OexC K C) (iC : PySem.W.findIn K (.ref C) "__init__" = some (some (.ref f))) (tI : PySem.W.typeIn K (.ref f) = some (.type "function")) (no0 : PySem.W.findIn K (.ref C) "part" = some none) : XKE P w K mg base x C ["part"] := by
  have G := ok_X22 (P := P) (w := w) (base := base) (mg := mg) F ox no0
  obtain ⟨oc, od, kV, doc, pm, an, cdv, ct, osl, rfl, lk, hcd⟩ := F.ex
  exact ⟨_, _, ⟨gl, ox, iC, tI, G, ⟨fun s us ws _ h1 h2 => match us, ws, h1, h2 with | [_, _], [], _, _ => .of_eq rfl, fun r _ => r⟩, ⟨fun s us ws _ h1 h2 => match us, ws, h1, h2 with | [_], [_], _, _ => .of_eq rfl, fun r1 r2 => r1.append (vals_rev r2)⟩⟩⟩
theorem xk_BadBoard {f C : Addr} {fd : FuncData} {x : Str} (F : Fun K "__init__" "BadBoard.__init__" sX23 f fd) (gl : mg x = some (.ref C)) (ox : OexC K C) (iC : PySem.W.findIn K (.ref C) "__init__" = some (some (.ref f))) (tI : PySem.W.typeIn K (.ref f) = some (.type "function")) (no0 : PySem.W.findIn K (.ref C) "part" = some none) : XKE P w K mg base x C ["part"] := by
  have G := ok_X23 (P := P) (w := w) (base := base) (mg := mg) F ox no0
  obtain ⟨oc, od, kV, doc, pm, an, cdv, ct, osl, rfl, lk, hcd⟩ := F.ex
  exact ⟨_, _, ⟨gl, ox, iC, tI, G, ⟨fun s us ws _ h1 h2 => match us, ws, h1, h2 with | [_, _], [], _, _ => .of_eq rfl, fun r _ => r⟩, ⟨fun s us ws _ h1 h2 => match us, ws, h1, h2 with | [_], [_], _, _ => .of_eq rfl, fun r1 r2 => r1.append (vals_rev r2)⟩⟩⟩
theorem xk_BadNumbers {f C : Addr} {fd : FuncData} {x : Str} (F : Fun K "__init__" "BadNumbers.__init__" sX24 f fd) (gl : mg x = some (.ref C)) (ox : OexC K C) (iC : PySem.W.findIn K (.ref C) "__init__" = some (some (.ref f))) (tI : PySem.W.typeIn K (.ref f) = some (.type "function")) (no0 : PySem.W.findIn K (.ref C) "part" = some none) : XKE P w K mg base x C ["part"] := by
  have G := ok_X24 (P := P) (w := w) (base := base) (mg := mg) F ox no0
  obtain ⟨oc, od, kV, doc, pm, an, cdv, ct, osl, rfl, lk, hcd⟩ := F.ex
  exact ⟨_, _, ⟨gl, ox, iC, tI, G, ⟨fun s us ws _ h1 h2 => match us, ws, h1, h2 with | [_, _], [], _, _ => .of_eq rfl, fun r _ => r⟩, ⟨fun s us ws _ h1 h2 => match us, ws, h1, h2 with | [_], [_], _, _ => .of_eq rfl, fun r1 r2 => r1.append (vals_rev r2)⟩⟩⟩
theorem xk_BadBet {f C : Addr} {fd : FuncData} {x : Str} (F : Fun K "__init__" "BadBet.__init__" sX25 f fd) (gl : mg x = some (.ref C)) (ox : OexC K C) (iC : PySem.W.findIn K (.ref C) "__init__" = some (some (.ref f))) (tI : PySem.W.typeIn K (.ref f) = some (.type "function")) (no0 : PySem.W.findIn K (.ref C) "part" = some none) : XKE P w K mg base x C ["part"] := by
  have G := ok_X25 (P := P) (w := w) (base := base) (mg := mg) F ox no0
  obtain ⟨oc, od, kV, doc, pm, an, cdv, ct, osl, rfl, lk, hcd⟩ := F.ex
  exact ⟨_, _, ⟨gl, ox, iC, tI, G, ⟨fun s us ws _ h1 h2 => match us, ws, h1, h2 with | [_, _], [], _, _ => .of_eq rfl, fun r _ => r⟩, ⟨fun s us ws _ h1 h2 => match us, ws, h1, h2 with | [_], [_], _, _ => .of_eq rfl, fun r1 r2 => r1.append (vals_rev r2)⟩⟩⟩
theorem xk_BadShelf {f C : Addr} {fd : FuncData} {x : Str} (F : Fun K "__init__" "BadShelf.__init__" sX26 f fd) (gl : mg x = some (.ref C)) (ox : OexC K C) (iC : PySem.W.findIn K (.ref C) "__init__" = some (some (.ref f))) (tI : PySem.W.typeIn K (.ref f) = some (.type "function")) (no0 : PySem.W.findIn K (.ref C) "part" = some none) : XKE P w K mg base x C ["part"] := by
  have G := ok_X26 (P := P) (w := w) (base := base) (mg := mg) F ox no0
  obtain ⟨oc, od, kV, doc, pm, an, cdv, ct, osl, rfl, lk, hcd⟩ := F.ex
  exact ⟨_, _, ⟨gl, ox, iC, tI, G, ⟨fun s us ws _ h1 h2 => match us, ws, h1, h2 with | [_, _], [], _, _ => .of_eq rfl, fun r _ => r⟩, ⟨fun s us ws _ h1 h2 => match us, ws, h1, h2 with | [_], [_], _, _ => .of_eq rfl, fun r1 r2 => r1.append (vals_rev r2)⟩⟩⟩
theorem xk_BadHall {f C : Addr} {fd : FuncData} {x : Str} (F : Fun K "__init__" "BadHall.__init__" sX27 f fd) (gl : mg x = some (.ref C)) (ox : OexC K C) (iC : PySem.W.findIn K (.ref C) "__init__" = some (some (.ref f))) (tI : PySem.W.typeIn K (.ref f) = some (.type "function")) (no0 : PySem.W.findIn K (.ref C) "part" = some none) : XKE P w K mg base x C ["part"] := by
  have G := ok_X27 (P := P) (w := w) (base := base) (mg := mg) F ox no0
  obtain ⟨oc, od, kV, doc, pm, an, cdv, ct, osl, rfl, lk, hcd⟩ := F.ex
  exact ⟨_, _, ⟨gl, ox, iC, tI, G, ⟨fun s us ws _ h1 h2 => match us, ws, h1, h2 with | [_, _], [], _, _ => .of_eq rfl, fun r _ => r⟩, ⟨fun s us ws _ h1 h2 => match us, ws, h1, h2 with | [_], [_], _, _ => .of_eq rfl, fun r1 r2 => r1.append (vals_rev r2)⟩⟩⟩
theorem xk_BadLog {f C : Addr} {fd : FuncData} {x : Str} (F : Fun K "__init__" "BadLog.__init__" sX28 f fd) (gl : mg x = some (.ref C)) (ox : OexC K C) (iC : PySem.W.findIn K (.ref C) "__init__" = some (some (.ref f))) (tI : PySem.W.typeIn K (.ref f) = some (.type "function")) (no0 : PySem.W.findIn K (.ref C) "part" = some none) : XKE P w K mg base x C ["part"] := by
  have G := ok_X28 (P := P) (w := w) (base := base) (mg := mg) F ox no0
  obtain ⟨oc, od, kV, doc, pm, an, cdv, ct, osl, rfl, lk, hcd⟩ := F.ex
  exact ⟨_, _, ⟨gl, ox, iC, tI, G, ⟨fun s us ws _ h1 h2 => match us, ws, h1, h2 with | [_, _], [], _, _ => .of_eq rfl, fun r _ => r⟩, ⟨fun s us ws _ h1 h2 => match us, ws, h1, h2 with | [_], [_], _, _ => .of_eq rfl, fun r1 r2 => r1.append (vals_rev r2)⟩⟩⟩
theorem xk_BadStory {f C : Addr} {fd : FuncData} {x : Str} (F : Fun K "__init__" "BadStory.__init__" sX29 f fd) (gl : mg x = some (.ref C)) (ox : OexC K C) (iC : PySem.W.findIn K (.ref C) "__init__" = some (some (.ref f))) (tI : PySem.W.typeIn K (.ref f) = some (.type "function")) (no0 : PySem.W.findIn K (.ref C) "part" = some none) : XKE P w K mg base x C ["part"] := by
  have G := ok_X29 (P := P) (w := w) (base := base) (mg := mg) F ox no0
  obtain ⟨oc, od, kV, doc, pm, an, cdv, ct, osl, rfl, lk, hcd⟩ := F.ex
  exact ⟨_, _, ⟨gl, ox, iC, tI, G, ⟨fun s us ws _ h1 h2 => match us, ws, h1, h2 with | [_, _], [], _, _ => .of_eq rfl, fun r _ => r⟩, ⟨fun s us ws _ h1 h2 => match us, ws, h1, h2 with | [_], [_], _, _ => .of_eq rfl, fun r1 r2 => r1.append (vals_rev r2)⟩⟩⟩
theorem xk_BadPaper {f C : Addr} {fd : FuncData} {x : Str} (F : Fun K "__init__" "BadPaper.__init__" sX30 f fd) (gl : mg x = some (.ref C)) (ox : OexC K C) (iC : PySem.W.findIn K (.ref C) "__init__" = some (some (.ref f))) (tI : PySem.W.typeIn K (.ref f) = some (.type "function")) (no0 : PySem.W.findIn K (.ref C) "part" = some none) : XKE P w K mg base x C ["part"] := by
  have G := ok_X30 (P := P) (w := w) (base := base) (mg := mg) F ox no0
  obtain ⟨oc, od, kV, doc, pm, an, cdv, ct, osl, rfl, lk, hcd⟩ := F.ex
  exact ⟨_, _, ⟨gl, ox, iC, tI, G, ⟨fun s us ws _ h1 h2 => match us, ws, h1, h2 with | [_, _], [], _, _ => .of_eq rfl, fun r _ => r⟩, ⟨fun s us ws _ h1 h2 => match us, ws, h1, h2 with | [_], [_], _, _ => .of_eq rfl, fun r1 r2 => r1.append (vals_rev r2)⟩⟩⟩
theorem xk_Missing {f C : Addr} {fd : FuncData} {x : Str} (F : Fun K "__init__" "Missing.__init__" sX31 f fd) (gl : mg x = some (.ref C)) (ox : OexC K C) (iC : PySem.W.findIn K (.ref C) "__init__" = some (some (.ref f))) (tI : PySem.W.typeIn K (.ref f) = some (.type "function")) (no0 : PySem.W.findIn K (.ref C) "name" = some none) : XKE P w K mg base x C ["name"] := by
  have G := ok_X31 (P := P) (w := w) (base := base) (mg := mg) F ox no0
  obtain ⟨oc, od, kV, doc, pm, an, cdv, ct, osl, rfl, lk, hcd⟩ := F.ex
  exact ⟨_, _, ⟨gl, ox, iC, tI, G, ⟨fun s us ws _ h1 h2 => match us, ws, h1, h2 with | [_, _], [], _, _ => .of_eq rfl, fun r _ => r⟩, ⟨fun s us ws _ h1 h2 => match us, ws, h1, h2 with | [_], [_], _, _ => .of_eq rfl, fun r1 r2 => r1.append (vals_rev r2)⟩⟩⟩
theorem xk_Twice {f C : Addr} {fd : FuncData} {x : Str} (F : Fun K "__init__" "Twice.__init__" sX37 f fd) (gl : mg x = some (.ref C)) (ox : OexC K C) (iC : PySem.W.findIn K (.ref C) "__init__" = some (some (.ref f))) (tI : PySem.W.typeIn K (.ref f) = some (.type "function")) (no0 : PySem.W.findIn K (.ref C) "name" = some none) : XKE P w K mg base x C ["name"] := by
  have G := ok_X37 (P := P) (w := w) (base := base) (mg := mg) F ox no0
  obtain ⟨oc, od, kV, doc, pm, an, cdv, ct, osl, rfl, lk, hcd⟩ := F.ex
  exact ⟨_, _, ⟨gl, ox, iC, tI, G, ⟨fun s us ws _ h1 h2 => match us, ws, h1, h2 with | [_, _], [], _, _ => .of_eq rfl, fun r _ => r⟩, ⟨fun s us ws _ h1 h2 => match us, ws, h1, h2 with | [_], [_], _, _ => .of_eq rfl, fun r1 r2 => r1.append (vals_rev r2)⟩⟩⟩
theorem xk_UnlikeSigns {f C : Addr} {fd : FuncData} {x : Str} (F : Fun K "__init__" "UnlikeSigns.__init__" sX38 f fd) (gl : mg x = some (.ref C)) (ox : OexC K C) (iC : PySem.W.findIn K (.ref C) "__init__" = some (some (.ref f))) (tI : PySem.W.typeIn K (.ref f) = some (.type "function")) (no0 : PySem.W.findIn K (.ref C) "label" = some none) : XKE P w K mg base x C ["label"] := by
  have G := ok_X38 (P := P) (w := w) (base := base) (mg := mg) F ox no0
  obtain ⟨oc, od, kV, doc, pm, an, cdv, ct, osl, rfl, lk, hcd⟩ := F.ex
  exact ⟨_, _, ⟨gl, ox, iC, tI, G, ⟨fun s us ws _ h1 h2 => match us, ws, h1, h2 with | [_, _], [], _, _ => .of_eq rfl, fun r _ => r⟩, ⟨fun s us ws _ h1 h2 => match us, ws, h1, h2 with | [_], [_], _, _ => .of_eq rfl, fun r1 r2 => r1.append (vals_rev r2)⟩⟩⟩
theorem xk_UnlikeArms {f C : Addr} {fd : FuncData} {x : Str} (F : Fun K "__init__" "UnlikeArms.__init__" sX39 f fd) (gl : mg x = some (.ref C)) (ox : OexC K C) (iC : PySem.W.findIn K (.ref C) "__init__" = some (some (.ref f))) (tI : PySem.W.typeIn K (.ref f) = some (.type "function")) (no0 : PySem.W.findIn K (.ref C) "one" = some none) (no1 : PySem.W.findIn K (.ref C) "other" = some none) : XKE P w K mg base x C ["one", "other"] := by
  have G := ok_X39 (P := P) (w := w) (base := base) (mg := mg) F ox no0 no1
  obtain ⟨oc, od, kV, doc, pm, an, cdv, ct, osl, rfl, lk, hcd⟩ := F.ex
  exact ⟨_, _, ⟨gl, ox, iC, tI, G, ⟨fun s us ws _ h1 h2 => match us, ws, h1, h2 with | [_, _, _], [], _, _ => .of_eq rfl, fun r _ => r⟩, ⟨fun s us ws _ h1 h2 => match us, ws, h1, h2 with | [_], [_, _], _, _ => .of_eq rfl, fun r1 r2 => r1.append (vals_rev r2)⟩⟩⟩
theorem xk_Unsure {f C : Addr} {fd : FuncData} {x : Str} (F : Fun K "__init__" "Unsure.__init__" sX40 f fd) (gl : mg x = some (.ref C)) (ox : OexC K C) (iC : PySem.W.findIn K (.ref C) "__init__" = some (some (.ref f))) (tI : PySem.W.typeIn K (.ref f) = some (.type "function")) (no0 : PySem.W.findIn K (.ref C) "trap" = some none) : XKE P w K mg base x C ["trap"] := by
  have G := ok_X40 (P := P) (w := w) (base := base) (mg := mg) F ox no0
  obtain ⟨oc, od, kV, doc, pm, an, cdv, ct, osl, rfl, lk, hcd⟩ := F.ex
  exact ⟨_, _, ⟨gl, ox, iC, tI, G, ⟨fun s us ws _ h1 h2 => match us, ws, h1, h2 with | [_, _], [], _, _ => .of_eq rfl, fun r _ => r⟩, ⟨fun s us ws _ h1 h2 => match us, ws, h1, h2 with | [_], [_], _, _ => .of_eq rfl, fun r1 r2 => r1.append (vals_rev r2)⟩⟩⟩
theorem xk_Unfair {f C : Addr} {fd : FuncData} {x : Str} (F : Fun K "__init__" "Unfair.__init__" sX41 f fd) (gl : mg x = some (.ref C)) (ox : OexC K C) (iC : PySem.W.findIn K (.ref C) "__init__" = some (some (.ref f))) (tI : PySem.W.typeIn K (.ref f) = some (.type "function")) (no0 : PySem.W.findIn K (.ref C) "state" = some none) (no1 : PySem.W.findIn K (.ref C) "corner" = some none) : XKE P w K mg base x C ["state", "corner"] := by
  have G := ok_X41 (P := P) (w := w) (base := base) (mg := mg) F ox no0 no1
  obtain ⟨oc, od, kV, doc, pm, an, cdv, ct, osl, rfl, lk, hcd⟩ := F.ex
  exact ⟨_, _, ⟨gl, ox, iC, tI, G, ⟨fun s us ws _ h1 h2 => match us, ws, h1, h2 with | [_, _, _], [], _, _ => .of_eq rfl, fun r _ => r⟩, ⟨fun s us ws _ h1 h2 => match us, ws, h1, h2 with | [_], [_, _], _, _ => .of_eq rfl, fun r1 r2 => r1.append (vals_rev r2)⟩⟩⟩
theorem xk_NoPurse {f C : Addr} {fd : FuncData} {x : Str} (F : Fun K "__init__" "NoPurse.__init__" sX42 f fd) (gl : mg x = some (.ref C)) (ox : OexC K C) (iC : PySem.W.findIn K (.ref C) "__init__" = some (some (.ref f))) (tI : PySem.W.typeIn K (.ref f) = some (.type "function")) (no0 : PySem.W.findIn K (.ref C) "word" = some none) : XKE P w K mg base x C ["word"] := by
  have G := ok_X42 (P := P) (w := w) (base := base) (mg := mg) F ox no0
  obtain ⟨oc, od, kV, doc, pm, an, cdv, ct, osl, rfl, lk, hcd⟩ := F.ex
  exact ⟨_, _, ⟨gl, ox, iC, tI, G, ⟨fun s us ws _ h1 h2 => match us, ws, h1, h2 with | [_, _], [], _, _ => .of_eq rfl, fun r _ => r⟩, ⟨fun s us ws _ h1 h2 => match us, ws, h1, h2 with | [_], [_], _, _ => .of_eq rfl, fun r1 r2 => r1.append (vals_rev r2)⟩⟩⟩
theorem xk_NotWithin {f C : Addr} {fd : FuncData} {x : Str} (F : Fun K "__init__" "NotWithin.__init__" sX43 f fd) (gl : mg x = some (.ref C)) (ox : OexC K C) (iC : PySem.W.findIn K (.ref C) "__init__" = some (some (.ref f))) (tI : PySem.W.typeIn K (.ref f) = some (.type "function")) (no0 : PySem.W.findIn K (.ref C) "name" = some none) (no1 : PySem.W.findIn K (.ref C) "row" = some none) : XKE P w K mg base x C ["name", "row"] := by
  have G := ok_X43 (P := P) (w := w) (base := base) (mg := mg) F ox no0 no1
  obtain ⟨oc, od, kV, doc, pm, an, cdv, ct, osl, rfl, lk, hcd⟩ := F.ex
  exact ⟨_, _, ⟨gl, ox, iC, tI, G, ⟨fun s us ws _ h1 h2 => match us, ws, h1, h2 with | [_, _, _], [], _, _ => .of_eq rfl, fun r _ => r⟩, ⟨fun s us ws _ h1 h2 => match us, ws, h1, h2 with | [_], [_, _], _, _ => .of_eq rfl, fun r1 r2 => r1.append (vals_rev r2)⟩⟩⟩
theorem xk_Over {f C : Addr} {fd : FuncData} {x : Str} (F : Fun K "__init__" "Over.__init__" sX44 f fd) (gl : mg x = some (.ref C)) (ox : OexC K C) (iC : PySem.W.findIn K (.ref C) "__init__" = some (some (.ref f))) (tI : PySem.W.typeIn K (.ref f) = some (.type "function")) (no0 : PySem.W.findIn K (.ref C) "name" = some none) : XKE P w K mg base x C ["name"] := by
  have G := ok_X44 (P := P) (w := w) (base := base) (mg := mg) F ox no0
  obtain ⟨oc, od, kV, doc, pm, an, cdv, ct, osl, rfl, lk, hcd⟩ := F.ex
  exact ⟨_, _, ⟨gl, ox, iC, tI, G, ⟨fun s us ws _ h1 h2 => match us, ws, h1, h2 with | [_, _], [], _, _ => .of_eq rfl, fun r _ => r⟩, ⟨fun s us ws _ h1 h2 => match us, ws, h1, h2 with | [_], [_], _, _ => .of_eq rfl, fun r1 r2 => r1.append (vals_rev r2)⟩⟩⟩
theorem xk_Refuted {f C : Addr} {fd : FuncData} {x : Str} (F : Fun K "__init__" "Refuted.__init__" sX45 f fd) (gl : mg x = some (.ref C)) (ox : OexC K C) (iC : PySem.W.findIn K (.ref C) "__init__" = some (some (.ref f))) (tI : PySem.W.typeIn K (.ref f) = some (.type "function")) (no0 : PySem.W.findIn K (.ref C) "name" = some none) (no1 : PySem.W.findIn K (.ref C) "label" = some none) : XKE P w K mg base x C ["name", "label"] := by
  have G := ok_X45 (P := P) (w := w) (base := base) (mg := mg) F ox no0 no1
  obtain ⟨oc, od, kV, doc, pm, an, cdv, ct, osl, rfl, lk, hcd⟩ := F.ex
  exact ⟨_, _, ⟨gl, ox, iC, tI, G, ⟨fun s us ws _ h1 h2 => match us, ws, h1, h2 with | [_, _, _], [], _, _ => .of_eq rfl, fun r _ => r⟩, ⟨fun s us ws _ h1 h2 => match us, ws, h1, h2 with | [_], [_, _], _, _ => .of_eq rfl, fun r1 r2 => r1.append (vals_rev r2)⟩⟩⟩
theorem xk_TooMany {f C : Addr} {fd : FuncData} {x : Str} (F : Fun K "__init__" "TooMany.__init__" sX47 f fd) (gl : mg x = some (.ref C)) (ox : OexC K C) (iC : PySem.W.findIn K (.ref C) "__init__" = some (some (.ref f))) (tI : PySem.W.typeIn K (.ref f) = some (.type "function")) (no0 : PySem.W.findIn K (.ref C) "what" = some none) (no1 : PySem.W.findIn K (.ref C) "most" = some none) : XKE P w K mg base x C ["what", "most"] := by
  have G := ok_X47 (P := P) (w := w) (base := base) (mg := mg) F ox no0 no1
  obtain ⟨oc, od, kV, doc, pm, an, cdv, ct, osl, rfl, lk, hcd⟩ := F.ex
  exact ⟨_, _, ⟨gl, ox, iC, tI, G, ⟨fun s us ws _ h1 h2 => match us, ws, h1, h2 with | [_, _, _], [], _, _ => .of_eq rfl, fun r _ => r⟩, ⟨fun s us ws _ h1 h2 => match us, ws, h1, h2 with | [_], [_, _], _, _ => .of_eq rfl, fun r1 r2 => r1.append (vals_rev r2)⟩⟩⟩
theorem xk_BadText {f C : Addr} {fd : FuncData} {x : Str} (F : Fun K "__init__" "BadText.__init__" sX48 f fd) (gl : mg x = some (.ref C)) (ox : OexC K C) (iC : PySem.W.findIn K (.ref C) "__init__" = some (some (.ref f))) (tI : PySem.W.typeIn K (.ref f) = some (.type "function")) (no0 : PySem.W.findIn K (.ref C) "line" = some none) (no1 : PySem.W.findIn K (.ref C) "word" = some none) : XKE P w K mg base x C ["line", "word"] := by
  have G := ok_X48 (P := P) (w := w) (base := base) (mg := mg) F ox no0 no1
  obtain ⟨oc, od, kV, doc, pm, an, cdv, ct, osl, rfl, lk, hcd⟩ := F.ex
  exact ⟨_, _, ⟨gl, ox, iC, tI, G, ⟨fun s us ws _ h1 h2 => match us, ws, h1, h2 with | [_, _, _], [], _, _ => .of_eq rfl, fun r _ => r⟩, ⟨fun s us ws _ h1 h2 => match us, ws, h1, h2 with | [_], [_, _], _, _ => .of_eq rfl, fun r1 r2 => r1.append (vals_rev r2)⟩⟩⟩
theorem xk_BadLine {f C : Addr} {fd : FuncData} {x : Str} (F : Fun K "__init__" "BadLine.__init__" sX49 f fd) (gl : mg x = some (.ref C)) (ox : OexC K C) (iC : PySem.W.findIn K (.ref C) "__init__" = some (some (.ref f))) (tI : PySem.W.typeIn K (.ref f) = some (.type "function")) (no0 : PySem.W.findIn K (.ref C) "line" = some none) (no1 : PySem.W.findIn K (.ref C) "error" = some none) : XKE P w K mg base x C ["line", "error"] := by
  have G := ok_X49 (P := P) (w := w) (base := base) (mg := mg) F ox no0 no1
  obtain ⟨oc, od, kV, doc, pm, an, cdv, ct, osl, rfl, lk, hcd⟩ := F.ex
  exact ⟨_, _, ⟨gl, ox, iC, tI, G, ⟨fun s us ws _ h1 h2 => match us, ws, h1, h2 with | [_, _, _], [], _, _ => .of_eq rfl, fun r _ => r⟩, ⟨fun s us ws _ h1 h2 => match us, ws, h1, h2 with | [_], [_, _], _, _ => .of_eq rfl, fun r1 r2 => r1.append (vals_rev r2)⟩⟩⟩
end
end K00
end

section -- K00yb
set_option linter.all false
set_option maxRecDepth 100000
set_option maxHeartbeats 16000000
namespace K00
open PySem PySem.Spec L2 Pk
open PyProof.Rows hiding St
open He (ga ma)
theorem told {P : Program} {w : World} {K : PySem.W.Frag} {h : Heap} {mg : Str → Option Value} {f : Addr} (X : K.In h) (G : h.Ns mainGlobals mg) (hf : mg ("law" : Str) = some (.ref f)) (c : Told looks fns K) :
    ∃ fd : FuncData, (∀ (s : Shared) (u : Value), BindsTo s fd ⟨[u], []⟩ [("_law_script", u)]) ∧ ∀ base : Heap, K.In base → FnG P w K mg base CX0 9 f fd ["_law_script"] (spLaw K) := by
  have fr : ∀ x ∈ frees, mg x = none := fun x hx => PySem.W.mg_none_of X G (eqB_ok (List.all_eq_true.mp (c.fact 0) x hx))
  have gl : ∀ x ∈ globs, mg x = some (.ref (ga K x)) := fun x hx => PySem.W.mg_of X G (eqB_ok (List.all_eq_true.mp (c.fact 1) x hx))
  have e := hf.symm.trans (gl "law" (by decide +kernel))
  cases e
  have B : Bi mg := ⟨fr _ (by decide +kernel), fr _ (by decide +kernel), fr _ (by decide +kernel), fr _ (by decide +kernel), fr _ (by decide +kernel), fr _ (by decide +kernel), fr _ (by decide +kernel), fr _ (by decide +kernel), fr _ (by decide +kernel), fr _ (by decide +kernel), fr _ (by decide +kernel), fr _ (by decide +kernel), fr _ (by decide +kernel), fr _ (by decide +kernel), fr _ (by decide +kernel), fr _ (by decide +kernel), fr _ (by decide +kernel), fr _ (by decide +kernel), fr _ (by decide +kernel)⟩
  obtain ⟨fd_int, F_int⟩ := c.dd 0
  have F_int := He5.fun_of (st := sIsInt) F_int
  have b_int := F_int.binds (ps := ["value"]) fun _ _ _ _ _ _ us hl => match us, hl with | [_], _ => rfl
  have d_int : Df K mg "is_integer" (ga K "is_integer") := ⟨gl "is_integer" (by decide +kernel), F_int.kp⟩
  obtain ⟨fd_within, F_within⟩ := c.dd 1
  have F_within := He5.fun_of (st := sWithin) F_within
  have b_within := F_within.binds (ps := ["value", "least", "most"]) fun _ _ _ _ _ _ us hl => match us, hl with | [_, _, _], _ => rfl
  have d_within : Df K mg "is_within" (ga K "is_within") := ⟨gl "is_within" (by decide +kernel), F_within.kp⟩
  obtain ⟨fd_name, F_name⟩ := c.dd 2
  have F_name := He5.fun_of (st := sIsName) F_name
  have b_name := F_name.binds (ps := ["value"]) fun _ _ _ _ _ _ us hl => match us, hl with | [_], _ => rfl
  have d_name : Df K mg "is_name" (ga K "is_name") := ⟨gl "is_name" (by decide +kernel), F_name.kp⟩
  obtain ⟨fd_label, F_label⟩ := c.dd 3
  have F_label := He5.fun_of (st := sIsLabel) F_label
  have b_label := F_label.binds (ps := ["value"]) fun _ _ _ _ _ _ us hl => match us, hl with | [_], _ => rfl
  have d_label : Df K mg "is_label" (ga K "is_label") := ⟨gl "is_label" (by decide +kernel), F_label.kp⟩
  obtain ⟨fd_x13, F_x13⟩ := c.dd 4
  have F_x13 := He5.fun_of (st := sX13) F_x13
  have b_x13 := F_x13.binds (ps := ["self", "part"]) fun _ _ _ _ _ _ us hl => match us, hl with | [_, _], _ => rfl
  obtain ⟨fd_x14, F_x14⟩ := c.dd 5
  have F_x14 := He5.fun_of (st := sX14) F_x14
  have b_x14 := F_x14.binds (ps := ["self", "part"]) fun _ _ _ _ _ _ us hl => match us, hl with | [_, _], _ => rfl
  obtain ⟨fd_x15, F_x15⟩ := c.dd 6
  have F_x15 := He5.fun_of (st := sX15) F_x15
  have b_x15 := F_x15.binds (ps := ["self", "part"]) fun _ _ _ _ _ _ us hl => match us, hl with | [_, _], _ => rfl
  obtain ⟨fd_x16, F_x16⟩ := c.dd 7
  have F_x16 := He5.fun_of (st := sX16) F_x16
  have b_x16 := F_x16.binds (ps := ["self", "part"]) fun _ _ _ _ _ _ us hl => match us, hl with | [_, _], _ => rfl
  obtain ⟨fd_x17, F_x17⟩ := c.dd 8
  have F_x17 := He5.fun_of (st := sX17) F_x17
  have b_x17 := F_x17.binds (ps := ["self", "part"]) fun _ _ _ _ _ _ us hl => match us, hl with | [_, _], _ => rfl
  obtain ⟨fd_x18, F_x18⟩ := c.dd 9
  have F_x18 := He5.fun_of (st := sX18) F_x18
  have b_x18 := F_x18.binds (ps := ["self", "part"]) fun _ _ _ _ _ _ us hl => match us, hl with | [_, _], _ => rfl
  obtain ⟨fd_x19, F_x19⟩ := c.dd 10
  have F_x19 := He5.fun_of (st := sX19) F_x19
  have b_x19 := F_x19.binds (ps := ["self", "part"]) fun _ _ _ _ _ _ us hl => match us, hl with | [_, _], _ => rfl
  obtain ⟨fd_x20, F_x20⟩ := c.dd 11
  have F_x20 := He5.fun_of (st := sX20) F_x20
  have b_x20 := F_x20.binds (ps := ["self", "part"]) fun _ _ _ _ _ _ us hl => match us, hl with | [_, _], _ => rfl
  obtain ⟨fd_x21, F_x21⟩ := c.dd 12
  have F_x21 := He5.fun_of (st := sX21) F_x21
  have b_x21 := F_x21.binds (ps := ["self", "part"]) fun _ _ _ _ _ _ us hl => match us, hl with | [_, _], _ => rfl
  obtain ⟨fd_x22, F_x22⟩ := c.dd 13
  have F_x22 := He5.fun_of (st := sX22) F_x22
  have b_x22 := F_x22.binds (ps := ["self", "part"]) fun _ _ _ _ _ _ us hl => match us, hl with | [_, _], _ => rfl
  obtain ⟨fd_x23, F_x23⟩ := c.dd 14
  have F_x23 := He5.fun_of (st := sX23) F_x23
  have b_x23 := F_x23.binds (ps := ["self", "part"]) fun _ _ _ _ _ _ us hl => match us, hl with | [_, _], _ => rfl
  obtain ⟨fd_x24, F_x24⟩ := c.dd 15
  have F_x24 := He5.fun_of (st := sX24) F_x24
  have b_x24 := F_x24.binds (ps := ["self", "part"]) fun _ _ _ _ _ _ us hl => match us, hl with | [_, _], _ => rfl
  obtain ⟨fd_x25, F_x25⟩ := c.dd 16
  have F_x25 := He5.fun_of (st := sX25) F_x25
  have b_x25 := F_x25.binds (ps := ["self", "part"]) fun _ _ _ _ _ _ us hl => match us, hl with | [_, _], _ => rfl
  obtain ⟨fd_x26, F_x26⟩ := c.dd 17
  have F_x26 := He5.fun_of (st := sX26) F_x26
  have b_x26 := F_x26.binds (ps := ["self", "part"]) fun _ _ _ _ _ _ us hl => match us, hl with | [_, _], _ => rfl
  obtain ⟨fd_x27, F_x27⟩ := c.dd 18
  have F_x27 := He5.fun_of (st := sX27) F_x27
  have b_x27 := F_x27.binds (ps := ["self", "part"]) fun _ _ _ _ _ _ us hl => match us, hl with | [_, _], _ => rfl
  obtain ⟨fd_x28, F_x28⟩ := c.dd 19
  have F_x28 := He5.fun_of (st := sX28) F_x28
  have b_x28 := F_x28.binds (ps := ["self", "part"]) fun _ _ _ _ _ _ us hl => match us, hl with | [_, _], _ => rfl
  obtain ⟨fd_x29, F_x29⟩ := c.dd 20
  have F_x29 := He5.fun_of (st := sX29) F_x29
  have b_x29 := F_x29.binds (ps := ["self", "part"]) fun _ _ _ _ _ _ us hl => match us, hl with | [_, _], _ => rfl
  obtain ⟨fd_x30, F_x30⟩ := c.dd 21
  have F_x30 := He5.fun_of (st := sX30) F_x30
  have b_x30 := F_x30.binds (ps := ["self", "part"]) fun _ _ _ _ _ _ us hl => match us, hl with | [_, _], _ => rfl
  obtain ⟨fd_x31, F_x31⟩ := c.dd 22
  have F_x31 := He5.fun_of (st := sX31) F_x31
  have b_x31 := F_x31.binds (ps := ["self", "name"]) fun _ _ _ _ _ _ us hl => match us, hl with | [_, _], _ => rfl
  obtain ⟨fd_x37, F_x37⟩ := c.dd 23
  have F_x37 := He5.fun_of (st := sX37) F_x37
  have b_x37 := F_x37.binds (ps := ["self", "name"]) fun _ _ _ _ _ _ us hl => match us, hl with | [_, _], _ => rfl
  obtain ⟨fd_x38, F_x38⟩ := c.dd 24
  have F_x38 := He5.fun_of (st := sX38) F_x38
  have b_x38 := F_x38.binds (ps := ["self", "label"]) fun _ _ _ _ _ _ us hl => match us, hl with | [_, _], _ => rfl
  obtain ⟨fd_x39, F_x39⟩ := c.dd 25
  have F_x39 := He5.fun_of (st := sX39) F_x39
  have b_x39 := F_x39.binds (ps := ["self", "one", "other"]) fun _ _ _ _ _ _ us hl => match us, hl with | [_, _, _], _ => rfl
  obtain ⟨fd_x40, F_x40⟩ := c.dd 26
  have F_x40 := He5.fun_of (st := sX40) F_x40
  have b_x40 := F_x40.binds (ps := ["self", "trap"]) fun _ _ _ _ _ _ us hl => match us, hl with | [_, _], _ => rfl
  obtain ⟨fd_x41, F_x41⟩ := c.dd 27
  have F_x41 := He5.fun_of (st := sX41) F_x41
  have b_x41 := F_x41.binds (ps := ["self", "state", "corner"]) fun _ _ _ _ _ _ us hl => match us, hl with | [_, _, _], _ => rfl
  obtain ⟨fd_x42, F_x42⟩ := c.dd 28
  have F_x42 := He5.fun_of (st := sX42) F_x42
  have b_x42 := F_x42.binds (ps := ["self", "word"]) fun _ _ _ _ _ _ us hl => match us, hl with | [_, _], _ => rfl
  obtain ⟨fd_x43, F_x43⟩ := c.dd 29
  have F_x43 := He5.fun_of (st := sX43) F_x43
  have b_x43 := F_x43.binds (ps := ["self", "name", "row"]) fun _ _ _ _ _ _ us hl => match us, hl with | [_, _, _], _ => rfl
  obtain ⟨fd_x44, F_x44⟩ := c.dd 30
  have F_x44 := He5.fun_of (st := sX44) F_x44
  have b_x44 := F_x44.binds (ps := ["self", "name"]) fun _ _ _ _ _ _ us hl => match us, hl with | [_, _], _ => rfl
  obtain ⟨fd_x45, F_x45⟩ := c.dd 31
  have F_x45 := He5.fun_of (st := sX45) F_x45
  have b_x45 := F_x45.binds (ps := ["self", "name", "label"]) fun _ _ _ _ _ _ us hl => match us, hl with | [_, _, _], _ => rfl
  obtain ⟨fd_x47, F_x47⟩ := c.dd 32
  have F_x47 := He5.fun_of (st := sX47) F_x47
  have b_x47 := F_x47.binds (ps := ["self", "what", "most"]) fun _ _ _ _ _ _ us hl => match us, hl with | [_, _, _], _ => rfl
  obtain ⟨fd_x48, F_x48⟩ := c.dd 33
  have F_x48 := He5.fun_of (st := sX48) F_x48
  have b_x48 := F_x48.binds (ps := ["self", "line", "word"]) fun _ _ _ _ _ _ us hl => match us, hl with | [_, _, _], _ => rfl
  obtain ⟨fd_x49, F_x49⟩ := c.dd 34
  have F_x49 := He5.fun_of (st := sX49) F_x49
  have b_x49 := F_x49.binds (ps := ["self", "line", "error"]) fun _ _ _ _ _ _ us hl => match us, hl with | [_, _, _], _ => rfl
  obtain ⟨fd_ri, F_ri⟩ := c.dd 35
  obtain ⟨fd_str, F_str⟩ := c.dd 36
  have F_str := He5.fun_of (st := sRStr) F_str
  have b_str := F_str.binds (ps := ["self"]) fun _ _ _ _ _ _ us hl => match us, hl with | [_], _ => rfl
  obtain ⟨fd_repr, F_repr⟩ := c.dd 37
  have F_repr := He5.fun_of (st := sRRepr) F_repr
  have b_repr := F_repr.binds (ps := ["self"]) fun _ _ _ _ _ _ us hl => match us, hl with | [_], _ => rfl
  obtain ⟨fd_pen, F_pen⟩ := c.dd 38
  have F_pen := He5.fun_of (st := sPen) F_pen
  have b_pen := F_pen.binds (ps := ["_law_script"]) fun _ _ _ _ _ _ us hl => match us, hl with | [_], _ => rfl
  have d_pen : Df K mg "_law_pen" (ga K "_law_pen") := ⟨gl "_law_pen" (by decide +kernel), F_pen.kp⟩
  obtain ⟨fd_draw, F_draw⟩ := c.dd 39
  have F_draw := He5.fun_of (st := sDraw) F_draw
  have b_draw := F_draw.binds (ps := ["_law_pen_here", "_law_many"]) fun _ _ _ _ _ _ us hl => match us, hl with | [_, _], _ => rfl
  have d_draw : Df K mg "_law_draw" (ga K "_law_draw") := ⟨gl "_law_draw" (by decide +kernel), F_draw.kp⟩
  obtain ⟨fd_pick, F_pick⟩ := c.dd 40
  have F_pick := He5.fun_of (st := sPick) F_pick
  have b_pick := F_pick.binds (ps := ["_law_pen_here", "_law_some"]) fun _ _ _ _ _ _ us hl => match us, hl with | [_, _], _ => rfl
  have d_pick : Df K mg "_law_pick" (ga K "_law_pick") := ⟨gl "_law_pick" (by decide +kernel), F_pick.kp⟩
  obtain ⟨fd_parts, F_parts⟩ := c.dd 41
  have F_parts := He5.fun_of (st := sParts) F_parts
  have b_parts := F_parts.binds (ps := ["_law_part"]) fun _ _ _ _ _ _ us hl => match us, hl with | [_], _ => rfl
  have d_parts : Df K mg "_law_parts" (ga K "_law_parts") := ⟨gl "_law_parts" (by decide +kernel), F_parts.kp⟩
  obtain ⟨fd_partsn, F_partsn⟩ := c.dd 42
  have F_partsn := He5.fun_of (st := sPartsN) F_partsn
  have b_partsn := F_partsn.binds (ps := ["_law_part"]) fun _ _ _ _ _ _ us hl => match us, hl with | [_], _ => rfl
  have d_partsn : Df K mg "_law_parts_named" (ga K "_law_parts_named") := ⟨gl "_law_parts_named" (by decide +kernel), F_partsn.kp⟩
  obtain ⟨fd_others, F_others⟩ := c.dd 43
  have F_others := He5.fun_of (st := sOthers) F_others
  have b_others := F_others.binds (ps := ["_law_one", "_law_two"]) fun _ _ _ _ _ _ us hl => match us, hl with | [_, _], _ => rfl
  have d_others : Df K mg "_law_others" (ga K "_law_others") := ⟨gl "_law_others" (by decide +kernel), F_others.kp⟩
  obtain ⟨fd_othersn, F_othersn⟩ := c.dd 44
  have F_othersn := He5.fun_of (st := sOthersN) F_othersn
  have b_othersn := F_othersn.binds (ps := ["_law_one", "_law_two"]) fun _ _ _ _ _ _ us hl => match us, hl with | [_, _], _ => rfl
  have d_othersn : Df K mg "_law_others_named" (ga K "_law_others_named") := ⟨gl "_law_others_named" (by decide +kernel), F_othersn.kp⟩
  obtain ⟨fd_fields, F_fields⟩ := c.dd 45
  have F_fields := He5.fun_of (st := sFields) F_fields
  have b_fields := F_fields.binds (ps := ["_law_error", "_law_place"]) fun _ _ _ _ _ _ us hl => match us, hl with | [_, _], _ => rfl
  have d_fields : Df K mg "_law_fields" (ga K "_law_fields") := ⟨gl "_law_fields" (by decide +kernel), F_fields.kp⟩
  obtain ⟨fd_kin, F_kin⟩ := c.dd 46
  have F_kin := He5.fun_of (st := sKin) F_kin
  have b_kin := F_kin.binds (ps := ["_law_error"]) fun _ _ _ _ _ _ us hl => match us, hl with | [_], _ => rfl
  have d_kin : Df K mg "_law_kin" (ga K "_law_kin") := ⟨gl "_law_kin" (by decide +kernel), F_kin.kp⟩
  obtain ⟨fd_errors, F_errors⟩ := c.dd 47
  have F_errors := He5.fun_of (st := sErrors) F_errors
  have b_errors := F_errors.binds (ps := ["_law_one", "_law_two"]) fun _ _ _ _ _ _ us hl => match us, hl with | [_, _], _ => rfl
  have d_errors : Df K mg "_law_errors_right" (ga K "_law_errors_right") := ⟨gl "_law_errors_right" (by decide +kernel), F_errors.kp⟩
  obtain ⟨fd_lname, F_lname⟩ := c.dd 48
  have F_lname := He5.fun_of (st := sLName) F_lname
  have b_lname := F_lname.binds (ps := ["_law_word_here"]) fun _ _ _ _ _ _ us hl => match us, hl with | [_], _ => rfl
  have d_lname : Df K mg "_law_is_name" (ga K "_law_is_name") := ⟨gl "_law_is_name" (by decide +kernel), F_lname.kp⟩
  obtain ⟨fd_llabel, F_llabel⟩ := c.dd 49
  have F_llabel := He5.fun_of (st := sLLabel) F_llabel
  have b_llabel := F_llabel.binds (ps := ["_law_word_here"]) fun _ _ _ _ _ _ us hl => match us, hl with | [_], _ => rfl
  have d_llabel : Df K mg "_law_is_label" (ga K "_law_is_label") := ⟨gl "_law_is_label" (by decide +kernel), F_llabel.kp⟩
  obtain ⟨fd_word, F_word⟩ := c.dd 50
  have F_word := He5.fun_of (st := sWord) F_word
  have b_word := F_word.binds (ps := ["_law_pen_here"]) fun _ _ _ _ _ _ us hl => match us, hl with | [_], _ => rfl
  have d_word : Df K mg "_law_word" (ga K "_law_word") := ⟨gl "_law_word" (by decide +kernel), F_word.kp⟩
  obtain ⟨fd_kinds, F_kinds⟩ := c.dd 51
  have F_kinds := He5.fun_of (st := sKinds) F_kinds
  have b_kinds := F_kinds.binds (ps := ["_law_pen_here"]) fun _ _ _ _ _ _ us hl => match us, hl with | [_], _ => rfl
  have d_kinds : Df K mg "_law_kinds_right" (ga K "_law_kinds_right") := ⟨gl "_law_kinds_right" (by decide +kernel), F_kinds.kp⟩
  obtain ⟨fd_law, F_law⟩ := c.dd 52
  have F_law := He5.fun_of (st := sLaw) F_law
  have b_law := F_law.binds (ps := ["_law_script"]) fun _ _ _ _ _ _ us hl => match us, hl with | [_], _ => rfl
  have d_law : Df K mg "law" (ga K "law") := ⟨gl "law" (by decide +kernel), F_law.kp⟩
  have T : RCl K mg (cC K) := { cl := ⟨((c.fact 4)), ((c.fact 5)), ((c.fact 6)), (eqB_ok (c.fact 7))⟩, nT := (eqB_ok (c.fact 9)), nB := (eqB_ok (c.fact 10)), v_Ratio := ⟨_, (gl "Ratio" (by decide +kernel)), rfl⟩, ha := (eqB_ok (c.fact 11)), hn := (eqB_ok (c.fact 2)), ht := (of_decide_eq_true (c.fact 3)), hm := (of_decide_eq_true (c.fact 12)), me := (of_decide_eq_true (c.fact 13)), gcd := (PySem.W.mg_of X G (eqB_ok (c.fact 8))) }
  have M_R : Mk K (cC K) (ma K (cC K) "__init__") := ⟨((c.fact 20)), (eqB_ok (c.fact 21)), ((c.fact 22)), ((c.fact 23))⟩
  have d_R : Df K mg "Ratio" (cC K) := ⟨(gl "Ratio" (by decide +kernel)), M_R.kp⟩
  obtain ⟨ds, hds, b_R⟩ := F_ri.binds1 (ps := ["self", "top", "bottom"]) 3 1 (List.cons_ne_nil _ _) rfl fun _ _ _ _ _ _ _ us its h1 h2 => match us, its, h1, h2 with | [_, _, _], [_], _, _ => ⟨_, rfl, rfl⟩
  cases hds
  obtain ⟨ds1, v_R1, b_R1⟩ := F_ri.binds1 (ps := ["self", "top", "bottom"]) 2 0 (List.cons_ne_nil _ _) rfl fun _ _ _ _ _ _ _ us its h1 h2 => match us, its, h1, h2 with | [_, _], [_], _, _ => ⟨_, rfl, rfl⟩
  have ox_ : ∀ i, i < 36 → OexC K (Cs K i) := fun i hi => ⟨oexB_ok ((all36K_ok (c.fact 28)) i hi), eqB_ok ((all36K_ok (c.fact 29)) i hi), of_decide_eq_true ((all36K_ok (c.fact 30)) i hi), of_decide_eq_true ((all36K_ok (c.fact 31)) i hi), (all36K_ok (c.fact 32)) i hi⟩
  have gl_ : ∀ i, i < 36 → mg (nm i) = some (.ref (Cs K i)) := fun i hi => PySem.W.mg_of X G (eqB_ok ((all36K_ok (c.fact 46)) i hi))
  have no_ : ∀ i, i < 35 → ∀ n ∈ fl i, PySem.W.findIn K (.ref (Cs K i)) n = some none := fun i hi n hn => eqB_ok (List.all_eq_true.mp ((all36K_ok (c.fact 39)) i hi) n hn)
  have oxM_ : OexC K (cM K) := ⟨oexB_ok ((c.fact 51)), (eqB_ok (c.fact 52)), (of_decide_eq_true (c.fact 50)), (of_decide_eq_true (c.fact 53)), ((c.fact 54))⟩
  have kbl := kb_label F_label
  have kbw := kb_within F_within
  refine ⟨fd_law, ?_, fun base _ => ?_⟩
  · obtain ⟨oc, od, kV, doc, pm, an, cdv, ct, osl, rfl, lk, hcd⟩ := F_law.ex
    exact fun s u => .of_eq rfl
  · have mk_ : ∀ i, i < 35 → XKE P w K mg base (nm i) (Cs K i) (fl i) := fun i hi => match i, hi with
      | 0, _ => xk_BadRatio F_x13 (gl_ 0 (by decide)) (ox_ 0 (by decide)) (eqB_ok (c.fact 93)) (of_decide_eq_true (c.fact 62)) (no_ 0 (by decide) "part" (by decide +kernel))
      | 1, _ => xk_BadCrowd F_x14 (gl_ 1 (by decide)) (ox_ 1 (by decide)) (eqB_ok (c.fact 94)) (of_decide_eq_true (c.fact 63)) (no_ 1 (by decide) "part" (by decide +kernel))
      | 2, _ => xk_BadTable F_x15 (gl_ 2 (by decide)) (ox_ 2 (by decide)) (eqB_ok (c.fact 95)) (of_decide_eq_true (c.fact 64)) (no_ 2 (by decide) "part" (by decide +kernel))
      | 3, _ => xk_BadChances F_x16 (gl_ 3 (by decide)) (ox_ 3 (by decide)) (eqB_ok (c.fact 96)) (of_decide_eq_true (c.fact 65)) (no_ 3 (by decide) "part" (by decide +kernel))
      | 4, _ => xk_BadWatch F_x17 (gl_ 4 (by decide)) (ox_ 4 (by decide)) (eqB_ok (c.fact 97)) (of_decide_eq_true (c.fact 66)) (no_ 4 (by decide) "part" (by decide +kernel))
      | 5, _ => xk_BadStudy F_x18 (gl_ 5 (by decide)) (ox_ 5 (by decide)) (eqB_ok (c.fact 98)) (of_decide_eq_true (c.fact 67)) (no_ 5 (by decide) "part" (by decide +kernel))
      | 6, _ => xk_BadWorths F_x19 (gl_ 6 (by decide)) (ox_ 6 (by decide)) (eqB_ok (c.fact 99)) (of_decide_eq_true (c.fact 68)) (no_ 6 (by decide) "part" (by decide +kernel))
      | 7, _ => xk_BadWorld F_x20 (gl_ 7 (by decide)) (ox_ 7 (by decide)) (eqB_ok (c.fact 100)) (of_decide_eq_true (c.fact 69)) (no_ 7 (by decide) "part" (by decide +kernel))
      | 8, _ => xk_BadCosts F_x21 (gl_ 8 (by decide)) (ox_ 8 (by decide)) (eqB_ok (c.fact 101)) (of_decide_eq_true (c.fact 70)) (no_ 8 (by decide) "part" (by decide +kernel))
      | 9, _ => xk_BadNest F_x22 (gl_ 9 (by decide)) (ox_ 9 (by decide)) (eqB_ok (c.fact 102)) (of_decide_eq_true (c.fact 71)) (no_ 9 (by decide) "part" (by decide +kernel))
      | 10, _ => xk_BadBoard F_x23 (gl_ 10 (by decide)) (ox_ 10 (by decide)) (eqB_ok (c.fact 103)) (of_decide_eq_true (c.fact 72)) (no_ 10 (by decide) "part" (by decide +kernel))
      | 11, _ => xk_BadNumbers F_x24 (gl_ 11 (by decide)) (ox_ 11 (by decide)) (eqB_ok (c.fact 104)) (of_decide_eq_true (c.fact 73)) (no_ 11 (by decide) "part" (by decide +kernel))
      | 12, _ => xk_BadBet F_x25 (gl_ 12 (by decide)) (ox_ 12 (by decide)) (eqB_ok (c.fact 105)) (of_decide_eq_true (c.fact 74)) (no_ 12 (by decide) "part" (by decide +kernel))
      | 13, _ => xk_BadShelf F_x26 (gl_ 13 (by decide)) (ox_ 13 (by decide)) (eqB_ok (c.fact 106)) (of_decide_eq_true (c.fact 75)) (no_ 13 (by decide) "part" (by decide +kernel))
      | 14, _ => xk_BadHall F_x27 (gl_ 14 (by decide)) (ox_ 14 (by decide)) (eqB_ok (c.fact 107)) (of_decide_eq_true (c.fact 76)) (no_ 14 (by decide) "part" (by decide +kernel))
      | 15, _ => xk_BadLog F_x28 (gl_ 15 (by decide)) (ox_ 15 (by decide)) (eqB_ok (c.fact 108)) (of_decide_eq_true (c.fact 77)) (no_ 15 (by decide) "part" (by decide +kernel))
      | 16, _ => xk_BadStory F_x29 (gl_ 16 (by decide)) (ox_ 16 (by decide)) (eqB_ok (c.fact 109)) (of_decide_eq_true (c.fact 78)) (no_ 16 (by decide) "part" (by decide +kernel))
      | 17, _ => xk_BadPaper F_x30 (gl_ 17 (by decide)) (ox_ 17 (by decide)) (eqB_ok (c.fact 110)) (of_decide_eq_true (c.fact 79)) (no_ 17 (by decide) "part" (by decide +kernel))
      | 18, _ => xk_Missing F_x31 (gl_ 18 (by decide)) (ox_ 18 (by decide)) (eqB_ok (c.fact 111)) (of_decide_eq_true (c.fact 80)) (no_ 18 (by decide) "name" (by decide +kernel))
      | 19, _ => xk_Missing F_x31 (gl_ 19 (by decide)) (ox_ 19 (by decide)) (eqB_ok (c.fact 112)) (of_decide_eq_true (c.fact 80)) (no_ 19 (by decide) "name" (by decide +kernel))
      | 20, _ => xk_Missing F_x31 (gl_ 20 (by decide)) (ox_ 20 (by decide)) (eqB_ok (c.fact 113)) (of_decide_eq_true (c.fact 80)) (no_ 20 (by decide) "name" (by decide +kernel))
      | 21, _ => xk_Missing F_x31 (gl_ 21 (by decide)) (ox_ 21 (by decide)) (eqB_ok (c.fact 114)) (of_decide_eq_true (c.fact 80)) (no_ 21 (by decide) "name" (by decide +kernel))
      | 22, _ => xk_Missing F_x31 (gl_ 22 (by decide)) (ox_ 22 (by decide)) (eqB_ok (c.fact 115)) (of_decide_eq_true (c.fact 80)) (no_ 22 (by decide) "name" (by decide +kernel))
      | 23, _ => xk_Twice F_x37 (gl_ 23 (by decide)) (ox_ 23 (by decide)) (eqB_ok (c.fact 116)) (of_decide_eq_true (c.fact 81)) (no_ 23 (by decide) "name" (by decide +kernel))
      | 24, _ => xk_Over F_x44 (gl_ 24 (by decide)) (ox_ 24 (by decide)) (eqB_ok (c.fact 117)) (of_decide_eq_true (c.fact 88)) (no_ 24 (by decide) "name" (by decide +kernel))
      | 25, _ => xk_UnlikeSigns F_x38 (gl_ 25 (by decide)) (ox_ 25 (by decide)) (eqB_ok (c.fact 118)) (of_decide_eq_true (c.fact 82)) (no_ 25 (by decide) "label" (by decide +kernel))
      | 26, _ => xk_Unsure F_x40 (gl_ 26 (by decide)) (ox_ 26 (by decide)) (eqB_ok (c.fact 119)) (of_decide_eq_true (c.fact 84)) (no_ 26 (by decide) "trap" (by decide +kernel))
      | 27, _ => xk_NoPurse F_x42 (gl_ 27 (by decide)) (ox_ 27 (by decide)) (eqB_ok (c.fact 120)) (of_decide_eq_true (c.fact 86)) (no_ 27 (by decide) "word" (by decide +kernel))
      | 28, _ => xk_UnlikeArms F_x39 (gl_ 28 (by decide)) (ox_ 28 (by decide)) (eqB_ok (c.fact 121)) (of_decide_eq_true (c.fact 83)) (no_ 28 (by decide) "one" (by decide +kernel)) (no_ 28 (by decide) "other" (by decide +kernel))
      | 29, _ => xk_Unfair F_x41 (gl_ 29 (by decide)) (ox_ 29 (by decide)) (eqB_ok (c.fact 122)) (of_decide_eq_true (c.fact 85)) (no_ 29 (by decide) "state" (by decide +kernel)) (no_ 29 (by decide) "corner" (by decide +kernel))
      | 30, _ => xk_NotWithin F_x43 (gl_ 30 (by decide)) (ox_ 30 (by decide)) (eqB_ok (c.fact 123)) (of_decide_eq_true (c.fact 87)) (no_ 30 (by decide) "name" (by decide +kernel)) (no_ 30 (by decide) "row" (by decide +kernel))
      | 31, _ => xk_Refuted F_x45 (gl_ 31 (by decide)) (ox_ 31 (by decide)) (eqB_ok (c.fact 124)) (of_decide_eq_true (c.fact 89)) (no_ 31 (by decide) "name" (by decide +kernel)) (no_ 31 (by decide) "label" (by decide +kernel))
      | 32, _ => xk_TooMany F_x47 (gl_ 32 (by decide)) (ox_ 32 (by decide)) (eqB_ok (c.fact 125)) (of_decide_eq_true (c.fact 90)) (no_ 32 (by decide) "what" (by decide +kernel)) (no_ 32 (by decide) "most" (by decide +kernel))
      | 33, _ => xk_BadText F_x48 (gl_ 33 (by decide)) (ox_ 33 (by decide)) (eqB_ok (c.fact 126)) (of_decide_eq_true (c.fact 91)) (no_ 33 (by decide) "line" (by decide +kernel)) (no_ 33 (by decide) "word" (by decide +kernel))
      | 34, _ => xk_BadLine F_x49 (gl_ 34 (by decide)) (ox_ 34 (by decide)) (eqB_ok (c.fact 127)) (of_decide_eq_true (c.fact 92)) (no_ 34 (by decide) "line" (by decide +kernel)) (no_ 34 (by decide) "error" (by decide +kernel))
      | n + 35, hn => absurd hn (by omega)
    have S : XS P w K mg base (Cs K) (cM K) (cP K) := {
      mkx := mk_
      mkM := xk_Missing F_x31 (gl "Missing" (by decide +kernel)) oxM_ (eqB_ok (c.fact 128)) (of_decide_eq_true (c.fact 80)) (eqB_ok (c.fact 61))
      n0 := ((c.fact 49))
      n1 := (all36K_ok (c.fact 32)) 35 (by decide)
      gl := gl_
      glM := (gl "Missing" (by decide +kernel))
      glP := (gl "PeekError" (by decide +kernel))
      ec := fun i hi => ⟨eqB_ok ((all36K_ok (c.fact 33)) i hi), eqB_ok ((all36K_ok (c.fact 34)) i hi), of_decide_eq_true ((all36K_ok (c.fact 30)) i hi), (all36K_ok (c.fact 35)) i hi, eqB_ok ((all36K_ok (c.fact 36)) i hi), (eqB_ok (c.fact 2)), (of_decide_eq_true (c.fact 3)), of_decide_eq_true ((all36K_ok (c.fact 37)) i hi)⟩
      ecM := ⟨(eqB_ok (c.fact 55)), (eqB_ok (c.fact 56)), (of_decide_eq_true (c.fact 50)), ((c.fact 57)), (eqB_ok (c.fact 58)), (eqB_ok (c.fact 2)), (of_decide_eq_true (c.fact 3)), (of_decide_eq_true (c.fact 59))⟩
      xf := fun i hi => xfB_ok ((all36K_ok (c.fact 38)) i (Nat.lt_succ_of_lt hi))
      xfM := (xfB_ok ((c.fact 60)))
      no := no_
      noM := (eqB_ok (c.fact 61))
      kit := fun i j hi hj => of_decide_eq_true (all36K_ok (n := 36) (f := fun j => decide (PySem.W.kitOne K (.ref (Cs K i)) (.ref (Cs K j)) = some (decide (i = j)))) ((all36K_ok (c.fact 40)) i hi) j hj)
      kitM := fun j hj => of_decide_eq_true ((all36K_ok (c.fact 41)) j hj)
      kP := fun i hi => of_decide_eq_true ((all36K_ok (c.fact 42)) i hi)
      kMP := (of_decide_eq_true (c.fact 47))
      kMis := fun i hi => of_decide_eq_true ((all36K_ok (c.fact 43)) i hi)
      kV := fun i hi => of_decide_eq_true ((all36K_ok (c.fact 44)) i hi)
      kMV := (of_decide_eq_true (c.fact 48))
      kF := fun i hi T hT => of_decide_eq_true (List.all_eq_true.mp ((all36K_ok (c.fact 45)) i hi) T hT) }
    have G_int := ok_int (P := P) (w := w) (base := base) F_int B
    have Tb : BRC K mg (Cs K 0) (ma K (c_BadRatio K) "__init__") := { ox := ox_ 0 (by decide), nP := no_ 0 (by decide) "part" (by decide +kernel), gl := gl_ 0 (by decide), iC := (eqB_ok (c.fact 93)), tI := (of_decide_eq_true (c.fact 62)) }
    have G_br := ok_br (P := P) (w := w) (mg := mg) (base := base) F_x13 Tb
    have G_R := ok_rinit F_ri T Tb G_br b_x13 G_int b_int d_int
    have G_str := ok_rstr (P := P) (w := w) (base := base) F_str T B
    have G_repr := ok_rrepr F_repr B G_str b_str (eqB_ok (c.fact 18)) ((c.fact 19))
    have G_within := ok_within F_within G_int b_int d_int
    have G_name := ok_name (P := P) (w := w) (base := base) F_name B (strG_of X G (c.fact 24)) (strG_of X G (c.fact 25)) (intG_of X G (c.fact 26))
    have G_label := ok_label F_label B (intG_of X G (c.fact 27)) G_name b_name d_name
    have G_pen := ok_pen (P := P) (w := w) (base := base) F_pen B
    have G_draw := ok_draw (P := P) (w := w) (base := base) F_draw B
    have G_pickL := ok_pickL F_pick B G_draw b_draw d_draw
    have G_pickS := ok_pickS F_pick B G_draw b_draw d_draw
    have G_parts := ok_parts F_parts S
    have G_partsn := ok_partsn F_partsn S
    have G_others := ok_others F_others S
    have G_othersn := ok_othersn F_othersn S
    have G_fields := ok_fields F_fields S
    have G_kin := ok_kin F_kin B S
    have G_errors := ok_errors F_errors B S (eqB_ok (c.fact 16)) ((c.fact 17)) G_repr b_repr G_parts b_parts d_parts G_others b_others d_others G_partsn b_partsn d_partsn G_othersn b_othersn d_othersn G_fields b_fields d_fields G_kin b_kin d_kin
    have G_lname := ok_lname (P := P) (w := w) (base := base) F_lname B
    have G_llabel := ok_llabel F_llabel B G_lname b_lname d_lname
    have G_word := ok_word F_word B G_draw b_draw d_draw G_pickL G_pickS b_pick d_pick
    have G_kinds := ok_kinds F_kinds B T (of_decide_eq_true (c.fact 14)) (of_decide_eq_true (c.fact 15)) G_draw b_draw d_draw G_pickL b_pick d_pick G_word b_word d_word G_name b_name d_name G_label b_label kbl d_label G_int b_int d_int G_within b_within kbw d_within G_lname b_lname d_lname G_llabel b_llabel d_llabel M_R G_R b_R b_R1 v_R1 d_R
    exact ok_law F_law B G_pen b_pen d_pen G_pickL b_pick d_pick G_errors b_errors d_errors G_kinds b_kinds d_kinds M_R G_R b_R b_R1 v_R1 d_R
end K00
end

section -- K00zd
set_option linter.all false
set_option maxRecDepth 100000
set_option maxHeartbeats 0
open PySem PySem.W PySem.Calls PyProof.Rows
theorem PySem.Challenge.cw_peekproof_k00_errors_and_kinds_of_values_holds : PySem.Challenge.rw_peekproof_k00_errors_and_kinds_of_values.Holds := by
  w_on; o_law
  refine HandSHeadRun.head_imp (r := K00.oRow) (q := K00.vw) (H := K00.hz) (ob := K00.oz) (M := 24000) (loose := K00.loose) (d := HandSHeadRun.topDef K00.oRow.prog 72) (kwd := []) K00.oz_eq K00.run
    (by kernel_rfl) (by kernel_rfl) (by kernel_rfl) (by rfl) (by first | assumption | decide +kernel) (by decide +kernel) ⟨rfl, rfl, rfl, rfl, rfl, by decide +kernel⟩ ?hw ?hc
  case hw => exact ⟨[.list []], by decide +kernel, by decide +kernel⟩
  case hc =>
    refine Pk.walkG (l := PySem.Challenge.rw_peekproof_k00_errors_and_kinds_of_values) (n := 63) (k := 9) (x := "_law_script") rfl (by decide) (by kernel_rfl) ⟨rfl, by decide, by decide⟩ ?F
    intro w mg fa h Y G hmg0
    obtain ⟨K, KX, c⟩ := Y
    have hmg : mg ("law" : PySem.Str) = some (.ref fa) := by
      have e : (HandSHeadRun.topDef K00.oRow.prog 72).name = ("law" : PySem.Str) := by kernel_rfl
      rw [← e]
      exact hmg0
    obtain ⟨fd, hb, hF⟩ := K00.told (P := (PySem.Challenge.rw_peekproof_k00_errors_and_kinds_of_values).prog) (w := w) KX G hmg c
    exact ⟨K, fd, K00.spLaw K, KX, hb, fun H a ns hS => ⟨a, ns, rfl, hS, fun _ => rfl⟩, hF⟩
end
