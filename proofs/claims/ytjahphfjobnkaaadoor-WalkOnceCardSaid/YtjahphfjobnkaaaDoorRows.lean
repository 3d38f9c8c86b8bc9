/-
  NARROWER THAN 'FOR EVERY INPUT', by the rows' own cells (each row's printed sentence says how): WalkSteps: laid · WalkCanons: laid · WalkOnce: laid · WalkNumbers: laid · WalkCounts: laid · WalkIs: laid.
  DERIVED. THE GIVEN ROWS OF THIS SEAT. 6 by the template 'for every input the law returns true; each argument reads behind the call as it read before'; 0 by the template 'total and deterministic' (their statements: YtjahphfjobnkaaaDoorTotals.lean).
  GIVEN WITH THE SEED: the statements are not yours to turn. If you find one false, say at which input.
  Laid BY PROGRAM, IN A SANDBOX (cutbox-rows.mjs): the forced cells as the released guide's own fill.sh prints them over the translation de266fd33a94396e… (all of the seat's roots in one cut). By AI agents, Wed Nov 11 2026. No macro, syntax, notation, axiom, sorry.
-/
import Derived.Test.YtjahphfjobnkaaaDoorChecked
import GoSem.Claim
import GoSem.ClaimJoined
import GoSem.ClaimMapViews
import Derived.JoinedTies
import Derived.KernelRfl
namespace Go.Proofs.YtjahphfjobnkaaaDoor
/- THE CELL 'sum', in the pinned program and in every row, IS THE sha256 OF THE DUMP (.gsa) THAT YtjahphfjobnkaaaDoorProg.lean LOADS. Nothing in Lean hashes anything: it is a label: what it is worth is what the hold of that sum in a sandbox is worth. -/
noncomputable def Tryd.pinned : Pinned := { name := "ytjahphfjobnkaaadoor", sum := "de266fd33a94396e4c2b15bf85f7377c850db1832b836da8fc40af5e52b3ad18", checked := Tryd.checked }
namespace Rows
def none {H : Type} : Left H := { results := [], args := [] }

/- WHAT THE LISTED PACKAGE-LEVEL VARIABLES READ AS WHEN THE CALL BEGINS. Each datum BY PROGRAM (the guide's laid-datum.mjs) off the statement by which the dump's own 'gosem.cut.vars' lays the variable. In a bare row this is a premise. The card (YtjahphfjobnkaaaDoorCards.lean) ties it to the program's text. -/
def laid_lapidary_mesh_behind {H : Type} : DataW H := .agg [.agg [.lit (.int .i64 0), .lit (.int .i64 1), .lit (.int .i64 2)], .agg [.lit (.int .i64 1), .lit (.int .i64 2), .lit (.int .i64 0)], .agg [.lit (.int .i64 2), .lit (.int .i64 0), .lit (.int .i64 1)]]

/-- 'lapidarylaw11.WalkSteps': WHATEVER THE INPUT: true; the input reads as it did. -/
def walkStepsSpec : ChangeSpec := { name := "walkSteps", fn := fun _ => fun
  | [d] => { results := [.lit (.bool true)], args := [d] }
  | _ => none }
def walkStepsRow : OpenClaim := { program := "ytjahphfjobnkaaadoor", sum := "de266fd33a94396e4c2b15bf85f7377c850db1832b836da8fc40af5e52b3ad18", func := "lapidary/lapidarylaw11.WalkSteps", spec := "walkSteps", unfollowed := true, recurses := true, named := ["lapidary/mesh.behind"], plainKeys := false, apart := false, laid := [("lapidary/mesh.behind", laid_lapidary_mesh_behind)] }
def WalkStepsSaid : Prop := walkStepsRow.holds Tryd.pinned (OpenSpec.ofChange walkStepsSpec)

/-- ITS FALSE NEIGHBOUR: 'it returns false'. Refute it at one input. -/
def walkStepsWrong : ChangeSpec := { name := "walkSteps", fn := fun _ => fun
  | [d] => { results := [.lit (.bool false)], args := [d] }
  | _ => none }
def WalkStepsWrongFalsely : Prop := walkStepsRow.holds Tryd.pinned (OpenSpec.ofChange walkStepsWrong)

/-- 'lapidarylaw11.WalkCanons': WHATEVER THE INPUT: true; the input reads as it did. -/
def walkCanonsSpec : ChangeSpec := { name := "walkCanons", fn := fun _ => fun
  | [d] => { results := [.lit (.bool true)], args := [d] }
  | _ => none }
def walkCanonsRow : OpenClaim := { program := "ytjahphfjobnkaaadoor", sum := "de266fd33a94396e4c2b15bf85f7377c850db1832b836da8fc40af5e52b3ad18", func := "lapidary/lapidarylaw11.WalkCanons", spec := "walkCanons", unfollowed := true, recurses := true, named := ["lapidary/mesh.behind"], plainKeys := false, apart := false, laid := [("lapidary/mesh.behind", laid_lapidary_mesh_behind)] }
def WalkCanonsSaid : Prop := walkCanonsRow.holds Tryd.pinned (OpenSpec.ofChange walkCanonsSpec)

/-- ITS FALSE NEIGHBOUR: 'it returns false'. Refute it at one input. -/
def walkCanonsWrong : ChangeSpec := { name := "walkCanons", fn := fun _ => fun
  | [d] => { results := [.lit (.bool false)], args := [d] }
  | _ => none }
def WalkCanonsWrongFalsely : Prop := walkCanonsRow.holds Tryd.pinned (OpenSpec.ofChange walkCanonsWrong)

/-- 'lapidarylaw11.WalkOnce': WHATEVER THE INPUT: true; the input reads as it did. -/
def walkOnceSpec : ChangeSpec := { name := "walkOnce", fn := fun _ => fun
  | [d] => { results := [.lit (.bool true)], args := [d] }
  | _ => none }
def walkOnceRow : OpenClaim := { program := "ytjahphfjobnkaaadoor", sum := "de266fd33a94396e4c2b15bf85f7377c850db1832b836da8fc40af5e52b3ad18", func := "lapidary/lapidarylaw11.WalkOnce", spec := "walkOnce", unfollowed := true, recurses := true, named := ["lapidary/mesh.behind"], plainKeys := false, apart := false, laid := [("lapidary/mesh.behind", laid_lapidary_mesh_behind)] }
def WalkOnceSaid : Prop := walkOnceRow.holds Tryd.pinned (OpenSpec.ofChange walkOnceSpec)

/-- ITS FALSE NEIGHBOUR: 'it returns false'. Refute it at one input. -/
def walkOnceWrong : ChangeSpec := { name := "walkOnce", fn := fun _ => fun
  | [d] => { results := [.lit (.bool false)], args := [d] }
  | _ => none }
def WalkOnceWrongFalsely : Prop := walkOnceRow.holds Tryd.pinned (OpenSpec.ofChange walkOnceWrong)

/-- 'lapidarylaw11.WalkNumbers': WHATEVER THE INPUT: true; the input reads as it did. -/
def walkNumbersSpec : ChangeSpec := { name := "walkNumbers", fn := fun _ => fun
  | [d1, d2] => { results := [.lit (.bool true)], args := [d1, d2] }
  | _ => none }
def walkNumbersRow : OpenClaim := { program := "ytjahphfjobnkaaadoor", sum := "de266fd33a94396e4c2b15bf85f7377c850db1832b836da8fc40af5e52b3ad18", func := "lapidary/lapidarylaw11.WalkNumbers", spec := "walkNumbers", unfollowed := true, recurses := true, named := ["lapidary/mesh.behind"], plainKeys := false, apart := false, laid := [("lapidary/mesh.behind", laid_lapidary_mesh_behind)] }
def WalkNumbersSaid : Prop := walkNumbersRow.holds Tryd.pinned (OpenSpec.ofChange walkNumbersSpec)

/-- ITS FALSE NEIGHBOUR: 'it returns false'. Refute it at one input. -/
def walkNumbersWrong : ChangeSpec := { name := "walkNumbers", fn := fun _ => fun
  | [d1, d2] => { results := [.lit (.bool false)], args := [d1, d2] }
  | _ => none }
def WalkNumbersWrongFalsely : Prop := walkNumbersRow.holds Tryd.pinned (OpenSpec.ofChange walkNumbersWrong)

/-- 'lapidarylaw11.WalkCounts': WHATEVER THE INPUT: true; the input reads as it did. -/
def walkCountsSpec : ChangeSpec := { name := "walkCounts", fn := fun _ => fun
  | [d] => { results := [.lit (.bool true)], args := [d] }
  | _ => none }
def walkCountsRow : OpenClaim := { program := "ytjahphfjobnkaaadoor", sum := "de266fd33a94396e4c2b15bf85f7377c850db1832b836da8fc40af5e52b3ad18", func := "lapidary/lapidarylaw11.WalkCounts", spec := "walkCounts", unfollowed := true, recurses := true, named := ["lapidary/mesh.behind"], plainKeys := false, apart := false, laid := [("lapidary/mesh.behind", laid_lapidary_mesh_behind)] }
def WalkCountsSaid : Prop := walkCountsRow.holds Tryd.pinned (OpenSpec.ofChange walkCountsSpec)

/-- ITS FALSE NEIGHBOUR: 'it returns false'. Refute it at one input. -/
def walkCountsWrong : ChangeSpec := { name := "walkCounts", fn := fun _ => fun
  | [d] => { results := [.lit (.bool false)], args := [d] }
  | _ => none }
def WalkCountsWrongFalsely : Prop := walkCountsRow.holds Tryd.pinned (OpenSpec.ofChange walkCountsWrong)

/-- 'lapidarylaw11.WalkIs': WHATEVER THE INPUT: true; the input reads as it did. -/
def walkIsSpec : ChangeSpec := { name := "walkIs", fn := fun _ => fun
  | [d] => { results := [.lit (.bool true)], args := [d] }
  | _ => none }
def walkIsRow : OpenClaim := { program := "ytjahphfjobnkaaadoor", sum := "de266fd33a94396e4c2b15bf85f7377c850db1832b836da8fc40af5e52b3ad18", func := "lapidary/lapidarylaw11.WalkIs", spec := "walkIs", unfollowed := true, recurses := true, named := ["lapidary/mesh.behind"], plainKeys := false, apart := false, laid := [("lapidary/mesh.behind", laid_lapidary_mesh_behind)] }
def WalkIsSaid : Prop := walkIsRow.holds Tryd.pinned (OpenSpec.ofChange walkIsSpec)

/-- ITS FALSE NEIGHBOUR: 'it returns false'. Refute it at one input. -/
def walkIsWrong : ChangeSpec := { name := "walkIs", fn := fun _ => fun
  | [d] => { results := [.lit (.bool false)], args := [d] }
  | _ => none }
def WalkIsWrongFalsely : Prop := walkIsRow.holds Tryd.pinned (OpenSpec.ofChange walkIsWrong)

/- THE SECOND FORM. 'bulk': how many values and letters a reading holds, each counted each time it is reached (what is shared counts as often as it is met; a slice's spare places count too). A statement '..UptoSaid' is the law's where the arguments, and the package variables that the reading takes, are together of bulk at most 1048576: NARROWER than '..Said'. Prove '..Said' where nothing that the law and all that it calls make is longer than what came in: it says more and counts as full. Else prove '..UptoSaid'. A law counts once. -/
mutual
def uptoBulk {H : Type} : DataW H → Nat
  | .lit (.string bytes) => bytes.length + 1
  | .lit _ => 1
  | .nil => 1
  | .ptr d => uptoBulk d + 1
  | .slice elems spare => uptoBulkAll elems + uptoBulkAll spare + 1
  | .agg parts => uptoBulkAll parts + 1
  | .iface _ d => uptoBulk d + 1
  | .map entries => uptoBulkEntries entries + 1
  | .held _ => 1
def uptoBulkAll {H : Type} : List (DataW H) → Nat
  | [] => 0
  | d :: r => uptoBulk d + uptoBulkAll r
def uptoBulkEntries {H : Type} : List (Lit × DataW H) → Nat
  | [] => 0
  | x :: r => uptoBulkEntry x + uptoBulkEntries r
def uptoBulkEntry {H : Type} : Lit × DataW H → Nat
  | (.string bytes, d) => bytes.length + uptoBulk d + 1
  | (_, d) => uptoBulk d + 1
 end
def uptoSmall : (H : Type) → List (DataW H) → Bool := fun _ ds => decide (uptoBulkAll ds ≤ 1048576)
def OpenSpec.upto (s : _root_.Go.ChangeSpec) : _root_.Go.OpenSpec := { _root_.Go.OpenSpec.ofChange s with cond := some uptoSmall }

/-- 'lapidarylaw11.WalkSteps', WHERE WHAT IT READS IS OF BULK AT MOST 1048576: true; the input reads as it did. -/
def walkStepsUptoRow : OpenClaim := { program := "ytjahphfjobnkaaadoor", sum := "de266fd33a94396e4c2b15bf85f7377c850db1832b836da8fc40af5e52b3ad18", func := "lapidary/lapidarylaw11.WalkSteps", spec := "walkSteps", unfollowed := true, recurses := true, named := ["lapidary/mesh.behind"], plainKeys := false, apart := false, laid := [("lapidary/mesh.behind", laid_lapidary_mesh_behind)], narrowed := true }
def WalkStepsUptoSaid : Prop := walkStepsUptoRow.holds Tryd.pinned (OpenSpec.upto walkStepsSpec)

/-- 'lapidarylaw11.WalkCanons', WHERE WHAT IT READS IS OF BULK AT MOST 1048576: true; the input reads as it did. -/
def walkCanonsUptoRow : OpenClaim := { program := "ytjahphfjobnkaaadoor", sum := "de266fd33a94396e4c2b15bf85f7377c850db1832b836da8fc40af5e52b3ad18", func := "lapidary/lapidarylaw11.WalkCanons", spec := "walkCanons", unfollowed := true, recurses := true, named := ["lapidary/mesh.behind"], plainKeys := false, apart := false, laid := [("lapidary/mesh.behind", laid_lapidary_mesh_behind)], narrowed := true }
def WalkCanonsUptoSaid : Prop := walkCanonsUptoRow.holds Tryd.pinned (OpenSpec.upto walkCanonsSpec)

/-- 'lapidarylaw11.WalkOnce', WHERE WHAT IT READS IS OF BULK AT MOST 1048576: true; the input reads as it did. -/
def walkOnceUptoRow : OpenClaim := { program := "ytjahphfjobnkaaadoor", sum := "de266fd33a94396e4c2b15bf85f7377c850db1832b836da8fc40af5e52b3ad18", func := "lapidary/lapidarylaw11.WalkOnce", spec := "walkOnce", unfollowed := true, recurses := true, named := ["lapidary/mesh.behind"], plainKeys := false, apart := false, laid := [("lapidary/mesh.behind", laid_lapidary_mesh_behind)], narrowed := true }
def WalkOnceUptoSaid : Prop := walkOnceUptoRow.holds Tryd.pinned (OpenSpec.upto walkOnceSpec)

/-- 'lapidarylaw11.WalkNumbers', WHERE WHAT IT READS IS OF BULK AT MOST 1048576: true; the input reads as it did. -/
def walkNumbersUptoRow : OpenClaim := { program := "ytjahphfjobnkaaadoor", sum := "de266fd33a94396e4c2b15bf85f7377c850db1832b836da8fc40af5e52b3ad18", func := "lapidary/lapidarylaw11.WalkNumbers", spec := "walkNumbers", unfollowed := true, recurses := true, named := ["lapidary/mesh.behind"], plainKeys := false, apart := false, laid := [("lapidary/mesh.behind", laid_lapidary_mesh_behind)], narrowed := true }
def WalkNumbersUptoSaid : Prop := walkNumbersUptoRow.holds Tryd.pinned (OpenSpec.upto walkNumbersSpec)

/-- 'lapidarylaw11.WalkCounts', WHERE WHAT IT READS IS OF BULK AT MOST 1048576: true; the input reads as it did. -/
def walkCountsUptoRow : OpenClaim := { program := "ytjahphfjobnkaaadoor", sum := "de266fd33a94396e4c2b15bf85f7377c850db1832b836da8fc40af5e52b3ad18", func := "lapidary/lapidarylaw11.WalkCounts", spec := "walkCounts", unfollowed := true, recurses := true, named := ["lapidary/mesh.behind"], plainKeys := false, apart := false, laid := [("lapidary/mesh.behind", laid_lapidary_mesh_behind)], narrowed := true }
def WalkCountsUptoSaid : Prop := walkCountsUptoRow.holds Tryd.pinned (OpenSpec.upto walkCountsSpec)

/-- 'lapidarylaw11.WalkIs', WHERE WHAT IT READS IS OF BULK AT MOST 1048576: true; the input reads as it did. -/
def walkIsUptoRow : OpenClaim := { program := "ytjahphfjobnkaaadoor", sum := "de266fd33a94396e4c2b15bf85f7377c850db1832b836da8fc40af5e52b3ad18", func := "lapidary/lapidarylaw11.WalkIs", spec := "walkIs", unfollowed := true, recurses := true, named := ["lapidary/mesh.behind"], plainKeys := false, apart := false, laid := [("lapidary/mesh.behind", laid_lapidary_mesh_behind)], narrowed := true }
def WalkIsUptoSaid : Prop := walkIsUptoRow.holds Tryd.pinned (OpenSpec.upto walkIsSpec)

end Rows
end Go.Proofs.YtjahphfjobnkaaaDoor
