/-
  NARROWER THAN 'FOR EVERY INPUT', by the rows' own cells (each row's printed sentence says how): GrowSteps: laid · GrowAll: laid · GrowWalks: laid · GrowShort: laid · GrowOne: laid · GrowCounts: laid.
  DERIVED. THE GIVEN ROWS OF THIS SEAT. 6 by the template 'for every input the law returns true; each argument reads behind the call as it read before'; 0 by the template 'total and deterministic' (their statements: YthjmojglcfmkmaaDoorTotals.lean).
  GIVEN WITH THE SEED: the statements are not yours to turn. If you find one false, say at which input.
  Laid BY PROGRAM, IN A SANDBOX (cutbox-rows.mjs): the forced cells as the released guide's own fill.sh prints them over the translation d2c5f6f9e251723c… (all of the seat's roots in one cut). By AI agents, Wed Nov 11 2026. No macro, syntax, notation, axiom, sorry.
-/
import Derived.Test.YthjmojglcfmkmaaDoorChecked
import GoSem.Claim
import GoSem.ClaimJoined
import GoSem.ClaimMapViews
import Derived.JoinedTies
import Derived.KernelRfl
namespace Go.Proofs.YthjmojglcfmkmaaDoor
/- THE CELL 'sum', in the pinned program and in every row, IS THE sha256 OF THE DUMP (.gsa) THAT YthjmojglcfmkmaaDoorProg.lean LOADS. Nothing in Lean hashes anything: it is a label: what it is worth is what the hold of that sum in a sandbox is worth. -/
noncomputable def Tryd.pinned : Pinned := { name := "ythjmojglcfmkmaadoor", sum := "d2c5f6f9e251723cd791283ce9e511473d184bc3366b9a359711cc2402e6fc93", checked := Tryd.checked }
namespace Rows
def none {H : Type} : Left H := { results := [], args := [] }

/- WHAT THE LISTED PACKAGE-LEVEL VARIABLES READ AS WHEN THE CALL BEGINS. Each datum BY PROGRAM (the guide's laid-datum.mjs) off the statement by which the dump's own 'gosem.cut.vars' lays the variable. In a bare row this is a premise. The card (YthjmojglcfmkmaaDoorCards.lean) ties it to the program's text. -/
def laid_lapidary_mesh_behind {H : Type} : DataW H := .agg [.agg [.lit (.int .i64 0), .lit (.int .i64 1), .lit (.int .i64 2)], .agg [.lit (.int .i64 1), .lit (.int .i64 2), .lit (.int .i64 0)], .agg [.lit (.int .i64 2), .lit (.int .i64 0), .lit (.int .i64 1)]]
def laid_lapidary_grow_newTris {H : Type} : DataW H := .agg [.lit (.int .i64 1), .lit (.int .i64 0), .lit (.int .i64 1), .lit (.int .i64 1)]
def laid_lapidary_grow_newVerts {H : Type} : DataW H := .agg [.lit (.int .i64 3), .lit (.int .i64 0), .lit (.int .i64 1), .lit (.int .i64 0)]

/-- 'lapidarylaw12.GrowSteps': WHATEVER THE INPUT: true; the input reads as it did. -/
def growStepsSpec : ChangeSpec := { name := "growSteps", fn := fun _ => fun
  | [d] => { results := [.lit (.bool true)], args := [d] }
  | _ => none }
def growStepsRow : OpenClaim := { program := "ythjmojglcfmkmaadoor", sum := "d2c5f6f9e251723cd791283ce9e511473d184bc3366b9a359711cc2402e6fc93", func := "lapidary/lapidarylaw12.GrowSteps", spec := "growSteps", unfollowed := true, recurses := true, named := ["lapidary/grow.newTris", "lapidary/grow.newVerts", "lapidary/mesh.behind"], plainKeys := false, apart := false, laid := [("lapidary/mesh.behind", laid_lapidary_mesh_behind), ("lapidary/grow.newTris", laid_lapidary_grow_newTris), ("lapidary/grow.newVerts", laid_lapidary_grow_newVerts)] }
def GrowStepsSaid : Prop := growStepsRow.holds Tryd.pinned (OpenSpec.ofChange growStepsSpec)

/-- ITS FALSE NEIGHBOUR: 'it returns false'. Refute it at one input. -/
def growStepsWrong : ChangeSpec := { name := "growSteps", fn := fun _ => fun
  | [d] => { results := [.lit (.bool false)], args := [d] }
  | _ => none }
def GrowStepsWrongFalsely : Prop := growStepsRow.holds Tryd.pinned (OpenSpec.ofChange growStepsWrong)

/-- 'lapidarylaw12.GrowAll': WHATEVER THE INPUT: true; the input reads as it did. -/
def growAllSpec : ChangeSpec := { name := "growAll", fn := fun _ => fun
  | [d] => { results := [.lit (.bool true)], args := [d] }
  | _ => none }
def growAllRow : OpenClaim := { program := "ythjmojglcfmkmaadoor", sum := "d2c5f6f9e251723cd791283ce9e511473d184bc3366b9a359711cc2402e6fc93", func := "lapidary/lapidarylaw12.GrowAll", spec := "growAll", unfollowed := true, recurses := true, named := ["lapidary/grow.newTris", "lapidary/grow.newVerts", "lapidary/mesh.behind"], plainKeys := false, apart := false, laid := [("lapidary/mesh.behind", laid_lapidary_mesh_behind), ("lapidary/grow.newTris", laid_lapidary_grow_newTris), ("lapidary/grow.newVerts", laid_lapidary_grow_newVerts)] }
def GrowAllSaid : Prop := growAllRow.holds Tryd.pinned (OpenSpec.ofChange growAllSpec)

/-- ITS FALSE NEIGHBOUR: 'it returns false'. Refute it at one input. -/
def growAllWrong : ChangeSpec := { name := "growAll", fn := fun _ => fun
  | [d] => { results := [.lit (.bool false)], args := [d] }
  | _ => none }
def GrowAllWrongFalsely : Prop := growAllRow.holds Tryd.pinned (OpenSpec.ofChange growAllWrong)

/-- 'lapidarylaw12.GrowWalks': WHATEVER THE INPUT: true; the input reads as it did. -/
def growWalksSpec : ChangeSpec := { name := "growWalks", fn := fun _ => fun
  | [d1, d2] => { results := [.lit (.bool true)], args := [d1, d2] }
  | _ => none }
def growWalksRow : OpenClaim := { program := "ythjmojglcfmkmaadoor", sum := "d2c5f6f9e251723cd791283ce9e511473d184bc3366b9a359711cc2402e6fc93", func := "lapidary/lapidarylaw12.GrowWalks", spec := "growWalks", unfollowed := true, recurses := true, named := ["lapidary/grow.newTris", "lapidary/grow.newVerts", "lapidary/mesh.behind"], plainKeys := false, apart := false, laid := [("lapidary/mesh.behind", laid_lapidary_mesh_behind), ("lapidary/grow.newTris", laid_lapidary_grow_newTris), ("lapidary/grow.newVerts", laid_lapidary_grow_newVerts)] }
def GrowWalksSaid : Prop := growWalksRow.holds Tryd.pinned (OpenSpec.ofChange growWalksSpec)

/-- ITS FALSE NEIGHBOUR: 'it returns false'. Refute it at one input. -/
def growWalksWrong : ChangeSpec := { name := "growWalks", fn := fun _ => fun
  | [d1, d2] => { results := [.lit (.bool false)], args := [d1, d2] }
  | _ => none }
def GrowWalksWrongFalsely : Prop := growWalksRow.holds Tryd.pinned (OpenSpec.ofChange growWalksWrong)

/-- 'lapidarylaw12.GrowShort': WHATEVER THE INPUT: true; the input reads as it did. -/
def growShortSpec : ChangeSpec := { name := "growShort", fn := fun _ => fun
  | [d1, d2, d3] => { results := [.lit (.bool true)], args := [d1, d2, d3] }
  | _ => none }
def growShortRow : OpenClaim := { program := "ythjmojglcfmkmaadoor", sum := "d2c5f6f9e251723cd791283ce9e511473d184bc3366b9a359711cc2402e6fc93", func := "lapidary/lapidarylaw12.GrowShort", spec := "growShort", unfollowed := true, recurses := true, named := ["lapidary/grow.newTris", "lapidary/grow.newVerts", "lapidary/mesh.behind"], plainKeys := false, apart := false, laid := [("lapidary/mesh.behind", laid_lapidary_mesh_behind), ("lapidary/grow.newTris", laid_lapidary_grow_newTris), ("lapidary/grow.newVerts", laid_lapidary_grow_newVerts)] }
def GrowShortSaid : Prop := growShortRow.holds Tryd.pinned (OpenSpec.ofChange growShortSpec)

/-- ITS FALSE NEIGHBOUR: 'it returns false'. Refute it at one input. -/
def growShortWrong : ChangeSpec := { name := "growShort", fn := fun _ => fun
  | [d1, d2, d3] => { results := [.lit (.bool false)], args := [d1, d2, d3] }
  | _ => none }
def GrowShortWrongFalsely : Prop := growShortRow.holds Tryd.pinned (OpenSpec.ofChange growShortWrong)

/-- 'lapidarylaw12.GrowOne': WHATEVER THE INPUT: true; the input reads as it did. -/
def growOneSpec : ChangeSpec := { name := "growOne", fn := fun _ => fun
  | [d1, d2] => { results := [.lit (.bool true)], args := [d1, d2] }
  | _ => none }
def growOneRow : OpenClaim := { program := "ythjmojglcfmkmaadoor", sum := "d2c5f6f9e251723cd791283ce9e511473d184bc3366b9a359711cc2402e6fc93", func := "lapidary/lapidarylaw12.GrowOne", spec := "growOne", unfollowed := true, recurses := true, named := ["lapidary/grow.newTris", "lapidary/grow.newVerts", "lapidary/mesh.behind"], plainKeys := false, apart := false, laid := [("lapidary/mesh.behind", laid_lapidary_mesh_behind), ("lapidary/grow.newTris", laid_lapidary_grow_newTris), ("lapidary/grow.newVerts", laid_lapidary_grow_newVerts)] }
def GrowOneSaid : Prop := growOneRow.holds Tryd.pinned (OpenSpec.ofChange growOneSpec)

/-- ITS FALSE NEIGHBOUR: 'it returns false'. Refute it at one input. -/
def growOneWrong : ChangeSpec := { name := "growOne", fn := fun _ => fun
  | [d1, d2] => { results := [.lit (.bool false)], args := [d1, d2] }
  | _ => none }
def GrowOneWrongFalsely : Prop := growOneRow.holds Tryd.pinned (OpenSpec.ofChange growOneWrong)

/-- 'lapidarylaw12.GrowCounts': WHATEVER THE INPUT: true; the input reads as it did. -/
def growCountsSpec : ChangeSpec := { name := "growCounts", fn := fun _ => fun
  | [d] => { results := [.lit (.bool true)], args := [d] }
  | _ => none }
def growCountsRow : OpenClaim := { program := "ythjmojglcfmkmaadoor", sum := "d2c5f6f9e251723cd791283ce9e511473d184bc3366b9a359711cc2402e6fc93", func := "lapidary/lapidarylaw12.GrowCounts", spec := "growCounts", unfollowed := true, recurses := true, named := ["lapidary/grow.newTris", "lapidary/grow.newVerts", "lapidary/mesh.behind"], plainKeys := false, apart := false, laid := [("lapidary/mesh.behind", laid_lapidary_mesh_behind), ("lapidary/grow.newTris", laid_lapidary_grow_newTris), ("lapidary/grow.newVerts", laid_lapidary_grow_newVerts)] }
def GrowCountsSaid : Prop := growCountsRow.holds Tryd.pinned (OpenSpec.ofChange growCountsSpec)

/-- ITS FALSE NEIGHBOUR: 'it returns false'. Refute it at one input. -/
def growCountsWrong : ChangeSpec := { name := "growCounts", fn := fun _ => fun
  | [d] => { results := [.lit (.bool false)], args := [d] }
  | _ => none }
def GrowCountsWrongFalsely : Prop := growCountsRow.holds Tryd.pinned (OpenSpec.ofChange growCountsWrong)

/- THE SECOND FORM. 'bulk': how many values and letters a reading holds, each counted each time it is reached (what is shared counts as often as it is met; a slice's spare places count too). A statement '..UptoSaid' is the law's where the arguments, and the package variables that the reading takes, are together of bulk at most 1048576: NARROWER than '..Said'. Prove '..Said' where nothing that the law and all that it calls make is longer than what came in: it says more and counts as full. Else prove '..UptoSaid'. A law counts once. -/
mutual
def uptoBulk {H : Type} : DataW H → Nat
  | .lit (.string bytes) => bytes.length + 1
  | .lit _ => 1
  | .nil => 1
  | .ptr d => uptoBulk d + 1
  | .slice elems spare => uptoBulkAll elems + uptoBulkAll spare + 1
  | .agg parts => uptoBulkAll parts + 1
  | .iface _ d => uptoBulk d + 1
  | .map entries => uptoBulkEntries entries + 1
  | .held _ => 1
def uptoBulkAll {H : Type} : List (DataW H) → Nat
  | [] => 0
  | d :: r => uptoBulk d + uptoBulkAll r
def uptoBulkEntries {H : Type} : List (Lit × DataW H) → Nat
  | [] => 0
  | x :: r => uptoBulkEntry x + uptoBulkEntries r
def uptoBulkEntry {H : Type} : Lit × DataW H → Nat
  | (.string bytes, d) => bytes.length + uptoBulk d + 1
  | (_, d) => uptoBulk d + 1
 end
def uptoSmall : (H : Type) → List (DataW H) → Bool := fun _ ds => decide (uptoBulkAll ds ≤ 1048576)
def OpenSpec.upto (s : _root_.Go.ChangeSpec) : _root_.Go.OpenSpec := { _root_.Go.OpenSpec.ofChange s with cond := some uptoSmall }

/-- 'lapidarylaw12.GrowSteps', WHERE WHAT IT READS IS OF BULK AT MOST 1048576: true; the input reads as it did. -/
def growStepsUptoRow : OpenClaim := { program := "ythjmojglcfmkmaadoor", sum := "d2c5f6f9e251723cd791283ce9e511473d184bc3366b9a359711cc2402e6fc93", func := "lapidary/lapidarylaw12.GrowSteps", spec := "growSteps", unfollowed := true, recurses := true, named := ["lapidary/grow.newTris", "lapidary/grow.newVerts", "lapidary/mesh.behind"], plainKeys := false, apart := false, laid := [("lapidary/mesh.behind", laid_lapidary_mesh_behind), ("lapidary/grow.newTris", laid_lapidary_grow_newTris), ("lapidary/grow.newVerts", laid_lapidary_grow_newVerts)], narrowed := true }
def GrowStepsUptoSaid : Prop := growStepsUptoRow.holds Tryd.pinned (OpenSpec.upto growStepsSpec)

/-- 'lapidarylaw12.GrowAll', WHERE WHAT IT READS IS OF BULK AT MOST 1048576: true; the input reads as it did. -/
def growAllUptoRow : OpenClaim := { program := "ythjmojglcfmkmaadoor", sum := "d2c5f6f9e251723cd791283ce9e511473d184bc3366b9a359711cc2402e6fc93", func := "lapidary/lapidarylaw12.GrowAll", spec := "growAll", unfollowed := true, recurses := true, named := ["lapidary/grow.newTris", "lapidary/grow.newVerts", "lapidary/mesh.behind"], plainKeys := false, apart := false, laid := [("lapidary/mesh.behind", laid_lapidary_mesh_behind), ("lapidary/grow.newTris", laid_lapidary_grow_newTris), ("lapidary/grow.newVerts", laid_lapidary_grow_newVerts)], narrowed := true }
def GrowAllUptoSaid : Prop := growAllUptoRow.holds Tryd.pinned (OpenSpec.upto growAllSpec)

/-- 'lapidarylaw12.GrowWalks', WHERE WHAT IT READS IS OF BULK AT MOST 1048576: true; the input reads as it did. -/
def growWalksUptoRow : OpenClaim := { program := "ythjmojglcfmkmaadoor", sum := "d2c5f6f9e251723cd791283ce9e511473d184bc3366b9a359711cc2402e6fc93", func := "lapidary/lapidarylaw12.GrowWalks", spec := "growWalks", unfollowed := true, recurses := true, named := ["lapidary/grow.newTris", "lapidary/grow.newVerts", "lapidary/mesh.behind"], plainKeys := false, apart := false, laid := [("lapidary/mesh.behind", laid_lapidary_mesh_behind), ("lapidary/grow.newTris", laid_lapidary_grow_newTris), ("lapidary/grow.newVerts", laid_lapidary_grow_newVerts)], narrowed := true }
def GrowWalksUptoSaid : Prop := growWalksUptoRow.holds Tryd.pinned (OpenSpec.upto growWalksSpec)

/-- 'lapidarylaw12.GrowShort', WHERE WHAT IT READS IS OF BULK AT MOST 1048576: true; the input reads as it did. -/
def growShortUptoRow : OpenClaim := { program := "ythjmojglcfmkmaadoor", sum := "d2c5f6f9e251723cd791283ce9e511473d184bc3366b9a359711cc2402e6fc93", func := "lapidary/lapidarylaw12.GrowShort", spec := "growShort", unfollowed := true, recurses := true, named := ["lapidary/grow.newTris", "lapidary/grow.newVerts", "lapidary/mesh.behind"], plainKeys := false, apart := false, laid := [("lapidary/mesh.behind", laid_lapidary_mesh_behind), ("lapidary/grow.newTris", laid_lapidary_grow_newTris), ("lapidary/grow.newVerts", laid_lapidary_grow_newVerts)], narrowed := true }
def GrowShortUptoSaid : Prop := growShortUptoRow.holds Tryd.pinned (OpenSpec.upto growShortSpec)

/-- 'lapidarylaw12.GrowOne', WHERE WHAT IT READS IS OF BULK AT MOST 1048576: true; the input reads as it did. -/
def growOneUptoRow : OpenClaim := { program := "ythjmojglcfmkmaadoor", sum := "d2c5f6f9e251723cd791283ce9e511473d184bc3366b9a359711cc2402e6fc93", func := "lapidary/lapidarylaw12.GrowOne", spec := "growOne", unfollowed := true, recurses := true, named := ["lapidary/grow.newTris", "lapidary/grow.newVerts", "lapidary/mesh.behind"], plainKeys := false, apart := false, laid := [("lapidary/mesh.behind", laid_lapidary_mesh_behind), ("lapidary/grow.newTris", laid_lapidary_grow_newTris), ("lapidary/grow.newVerts", laid_lapidary_grow_newVerts)], narrowed := true }
def GrowOneUptoSaid : Prop := growOneUptoRow.holds Tryd.pinned (OpenSpec.upto growOneSpec)

/-- 'lapidarylaw12.GrowCounts', WHERE WHAT IT READS IS OF BULK AT MOST 1048576: true; the input reads as it did. -/
def growCountsUptoRow : OpenClaim := { program := "ythjmojglcfmkmaadoor", sum := "d2c5f6f9e251723cd791283ce9e511473d184bc3366b9a359711cc2402e6fc93", func := "lapidary/lapidarylaw12.GrowCounts", spec := "growCounts", unfollowed := true, recurses := true, named := ["lapidary/grow.newTris", "lapidary/grow.newVerts", "lapidary/mesh.behind"], plainKeys := false, apart := false, laid := [("lapidary/mesh.behind", laid_lapidary_mesh_behind), ("lapidary/grow.newTris", laid_lapidary_grow_newTris), ("lapidary/grow.newVerts", laid_lapidary_grow_newVerts)], narrowed := true }
def GrowCountsUptoSaid : Prop := growCountsUptoRow.holds Tryd.pinned (OpenSpec.upto growCountsSpec)

end Rows
end Go.Proofs.YthjmojglcfmkmaaDoor
