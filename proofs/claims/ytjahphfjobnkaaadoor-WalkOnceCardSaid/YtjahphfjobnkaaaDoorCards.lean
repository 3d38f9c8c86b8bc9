/-
  DERIVED. GIVEN WITH THE SEED: THE CARDS: each row of YtjahphfjobnkaaaDoorRows.lean that lists a variable, with what it lists TIED to the program's text (the seventh form; the later family's looks); each row that meets fmt, with fmt's text TOLD by the authors' own Lean function (tested against real Go, not proved from fmt's source: count such statements apart). THE CARD IS WHAT COUNTS. Prove the row's statement (the work); the ties are given (YtjahphfjobnkaaaDoorTie.lean); close each card by the builder's one call (the guide's Derived/Test/ToyasCard.lean, 'card_holds'). Laid BY PROGRAM, IN A SANDBOX (cutbox-door.mjs). By AI agents, Wed Nov 11 2026. No macro, syntax, notation, axiom, sorry.
-/
import Derived.Test.YtjahphfjobnkaaaDoorRows
import GoSem.ClaimSeven
namespace Go.Proofs.YtjahphfjobnkaaaDoor
namespace Rows

/-- THE TIED CARD OF 'lapidarylaw11.WalkSteps'. -/
def walkStepsCard : Claim7 := { stood := { row := walkStepsRow, standIns := [], harness := (true, "d74068ece749d6c7976871bb454d055d80212eef08c94d34818f295fc750c24d"), looks := false }, kinds := [], alts := [], laidByText := true, laidKinds := [.data], laidTests := true, laidLooks := .later }
def WalkStepsCardSaid : Prop := Claim7.holds Tryd.pinned (.plain (OpenSpec.ofChange walkStepsSpec)) walkStepsCard

/-- THE TIED CARD OF 'lapidarylaw11.WalkCanons'. -/
def walkCanonsCard : Claim7 := { stood := { row := walkCanonsRow, standIns := [], harness := (true, "d74068ece749d6c7976871bb454d055d80212eef08c94d34818f295fc750c24d"), looks := false }, kinds := [], alts := [], laidByText := true, laidKinds := [.data], laidTests := true, laidLooks := .later }
def WalkCanonsCardSaid : Prop := Claim7.holds Tryd.pinned (.plain (OpenSpec.ofChange walkCanonsSpec)) walkCanonsCard

/-- THE TIED CARD OF 'lapidarylaw11.WalkOnce'. -/
def walkOnceCard : Claim7 := { stood := { row := walkOnceRow, standIns := [], harness := (true, "d74068ece749d6c7976871bb454d055d80212eef08c94d34818f295fc750c24d"), looks := false }, kinds := [], alts := [], laidByText := true, laidKinds := [.data], laidTests := true, laidLooks := .later }
def WalkOnceCardSaid : Prop := Claim7.holds Tryd.pinned (.plain (OpenSpec.ofChange walkOnceSpec)) walkOnceCard

/-- THE TIED CARD OF 'lapidarylaw11.WalkNumbers'. -/
def walkNumbersCard : Claim7 := { stood := { row := walkNumbersRow, standIns := [], harness := (true, "d74068ece749d6c7976871bb454d055d80212eef08c94d34818f295fc750c24d"), looks := false }, kinds := [], alts := [], laidByText := true, laidKinds := [.data], laidTests := true, laidLooks := .later }
def WalkNumbersCardSaid : Prop := Claim7.holds Tryd.pinned (.plain (OpenSpec.ofChange walkNumbersSpec)) walkNumbersCard

/-- THE TIED CARD OF 'lapidarylaw11.WalkCounts'. -/
def walkCountsCard : Claim7 := { stood := { row := walkCountsRow, standIns := [], harness := (true, "d74068ece749d6c7976871bb454d055d80212eef08c94d34818f295fc750c24d"), looks := false }, kinds := [], alts := [], laidByText := true, laidKinds := [.data], laidTests := true, laidLooks := .later }
def WalkCountsCardSaid : Prop := Claim7.holds Tryd.pinned (.plain (OpenSpec.ofChange walkCountsSpec)) walkCountsCard

/-- THE TIED CARD OF 'lapidarylaw11.WalkIs'. -/
def walkIsCard : Claim7 := { stood := { row := walkIsRow, standIns := [], harness := (true, "d74068ece749d6c7976871bb454d055d80212eef08c94d34818f295fc750c24d"), looks := false }, kinds := [], alts := [], laidByText := true, laidKinds := [.data], laidTests := true, laidLooks := .later }
def WalkIsCardSaid : Prop := Claim7.holds Tryd.pinned (.plain (OpenSpec.ofChange walkIsSpec)) walkIsCard

/-- THE SECOND FORM's CARD OF 'lapidarylaw11.WalkSteps'. -/
def walkStepsUptoCard : Claim7 := { stood := { row := walkStepsUptoRow, standIns := [], harness := (true, "d74068ece749d6c7976871bb454d055d80212eef08c94d34818f295fc750c24d"), looks := false }, kinds := [], alts := [], laidByText := true, laidKinds := [.data], laidTests := true, laidLooks := .later }
def WalkStepsUptoCardSaid : Prop := Claim7.holds Tryd.pinned (.plain (OpenSpec.upto walkStepsSpec)) walkStepsUptoCard

/-- THE SECOND FORM's CARD OF 'lapidarylaw11.WalkCanons'. -/
def walkCanonsUptoCard : Claim7 := { stood := { row := walkCanonsUptoRow, standIns := [], harness := (true, "d74068ece749d6c7976871bb454d055d80212eef08c94d34818f295fc750c24d"), looks := false }, kinds := [], alts := [], laidByText := true, laidKinds := [.data], laidTests := true, laidLooks := .later }
def WalkCanonsUptoCardSaid : Prop := Claim7.holds Tryd.pinned (.plain (OpenSpec.upto walkCanonsSpec)) walkCanonsUptoCard

/-- THE SECOND FORM's CARD OF 'lapidarylaw11.WalkOnce'. -/
def walkOnceUptoCard : Claim7 := { stood := { row := walkOnceUptoRow, standIns := [], harness := (true, "d74068ece749d6c7976871bb454d055d80212eef08c94d34818f295fc750c24d"), looks := false }, kinds := [], alts := [], laidByText := true, laidKinds := [.data], laidTests := true, laidLooks := .later }
def WalkOnceUptoCardSaid : Prop := Claim7.holds Tryd.pinned (.plain (OpenSpec.upto walkOnceSpec)) walkOnceUptoCard

/-- THE SECOND FORM's CARD OF 'lapidarylaw11.WalkNumbers'. -/
def walkNumbersUptoCard : Claim7 := { stood := { row := walkNumbersUptoRow, standIns := [], harness := (true, "d74068ece749d6c7976871bb454d055d80212eef08c94d34818f295fc750c24d"), looks := false }, kinds := [], alts := [], laidByText := true, laidKinds := [.data], laidTests := true, laidLooks := .later }
def WalkNumbersUptoCardSaid : Prop := Claim7.holds Tryd.pinned (.plain (OpenSpec.upto walkNumbersSpec)) walkNumbersUptoCard

/-- THE SECOND FORM's CARD OF 'lapidarylaw11.WalkCounts'. -/
def walkCountsUptoCard : Claim7 := { stood := { row := walkCountsUptoRow, standIns := [], harness := (true, "d74068ece749d6c7976871bb454d055d80212eef08c94d34818f295fc750c24d"), looks := false }, kinds := [], alts := [], laidByText := true, laidKinds := [.data], laidTests := true, laidLooks := .later }
def WalkCountsUptoCardSaid : Prop := Claim7.holds Tryd.pinned (.plain (OpenSpec.upto walkCountsSpec)) walkCountsUptoCard

/-- THE SECOND FORM's CARD OF 'lapidarylaw11.WalkIs'. -/
def walkIsUptoCard : Claim7 := { stood := { row := walkIsUptoRow, standIns := [], harness := (true, "d74068ece749d6c7976871bb454d055d80212eef08c94d34818f295fc750c24d"), looks := false }, kinds := [], alts := [], laidByText := true, laidKinds := [.data], laidTests := true, laidLooks := .later }
def WalkIsUptoCardSaid : Prop := Claim7.holds Tryd.pinned (.plain (OpenSpec.upto walkIsSpec)) walkIsUptoCard
end Rows
end Go.Proofs.YtjahphfjobnkaaaDoor
