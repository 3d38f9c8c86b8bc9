/-
  DERIVED. GIVEN WITH THE SEED: THE CARDS: each row of YthjmojglcfmkmaaDoorRows.lean that lists a variable, with what it lists TIED to the program's text (the seventh form; the later family's looks); each row that meets fmt, with fmt's text TOLD by the authors' own Lean function (tested against real Go, not proved from fmt's source: count such statements apart). THE CARD IS WHAT COUNTS. Prove the row's statement (the work); the ties are given (YthjmojglcfmkmaaDoorTie.lean); close each card by the builder's one call (the guide's Derived/Test/ToyasCard.lean, 'card_holds'). Laid BY PROGRAM, IN A SANDBOX (cutbox-door.mjs). By AI agents, Wed Nov 11 2026. No macro, syntax, notation, axiom, sorry.
-/
import Derived.Test.YthjmojglcfmkmaaDoorRows
import GoSem.ClaimSeven
namespace Go.Proofs.YthjmojglcfmkmaaDoor
namespace Rows

/-- THE TIED CARD OF 'lapidarylaw12.GrowSteps'. -/
def growStepsCard : Claim7 := { stood := { row := growStepsRow, standIns := [], harness := (true, "8e0fb1d130687d112518a63678b22bb7f75e69b496a7ed70165abcf835467eff"), looks := false }, kinds := [], alts := [], laidByText := true, laidKinds := [.data, .data, .data], laidTests := true, laidLooks := .later }
def GrowStepsCardSaid : Prop := Claim7.holds Tryd.pinned (.plain (OpenSpec.ofChange growStepsSpec)) growStepsCard

/-- THE TIED CARD OF 'lapidarylaw12.GrowAll'. -/
def growAllCard : Claim7 := { stood := { row := growAllRow, standIns := [], harness := (true, "8e0fb1d130687d112518a63678b22bb7f75e69b496a7ed70165abcf835467eff"), looks := false }, kinds := [], alts := [], laidByText := true, laidKinds := [.data, .data, .data], laidTests := true, laidLooks := .later }
def GrowAllCardSaid : Prop := Claim7.holds Tryd.pinned (.plain (OpenSpec.ofChange growAllSpec)) growAllCard

/-- THE TIED CARD OF 'lapidarylaw12.GrowWalks'. -/
def growWalksCard : Claim7 := { stood := { row := growWalksRow, standIns := [], harness := (true, "8e0fb1d130687d112518a63678b22bb7f75e69b496a7ed70165abcf835467eff"), looks := false }, kinds := [], alts := [], laidByText := true, laidKinds := [.data, .data, .data], laidTests := true, laidLooks := .later }
def GrowWalksCardSaid : Prop := Claim7.holds Tryd.pinned (.plain (OpenSpec.ofChange growWalksSpec)) growWalksCard

/-- THE TIED CARD OF 'lapidarylaw12.GrowShort'. -/
def growShortCard : Claim7 := { stood := { row := growShortRow, standIns := [], harness := (true, "8e0fb1d130687d112518a63678b22bb7f75e69b496a7ed70165abcf835467eff"), looks := false }, kinds := [], alts := [], laidByText := true, laidKinds := [.data, .data, .data], laidTests := true, laidLooks := .later }
def GrowShortCardSaid : Prop := Claim7.holds Tryd.pinned (.plain (OpenSpec.ofChange growShortSpec)) growShortCard

/-- THE TIED CARD OF 'lapidarylaw12.GrowOne'. -/
def growOneCard : Claim7 := { stood := { row := growOneRow, standIns := [], harness := (true, "8e0fb1d130687d112518a63678b22bb7f75e69b496a7ed70165abcf835467eff"), looks := false }, kinds := [], alts := [], laidByText := true, laidKinds := [.data, .data, .data], laidTests := true, laidLooks := .later }
def GrowOneCardSaid : Prop := Claim7.holds Tryd.pinned (.plain (OpenSpec.ofChange growOneSpec)) growOneCard

/-- THE TIED CARD OF 'lapidarylaw12.GrowCounts'. -/
def growCountsCard : Claim7 := { stood := { row := growCountsRow, standIns := [], harness := (true, "8e0fb1d130687d112518a63678b22bb7f75e69b496a7ed70165abcf835467eff"), looks := false }, kinds := [], alts := [], laidByText := true, laidKinds := [.data, .data, .data], laidTests := true, laidLooks := .later }
def GrowCountsCardSaid : Prop := Claim7.holds Tryd.pinned (.plain (OpenSpec.ofChange growCountsSpec)) growCountsCard

/-- THE SECOND FORM's CARD OF 'lapidarylaw12.GrowSteps'. -/
def growStepsUptoCard : Claim7 := { stood := { row := growStepsUptoRow, standIns := [], harness := (true, "8e0fb1d130687d112518a63678b22bb7f75e69b496a7ed70165abcf835467eff"), looks := false }, kinds := [], alts := [], laidByText := true, laidKinds := [.data, .data, .data], laidTests := true, laidLooks := .later }
def GrowStepsUptoCardSaid : Prop := Claim7.holds Tryd.pinned (.plain (OpenSpec.upto growStepsSpec)) growStepsUptoCard

/-- THE SECOND FORM's CARD OF 'lapidarylaw12.GrowAll'. -/
def growAllUptoCard : Claim7 := { stood := { row := growAllUptoRow, standIns := [], harness := (true, "8e0fb1d130687d112518a63678b22bb7f75e69b496a7ed70165abcf835467eff"), looks := false }, kinds := [], alts := [], laidByText := true, laidKinds := [.data, .data, .data], laidTests := true, laidLooks := .later }
def GrowAllUptoCardSaid : Prop := Claim7.holds Tryd.pinned (.plain (OpenSpec.upto growAllSpec)) growAllUptoCard

/-- THE SECOND FORM's CARD OF 'lapidarylaw12.GrowWalks'. -/
def growWalksUptoCard : Claim7 := { stood := { row := growWalksUptoRow, standIns := [], harness := (true, "8e0fb1d130687d112518a63678b22bb7f75e69b496a7ed70165abcf835467eff"), looks := false }, kinds := [], alts := [], laidByText := true, laidKinds := [.data, .data, .data], laidTests := true, laidLooks := .later }
def GrowWalksUptoCardSaid : Prop := Claim7.holds Tryd.pinned (.plain (OpenSpec.upto growWalksSpec)) growWalksUptoCard

/-- THE SECOND FORM's CARD OF 'lapidarylaw12.GrowShort'. -/
def growShortUptoCard : Claim7 := { stood := { row := growShortUptoRow, standIns := [], harness := (true, "8e0fb1d130687d112518a63678b22bb7f75e69b496a7ed70165abcf835467eff"), looks := false }, kinds := [], alts := [], laidByText := true, laidKinds := [.data, .data, .data], laidTests := true, laidLooks := .later }
def GrowShortUptoCardSaid : Prop := Claim7.holds Tryd.pinned (.plain (OpenSpec.upto growShortSpec)) growShortUptoCard

/-- THE SECOND FORM's CARD OF 'lapidarylaw12.GrowOne'. -/
def growOneUptoCard : Claim7 := { stood := { row := growOneUptoRow, standIns := [], harness := (true, "8e0fb1d130687d112518a63678b22bb7f75e69b496a7ed70165abcf835467eff"), looks := false }, kinds := [], alts := [], laidByText := true, laidKinds := [.data, .data, .data], laidTests := true, laidLooks := .later }
def GrowOneUptoCardSaid : Prop := Claim7.holds Tryd.pinned (.plain (OpenSpec.upto growOneSpec)) growOneUptoCard

/-- THE SECOND FORM's CARD OF 'lapidarylaw12.GrowCounts'. -/
def growCountsUptoCard : Claim7 := { stood := { row := growCountsUptoRow, standIns := [], harness := (true, "8e0fb1d130687d112518a63678b22bb7f75e69b496a7ed70165abcf835467eff"), looks := false }, kinds := [], alts := [], laidByText := true, laidKinds := [.data, .data, .data], laidTests := true, laidLooks := .later }
def GrowCountsUptoCardSaid : Prop := Claim7.holds Tryd.pinned (.plain (OpenSpec.upto growCountsSpec)) growCountsUptoCard
end Rows
end Go.Proofs.YthjmojglcfmkmaaDoor
