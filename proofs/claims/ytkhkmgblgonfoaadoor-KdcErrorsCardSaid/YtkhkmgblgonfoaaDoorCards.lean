/-
  DERIVED. GIVEN WITH THE SEED: THE CARDS: each row of YtkhkmgblgonfoaaDoorRows.lean that lists a variable, with what it lists TIED to the program's text (the seventh form; the later family's looks); each row that meets fmt, with fmt's text TOLD by the authors' own Lean function (tested against real Go, not proved from fmt's source: count such statements apart). THE CARD IS WHAT COUNTS. Prove the row's statement (the work); the ties are given (YtkhkmgblgonfoaaDoorTie.lean); close each card by the builder's one call (the guide's Derived/Test/ToyasCard.lean, 'card_holds'). Laid BY PROGRAM, IN A SANDBOX (cutbox-door.mjs). By AI agents, Wed Nov 11 2026. No macro, syntax, notation, axiom, sorry.
-/
import Derived.Test.YtkhkmgblgonfoaaDoorRows
import GoSem.ClaimSeven
namespace Go.Proofs.YtkhkmgblgonfoaaDoor
namespace Rows

/-- THE TIED CARD OF 'kerbsuitelaw9.KdcErrors'. -/
def kdcErrorsCard : Claim7 := { stood := { row := kdcErrorsRow, standIns := [], harness := (true, "87c6bb9f3ca8fe95a7fa8516110b7f516f9a46b08e6d4da16dc5313f79f44aa5"), looks := false }, kinds := [], alts := [], laidByText := true, laidKinds := [.data], laidTests := true, laidLooks := .later }
def KdcErrorsCardSaid : Prop := Claim7.holds Tryd.pinned (.plain (OpenSpec.ofChange kdcErrorsSpec)) kdcErrorsCard

/-- THE SECOND FORM's CARD OF 'kerbsuitelaw9.KdcErrors'. -/
def kdcErrorsUptoCard : Claim7 := { stood := { row := kdcErrorsUptoRow, standIns := [], harness := (true, "87c6bb9f3ca8fe95a7fa8516110b7f516f9a46b08e6d4da16dc5313f79f44aa5"), looks := false }, kinds := [], alts := [], laidByText := true, laidKinds := [.data], laidTests := true, laidLooks := .later }
def KdcErrorsUptoCardSaid : Prop := Claim7.holds Tryd.pinned (.plain (OpenSpec.upto kdcErrorsSpec)) kdcErrorsUptoCard
end Rows
end Go.Proofs.YtkhkmgblgonfoaaDoor
