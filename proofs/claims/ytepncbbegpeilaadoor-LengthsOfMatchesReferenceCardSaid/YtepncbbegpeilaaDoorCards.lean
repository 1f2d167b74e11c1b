/-
  DERIVED. GIVEN WITH THE SEED: THE CARDS: each row of YtepncbbegpeilaaDoorRows.lean that lists a variable, with what it lists TIED to the program's text (the seventh form; the later family's looks); each row that meets fmt, with fmt's text TOLD by the authors' own Lean function (tested against real Go, not proved from fmt's source: count such statements apart). THE CARD IS WHAT COUNTS. Prove the row's statement (the work); the ties are given (YtepncbbegpeilaaDoorTie.lean); close each card by the builder's one call (the guide's Derived/Test/ToyasCard.lean, 'card_holds'). Laid BY PROGRAM, IN A SANDBOX (cutbox-door.mjs). By AI agents, Wed Nov 11 2026. No macro, syntax, notation, axiom, sorry.
-/
import Derived.Test.YtepncbbegpeilaaDoorRows
import GoSem.ClaimSeven
namespace Go.Proofs.YtepncbbegpeilaaDoor
namespace Rows

/-- THE TIED CARD OF 'univocallaw05.LengthsOfMatchesReference'. -/
def lengthsOfMatchesReferenceCard : Claim7 := { stood := { row := lengthsOfMatchesReferenceRow, standIns := [], harness := (true, "dc5af413ae1272fb43645669b1f09a5a52023b079d536d271ccec45327f44643"), looks := false }, kinds := [], alts := [], laidByText := true, laidKinds := [.data], laidTests := true, laidLooks := .later }
def LengthsOfMatchesReferenceCardSaid : Prop := Claim7.holds Tryd.pinned (.plain (OpenSpec.ofChange lengthsOfMatchesReferenceSpec)) lengthsOfMatchesReferenceCard

/-- THE SECOND FORM's CARD OF 'univocallaw05.LengthsOfMatchesReference'. -/
def lengthsOfMatchesReferenceUptoCard : Claim7 := { stood := { row := lengthsOfMatchesReferenceUptoRow, standIns := [], harness := (true, "dc5af413ae1272fb43645669b1f09a5a52023b079d536d271ccec45327f44643"), looks := false }, kinds := [], alts := [], laidByText := true, laidKinds := [.data], laidTests := true, laidLooks := .later }
def LengthsOfMatchesReferenceUptoCardSaid : Prop := Claim7.holds Tryd.pinned (.plain (OpenSpec.upto lengthsOfMatchesReferenceSpec)) lengthsOfMatchesReferenceUptoCard
end Rows
end Go.Proofs.YtepncbbegpeilaaDoor
