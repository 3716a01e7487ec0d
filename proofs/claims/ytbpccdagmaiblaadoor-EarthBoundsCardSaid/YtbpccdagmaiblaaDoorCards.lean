/-
  DERIVED. GIVEN WITH THE SEED: THE CARDS: each row of YtbpccdagmaiblaaDoorRows.lean that lists a variable, with what it lists TIED to the program's text (the seventh form; the later family's looks); each row that meets fmt, with fmt's text TOLD by the authors' own Lean function (tested against real Go, not proved from fmt's source: count such statements apart). THE CARD IS WHAT COUNTS. Prove the row's statement (the work); the ties are given (YtbpccdagmaiblaaDoorTie.lean); close each card by the builder's one call (the guide's Derived/Test/ToyasCard.lean, 'card_holds'). Laid BY PROGRAM, IN A SANDBOX (cutbox-door.mjs). By AI agents, Wed Nov 11 2026. No macro, syntax, notation, axiom, sorry.
-/
import Derived.Test.YtbpccdagmaiblaaDoorRows
import GoSem.ClaimSeven
namespace Go.Proofs.YtbpccdagmaiblaaDoor
namespace Rows

/-- THE TIED CARD OF 'astrolabelaw8.EarthKnown'. -/
def earthKnownCard : Claim7 := { stood := { row := earthKnownRow, standIns := [], harness := (true, "f781046881498db364633404b213d7da491aa17b34d249c2f13b24e33c2f636c"), looks := false }, kinds := [], alts := [], laidByText := true, laidKinds := [.data], laidTests := true, laidLooks := .later }
def EarthKnownCardSaid : Prop := Claim7.holds Tryd.pinned (.plain (OpenSpec.ofChange earthKnownSpec)) earthKnownCard

/-- THE TIED CARD OF 'astrolabelaw8.EarthSays'. -/
def earthSaysCard : Claim7 := { stood := { row := earthSaysRow, standIns := [], harness := (true, "f781046881498db364633404b213d7da491aa17b34d249c2f13b24e33c2f636c"), looks := false }, kinds := [], alts := [], laidByText := true, laidKinds := [.data], laidTests := true, laidLooks := .later }
def EarthSaysCardSaid : Prop := Claim7.holds Tryd.pinned (.plain (OpenSpec.ofChange earthSaysSpec)) earthSaysCard

/-- THE TIED CARD OF 'astrolabelaw8.EarthPlane'. -/
def earthPlaneCard : Claim7 := { stood := { row := earthPlaneRow, standIns := [], harness := (true, "f781046881498db364633404b213d7da491aa17b34d249c2f13b24e33c2f636c"), looks := false }, kinds := [], alts := [], laidByText := true, laidKinds := [.data], laidTests := true, laidLooks := .later }
def EarthPlaneCardSaid : Prop := Claim7.holds Tryd.pinned (.plain (OpenSpec.ofChange earthPlaneSpec)) earthPlaneCard

/-- THE TIED CARD OF 'astrolabelaw8.EarthRound'. -/
def earthRoundCard : Claim7 := { stood := { row := earthRoundRow, standIns := [], harness := (true, "f781046881498db364633404b213d7da491aa17b34d249c2f13b24e33c2f636c"), looks := false }, kinds := [], alts := [], laidByText := true, laidKinds := [.data], laidTests := true, laidLooks := .later }
def EarthRoundCardSaid : Prop := Claim7.holds Tryd.pinned (.plain (OpenSpec.ofChange earthRoundSpec)) earthRoundCard

/-- THE TIED CARD OF 'astrolabelaw8.EarthBounds'. -/
def earthBoundsCard : Claim7 := { stood := { row := earthBoundsRow, standIns := [], harness := (true, "f781046881498db364633404b213d7da491aa17b34d249c2f13b24e33c2f636c"), looks := false }, kinds := [], alts := [], laidByText := true, laidKinds := [.data], laidTests := true, laidLooks := .later }
def EarthBoundsCardSaid : Prop := Claim7.holds Tryd.pinned (.plain (OpenSpec.ofChange earthBoundsSpec)) earthBoundsCard

/-- THE SECOND FORM's CARD OF 'astrolabelaw8.EarthKnown'. -/
def earthKnownUptoCard : Claim7 := { stood := { row := earthKnownUptoRow, standIns := [], harness := (true, "f781046881498db364633404b213d7da491aa17b34d249c2f13b24e33c2f636c"), looks := false }, kinds := [], alts := [], laidByText := true, laidKinds := [.data], laidTests := true, laidLooks := .later }
def EarthKnownUptoCardSaid : Prop := Claim7.holds Tryd.pinned (.plain (OpenSpec.upto earthKnownSpec)) earthKnownUptoCard

/-- THE SECOND FORM's CARD OF 'astrolabelaw8.EarthSays'. -/
def earthSaysUptoCard : Claim7 := { stood := { row := earthSaysUptoRow, standIns := [], harness := (true, "f781046881498db364633404b213d7da491aa17b34d249c2f13b24e33c2f636c"), looks := false }, kinds := [], alts := [], laidByText := true, laidKinds := [.data], laidTests := true, laidLooks := .later }
def EarthSaysUptoCardSaid : Prop := Claim7.holds Tryd.pinned (.plain (OpenSpec.upto earthSaysSpec)) earthSaysUptoCard

/-- THE SECOND FORM's CARD OF 'astrolabelaw8.EarthPlane'. -/
def earthPlaneUptoCard : Claim7 := { stood := { row := earthPlaneUptoRow, standIns := [], harness := (true, "f781046881498db364633404b213d7da491aa17b34d249c2f13b24e33c2f636c"), looks := false }, kinds := [], alts := [], laidByText := true, laidKinds := [.data], laidTests := true, laidLooks := .later }
def EarthPlaneUptoCardSaid : Prop := Claim7.holds Tryd.pinned (.plain (OpenSpec.upto earthPlaneSpec)) earthPlaneUptoCard

/-- THE SECOND FORM's CARD OF 'astrolabelaw8.EarthRound'. -/
def earthRoundUptoCard : Claim7 := { stood := { row := earthRoundUptoRow, standIns := [], harness := (true, "f781046881498db364633404b213d7da491aa17b34d249c2f13b24e33c2f636c"), looks := false }, kinds := [], alts := [], laidByText := true, laidKinds := [.data], laidTests := true, laidLooks := .later }
def EarthRoundUptoCardSaid : Prop := Claim7.holds Tryd.pinned (.plain (OpenSpec.upto earthRoundSpec)) earthRoundUptoCard

/-- THE SECOND FORM's CARD OF 'astrolabelaw8.EarthBounds'. -/
def earthBoundsUptoCard : Claim7 := { stood := { row := earthBoundsUptoRow, standIns := [], harness := (true, "f781046881498db364633404b213d7da491aa17b34d249c2f13b24e33c2f636c"), looks := false }, kinds := [], alts := [], laidByText := true, laidKinds := [.data], laidTests := true, laidLooks := .later }
def EarthBoundsUptoCardSaid : Prop := Claim7.holds Tryd.pinned (.plain (OpenSpec.upto earthBoundsSpec)) earthBoundsUptoCard
end Rows
end Go.Proofs.YtbpccdagmaiblaaDoor
