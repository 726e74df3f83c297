/-
  DERIVED. GIVEN WITH THE SEED: THE CARDS: each row of YthmenbccofhjfaaDoorRows.lean that lists a variable, with what it lists TIED to the program's text (the seventh form; the later family's looks); each row that meets fmt, with fmt's text TOLD by the authors' own Lean function (tested against real Go, not proved from fmt's source: count such statements apart). THE CARD IS WHAT COUNTS. Prove the row's statement (the work); the ties are given (YthmenbccofhjfaaDoorTie.lean); close each card by the builder's one call (the guide's Derived/Test/ToyasCard.lean, 'card_holds'). Laid BY PROGRAM, IN A SANDBOX (cutbox-door.mjs). By AI agents, Wed Nov 11 2026. No macro, syntax, notation, axiom, sorry.
-/
import Derived.Test.YthmenbccofhjfaaDoorRows
import GoSem.ClaimSeven
namespace Go.Proofs.YthmenbccofhjfaaDoor
namespace Rows

/-- THE TIED CARD OF 'godownlaw07.NameRight'. -/
def nameRightCard : Claim7 := { stood := { row := nameRightRow, standIns := [], harness := (true, "5320e89d0fc7e5743eff3668b0855359aefa6ba129db0ffb7f3ef68f734b50cc"), looks := false }, kinds := [], alts := [], laidByText := true, laidKinds := [.data, .data], laidTests := true, laidLooks := .later }
def NameRightCardSaid : Prop := Claim7.holds Tryd.pinned (.plain (OpenSpec.ofChange nameRightSpec)) nameRightCard

/-- THE TIED CARD OF 'godownlaw07.NamePaths'. -/
def namePathsCard : Claim7 := { stood := { row := namePathsRow, standIns := [], harness := (true, "5320e89d0fc7e5743eff3668b0855359aefa6ba129db0ffb7f3ef68f734b50cc"), looks := false }, kinds := [], alts := [], laidByText := true, laidKinds := [.data, .data], laidTests := true, laidLooks := .later }
def NamePathsCardSaid : Prop := Claim7.holds Tryd.pinned (.plain (OpenSpec.ofChange namePathsSpec)) namePathsCard

/-- THE TIED CARD OF 'godownlaw07.NameFits'. -/
def nameFitsCard : Claim7 := { stood := { row := nameFitsRow, standIns := [], harness := (true, "5320e89d0fc7e5743eff3668b0855359aefa6ba129db0ffb7f3ef68f734b50cc"), looks := false }, kinds := [], alts := [], laidByText := true, laidKinds := [.data, .data], laidTests := true, laidLooks := .later }
def NameFitsCardSaid : Prop := Claim7.holds Tryd.pinned (.plain (OpenSpec.ofChange nameFitsSpec)) nameFitsCard

/-- THE TIED CARD OF 'godownlaw07.NameOwn'. -/
def nameOwnCard : Claim7 := { stood := { row := nameOwnRow, standIns := [], harness := (true, "5320e89d0fc7e5743eff3668b0855359aefa6ba129db0ffb7f3ef68f734b50cc"), looks := false }, kinds := [], alts := [], laidByText := true, laidKinds := [.data, .data], laidTests := true, laidLooks := .later }
def NameOwnCardSaid : Prop := Claim7.holds Tryd.pinned (.plain (OpenSpec.ofChange nameOwnSpec)) nameOwnCard

/-- THE SECOND FORM's CARD OF 'godownlaw07.NameRight'. -/
def nameRightUptoCard : Claim7 := { stood := { row := nameRightUptoRow, standIns := [], harness := (true, "5320e89d0fc7e5743eff3668b0855359aefa6ba129db0ffb7f3ef68f734b50cc"), looks := false }, kinds := [], alts := [], laidByText := true, laidKinds := [.data, .data], laidTests := true, laidLooks := .later }
def NameRightUptoCardSaid : Prop := Claim7.holds Tryd.pinned (.plain (OpenSpec.upto nameRightSpec)) nameRightUptoCard

/-- THE SECOND FORM's CARD OF 'godownlaw07.NamePaths'. -/
def namePathsUptoCard : Claim7 := { stood := { row := namePathsUptoRow, standIns := [], harness := (true, "5320e89d0fc7e5743eff3668b0855359aefa6ba129db0ffb7f3ef68f734b50cc"), looks := false }, kinds := [], alts := [], laidByText := true, laidKinds := [.data, .data], laidTests := true, laidLooks := .later }
def NamePathsUptoCardSaid : Prop := Claim7.holds Tryd.pinned (.plain (OpenSpec.upto namePathsSpec)) namePathsUptoCard

/-- THE SECOND FORM's CARD OF 'godownlaw07.NameFits'. -/
def nameFitsUptoCard : Claim7 := { stood := { row := nameFitsUptoRow, standIns := [], harness := (true, "5320e89d0fc7e5743eff3668b0855359aefa6ba129db0ffb7f3ef68f734b50cc"), looks := false }, kinds := [], alts := [], laidByText := true, laidKinds := [.data, .data], laidTests := true, laidLooks := .later }
def NameFitsUptoCardSaid : Prop := Claim7.holds Tryd.pinned (.plain (OpenSpec.upto nameFitsSpec)) nameFitsUptoCard

/-- THE SECOND FORM's CARD OF 'godownlaw07.NameOwn'. -/
def nameOwnUptoCard : Claim7 := { stood := { row := nameOwnUptoRow, standIns := [], harness := (true, "5320e89d0fc7e5743eff3668b0855359aefa6ba129db0ffb7f3ef68f734b50cc"), looks := false }, kinds := [], alts := [], laidByText := true, laidKinds := [.data, .data], laidTests := true, laidLooks := .later }
def NameOwnUptoCardSaid : Prop := Claim7.holds Tryd.pinned (.plain (OpenSpec.upto nameOwnSpec)) nameOwnUptoCard
end Rows
end Go.Proofs.YthmenbccofhjfaaDoor
