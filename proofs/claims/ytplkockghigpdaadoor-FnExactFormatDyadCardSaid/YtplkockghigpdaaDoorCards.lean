/-
  DERIVED. GIVEN WITH THE SEED: THE CARDS: each row of YtplkockghigpdaaDoorRows.lean that lists a variable, with what it lists TIED to the program's text (the seventh form; the later family's looks); each row that meets fmt, with fmt's text TOLD by the authors' own Lean function (tested against real Go, not proved from fmt's source: count such statements apart). THE CARD IS WHAT COUNTS. Prove the row's statement (the work); the ties are given (YtplkockghigpdaaDoorTie.lean); close each card by the builder's one call (the guide's Derived/Test/ToyasCard.lean, 'card_holds'). Laid BY PROGRAM, IN A SANDBOX (cutbox-door.mjs). By AI agents, Wed Nov 11 2026. No macro, syntax, notation, axiom, sorry.
-/
import Derived.Test.YtplkockghigpdaaDoorRows
import GoSem.ClaimSeven
namespace Go.Proofs.YtplkockghigpdaaDoor
namespace Rows

/-- THE TIED CARD OF 'laws.FnExactDyadOf'. -/
def fnExactDyadOfCard : Claim7 := { stood := { row := fnExactDyadOfRow, standIns := [], harness := (true, "445fa7773e3b16cd1e17094154121d96bf9809b8382a1f85b9bed37e8fc5cded"), looks := false }, kinds := [], alts := [], laidByText := true, laidKinds := [.data, .data], laidTests := true, laidLooks := .later }
def FnExactDyadOfCardSaid : Prop := Claim7.holds Tryd.pinned (.plain (OpenSpec.ofChange fnExactDyadOfSpec)) fnExactDyadOfCard

/-- THE TIED CARD OF 'laws.FnExactAddDyads'. -/
def fnExactAddDyadsCard : Claim7 := { stood := { row := fnExactAddDyadsRow, standIns := [], harness := (true, "445fa7773e3b16cd1e17094154121d96bf9809b8382a1f85b9bed37e8fc5cded"), looks := false }, kinds := [], alts := [], laidByText := true, laidKinds := [.data, .data], laidTests := true, laidLooks := .later }
def FnExactAddDyadsCardSaid : Prop := Claim7.holds Tryd.pinned (.plain (OpenSpec.ofChange fnExactAddDyadsSpec)) fnExactAddDyadsCard

/-- THE TIED CARD OF 'laws.FnExactFormatDyad'. -/
def fnExactFormatDyadCard : Claim7 := { stood := { row := fnExactFormatDyadRow, standIns := [], harness := (true, "445fa7773e3b16cd1e17094154121d96bf9809b8382a1f85b9bed37e8fc5cded"), looks := false }, kinds := [], alts := [], laidByText := true, laidKinds := [.data, .data, .data], laidTests := true, laidLooks := .later }
def FnExactFormatDyadCardSaid : Prop := Claim7.holds Tryd.pinned (.plain (OpenSpec.ofChange fnExactFormatDyadSpec)) fnExactFormatDyadCard

/-- THE TIED CARD OF 'laws.FnExactKinship'. -/
def fnExactKinshipCard : Claim7 := { stood := { row := fnExactKinshipRow, standIns := [], harness := (true, "445fa7773e3b16cd1e17094154121d96bf9809b8382a1f85b9bed37e8fc5cded"), looks := false }, kinds := [], alts := [], laidByText := true, laidKinds := [.data, .data], laidTests := true, laidLooks := .later }
def FnExactKinshipCardSaid : Prop := Claim7.holds Tryd.pinned (.plain (OpenSpec.ofChange fnExactKinshipSpec)) fnExactKinshipCard

/-- THE TIED CARD OF 'laws.FnExactInbreeding'. -/
def fnExactInbreedingCard : Claim7 := { stood := { row := fnExactInbreedingRow, standIns := [], harness := (true, "445fa7773e3b16cd1e17094154121d96bf9809b8382a1f85b9bed37e8fc5cded"), looks := false }, kinds := [], alts := [], laidByText := true, laidKinds := [.data, .data], laidTests := true, laidLooks := .later }
def FnExactInbreedingCardSaid : Prop := Claim7.holds Tryd.pinned (.plain (OpenSpec.ofChange fnExactInbreedingSpec)) fnExactInbreedingCard

/-- THE TIED CARD OF 'laws.FnExactKinshipByLines'. -/
def fnExactKinshipByLinesCard : Claim7 := { stood := { row := fnExactKinshipByLinesRow, standIns := [], harness := (true, "445fa7773e3b16cd1e17094154121d96bf9809b8382a1f85b9bed37e8fc5cded"), looks := false }, kinds := [], alts := [], laidByText := true, laidKinds := [.data, .data], laidTests := true, laidLooks := .later }
def FnExactKinshipByLinesCardSaid : Prop := Claim7.holds Tryd.pinned (.plain (OpenSpec.ofChange fnExactKinshipByLinesSpec)) fnExactKinshipByLinesCard

/-- THE TIED CARD OF 'laws.FnDyads'. -/
def fnDyadsCard : Claim7 := { stood := { row := fnDyadsRow, standIns := [], harness := (true, "445fa7773e3b16cd1e17094154121d96bf9809b8382a1f85b9bed37e8fc5cded"), looks := false }, kinds := [], alts := [], laidByText := true, laidKinds := [.data, .data], laidTests := true, laidLooks := .later }
def FnDyadsCardSaid : Prop := Claim7.holds Tryd.pinned (.plain (OpenSpec.ofChange fnDyadsSpec)) fnDyadsCard

/-- THE TIED CARD OF 'laws.FnKinship'. -/
def fnKinshipCard : Claim7 := { stood := { row := fnKinshipRow, standIns := [], harness := (true, "445fa7773e3b16cd1e17094154121d96bf9809b8382a1f85b9bed37e8fc5cded"), looks := false }, kinds := [], alts := [], laidByText := true, laidKinds := [.data, .data], laidTests := true, laidLooks := .later }
def FnKinshipCardSaid : Prop := Claim7.holds Tryd.pinned (.plain (OpenSpec.ofChange fnKinshipSpec)) fnKinshipCard

/-- THE TIED CARD OF 'laws.FnWright'. -/
def fnWrightCard : Claim7 := { stood := { row := fnWrightRow, standIns := [], harness := (true, "445fa7773e3b16cd1e17094154121d96bf9809b8382a1f85b9bed37e8fc5cded"), looks := false }, kinds := [], alts := [], laidByText := true, laidKinds := [.data, .data], laidTests := true, laidLooks := .later }
def FnWrightCardSaid : Prop := Claim7.holds Tryd.pinned (.plain (OpenSpec.ofChange fnWrightSpec)) fnWrightCard

/-- THE SECOND FORM's CARD OF 'laws.FnExactDyadOf'. -/
def fnExactDyadOfUptoCard : Claim7 := { stood := { row := fnExactDyadOfUptoRow, standIns := [], harness := (true, "445fa7773e3b16cd1e17094154121d96bf9809b8382a1f85b9bed37e8fc5cded"), looks := false }, kinds := [], alts := [], laidByText := true, laidKinds := [.data, .data], laidTests := true, laidLooks := .later }
def FnExactDyadOfUptoCardSaid : Prop := Claim7.holds Tryd.pinned (.plain (OpenSpec.upto fnExactDyadOfSpec)) fnExactDyadOfUptoCard

/-- THE SECOND FORM's CARD OF 'laws.FnExactAddDyads'. -/
def fnExactAddDyadsUptoCard : Claim7 := { stood := { row := fnExactAddDyadsUptoRow, standIns := [], harness := (true, "445fa7773e3b16cd1e17094154121d96bf9809b8382a1f85b9bed37e8fc5cded"), looks := false }, kinds := [], alts := [], laidByText := true, laidKinds := [.data, .data], laidTests := true, laidLooks := .later }
def FnExactAddDyadsUptoCardSaid : Prop := Claim7.holds Tryd.pinned (.plain (OpenSpec.upto fnExactAddDyadsSpec)) fnExactAddDyadsUptoCard

/-- THE SECOND FORM's CARD OF 'laws.FnExactFormatDyad'. -/
def fnExactFormatDyadUptoCard : Claim7 := { stood := { row := fnExactFormatDyadUptoRow, standIns := [], harness := (true, "445fa7773e3b16cd1e17094154121d96bf9809b8382a1f85b9bed37e8fc5cded"), looks := false }, kinds := [], alts := [], laidByText := true, laidKinds := [.data, .data, .data], laidTests := true, laidLooks := .later }
def FnExactFormatDyadUptoCardSaid : Prop := Claim7.holds Tryd.pinned (.plain (OpenSpec.upto fnExactFormatDyadSpec)) fnExactFormatDyadUptoCard

/-- THE SECOND FORM's CARD OF 'laws.FnExactKinship'. -/
def fnExactKinshipUptoCard : Claim7 := { stood := { row := fnExactKinshipUptoRow, standIns := [], harness := (true, "445fa7773e3b16cd1e17094154121d96bf9809b8382a1f85b9bed37e8fc5cded"), looks := false }, kinds := [], alts := [], laidByText := true, laidKinds := [.data, .data], laidTests := true, laidLooks := .later }
def FnExactKinshipUptoCardSaid : Prop := Claim7.holds Tryd.pinned (.plain (OpenSpec.upto fnExactKinshipSpec)) fnExactKinshipUptoCard

/-- THE SECOND FORM's CARD OF 'laws.FnExactInbreeding'. -/
def fnExactInbreedingUptoCard : Claim7 := { stood := { row := fnExactInbreedingUptoRow, standIns := [], harness := (true, "445fa7773e3b16cd1e17094154121d96bf9809b8382a1f85b9bed37e8fc5cded"), looks := false }, kinds := [], alts := [], laidByText := true, laidKinds := [.data, .data], laidTests := true, laidLooks := .later }
def FnExactInbreedingUptoCardSaid : Prop := Claim7.holds Tryd.pinned (.plain (OpenSpec.upto fnExactInbreedingSpec)) fnExactInbreedingUptoCard

/-- THE SECOND FORM's CARD OF 'laws.FnExactKinshipByLines'. -/
def fnExactKinshipByLinesUptoCard : Claim7 := { stood := { row := fnExactKinshipByLinesUptoRow, standIns := [], harness := (true, "445fa7773e3b16cd1e17094154121d96bf9809b8382a1f85b9bed37e8fc5cded"), looks := false }, kinds := [], alts := [], laidByText := true, laidKinds := [.data, .data], laidTests := true, laidLooks := .later }
def FnExactKinshipByLinesUptoCardSaid : Prop := Claim7.holds Tryd.pinned (.plain (OpenSpec.upto fnExactKinshipByLinesSpec)) fnExactKinshipByLinesUptoCard

/-- THE SECOND FORM's CARD OF 'laws.FnDyads'. -/
def fnDyadsUptoCard : Claim7 := { stood := { row := fnDyadsUptoRow, standIns := [], harness := (true, "445fa7773e3b16cd1e17094154121d96bf9809b8382a1f85b9bed37e8fc5cded"), looks := false }, kinds := [], alts := [], laidByText := true, laidKinds := [.data, .data], laidTests := true, laidLooks := .later }
def FnDyadsUptoCardSaid : Prop := Claim7.holds Tryd.pinned (.plain (OpenSpec.upto fnDyadsSpec)) fnDyadsUptoCard

/-- THE SECOND FORM's CARD OF 'laws.FnKinship'. -/
def fnKinshipUptoCard : Claim7 := { stood := { row := fnKinshipUptoRow, standIns := [], harness := (true, "445fa7773e3b16cd1e17094154121d96bf9809b8382a1f85b9bed37e8fc5cded"), looks := false }, kinds := [], alts := [], laidByText := true, laidKinds := [.data, .data], laidTests := true, laidLooks := .later }
def FnKinshipUptoCardSaid : Prop := Claim7.holds Tryd.pinned (.plain (OpenSpec.upto fnKinshipSpec)) fnKinshipUptoCard

/-- THE SECOND FORM's CARD OF 'laws.FnWright'. -/
def fnWrightUptoCard : Claim7 := { stood := { row := fnWrightUptoRow, standIns := [], harness := (true, "445fa7773e3b16cd1e17094154121d96bf9809b8382a1f85b9bed37e8fc5cded"), looks := false }, kinds := [], alts := [], laidByText := true, laidKinds := [.data, .data], laidTests := true, laidLooks := .later }
def FnWrightUptoCardSaid : Prop := Claim7.holds Tryd.pinned (.plain (OpenSpec.upto fnWrightSpec)) fnWrightUptoCard
end Rows
end Go.Proofs.YtplkockghigpdaaDoor
