/-
  DERIVED. GIVEN WITH THE SEED: THE CARDS: each row of YtlfcnjnfnfimmaaDoorRows.lean that lists a variable, with what it lists TIED to the program's text (the seventh form; the later family's looks); each row that meets fmt, with fmt's text TOLD by the authors' own Lean function (tested against real Go, not proved from fmt's source: count such statements apart). THE CARD IS WHAT COUNTS. Prove the row's statement (the work); the ties are given (YtlfcnjnfnfimmaaDoorTie.lean); close each card by the builder's one call (the guide's Derived/Test/ToyasCard.lean, 'card_holds'). Laid BY PROGRAM, IN A SANDBOX (cutbox-door.mjs). By AI agents, Wed Nov 11 2026. No macro, syntax, notation, axiom, sorry.
-/
import Derived.Test.YtlfcnjnfnfimmaaDoorRows
import GoSem.ClaimSeven
namespace Go.Proofs.YtlfcnjnfnfimmaaDoor
namespace Rows

/-- THE TIED CARD OF 'pagemendlaw02.PageEncodes'. -/
def pageEncodesCard : Claim7 := { stood := { row := pageEncodesRow, standIns := [], harness := (true, "e7608429a061e485a44973048ab207c1f227d4b14dc87848b9cd5f1aa3ffeed7"), looks := false }, kinds := [], alts := [], laidByText := true, laidKinds := [.data], laidTests := true, laidLooks := .later }
def PageEncodesCardSaid : Prop := Claim7.holds Tryd.pinned (.plain (OpenSpec.ofChange pageEncodesSpec)) pageEncodesCard

/-- THE TIED CARD OF 'pagemendlaw02.PageDecodes'. -/
def pageDecodesCard : Claim7 := { stood := { row := pageDecodesRow, standIns := [], harness := (true, "e7608429a061e485a44973048ab207c1f227d4b14dc87848b9cd5f1aa3ffeed7"), looks := false }, kinds := [], alts := [], laidByText := true, laidKinds := [.data], laidTests := true, laidLooks := .later }
def PageDecodesCardSaid : Prop := Claim7.holds Tryd.pinned (.plain (OpenSpec.ofChange pageDecodesSpec)) pageDecodesCard

/-- THE TIED CARD OF 'pagemendlaw02.PageForms'. -/
def pageFormsCard : Claim7 := { stood := { row := pageFormsRow, standIns := [], harness := (true, "e7608429a061e485a44973048ab207c1f227d4b14dc87848b9cd5f1aa3ffeed7"), looks := false }, kinds := [], alts := [], laidByText := true, laidKinds := [.data], laidTests := true, laidLooks := .later }
def PageFormsCardSaid : Prop := Claim7.holds Tryd.pinned (.plain (OpenSpec.ofChange pageFormsSpec)) pageFormsCard

/-- THE TIED CARD OF 'pagemendlaw02.PageReturns'. -/
def pageReturnsCard : Claim7 := { stood := { row := pageReturnsRow, standIns := [], harness := (true, "e7608429a061e485a44973048ab207c1f227d4b14dc87848b9cd5f1aa3ffeed7"), looks := false }, kinds := [], alts := [], laidByText := true, laidKinds := [.data], laidTests := true, laidLooks := .later }
def PageReturnsCardSaid : Prop := Claim7.holds Tryd.pinned (.plain (OpenSpec.ofChange pageReturnsSpec)) pageReturnsCard

/-- THE TIED CARD OF 'pagemendlaw02.PageDamage'. -/
def pageDamageCard : Claim7 := { stood := { row := pageDamageRow, standIns := [], harness := (true, "e7608429a061e485a44973048ab207c1f227d4b14dc87848b9cd5f1aa3ffeed7"), looks := false }, kinds := [], alts := [], laidByText := true, laidKinds := [.data], laidTests := true, laidLooks := .later }
def PageDamageCardSaid : Prop := Claim7.holds Tryd.pinned (.plain (OpenSpec.ofChange pageDamageSpec)) pageDamageCard

/-- THE TIED CARD OF 'pagemendlaw02.PageTears'. -/
def pageTearsCard : Claim7 := { stood := { row := pageTearsRow, standIns := [], harness := (true, "e7608429a061e485a44973048ab207c1f227d4b14dc87848b9cd5f1aa3ffeed7"), looks := false }, kinds := [], alts := [], laidByText := true, laidKinds := [.data], laidTests := true, laidLooks := .later }
def PageTearsCardSaid : Prop := Claim7.holds Tryd.pinned (.plain (OpenSpec.ofChange pageTearsSpec)) pageTearsCard

/-- THE TIED CARD OF 'pagemendlaw02.PageInjective'. -/
def pageInjectiveCard : Claim7 := { stood := { row := pageInjectiveRow, standIns := [], harness := (true, "e7608429a061e485a44973048ab207c1f227d4b14dc87848b9cd5f1aa3ffeed7"), looks := false }, kinds := [], alts := [], laidByText := true, laidKinds := [.data], laidTests := true, laidLooks := .later }
def PageInjectiveCardSaid : Prop := Claim7.holds Tryd.pinned (.plain (OpenSpec.ofChange pageInjectiveSpec)) pageInjectiveCard

/-- THE SECOND FORM's CARD OF 'pagemendlaw02.PageEncodes'. -/
def pageEncodesUptoCard : Claim7 := { stood := { row := pageEncodesUptoRow, standIns := [], harness := (true, "e7608429a061e485a44973048ab207c1f227d4b14dc87848b9cd5f1aa3ffeed7"), looks := false }, kinds := [], alts := [], laidByText := true, laidKinds := [.data], laidTests := true, laidLooks := .later }
def PageEncodesUptoCardSaid : Prop := Claim7.holds Tryd.pinned (.plain (OpenSpec.upto pageEncodesSpec)) pageEncodesUptoCard

/-- THE SECOND FORM's CARD OF 'pagemendlaw02.PageDecodes'. -/
def pageDecodesUptoCard : Claim7 := { stood := { row := pageDecodesUptoRow, standIns := [], harness := (true, "e7608429a061e485a44973048ab207c1f227d4b14dc87848b9cd5f1aa3ffeed7"), looks := false }, kinds := [], alts := [], laidByText := true, laidKinds := [.data], laidTests := true, laidLooks := .later }
def PageDecodesUptoCardSaid : Prop := Claim7.holds Tryd.pinned (.plain (OpenSpec.upto pageDecodesSpec)) pageDecodesUptoCard

/-- THE SECOND FORM's CARD OF 'pagemendlaw02.PageForms'. -/
def pageFormsUptoCard : Claim7 := { stood := { row := pageFormsUptoRow, standIns := [], harness := (true, "e7608429a061e485a44973048ab207c1f227d4b14dc87848b9cd5f1aa3ffeed7"), looks := false }, kinds := [], alts := [], laidByText := true, laidKinds := [.data], laidTests := true, laidLooks := .later }
def PageFormsUptoCardSaid : Prop := Claim7.holds Tryd.pinned (.plain (OpenSpec.upto pageFormsSpec)) pageFormsUptoCard

/-- THE SECOND FORM's CARD OF 'pagemendlaw02.PageReturns'. -/
def pageReturnsUptoCard : Claim7 := { stood := { row := pageReturnsUptoRow, standIns := [], harness := (true, "e7608429a061e485a44973048ab207c1f227d4b14dc87848b9cd5f1aa3ffeed7"), looks := false }, kinds := [], alts := [], laidByText := true, laidKinds := [.data], laidTests := true, laidLooks := .later }
def PageReturnsUptoCardSaid : Prop := Claim7.holds Tryd.pinned (.plain (OpenSpec.upto pageReturnsSpec)) pageReturnsUptoCard

/-- THE SECOND FORM's CARD OF 'pagemendlaw02.PageDamage'. -/
def pageDamageUptoCard : Claim7 := { stood := { row := pageDamageUptoRow, standIns := [], harness := (true, "e7608429a061e485a44973048ab207c1f227d4b14dc87848b9cd5f1aa3ffeed7"), looks := false }, kinds := [], alts := [], laidByText := true, laidKinds := [.data], laidTests := true, laidLooks := .later }
def PageDamageUptoCardSaid : Prop := Claim7.holds Tryd.pinned (.plain (OpenSpec.upto pageDamageSpec)) pageDamageUptoCard

/-- THE SECOND FORM's CARD OF 'pagemendlaw02.PageTears'. -/
def pageTearsUptoCard : Claim7 := { stood := { row := pageTearsUptoRow, standIns := [], harness := (true, "e7608429a061e485a44973048ab207c1f227d4b14dc87848b9cd5f1aa3ffeed7"), looks := false }, kinds := [], alts := [], laidByText := true, laidKinds := [.data], laidTests := true, laidLooks := .later }
def PageTearsUptoCardSaid : Prop := Claim7.holds Tryd.pinned (.plain (OpenSpec.upto pageTearsSpec)) pageTearsUptoCard

/-- THE SECOND FORM's CARD OF 'pagemendlaw02.PageInjective'. -/
def pageInjectiveUptoCard : Claim7 := { stood := { row := pageInjectiveUptoRow, standIns := [], harness := (true, "e7608429a061e485a44973048ab207c1f227d4b14dc87848b9cd5f1aa3ffeed7"), looks := false }, kinds := [], alts := [], laidByText := true, laidKinds := [.data], laidTests := true, laidLooks := .later }
def PageInjectiveUptoCardSaid : Prop := Claim7.holds Tryd.pinned (.plain (OpenSpec.upto pageInjectiveSpec)) pageInjectiveUptoCard
end Rows
end Go.Proofs.YtlfcnjnfnfimmaaDoor
