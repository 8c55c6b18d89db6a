/-
  DERIVED. GIVEN WITH THE SEED: THE CARDS: each row of YtabofebepefbgaaDoorRows.lean that lists a variable, with what it lists TIED to the program's text (the seventh form; the later family's looks); each row that meets fmt, with fmt's text TOLD by the authors' own Lean function (tested against real Go, not proved from fmt's source: count such statements apart). THE CARD IS WHAT COUNTS. Prove the row's statement (the work); the ties are given (YtabofebepefbgaaDoorTie.lean); close each card by the builder's one call (the guide's Derived/Test/ToyasCard.lean, 'card_holds'). Laid BY PROGRAM, IN A SANDBOX (cutbox-door.mjs). By AI agents, Wed Nov 11 2026. No macro, syntax, notation, axiom, sorry.
-/
import Derived.Test.YtabofebepefbgaaDoorRows
import GoSem.ClaimSeven
namespace Go.Proofs.YtabofebepefbgaaDoor
namespace Rows

/-- THE TIED CARD OF 'corbellaw02.DatumTexts'. -/
def datumTextsCard : Claim7 := { stood := { row := datumTextsRow, standIns := [], harness := (true, "b5aab2e4575c67165dee852d4a059ea827c416131030dee3c0fa9ff6b191e51b"), looks := true }, kinds := [], alts := [], laidByText := true, laidKinds := [.data, .data, .data], laidTests := true, laidLooks := .later }
def DatumTextsCardSaid : Prop := Claim7.holds Tryd.pinned (.plain (OpenSpec.ofChange datumTextsSpec)) datumTextsCard

/-- THE TIED CARD OF 'corbellaw02.DatumAlike'. -/
def datumAlikeCard : Claim7 := { stood := { row := datumAlikeRow, standIns := [], harness := (true, "b5aab2e4575c67165dee852d4a059ea827c416131030dee3c0fa9ff6b191e51b"), looks := true }, kinds := [], alts := [], laidByText := true, laidKinds := [.data, .data, .data], laidTests := true, laidLooks := .later }
def DatumAlikeCardSaid : Prop := Claim7.holds Tryd.pinned (.plain (OpenSpec.ofChange datumAlikeSpec)) datumAlikeCard

/-- THE TIED CARD OF 'corbellaw03.ReaderReads'. -/
def readerReadsCard : Claim7 := { stood := { row := readerReadsRow, standIns := [], harness := (true, "b5aab2e4575c67165dee852d4a059ea827c416131030dee3c0fa9ff6b191e51b"), looks := true }, kinds := [], alts := [], laidByText := true, laidKinds := [.data, .data, .data], laidTests := true, laidLooks := .later }
def ReaderReadsCardSaid : Prop := Claim7.holds Tryd.pinned (.plain (OpenSpec.ofChange readerReadsSpec)) readerReadsCard

/-- THE TIED CARD OF 'corbellaw03.ReaderPlace'. -/
def readerPlaceCard : Claim7 := { stood := { row := readerPlaceRow, standIns := [], harness := (true, "b5aab2e4575c67165dee852d4a059ea827c416131030dee3c0fa9ff6b191e51b"), looks := true }, kinds := [], alts := [], laidByText := true, laidKinds := [.data, .data, .data], laidTests := true, laidLooks := .later }
def ReaderPlaceCardSaid : Prop := Claim7.holds Tryd.pinned (.plain (OpenSpec.ofChange readerPlaceSpec)) readerPlaceCard

/-- THE TIED CARD OF 'corbellaw03.ReaderBlanks'. -/
def readerBlanksCard : Claim7 := { stood := { row := readerBlanksRow, standIns := [], harness := (true, "b5aab2e4575c67165dee852d4a059ea827c416131030dee3c0fa9ff6b191e51b"), looks := true }, kinds := [], alts := [], laidByText := true, laidKinds := [.data, .data, .data], laidTests := true, laidLooks := .later }
def ReaderBlanksCardSaid : Prop := Claim7.holds Tryd.pinned (.plain (OpenSpec.ofChange readerBlanksSpec)) readerBlanksCard

/-- THE TIED CARD OF 'corbellaw03.ReaderNumbers'. -/
def readerNumbersCard : Claim7 := { stood := { row := readerNumbersRow, standIns := [], harness := (true, "b5aab2e4575c67165dee852d4a059ea827c416131030dee3c0fa9ff6b191e51b"), looks := true }, kinds := [], alts := [], laidByText := true, laidKinds := [.data, .data, .data], laidTests := true, laidLooks := .later }
def ReaderNumbersCardSaid : Prop := Claim7.holds Tryd.pinned (.plain (OpenSpec.ofChange readerNumbersSpec)) readerNumbersCard

/-- THE TIED CARD OF 'corbellaw03.ReaderVecs'. -/
def readerVecsCard : Claim7 := { stood := { row := readerVecsRow, standIns := [], harness := (true, "b5aab2e4575c67165dee852d4a059ea827c416131030dee3c0fa9ff6b191e51b"), looks := true }, kinds := [], alts := [], laidByText := true, laidKinds := [.data, .data, .data], laidTests := true, laidLooks := .later }
def ReaderVecsCardSaid : Prop := Claim7.holds Tryd.pinned (.plain (OpenSpec.ofChange readerVecsSpec)) readerVecsCard

/-- THE SECOND FORM's CARD OF 'corbellaw02.DatumTexts'. -/
def datumTextsUptoCard : Claim7 := { stood := { row := datumTextsUptoRow, standIns := [], harness := (true, "b5aab2e4575c67165dee852d4a059ea827c416131030dee3c0fa9ff6b191e51b"), looks := true }, kinds := [], alts := [], laidByText := true, laidKinds := [.data, .data, .data], laidTests := true, laidLooks := .later }
def DatumTextsUptoCardSaid : Prop := Claim7.holds Tryd.pinned (.plain (OpenSpec.upto datumTextsSpec)) datumTextsUptoCard

/-- THE SECOND FORM's CARD OF 'corbellaw02.DatumAlike'. -/
def datumAlikeUptoCard : Claim7 := { stood := { row := datumAlikeUptoRow, standIns := [], harness := (true, "b5aab2e4575c67165dee852d4a059ea827c416131030dee3c0fa9ff6b191e51b"), looks := true }, kinds := [], alts := [], laidByText := true, laidKinds := [.data, .data, .data], laidTests := true, laidLooks := .later }
def DatumAlikeUptoCardSaid : Prop := Claim7.holds Tryd.pinned (.plain (OpenSpec.upto datumAlikeSpec)) datumAlikeUptoCard

/-- THE SECOND FORM's CARD OF 'corbellaw03.ReaderReads'. -/
def readerReadsUptoCard : Claim7 := { stood := { row := readerReadsUptoRow, standIns := [], harness := (true, "b5aab2e4575c67165dee852d4a059ea827c416131030dee3c0fa9ff6b191e51b"), looks := true }, kinds := [], alts := [], laidByText := true, laidKinds := [.data, .data, .data], laidTests := true, laidLooks := .later }
def ReaderReadsUptoCardSaid : Prop := Claim7.holds Tryd.pinned (.plain (OpenSpec.upto readerReadsSpec)) readerReadsUptoCard

/-- THE SECOND FORM's CARD OF 'corbellaw03.ReaderPlace'. -/
def readerPlaceUptoCard : Claim7 := { stood := { row := readerPlaceUptoRow, standIns := [], harness := (true, "b5aab2e4575c67165dee852d4a059ea827c416131030dee3c0fa9ff6b191e51b"), looks := true }, kinds := [], alts := [], laidByText := true, laidKinds := [.data, .data, .data], laidTests := true, laidLooks := .later }
def ReaderPlaceUptoCardSaid : Prop := Claim7.holds Tryd.pinned (.plain (OpenSpec.upto readerPlaceSpec)) readerPlaceUptoCard

/-- THE SECOND FORM's CARD OF 'corbellaw03.ReaderBlanks'. -/
def readerBlanksUptoCard : Claim7 := { stood := { row := readerBlanksUptoRow, standIns := [], harness := (true, "b5aab2e4575c67165dee852d4a059ea827c416131030dee3c0fa9ff6b191e51b"), looks := true }, kinds := [], alts := [], laidByText := true, laidKinds := [.data, .data, .data], laidTests := true, laidLooks := .later }
def ReaderBlanksUptoCardSaid : Prop := Claim7.holds Tryd.pinned (.plain (OpenSpec.upto readerBlanksSpec)) readerBlanksUptoCard

/-- THE SECOND FORM's CARD OF 'corbellaw03.ReaderNumbers'. -/
def readerNumbersUptoCard : Claim7 := { stood := { row := readerNumbersUptoRow, standIns := [], harness := (true, "b5aab2e4575c67165dee852d4a059ea827c416131030dee3c0fa9ff6b191e51b"), looks := true }, kinds := [], alts := [], laidByText := true, laidKinds := [.data, .data, .data], laidTests := true, laidLooks := .later }
def ReaderNumbersUptoCardSaid : Prop := Claim7.holds Tryd.pinned (.plain (OpenSpec.upto readerNumbersSpec)) readerNumbersUptoCard

/-- THE SECOND FORM's CARD OF 'corbellaw03.ReaderVecs'. -/
def readerVecsUptoCard : Claim7 := { stood := { row := readerVecsUptoRow, standIns := [], harness := (true, "b5aab2e4575c67165dee852d4a059ea827c416131030dee3c0fa9ff6b191e51b"), looks := true }, kinds := [], alts := [], laidByText := true, laidKinds := [.data, .data, .data], laidTests := true, laidLooks := .later }
def ReaderVecsUptoCardSaid : Prop := Claim7.holds Tryd.pinned (.plain (OpenSpec.upto readerVecsSpec)) readerVecsUptoCard
end Rows
end Go.Proofs.YtabofebepefbgaaDoor
