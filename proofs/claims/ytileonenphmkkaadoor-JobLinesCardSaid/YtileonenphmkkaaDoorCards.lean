/-
  DERIVED. GIVEN WITH THE SEED: THE CARDS: each row of YtileonenphmkkaaDoorRows.lean that lists a variable, with what it lists TIED to the program's text (the seventh form; the later family's looks); each row that meets fmt, with fmt's text TOLD by the authors' own Lean function (tested against real Go, not proved from fmt's source: count such statements apart). THE CARD IS WHAT COUNTS. Prove the row's statement (the work); the ties are given (YtileonenphmkkaaDoorTie.lean); close each card by the builder's one call (the guide's Derived/Test/ToyasCard.lean, 'card_holds'). Laid BY PROGRAM, IN A SANDBOX (cutbox-door.mjs). By AI agents, Wed Nov 11 2026. No macro, syntax, notation, axiom, sorry.
-/
import Derived.Test.YtileonenphmkkaaDoorRows
import GoSem.ClaimSeven
namespace Go.Proofs.YtileonenphmkkaaDoor
namespace Rows

/-- THE TIED CARD OF 'clepsydralaw13.JobPrints'. -/
def jobPrintsCard : Claim7 := { stood := { row := jobPrintsRow, standIns := [], harness := (true, "ddd13077d50192742705e4343c8ef4cf39592110503bc8340c32e1d1e3e9a4a1"), looks := true }, kinds := [], alts := [], laidByText := true, laidKinds := [.data, .data, .data], laidTests := true, laidLooks := .later }
def JobPrintsCardSaid : Prop := Claim7.holds Tryd.pinned (.plain (OpenSpec.ofChange jobPrintsSpec)) jobPrintsCard

/-- THE TIED CARD OF 'clepsydralaw13.JobReads'. -/
def jobReadsCard : Claim7 := { stood := { row := jobReadsRow, standIns := [], harness := (true, "ddd13077d50192742705e4343c8ef4cf39592110503bc8340c32e1d1e3e9a4a1"), looks := true }, kinds := [], alts := [], laidByText := true, laidKinds := [.data, .data, .data, .data, .sentinel, .sentinel, .pinned], laidTests := true, laidLooks := .later }
def JobReadsCardSaid : Prop := Claim7.holds Tryd.pinned (.plain (OpenSpec.ofChange jobReadsSpec)) jobReadsCard

/-- THE TIED CARD OF 'clepsydralaw13.JobBack'. -/
def jobBackCard : Claim7 := { stood := { row := jobBackRow, standIns := [], harness := (true, "ddd13077d50192742705e4343c8ef4cf39592110503bc8340c32e1d1e3e9a4a1"), looks := true }, kinds := [], alts := [], laidByText := true, laidKinds := [.data, .data, .data, .data, .sentinel, .sentinel, .pinned], laidTests := true, laidLooks := .later }
def JobBackCardSaid : Prop := Claim7.holds Tryd.pinned (.plain (OpenSpec.ofChange jobBackSpec)) jobBackCard

/-- THE TIED CARD OF 'clepsydralaw13.JobOnce'. -/
def jobOnceCard : Claim7 := { stood := { row := jobOnceRow, standIns := [], harness := (true, "ddd13077d50192742705e4343c8ef4cf39592110503bc8340c32e1d1e3e9a4a1"), looks := true }, kinds := [], alts := [], laidByText := true, laidKinds := [.data, .data, .data, .data, .sentinel, .sentinel, .pinned], laidTests := true, laidLooks := .later }
def JobOnceCardSaid : Prop := Claim7.holds Tryd.pinned (.plain (OpenSpec.ofChange jobOnceSpec)) jobOnceCard

/-- THE TIED CARD OF 'clepsydralaw13.JobLines'. -/
def jobLinesCard : Claim7 := { stood := { row := jobLinesRow, standIns := [], harness := (true, "ddd13077d50192742705e4343c8ef4cf39592110503bc8340c32e1d1e3e9a4a1"), looks := true }, kinds := [], alts := [], laidByText := true, laidKinds := [.data, .data, .data, .data, .sentinel, .sentinel, .pinned], laidTests := true, laidLooks := .later }
def JobLinesCardSaid : Prop := Claim7.holds Tryd.pinned (.plain (OpenSpec.ofChange jobLinesSpec)) jobLinesCard

/-- THE SECOND FORM's CARD OF 'clepsydralaw13.JobPrints'. -/
def jobPrintsUptoCard : Claim7 := { stood := { row := jobPrintsUptoRow, standIns := [], harness := (true, "ddd13077d50192742705e4343c8ef4cf39592110503bc8340c32e1d1e3e9a4a1"), looks := true }, kinds := [], alts := [], laidByText := true, laidKinds := [.data, .data, .data], laidTests := true, laidLooks := .later }
def JobPrintsUptoCardSaid : Prop := Claim7.holds Tryd.pinned (.plain (OpenSpec.upto jobPrintsSpec)) jobPrintsUptoCard

/-- THE SECOND FORM's CARD OF 'clepsydralaw13.JobReads'. -/
def jobReadsUptoCard : Claim7 := { stood := { row := jobReadsUptoRow, standIns := [], harness := (true, "ddd13077d50192742705e4343c8ef4cf39592110503bc8340c32e1d1e3e9a4a1"), looks := true }, kinds := [], alts := [], laidByText := true, laidKinds := [.data, .data, .data, .data, .sentinel, .sentinel, .pinned], laidTests := true, laidLooks := .later }
def JobReadsUptoCardSaid : Prop := Claim7.holds Tryd.pinned (.plain (OpenSpec.upto jobReadsSpec)) jobReadsUptoCard

/-- THE SECOND FORM's CARD OF 'clepsydralaw13.JobBack'. -/
def jobBackUptoCard : Claim7 := { stood := { row := jobBackUptoRow, standIns := [], harness := (true, "ddd13077d50192742705e4343c8ef4cf39592110503bc8340c32e1d1e3e9a4a1"), looks := true }, kinds := [], alts := [], laidByText := true, laidKinds := [.data, .data, .data, .data, .sentinel, .sentinel, .pinned], laidTests := true, laidLooks := .later }
def JobBackUptoCardSaid : Prop := Claim7.holds Tryd.pinned (.plain (OpenSpec.upto jobBackSpec)) jobBackUptoCard

/-- THE SECOND FORM's CARD OF 'clepsydralaw13.JobOnce'. -/
def jobOnceUptoCard : Claim7 := { stood := { row := jobOnceUptoRow, standIns := [], harness := (true, "ddd13077d50192742705e4343c8ef4cf39592110503bc8340c32e1d1e3e9a4a1"), looks := true }, kinds := [], alts := [], laidByText := true, laidKinds := [.data, .data, .data, .data, .sentinel, .sentinel, .pinned], laidTests := true, laidLooks := .later }
def JobOnceUptoCardSaid : Prop := Claim7.holds Tryd.pinned (.plain (OpenSpec.upto jobOnceSpec)) jobOnceUptoCard

/-- THE SECOND FORM's CARD OF 'clepsydralaw13.JobLines'. -/
def jobLinesUptoCard : Claim7 := { stood := { row := jobLinesUptoRow, standIns := [], harness := (true, "ddd13077d50192742705e4343c8ef4cf39592110503bc8340c32e1d1e3e9a4a1"), looks := true }, kinds := [], alts := [], laidByText := true, laidKinds := [.data, .data, .data, .data, .sentinel, .sentinel, .pinned], laidTests := true, laidLooks := .later }
def JobLinesUptoCardSaid : Prop := Claim7.holds Tryd.pinned (.plain (OpenSpec.upto jobLinesSpec)) jobLinesUptoCard
end Rows
end Go.Proofs.YtileonenphmkkaaDoor
