/-
  DERIVED. GIVEN WITH THE SEED: THE CARDS: each row of YtigmjgmkeoineaaDoorRows.lean that lists a variable, with what it lists TIED to the program's text (the seventh form; the later family's looks); each row that meets fmt, with fmt's text TOLD by the authors' own Lean function (tested against real Go, not proved from fmt's source: count such statements apart). THE CARD IS WHAT COUNTS. Prove the row's statement (the work); the ties are given (YtigmjgmkeoineaaDoorTie.lean); close each card by the builder's one call (the guide's Derived/Test/ToyasCard.lean, 'card_holds'). Laid BY PROGRAM, IN A SANDBOX (cutbox-door.mjs). By AI agents, Wed Nov 11 2026. No macro, syntax, notation, axiom, sorry.
-/
import Derived.Test.YtigmjgmkeoineaaDoorRows
import GoSem.ClaimSeven
namespace Go.Proofs.YtigmjgmkeoineaaDoor
namespace Rows

/-- THE TIED CARD OF 'pantrylaw14.WritesPlay'. -/
def writesPlayCard : Claim7 := { stood := { row := writesPlayRow, standIns := [], harness := (true, "2722ad2fa73c23a01c9272db080880642b41ed3927dea9d586d89d666420e5f9"), looks := true }, kinds := [], alts := [], laidByText := true, laidKinds := [.handle], laidTests := true, laidLooks := .later }
def WritesPlayCardSaid : Prop := Claim7.holds Tryd.pinned (.plain (OpenSpec.ofChange writesPlaySpec)) writesPlayCard

/-- THE TIED CARD OF 'pantrylaw14.WritesOrder'. -/
def writesOrderCard : Claim7 := { stood := { row := writesOrderRow, standIns := [], harness := (true, "2722ad2fa73c23a01c9272db080880642b41ed3927dea9d586d89d666420e5f9"), looks := true }, kinds := [], alts := [], laidByText := true, laidKinds := [.handle], laidTests := true, laidLooks := .later }
def WritesOrderCardSaid : Prop := Claim7.holds Tryd.pinned (.plain (OpenSpec.ofChange writesOrderSpec)) writesOrderCard

/-- THE TIED CARD OF 'pantrylaw14.WritesRoom'. -/
def writesRoomCard : Claim7 := { stood := { row := writesRoomRow, standIns := [], harness := (true, "2722ad2fa73c23a01c9272db080880642b41ed3927dea9d586d89d666420e5f9"), looks := true }, kinds := [], alts := [], laidByText := true, laidKinds := [.handle], laidTests := true, laidLooks := .later }
def WritesRoomCardSaid : Prop := Claim7.holds Tryd.pinned (.plain (OpenSpec.ofChange writesRoomSpec)) writesRoomCard

/-- THE TIED CARD OF 'pantrylaw14.WritesWeigh'. -/
def writesWeighCard : Claim7 := { stood := { row := writesWeighRow, standIns := [], harness := (true, "2722ad2fa73c23a01c9272db080880642b41ed3927dea9d586d89d666420e5f9"), looks := true }, kinds := [], alts := [], laidByText := true, laidKinds := [.handle], laidTests := true, laidLooks := .later }
def WritesWeighCardSaid : Prop := Claim7.holds Tryd.pinned (.plain (OpenSpec.ofChange writesWeighSpec)) writesWeighCard

/-- THE SECOND FORM's CARD OF 'pantrylaw14.WritesPlay'. -/
def writesPlayUptoCard : Claim7 := { stood := { row := writesPlayUptoRow, standIns := [], harness := (true, "2722ad2fa73c23a01c9272db080880642b41ed3927dea9d586d89d666420e5f9"), looks := true }, kinds := [], alts := [], laidByText := true, laidKinds := [.handle], laidTests := true, laidLooks := .later }
def WritesPlayUptoCardSaid : Prop := Claim7.holds Tryd.pinned (.plain (OpenSpec.upto writesPlaySpec)) writesPlayUptoCard

/-- THE SECOND FORM's CARD OF 'pantrylaw14.WritesOrder'. -/
def writesOrderUptoCard : Claim7 := { stood := { row := writesOrderUptoRow, standIns := [], harness := (true, "2722ad2fa73c23a01c9272db080880642b41ed3927dea9d586d89d666420e5f9"), looks := true }, kinds := [], alts := [], laidByText := true, laidKinds := [.handle], laidTests := true, laidLooks := .later }
def WritesOrderUptoCardSaid : Prop := Claim7.holds Tryd.pinned (.plain (OpenSpec.upto writesOrderSpec)) writesOrderUptoCard

/-- THE SECOND FORM's CARD OF 'pantrylaw14.WritesRoom'. -/
def writesRoomUptoCard : Claim7 := { stood := { row := writesRoomUptoRow, standIns := [], harness := (true, "2722ad2fa73c23a01c9272db080880642b41ed3927dea9d586d89d666420e5f9"), looks := true }, kinds := [], alts := [], laidByText := true, laidKinds := [.handle], laidTests := true, laidLooks := .later }
def WritesRoomUptoCardSaid : Prop := Claim7.holds Tryd.pinned (.plain (OpenSpec.upto writesRoomSpec)) writesRoomUptoCard

/-- THE SECOND FORM's CARD OF 'pantrylaw14.WritesWeigh'. -/
def writesWeighUptoCard : Claim7 := { stood := { row := writesWeighUptoRow, standIns := [], harness := (true, "2722ad2fa73c23a01c9272db080880642b41ed3927dea9d586d89d666420e5f9"), looks := true }, kinds := [], alts := [], laidByText := true, laidKinds := [.handle], laidTests := true, laidLooks := .later }
def WritesWeighUptoCardSaid : Prop := Claim7.holds Tryd.pinned (.plain (OpenSpec.upto writesWeighSpec)) writesWeighUptoCard
end Rows
end Go.Proofs.YtigmjgmkeoineaaDoor
