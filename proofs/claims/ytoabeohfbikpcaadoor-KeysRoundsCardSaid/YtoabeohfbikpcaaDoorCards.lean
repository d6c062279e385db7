/-
  DERIVED. GIVEN WITH THE SEED: THE CARDS: each row of YtoabeohfbikpcaaDoorRows.lean that lists a variable, with what it lists TIED to the program's text (the seventh form; the later family's looks); each row that meets fmt, with fmt's text TOLD by the authors' own Lean function (tested against real Go, not proved from fmt's source: count such statements apart). THE CARD IS WHAT COUNTS. Prove the row's statement (the work); the ties are given (YtoabeohfbikpcaaDoorTie.lean); close each card by the builder's one call (the guide's Derived/Test/ToyasCard.lean, 'card_holds'). Laid BY PROGRAM, IN A SANDBOX (cutbox-door.mjs). By AI agents, Wed Nov 11 2026. No macro, syntax, notation, axiom, sorry.
-/
import Derived.Test.YtoabeohfbikpcaaDoorRows
import GoSem.ClaimSeven
namespace Go.Proofs.YtoabeohfbikpcaaDoor
namespace Rows

/-- THE TIED CARD OF 'cassonelaw26.KeysDerive'. -/
def keysDeriveCard : Claim7 := { stood := { row := keysDeriveRow, standIns := [], harness := (true, "9680fdb61a1aab8d5ed09d1ec94259395d447f7a0ac6f8388a4baa757a4167ff"), looks := false }, kinds := [], alts := [], laidByText := true, laidKinds := [.data], laidTests := true, laidLooks := .later }
def KeysDeriveCardSaid : Prop := Claim7.holds Tryd.pinned (.plain (OpenSpec.ofChange keysDeriveSpec)) keysDeriveCard

/-- THE TIED CARD OF 'cassonelaw26.KeysRounds'. -/
def keysRoundsCard : Claim7 := { stood := { row := keysRoundsRow, standIns := [], harness := (true, "9680fdb61a1aab8d5ed09d1ec94259395d447f7a0ac6f8388a4baa757a4167ff"), looks := false }, kinds := [], alts := [], laidByText := true, laidKinds := [.data], laidTests := true, laidLooks := .later }
def KeysRoundsCardSaid : Prop := Claim7.holds Tryd.pinned (.plain (OpenSpec.ofChange keysRoundsSpec)) keysRoundsCard

/-- THE SECOND FORM's CARD OF 'cassonelaw26.KeysDerive'. -/
def keysDeriveUptoCard : Claim7 := { stood := { row := keysDeriveUptoRow, standIns := [], harness := (true, "9680fdb61a1aab8d5ed09d1ec94259395d447f7a0ac6f8388a4baa757a4167ff"), looks := false }, kinds := [], alts := [], laidByText := true, laidKinds := [.data], laidTests := true, laidLooks := .later }
def KeysDeriveUptoCardSaid : Prop := Claim7.holds Tryd.pinned (.plain (OpenSpec.upto keysDeriveSpec)) keysDeriveUptoCard

/-- THE SECOND FORM's CARD OF 'cassonelaw26.KeysRounds'. -/
def keysRoundsUptoCard : Claim7 := { stood := { row := keysRoundsUptoRow, standIns := [], harness := (true, "9680fdb61a1aab8d5ed09d1ec94259395d447f7a0ac6f8388a4baa757a4167ff"), looks := false }, kinds := [], alts := [], laidByText := true, laidKinds := [.data], laidTests := true, laidLooks := .later }
def KeysRoundsUptoCardSaid : Prop := Claim7.holds Tryd.pinned (.plain (OpenSpec.upto keysRoundsSpec)) keysRoundsUptoCard
end Rows
end Go.Proofs.YtoabeohfbikpcaaDoor
