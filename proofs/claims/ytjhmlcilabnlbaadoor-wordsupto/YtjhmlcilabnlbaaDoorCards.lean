/-
  DERIVED. GIVEN WITH THE SEED: THE CARDS: each row of YtjhmlcilabnlbaaDoorRows.lean that lists a variable, with what it lists TIED to the program's text (the seventh form; the later family's looks); each row that meets fmt, with fmt's text TOLD by the authors' own Lean function (tested against real Go, not proved from fmt's source: count such statements apart). THE CARD IS WHAT COUNTS. Prove the row's statement (the work); the ties are given (YtjhmlcilabnlbaaDoorTie.lean); close each card by the builder's one call (the guide's Derived/Test/ToyasCard.lean, 'card_holds'). Laid BY PROGRAM, IN A SANDBOX (cutbox-door.mjs). By AI agents, Wed Nov 11 2026. No macro, syntax, notation, axiom, sorry.
-/
import Derived.Test.YtjhmlcilabnlbaaDoorRows
import GoSem.ClaimSeven
namespace Go.Proofs.YtjhmlcilabnlbaaDoor
namespace Rows

/-- THE TIED CARD OF 'tesserakeep.Tiles'. -/
def tilesCard : Claim7 := { stood := { row := tilesRow, standIns := [], harness := (true, "05a007517354be2a433a1428dfd1943d01bdcdcd21350aaccc6373db086a928f"), looks := false }, kinds := [], alts := [], laidByText := true, laidKinds := [.data], laidTests := true, laidLooks := .later }
def TilesCardSaid : Prop := Claim7.holds Tryd.pinned (.plain (OpenSpec.ofChange tilesSpec)) tilesCard

/-- THE TIED CARD OF 'tesserakeep.Words'. -/
def wordsCard : Claim7 := { stood := { row := wordsRow, standIns := [], harness := (true, "05a007517354be2a433a1428dfd1943d01bdcdcd21350aaccc6373db086a928f"), looks := false }, kinds := [], alts := [], laidByText := true, laidKinds := [.data], laidTests := true, laidLooks := .later }
def WordsCardSaid : Prop := Claim7.holds Tryd.pinned (.plain (OpenSpec.ofChange wordsSpec)) wordsCard

/-- THE SECOND FORM's CARD OF 'tesserakeep.Tiles'. -/
def tilesUptoCard : Claim7 := { stood := { row := tilesUptoRow, standIns := [], harness := (true, "05a007517354be2a433a1428dfd1943d01bdcdcd21350aaccc6373db086a928f"), looks := false }, kinds := [], alts := [], laidByText := true, laidKinds := [.data], laidTests := true, laidLooks := .later }
def TilesUptoCardSaid : Prop := Claim7.holds Tryd.pinned (.plain (OpenSpec.upto tilesSpec)) tilesUptoCard

/-- THE SECOND FORM's CARD OF 'tesserakeep.Words'. -/
def wordsUptoCard : Claim7 := { stood := { row := wordsUptoRow, standIns := [], harness := (true, "05a007517354be2a433a1428dfd1943d01bdcdcd21350aaccc6373db086a928f"), looks := false }, kinds := [], alts := [], laidByText := true, laidKinds := [.data], laidTests := true, laidLooks := .later }
def WordsUptoCardSaid : Prop := Claim7.holds Tryd.pinned (.plain (OpenSpec.upto wordsSpec)) wordsUptoCard
end Rows
end Go.Proofs.YtjhmlcilabnlbaaDoor
