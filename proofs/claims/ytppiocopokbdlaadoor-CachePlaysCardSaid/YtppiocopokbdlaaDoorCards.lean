/-
  DERIVED. GIVEN WITH THE SEED: THE CARDS: each row of YtppiocopokbdlaaDoorRows.lean that lists a variable, with what it lists TIED to the program's text (the seventh form; the later family's looks); each row that meets fmt, with fmt's text TOLD by the authors' own Lean function (tested against real Go, not proved from fmt's source: count such statements apart). THE CARD IS WHAT COUNTS. Prove the row's statement (the work); the ties are given (YtppiocopokbdlaaDoorTie.lean); close each card by the builder's one call (the guide's Derived/Test/ToyasCard.lean, 'card_holds'). Laid BY PROGRAM, IN A SANDBOX (cutbox-door.mjs). By AI agents, Wed Nov 11 2026. No macro, syntax, notation, axiom, sorry.
-/
import Derived.Test.YtppiocopokbdlaaDoorRows
import GoSem.ClaimSeven
namespace Go.Proofs.YtppiocopokbdlaaDoor
namespace Rows

/-- THE TIED CARD OF 'dipperlaw6.CachePlays'. -/
def cachePlaysCard : Claim7 := { stood := { row := cachePlaysRow, standIns := [], harness := (true, "cee88cfd3c96bd4b64884e0135a0464d29cac6ae3917ab125cdce880b54acaeb"), looks := false }, kinds := [], alts := [], laidByText := true, laidKinds := [.data, .data, .data], laidTests := true, laidLooks := .later }
def CachePlaysCardSaid : Prop := Claim7.holds Tryd.pinned (.plain (OpenSpec.ofChange cachePlaysSpec)) cachePlaysCard

/-- THE TIED CARD OF 'dipperlaw6.CacheWild'. -/
def cacheWildCard : Claim7 := { stood := { row := cacheWildRow, standIns := [], harness := (true, "cee88cfd3c96bd4b64884e0135a0464d29cac6ae3917ab125cdce880b54acaeb"), looks := false }, kinds := [], alts := [], laidByText := true, laidKinds := [.data, .data, .data], laidTests := true, laidLooks := .later }
def CacheWildCardSaid : Prop := Claim7.holds Tryd.pinned (.plain (OpenSpec.ofChange cacheWildSpec)) cacheWildCard

/-- THE TIED CARD OF 'dipperlaw6.CacheOwn'. -/
def cacheOwnCard : Claim7 := { stood := { row := cacheOwnRow, standIns := [], harness := (true, "cee88cfd3c96bd4b64884e0135a0464d29cac6ae3917ab125cdce880b54acaeb"), looks := false }, kinds := [], alts := [], laidByText := true, laidKinds := [.data, .data, .data], laidTests := true, laidLooks := .later }
def CacheOwnCardSaid : Prop := Claim7.holds Tryd.pinned (.plain (OpenSpec.ofChange cacheOwnSpec)) cacheOwnCard

/-- THE SECOND FORM's CARD OF 'dipperlaw6.CachePlays'. -/
def cachePlaysUptoCard : Claim7 := { stood := { row := cachePlaysUptoRow, standIns := [], harness := (true, "cee88cfd3c96bd4b64884e0135a0464d29cac6ae3917ab125cdce880b54acaeb"), looks := false }, kinds := [], alts := [], laidByText := true, laidKinds := [.data, .data, .data], laidTests := true, laidLooks := .later }
def CachePlaysUptoCardSaid : Prop := Claim7.holds Tryd.pinned (.plain (OpenSpec.upto cachePlaysSpec)) cachePlaysUptoCard

/-- THE SECOND FORM's CARD OF 'dipperlaw6.CacheWild'. -/
def cacheWildUptoCard : Claim7 := { stood := { row := cacheWildUptoRow, standIns := [], harness := (true, "cee88cfd3c96bd4b64884e0135a0464d29cac6ae3917ab125cdce880b54acaeb"), looks := false }, kinds := [], alts := [], laidByText := true, laidKinds := [.data, .data, .data], laidTests := true, laidLooks := .later }
def CacheWildUptoCardSaid : Prop := Claim7.holds Tryd.pinned (.plain (OpenSpec.upto cacheWildSpec)) cacheWildUptoCard

/-- THE SECOND FORM's CARD OF 'dipperlaw6.CacheOwn'. -/
def cacheOwnUptoCard : Claim7 := { stood := { row := cacheOwnUptoRow, standIns := [], harness := (true, "cee88cfd3c96bd4b64884e0135a0464d29cac6ae3917ab125cdce880b54acaeb"), looks := false }, kinds := [], alts := [], laidByText := true, laidKinds := [.data, .data, .data], laidTests := true, laidLooks := .later }
def CacheOwnUptoCardSaid : Prop := Claim7.holds Tryd.pinned (.plain (OpenSpec.upto cacheOwnSpec)) cacheOwnUptoCard
end Rows
end Go.Proofs.YtppiocopokbdlaaDoor
