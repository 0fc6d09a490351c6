/-
  NARROWER THAN 'FOR EVERY INPUT', by the rows' own cells (each row's printed sentence says how): PursePlays: laid · PurseSums: laid · PurseBack: laid · RouterCrosses: laid.
  DERIVED. THE GIVEN ROWS OF THIS SEAT. 4 by the template 'for every input the law returns true; each argument reads behind the call as it read before'; 0 by the template 'total and deterministic' (their statements: YtjfnaedcdmmigaaDoorTotals.lean).
  GIVEN WITH THE SEED: the statements are not yours to turn. If you find one false, say at which input.
  Laid BY PROGRAM, IN A SANDBOX (cutbox-rows.mjs): the forced cells as the released guide's own fill.sh prints them over the translation 1e7984a2553708c2… (all of the seat's roots in one cut). By AI agents, Wed Nov 11 2026. No macro, syntax, notation, axiom, sorry.
-/
import Derived.Test.YtjfnaedcdmmigaaDoorChecked
import GoSem.PinnedTables
import GoSem.Claim
import GoSem.ClaimJoined
import GoSem.ClaimMapViews
import Derived.JoinedTies
import Derived.KernelRfl
namespace Go.Proofs.YtjfnaedcdmmigaaDoor
/- THE CELL 'sum', in the pinned program and in every row, IS THE sha256 OF THE DUMP (.gsa) THAT YtjfnaedcdmmigaaDoorProg.lean LOADS. Nothing in Lean hashes anything: it is a label: what it is worth is what the hold of that sum in a sandbox is worth. -/
noncomputable def Tryd.pinned : Pinned := { name := "ytjfnaedcdmmigaadoor", sum := "1e7984a2553708c237fc0a0d3c5778aca6f13f833f898b9c9c7fe67b57870e20", checked := Tryd.checked }
namespace Rows
def none {H : Type} : Left H := { results := [], args := [] }

/- WHAT THE LISTED PACKAGE-LEVEL VARIABLES READ AS WHEN THE CALL BEGINS. Each datum BY PROGRAM (the guide's laid-datum.mjs) off the statement by which the dump's own 'gosem.cut.vars' lays the variable. In a bare row this is a premise. The card (YtjfnaedcdmmigaaDoorCards.lean) ties it to the program's text. -/
def laid_unicode_utf8_acceptRanges {H : Type} : DataW H := .agg [.agg [.lit (.int .u8 128), .lit (.int .u8 191)], .agg [.lit (.int .u8 160), .lit (.int .u8 191)], .agg [.lit (.int .u8 128), .lit (.int .u8 159)], .agg [.lit (.int .u8 144), .lit (.int .u8 191)], .agg [.lit (.int .u8 128), .lit (.int .u8 143)], .agg [.lit (.int .u8 0), .lit (.int .u8 0)], .agg [.lit (.int .u8 0), .lit (.int .u8 0)], .agg [.lit (.int .u8 0), .lit (.int .u8 0)], .agg [.lit (.int .u8 0), .lit (.int .u8 0)], .agg [.lit (.int .u8 0), .lit (.int .u8 0)], .agg [.lit (.int .u8 0), .lit (.int .u8 0)], .agg [.lit (.int .u8 0), .lit (.int .u8 0)], .agg [.lit (.int .u8 0), .lit (.int .u8 0)], .agg [.lit (.int .u8 0), .lit (.int .u8 0)], .agg [.lit (.int .u8 0), .lit (.int .u8 0)], .agg [.lit (.int .u8 0), .lit (.int .u8 0)]]
/-- One of Go's own tables, pinned by name: the form's constant. -/
def laid_unicode_utf8_first : DataW Unit := Go.Pinned.utf8First

/-- 'pontoonlaw14.PursePlays': WHATEVER THE INPUT: true; the input reads as it did. -/
def pursePlaysSpec : ChangeSpec := { name := "pursePlays", fn := fun _ => fun
  | [d] => { results := [.lit (.bool true)], args := [d] }
  | _ => none }
def pursePlaysRow : OpenClaim := { program := "ytjfnaedcdmmigaadoor", sum := "1e7984a2553708c237fc0a0d3c5778aca6f13f833f898b9c9c7fe67b57870e20", func := "pontoon/pontoonlaw14.PursePlays", spec := "pursePlays", inPlace := ["slices.overlaps[pontoon/api.Token]", "math/bits.Add64", "slices.overlaps[pontoon/api.Holding]"], unfollowed := true, recurses := true, named := ["unicode/utf8.first", "unicode/utf8.acceptRanges"], apart := false, laid := [("unicode/utf8.acceptRanges", laid_unicode_utf8_acceptRanges), ("unicode/utf8.first", laid_unicode_utf8_first)] }
def PursePlaysSaid : Prop := pursePlaysRow.holds Tryd.pinned (OpenSpec.ofChange pursePlaysSpec)

/-- ITS FALSE NEIGHBOUR: 'it returns false'. Refute it at one input. -/
def pursePlaysWrong : ChangeSpec := { name := "pursePlays", fn := fun _ => fun
  | [d] => { results := [.lit (.bool false)], args := [d] }
  | _ => none }
def PursePlaysWrongFalsely : Prop := pursePlaysRow.holds Tryd.pinned (OpenSpec.ofChange pursePlaysWrong)

/-- 'pontoonlaw14.PurseSums': WHATEVER THE INPUT: true; the input reads as it did. -/
def purseSumsSpec : ChangeSpec := { name := "purseSums", fn := fun _ => fun
  | [d1, d2, d3, d4] => { results := [.lit (.bool true)], args := [d1, d2, d3, d4] }
  | _ => none }
def purseSumsRow : OpenClaim := { program := "ytjfnaedcdmmigaadoor", sum := "1e7984a2553708c237fc0a0d3c5778aca6f13f833f898b9c9c7fe67b57870e20", func := "pontoon/pontoonlaw14.PurseSums", spec := "purseSums", inPlace := ["slices.overlaps[pontoon/api.Token]", "math/bits.Add64", "slices.overlaps[pontoon/api.Holding]"], unfollowed := true, recurses := true, named := ["unicode/utf8.first", "unicode/utf8.acceptRanges"], apart := false, laid := [("unicode/utf8.acceptRanges", laid_unicode_utf8_acceptRanges), ("unicode/utf8.first", laid_unicode_utf8_first)] }
def PurseSumsSaid : Prop := purseSumsRow.holds Tryd.pinned (OpenSpec.ofChange purseSumsSpec)

/-- ITS FALSE NEIGHBOUR: 'it returns false'. Refute it at one input. -/
def purseSumsWrong : ChangeSpec := { name := "purseSums", fn := fun _ => fun
  | [d1, d2, d3, d4] => { results := [.lit (.bool false)], args := [d1, d2, d3, d4] }
  | _ => none }
def PurseSumsWrongFalsely : Prop := purseSumsRow.holds Tryd.pinned (OpenSpec.ofChange purseSumsWrong)

/-- 'pontoonlaw14.PurseBack': WHATEVER THE INPUT: true; the input reads as it did. -/
def purseBackSpec : ChangeSpec := { name := "purseBack", fn := fun _ => fun
  | [d1, d2] => { results := [.lit (.bool true)], args := [d1, d2] }
  | _ => none }
def purseBackRow : OpenClaim := { program := "ytjfnaedcdmmigaadoor", sum := "1e7984a2553708c237fc0a0d3c5778aca6f13f833f898b9c9c7fe67b57870e20", func := "pontoon/pontoonlaw14.PurseBack", spec := "purseBack", inPlace := ["slices.overlaps[pontoon/api.Token]", "math/bits.Add64", "slices.overlaps[pontoon/api.Holding]"], unfollowed := true, recurses := true, named := ["unicode/utf8.first", "unicode/utf8.acceptRanges"], apart := false, laid := [("unicode/utf8.acceptRanges", laid_unicode_utf8_acceptRanges), ("unicode/utf8.first", laid_unicode_utf8_first)] }
def PurseBackSaid : Prop := purseBackRow.holds Tryd.pinned (OpenSpec.ofChange purseBackSpec)

/-- ITS FALSE NEIGHBOUR: 'it returns false'. Refute it at one input. -/
def purseBackWrong : ChangeSpec := { name := "purseBack", fn := fun _ => fun
  | [d1, d2] => { results := [.lit (.bool false)], args := [d1, d2] }
  | _ => none }
def PurseBackWrongFalsely : Prop := purseBackRow.holds Tryd.pinned (OpenSpec.ofChange purseBackWrong)

/-- 'pontoonlaw18.RouterCrosses': WHATEVER THE INPUT: true; the input reads as it did. -/
def routerCrossesSpec : ChangeSpec := { name := "routerCrosses", fn := fun _ => fun
  | [d1, d2, d3] => { results := [.lit (.bool true)], args := [d1, d2, d3] }
  | _ => none }
def routerCrossesRow : OpenClaim := { program := "ytjfnaedcdmmigaadoor", sum := "1e7984a2553708c237fc0a0d3c5778aca6f13f833f898b9c9c7fe67b57870e20", func := "pontoon/pontoonlaw18.RouterCrosses", spec := "routerCrosses", inPlace := ["math/bits.Add64", "slices.overlaps[pontoon/api.Holding]", "slices.overlaps[pontoon/api.Token]"], unfollowed := true, recurses := true, named := ["unicode/utf8.first", "unicode/utf8.acceptRanges"], apart := false, laid := [("unicode/utf8.acceptRanges", laid_unicode_utf8_acceptRanges), ("unicode/utf8.first", laid_unicode_utf8_first)] }
def RouterCrossesSaid : Prop := routerCrossesRow.holds Tryd.pinned (OpenSpec.ofChange routerCrossesSpec)

/-- ITS FALSE NEIGHBOUR: 'it returns false'. Refute it at one input. -/
def routerCrossesWrong : ChangeSpec := { name := "routerCrosses", fn := fun _ => fun
  | [d1, d2, d3] => { results := [.lit (.bool false)], args := [d1, d2, d3] }
  | _ => none }
def RouterCrossesWrongFalsely : Prop := routerCrossesRow.holds Tryd.pinned (OpenSpec.ofChange routerCrossesWrong)

/- THE SECOND FORM. 'bulk': how many values and letters a reading holds, each counted each time it is reached (what is shared counts as often as it is met; a slice's spare places count too). A statement '..UptoSaid' is the law's where the arguments, and the package variables that the reading takes, are together of bulk at most 1048576: NARROWER than '..Said'. Prove '..Said' where nothing that the law and all that it calls make is longer than what came in: it says more and counts as full. Else prove '..UptoSaid'. A law counts once. -/
mutual
def uptoBulk {H : Type} : DataW H → Nat
  | .lit (.string bytes) => bytes.length + 1
  | .lit _ => 1
  | .nil => 1
  | .ptr d => uptoBulk d + 1
  | .slice elems spare => uptoBulkAll elems + uptoBulkAll spare + 1
  | .agg parts => uptoBulkAll parts + 1
  | .iface _ d => uptoBulk d + 1
  | .map entries => uptoBulkEntries entries + 1
  | .held _ => 1
def uptoBulkAll {H : Type} : List (DataW H) → Nat
  | [] => 0
  | d :: r => uptoBulk d + uptoBulkAll r
def uptoBulkEntries {H : Type} : List (Lit × DataW H) → Nat
  | [] => 0
  | x :: r => uptoBulkEntry x + uptoBulkEntries r
def uptoBulkEntry {H : Type} : Lit × DataW H → Nat
  | (.string bytes, d) => bytes.length + uptoBulk d + 1
  | (_, d) => uptoBulk d + 1
 end
def uptoSmall : (H : Type) → List (DataW H) → Bool := fun _ ds => decide (uptoBulkAll ds ≤ 1048576)
def OpenSpec.upto (s : _root_.Go.ChangeSpec) : _root_.Go.OpenSpec := { _root_.Go.OpenSpec.ofChange s with cond := some uptoSmall }

/-- 'pontoonlaw14.PursePlays', WHERE WHAT IT READS IS OF BULK AT MOST 1048576: true; the input reads as it did. -/
def pursePlaysUptoRow : OpenClaim := { program := "ytjfnaedcdmmigaadoor", sum := "1e7984a2553708c237fc0a0d3c5778aca6f13f833f898b9c9c7fe67b57870e20", func := "pontoon/pontoonlaw14.PursePlays", spec := "pursePlays", inPlace := ["slices.overlaps[pontoon/api.Token]", "math/bits.Add64", "slices.overlaps[pontoon/api.Holding]"], unfollowed := true, recurses := true, named := ["unicode/utf8.first", "unicode/utf8.acceptRanges"], apart := false, laid := [("unicode/utf8.acceptRanges", laid_unicode_utf8_acceptRanges), ("unicode/utf8.first", laid_unicode_utf8_first)], narrowed := true }
def PursePlaysUptoSaid : Prop := pursePlaysUptoRow.holds Tryd.pinned (OpenSpec.upto pursePlaysSpec)

/-- 'pontoonlaw14.PurseSums', WHERE WHAT IT READS IS OF BULK AT MOST 1048576: true; the input reads as it did. -/
def purseSumsUptoRow : OpenClaim := { program := "ytjfnaedcdmmigaadoor", sum := "1e7984a2553708c237fc0a0d3c5778aca6f13f833f898b9c9c7fe67b57870e20", func := "pontoon/pontoonlaw14.PurseSums", spec := "purseSums", inPlace := ["slices.overlaps[pontoon/api.Token]", "math/bits.Add64", "slices.overlaps[pontoon/api.Holding]"], unfollowed := true, recurses := true, named := ["unicode/utf8.first", "unicode/utf8.acceptRanges"], apart := false, laid := [("unicode/utf8.acceptRanges", laid_unicode_utf8_acceptRanges), ("unicode/utf8.first", laid_unicode_utf8_first)], narrowed := true }
def PurseSumsUptoSaid : Prop := purseSumsUptoRow.holds Tryd.pinned (OpenSpec.upto purseSumsSpec)

/-- 'pontoonlaw14.PurseBack', WHERE WHAT IT READS IS OF BULK AT MOST 1048576: true; the input reads as it did. -/
def purseBackUptoRow : OpenClaim := { program := "ytjfnaedcdmmigaadoor", sum := "1e7984a2553708c237fc0a0d3c5778aca6f13f833f898b9c9c7fe67b57870e20", func := "pontoon/pontoonlaw14.PurseBack", spec := "purseBack", inPlace := ["slices.overlaps[pontoon/api.Token]", "math/bits.Add64", "slices.overlaps[pontoon/api.Holding]"], unfollowed := true, recurses := true, named := ["unicode/utf8.first", "unicode/utf8.acceptRanges"], apart := false, laid := [("unicode/utf8.acceptRanges", laid_unicode_utf8_acceptRanges), ("unicode/utf8.first", laid_unicode_utf8_first)], narrowed := true }
def PurseBackUptoSaid : Prop := purseBackUptoRow.holds Tryd.pinned (OpenSpec.upto purseBackSpec)

/-- 'pontoonlaw18.RouterCrosses', WHERE WHAT IT READS IS OF BULK AT MOST 1048576: true; the input reads as it did. -/
def routerCrossesUptoRow : OpenClaim := { program := "ytjfnaedcdmmigaadoor", sum := "1e7984a2553708c237fc0a0d3c5778aca6f13f833f898b9c9c7fe67b57870e20", func := "pontoon/pontoonlaw18.RouterCrosses", spec := "routerCrosses", inPlace := ["math/bits.Add64", "slices.overlaps[pontoon/api.Holding]", "slices.overlaps[pontoon/api.Token]"], unfollowed := true, recurses := true, named := ["unicode/utf8.first", "unicode/utf8.acceptRanges"], apart := false, laid := [("unicode/utf8.acceptRanges", laid_unicode_utf8_acceptRanges), ("unicode/utf8.first", laid_unicode_utf8_first)], narrowed := true }
def RouterCrossesUptoSaid : Prop := routerCrossesUptoRow.holds Tryd.pinned (OpenSpec.upto routerCrossesSpec)

end Rows
end Go.Proofs.YtjfnaedcdmmigaaDoor
