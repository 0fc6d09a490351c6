/-
  No cell of these rows narrows 'for every input' (looked for: loops, veiled, ifaces, maps, wideKeys, modest, calm, conditions, laid).
  DERIVED. THE GIVEN ROWS OF THIS SEAT. 3 by the template 'for every input the law returns true; each argument reads behind the call as it read before'; 0 by the template 'total and deterministic' (their statements: YtlanplknendmaaaTotals.lean).
  GIVEN WITH THE SEED: the statements are not yours to turn. If you find one false, say at which input.
  Laid BY PROGRAM, IN A SANDBOX (cutbox-rows.mjs): the forced cells as the released guide's own fill.sh prints them over the translation fe8de3bf5023d197… (all of the seat's roots in one cut). By AI agents, Wed Nov 11 2026. No macro, syntax, notation, axiom, sorry.
-/
import Derived.Test.YtlanplknendmaaaChecked
import GoSem.Claim
import GoSem.ClaimJoined
import GoSem.ClaimMapViews
import Derived.JoinedTies
import Derived.KernelRfl
namespace Go.Proofs.Ytlanplknendmaaa
/- THE CELL 'sum', in the pinned program and in every row, IS THE sha256 OF THE DUMP (.gsa) THAT YtlanplknendmaaaProg.lean LOADS. Nothing in Lean hashes anything: it is a label: what it is worth is what the hold of that sum in a sandbox is worth. -/
noncomputable def Try.pinned : Pinned := { name := "ytlanplknendmaaa", sum := "fe8de3bf5023d197c0d2e1e143b8c575a35a28ccfcfb5e00ea6df1b9429ad70a", checked := Try.checked }
namespace Rows
def none {H : Type} : Left H := { results := [], args := [] }

/-- 'pontoonlaw11.PayloadBytes': WHATEVER THE INPUT: true; the input reads as it did. -/
def payloadBytesSpec : ChangeSpec := { name := "payloadBytes", fn := fun _ => fun
  | [d1, d2] => { results := [.lit (.bool true)], args := [d1, d2] }
  | _ => none }
def payloadBytesRow : OpenClaim := { program := "ytlanplknendmaaa", sum := "fe8de3bf5023d197c0d2e1e143b8c575a35a28ccfcfb5e00ea6df1b9429ad70a", func := "pontoon/pontoonlaw11.PayloadBytes", spec := "payloadBytes", unfollowed := true, recurses := true, apart := false }
def PayloadBytesSaid : Prop := payloadBytesRow.holds Try.pinned (OpenSpec.ofChange payloadBytesSpec)

/-- ITS FALSE NEIGHBOUR: 'it returns false'. Refute it at one input. -/
def payloadBytesWrong : ChangeSpec := { name := "payloadBytes", fn := fun _ => fun
  | [d1, d2] => { results := [.lit (.bool false)], args := [d1, d2] }
  | _ => none }
def PayloadBytesWrongFalsely : Prop := payloadBytesRow.holds Try.pinned (OpenSpec.ofChange payloadBytesWrong)

/-- 'pontoonlaw11.PayloadKinds': WHATEVER THE INPUT: true; the input reads as it did. -/
def payloadKindsSpec : ChangeSpec := { name := "payloadKinds", fn := fun _ => fun
  | [d1, d2] => { results := [.lit (.bool true)], args := [d1, d2] }
  | _ => none }
def payloadKindsRow : OpenClaim := { program := "ytlanplknendmaaa", sum := "fe8de3bf5023d197c0d2e1e143b8c575a35a28ccfcfb5e00ea6df1b9429ad70a", func := "pontoon/pontoonlaw11.PayloadKinds", spec := "payloadKinds", unfollowed := true, recurses := true, apart := false }
def PayloadKindsSaid : Prop := payloadKindsRow.holds Try.pinned (OpenSpec.ofChange payloadKindsSpec)

/-- ITS FALSE NEIGHBOUR: 'it returns false'. Refute it at one input. -/
def payloadKindsWrong : ChangeSpec := { name := "payloadKinds", fn := fun _ => fun
  | [d1, d2] => { results := [.lit (.bool false)], args := [d1, d2] }
  | _ => none }
def PayloadKindsWrongFalsely : Prop := payloadKindsRow.holds Try.pinned (OpenSpec.ofChange payloadKindsWrong)

/-- 'pontoonlaw11.PayloadBack': WHATEVER THE INPUT: true; the input reads as it did. -/
def payloadBackSpec : ChangeSpec := { name := "payloadBack", fn := fun _ => fun
  | [d1, d2] => { results := [.lit (.bool true)], args := [d1, d2] }
  | _ => none }
def payloadBackRow : OpenClaim := { program := "ytlanplknendmaaa", sum := "fe8de3bf5023d197c0d2e1e143b8c575a35a28ccfcfb5e00ea6df1b9429ad70a", func := "pontoon/pontoonlaw11.PayloadBack", spec := "payloadBack", unfollowed := true, recurses := true, apart := false }
def PayloadBackSaid : Prop := payloadBackRow.holds Try.pinned (OpenSpec.ofChange payloadBackSpec)

/-- ITS FALSE NEIGHBOUR: 'it returns false'. Refute it at one input. -/
def payloadBackWrong : ChangeSpec := { name := "payloadBack", fn := fun _ => fun
  | [d1, d2] => { results := [.lit (.bool false)], args := [d1, d2] }
  | _ => none }
def PayloadBackWrongFalsely : Prop := payloadBackRow.holds Try.pinned (OpenSpec.ofChange payloadBackWrong)

/- THE SECOND FORM. 'bulk': how many values and letters a reading holds, each counted each time it is reached (what is shared counts as often as it is met; a slice's spare places count too). A statement '..UptoSaid' is the law's where the arguments, and the package variables that the reading takes, are together of bulk at most 1048576: NARROWER than '..Said'. Prove '..Said' where nothing that the law and all that it calls make is longer than what came in: it says more and counts as full. Else prove '..UptoSaid'. A law counts once. -/
mutual
def uptoBulk {H : Type} : DataW H → Nat
  | .lit (.string bytes) => bytes.length + 1
  | .lit _ => 1
  | .nil => 1
  | .ptr d => uptoBulk d + 1
  | .slice elems spare => uptoBulkAll elems + uptoBulkAll spare + 1
  | .agg parts => uptoBulkAll parts + 1
  | .iface _ d => uptoBulk d + 1
  | .map entries => uptoBulkEntries entries + 1
  | .held _ => 1
def uptoBulkAll {H : Type} : List (DataW H) → Nat
  | [] => 0
  | d :: r => uptoBulk d + uptoBulkAll r
def uptoBulkEntries {H : Type} : List (Lit × DataW H) → Nat
  | [] => 0
  | x :: r => uptoBulkEntry x + uptoBulkEntries r
def uptoBulkEntry {H : Type} : Lit × DataW H → Nat
  | (.string bytes, d) => bytes.length + uptoBulk d + 1
  | (_, d) => uptoBulk d + 1
 end
def uptoSmall : (H : Type) → List (DataW H) → Bool := fun _ ds => decide (uptoBulkAll ds ≤ 1048576)
def OpenSpec.upto (s : _root_.Go.ChangeSpec) : _root_.Go.OpenSpec := { _root_.Go.OpenSpec.ofChange s with cond := some uptoSmall }

/-- 'pontoonlaw11.PayloadBytes', WHERE WHAT IT READS IS OF BULK AT MOST 1048576: true; the input reads as it did. -/
def payloadBytesUptoRow : OpenClaim := { program := "ytlanplknendmaaa", sum := "fe8de3bf5023d197c0d2e1e143b8c575a35a28ccfcfb5e00ea6df1b9429ad70a", func := "pontoon/pontoonlaw11.PayloadBytes", spec := "payloadBytes", unfollowed := true, recurses := true, apart := false, narrowed := true }
def PayloadBytesUptoSaid : Prop := payloadBytesUptoRow.holds Try.pinned (OpenSpec.upto payloadBytesSpec)

/-- 'pontoonlaw11.PayloadKinds', WHERE WHAT IT READS IS OF BULK AT MOST 1048576: true; the input reads as it did. -/
def payloadKindsUptoRow : OpenClaim := { program := "ytlanplknendmaaa", sum := "fe8de3bf5023d197c0d2e1e143b8c575a35a28ccfcfb5e00ea6df1b9429ad70a", func := "pontoon/pontoonlaw11.PayloadKinds", spec := "payloadKinds", unfollowed := true, recurses := true, apart := false, narrowed := true }
def PayloadKindsUptoSaid : Prop := payloadKindsUptoRow.holds Try.pinned (OpenSpec.upto payloadKindsSpec)

/-- 'pontoonlaw11.PayloadBack', WHERE WHAT IT READS IS OF BULK AT MOST 1048576: true; the input reads as it did. -/
def payloadBackUptoRow : OpenClaim := { program := "ytlanplknendmaaa", sum := "fe8de3bf5023d197c0d2e1e143b8c575a35a28ccfcfb5e00ea6df1b9429ad70a", func := "pontoon/pontoonlaw11.PayloadBack", spec := "payloadBack", unfollowed := true, recurses := true, apart := false, narrowed := true }
def PayloadBackUptoSaid : Prop := payloadBackUptoRow.holds Try.pinned (OpenSpec.upto payloadBackSpec)

end Rows
end Go.Proofs.Ytlanplknendmaaa
