/-
  No cell of these rows narrows 'for every input' (looked for: loops, veiled, ifaces, maps, wideKeys, modest, calm, conditions, laid).
  DERIVED. THE GIVEN ROWS OF THIS SEAT. 4 by the template 'for every input the law returns true; each argument reads behind the call as it read before'; 0 by the template 'total and deterministic' (their statements: YtjkpbkbgbgckaaaTotals.lean).
  GIVEN WITH THE SEED: the statements are not yours to turn. If you find one false, say at which input.
  Laid BY PROGRAM, IN A SANDBOX (cutbox-rows.mjs): the forced cells as the released guide's own fill.sh prints them over the translation 1a0f0e4defec9d28… (all of the seat's roots in one cut). By AI agents, Wed Nov 11 2026. No macro, syntax, notation, axiom, sorry.
-/
import Derived.Test.YtjkpbkbgbgckaaaChecked
import GoSem.Claim
import GoSem.ClaimJoined
import GoSem.ClaimMapViews
import Derived.JoinedTies
import Derived.KernelRfl
namespace Go.Proofs.Ytjkpbkbgbgckaaa
/- THE CELL 'sum', in the pinned program and in every row, IS THE sha256 OF THE DUMP (.gsa) THAT YtjkpbkbgbgckaaaProg.lean LOADS. Nothing in Lean hashes anything: it is a label: what it is worth is what the hold of that sum in a sandbox is worth. -/
noncomputable def Try.pinned : Pinned := { name := "ytjkpbkbgbgckaaa", sum := "1a0f0e4defec9d2832a0c6e727bd3f37851690d09168945737ebbbdfda36db1a", checked := Try.checked }
namespace Rows
def none {H : Type} : Left H := { results := [], args := [] }

/-- 'kerbsuitelaw6.TicketChecks': WHATEVER THE INPUT: true; the input reads as it did. -/
def ticketChecksSpec : ChangeSpec := { name := "ticketChecks", fn := fun _ => fun
  | [d1, d2, d3, d4, d5, d6] => { results := [.lit (.bool true)], args := [d1, d2, d3, d4, d5, d6] }
  | _ => none }
def ticketChecksRow : OpenClaim := { program := "ytjkpbkbgbgckaaa", sum := "1a0f0e4defec9d2832a0c6e727bd3f37851690d09168945737ebbbdfda36db1a", func := "kerbsuite/kerbsuitelaw6.TicketChecks", spec := "ticketChecks", inPlace := ["internal/bytealg.IndexByteString", "internal/bytealg.IndexString"], named := ["internal/bytealg.MaxLen"], apart := false }
def TicketChecksSaid : Prop := ticketChecksRow.holds Try.pinned (OpenSpec.ofChange ticketChecksSpec)

/-- ITS FALSE NEIGHBOUR: 'it returns false'. Refute it at one input. -/
def ticketChecksWrong : ChangeSpec := { name := "ticketChecks", fn := fun _ => fun
  | [d1, d2, d3, d4, d5, d6] => { results := [.lit (.bool false)], args := [d1, d2, d3, d4, d5, d6] }
  | _ => none }
def TicketChecksWrongFalsely : Prop := ticketChecksRow.holds Try.pinned (OpenSpec.ofChange ticketChecksWrong)

/-- 'kerbsuitelaw6.TicketEncodes': WHATEVER THE INPUT: true; the input reads as it did. -/
def ticketEncodesSpec : ChangeSpec := { name := "ticketEncodes", fn := fun _ => fun
  | [d1, d2] => { results := [.lit (.bool true)], args := [d1, d2] }
  | _ => none }
def ticketEncodesRow : OpenClaim := { program := "ytjkpbkbgbgckaaa", sum := "1a0f0e4defec9d2832a0c6e727bd3f37851690d09168945737ebbbdfda36db1a", func := "kerbsuite/kerbsuitelaw6.TicketEncodes", spec := "ticketEncodes", inPlace := ["internal/bytealg.IndexByteString", "internal/bytealg.IndexString", "internal/bytealg.IndexByte"], named := ["internal/bytealg.MaxLen"], apart := false }
def TicketEncodesSaid : Prop := ticketEncodesRow.holds Try.pinned (OpenSpec.ofChange ticketEncodesSpec)

/-- ITS FALSE NEIGHBOUR: 'it returns false'. Refute it at one input. -/
def ticketEncodesWrong : ChangeSpec := { name := "ticketEncodes", fn := fun _ => fun
  | [d1, d2] => { results := [.lit (.bool false)], args := [d1, d2] }
  | _ => none }
def TicketEncodesWrongFalsely : Prop := ticketEncodesRow.holds Try.pinned (OpenSpec.ofChange ticketEncodesWrong)

/-- 'kerbsuitelaw6.TicketDecodes': WHATEVER THE INPUT: true; the input reads as it did. -/
def ticketDecodesSpec : ChangeSpec := { name := "ticketDecodes", fn := fun _ => fun
  | [d1, d2, d3, d4] => { results := [.lit (.bool true)], args := [d1, d2, d3, d4] }
  | _ => none }
def ticketDecodesRow : OpenClaim := { program := "ytjkpbkbgbgckaaa", sum := "1a0f0e4defec9d2832a0c6e727bd3f37851690d09168945737ebbbdfda36db1a", func := "kerbsuite/kerbsuitelaw6.TicketDecodes", spec := "ticketDecodes", inPlace := ["internal/bytealg.IndexByteString", "internal/bytealg.IndexString", "internal/bytealg.IndexByte"], named := ["internal/bytealg.MaxLen"], apart := false }
def TicketDecodesSaid : Prop := ticketDecodesRow.holds Try.pinned (OpenSpec.ofChange ticketDecodesSpec)

/-- ITS FALSE NEIGHBOUR: 'it returns false'. Refute it at one input. -/
def ticketDecodesWrong : ChangeSpec := { name := "ticketDecodes", fn := fun _ => fun
  | [d1, d2, d3, d4] => { results := [.lit (.bool false)], args := [d1, d2, d3, d4] }
  | _ => none }
def TicketDecodesWrongFalsely : Prop := ticketDecodesRow.holds Try.pinned (OpenSpec.ofChange ticketDecodesWrong)

/-- 'kerbsuitelaw6.TicketOpens': WHATEVER THE INPUT: true; the input reads as it did. -/
def ticketOpensSpec : ChangeSpec := { name := "ticketOpens", fn := fun _ => fun
  | [d1, d2, d3] => { results := [.lit (.bool true)], args := [d1, d2, d3] }
  | _ => none }
def ticketOpensRow : OpenClaim := { program := "ytjkpbkbgbgckaaa", sum := "1a0f0e4defec9d2832a0c6e727bd3f37851690d09168945737ebbbdfda36db1a", func := "kerbsuite/kerbsuitelaw6.TicketOpens", spec := "ticketOpens", inPlace := ["internal/bytealg.IndexByteString", "internal/bytealg.IndexString", "internal/bytealg.IndexByte"], named := ["internal/bytealg.MaxLen"], apart := false }
def TicketOpensSaid : Prop := ticketOpensRow.holds Try.pinned (OpenSpec.ofChange ticketOpensSpec)

/-- ITS FALSE NEIGHBOUR: 'it returns false'. Refute it at one input. -/
def ticketOpensWrong : ChangeSpec := { name := "ticketOpens", fn := fun _ => fun
  | [d1, d2, d3] => { results := [.lit (.bool false)], args := [d1, d2, d3] }
  | _ => none }
def TicketOpensWrongFalsely : Prop := ticketOpensRow.holds Try.pinned (OpenSpec.ofChange ticketOpensWrong)

/- THE SECOND FORM. 'bulk': how many values and letters a reading holds, each counted each time it is reached (what is shared counts as often as it is met; a slice's spare places count too). A statement '..UptoSaid' is the law's where the arguments, and the package variables that the reading takes, are together of bulk at most 1048576: NARROWER than '..Said'. Prove '..Said' where nothing that the law and all that it calls make is longer than what came in: it says more and counts as full. Else prove '..UptoSaid'. A law counts once. -/
mutual
def uptoBulk {H : Type} : DataW H → Nat
  | .lit (.string bytes) => bytes.length + 1
  | .lit _ => 1
  | .nil => 1
  | .ptr d => uptoBulk d + 1
  | .slice elems spare => uptoBulkAll elems + uptoBulkAll spare + 1
  | .agg parts => uptoBulkAll parts + 1
  | .iface _ d => uptoBulk d + 1
  | .map entries => uptoBulkEntries entries + 1
  | .held _ => 1
def uptoBulkAll {H : Type} : List (DataW H) → Nat
  | [] => 0
  | d :: r => uptoBulk d + uptoBulkAll r
def uptoBulkEntries {H : Type} : List (Lit × DataW H) → Nat
  | [] => 0
  | x :: r => uptoBulkEntry x + uptoBulkEntries r
def uptoBulkEntry {H : Type} : Lit × DataW H → Nat
  | (.string bytes, d) => bytes.length + uptoBulk d + 1
  | (_, d) => uptoBulk d + 1
 end
def uptoSmall : (H : Type) → List (DataW H) → Bool := fun _ ds => decide (uptoBulkAll ds ≤ 1048576)
def OpenSpec.upto (s : _root_.Go.ChangeSpec) : _root_.Go.OpenSpec := { _root_.Go.OpenSpec.ofChange s with cond := some uptoSmall }

/-- 'kerbsuitelaw6.TicketChecks', WHERE WHAT IT READS IS OF BULK AT MOST 1048576: true; the input reads as it did. -/
def ticketChecksUptoRow : OpenClaim := { program := "ytjkpbkbgbgckaaa", sum := "1a0f0e4defec9d2832a0c6e727bd3f37851690d09168945737ebbbdfda36db1a", func := "kerbsuite/kerbsuitelaw6.TicketChecks", spec := "ticketChecks", inPlace := ["internal/bytealg.IndexByteString", "internal/bytealg.IndexString"], named := ["internal/bytealg.MaxLen"], apart := false, narrowed := true }
def TicketChecksUptoSaid : Prop := ticketChecksUptoRow.holds Try.pinned (OpenSpec.upto ticketChecksSpec)

/-- 'kerbsuitelaw6.TicketEncodes', WHERE WHAT IT READS IS OF BULK AT MOST 1048576: true; the input reads as it did. -/
def ticketEncodesUptoRow : OpenClaim := { program := "ytjkpbkbgbgckaaa", sum := "1a0f0e4defec9d2832a0c6e727bd3f37851690d09168945737ebbbdfda36db1a", func := "kerbsuite/kerbsuitelaw6.TicketEncodes", spec := "ticketEncodes", inPlace := ["internal/bytealg.IndexByteString", "internal/bytealg.IndexString", "internal/bytealg.IndexByte"], named := ["internal/bytealg.MaxLen"], apart := false, narrowed := true }
def TicketEncodesUptoSaid : Prop := ticketEncodesUptoRow.holds Try.pinned (OpenSpec.upto ticketEncodesSpec)

/-- 'kerbsuitelaw6.TicketDecodes', WHERE WHAT IT READS IS OF BULK AT MOST 1048576: true; the input reads as it did. -/
def ticketDecodesUptoRow : OpenClaim := { program := "ytjkpbkbgbgckaaa", sum := "1a0f0e4defec9d2832a0c6e727bd3f37851690d09168945737ebbbdfda36db1a", func := "kerbsuite/kerbsuitelaw6.TicketDecodes", spec := "ticketDecodes", inPlace := ["internal/bytealg.IndexByteString", "internal/bytealg.IndexString", "internal/bytealg.IndexByte"], named := ["internal/bytealg.MaxLen"], apart := false, narrowed := true }
def TicketDecodesUptoSaid : Prop := ticketDecodesUptoRow.holds Try.pinned (OpenSpec.upto ticketDecodesSpec)

/-- 'kerbsuitelaw6.TicketOpens', WHERE WHAT IT READS IS OF BULK AT MOST 1048576: true; the input reads as it did. -/
def ticketOpensUptoRow : OpenClaim := { program := "ytjkpbkbgbgckaaa", sum := "1a0f0e4defec9d2832a0c6e727bd3f37851690d09168945737ebbbdfda36db1a", func := "kerbsuite/kerbsuitelaw6.TicketOpens", spec := "ticketOpens", inPlace := ["internal/bytealg.IndexByteString", "internal/bytealg.IndexString", "internal/bytealg.IndexByte"], named := ["internal/bytealg.MaxLen"], apart := false, narrowed := true }
def TicketOpensUptoSaid : Prop := ticketOpensUptoRow.holds Try.pinned (OpenSpec.upto ticketOpensSpec)

end Rows
end Go.Proofs.Ytjkpbkbgbgckaaa
