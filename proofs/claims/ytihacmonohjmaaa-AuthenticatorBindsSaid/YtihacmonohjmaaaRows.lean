/-
  No cell of these rows narrows 'for every input' (looked for: loops, veiled, ifaces, maps, wideKeys, modest, calm, conditions, laid).
  DERIVED. THE GIVEN ROWS OF THIS SEAT. 5 by the template 'for every input the law returns true; each argument reads behind the call as it read before'; 0 by the template 'total and deterministic' (their statements: YtihacmonohjmaaaTotals.lean).
  GIVEN WITH THE SEED: the statements are not yours to turn. If you find one false, say at which input.
  Laid BY PROGRAM, IN A SANDBOX (cutbox-rows.mjs): the forced cells as the released guide's own fill.sh prints them over the translation 45c1c4e05e325a3e… (all of the seat's roots in one cut). By AI agents, Wed Nov 11 2026. No macro, syntax, notation, axiom, sorry.
-/
import Derived.Test.YtihacmonohjmaaaChecked
import GoSem.Claim
import GoSem.ClaimJoined
import GoSem.ClaimMapViews
import Derived.JoinedTies
import Derived.KernelRfl
namespace Go.Proofs.Ytihacmonohjmaaa
/- THE CELL 'sum', in the pinned program and in every row, IS THE sha256 OF THE DUMP (.gsa) THAT YtihacmonohjmaaaProg.lean LOADS. Nothing in Lean hashes anything: it is a label: what it is worth is what the hold of that sum in a sandbox is worth. -/
noncomputable def Try.pinned : Pinned := { name := "ytihacmonohjmaaa", sum := "45c1c4e05e325a3ea05e06b13032dd896eb5db2a61bd7cde6139b06aef71fd73", checked := Try.checked }
namespace Rows
def none {H : Type} : Left H := { results := [], args := [] }

/-- 'kerbsuitelaw7.AuthenticatorChecks': WHATEVER THE INPUT: true; the input reads as it did. -/
def authenticatorChecksSpec : ChangeSpec := { name := "authenticatorChecks", fn := fun _ => fun
  | [d1, d2, d3, d4, d5, d6] => { results := [.lit (.bool true)], args := [d1, d2, d3, d4, d5, d6] }
  | _ => none }
def authenticatorChecksRow : OpenClaim := { program := "ytihacmonohjmaaa", sum := "45c1c4e05e325a3ea05e06b13032dd896eb5db2a61bd7cde6139b06aef71fd73", func := "kerbsuite/kerbsuitelaw7.AuthenticatorChecks", spec := "authenticatorChecks", inPlace := ["internal/bytealg.IndexByteString", "internal/bytealg.IndexString"], named := ["internal/bytealg.MaxLen"], apart := false }
def AuthenticatorChecksSaid : Prop := authenticatorChecksRow.holds Try.pinned (OpenSpec.ofChange authenticatorChecksSpec)

/-- ITS FALSE NEIGHBOUR: 'it returns false'. Refute it at one input. -/
def authenticatorChecksWrong : ChangeSpec := { name := "authenticatorChecks", fn := fun _ => fun
  | [d1, d2, d3, d4, d5, d6] => { results := [.lit (.bool false)], args := [d1, d2, d3, d4, d5, d6] }
  | _ => none }
def AuthenticatorChecksWrongFalsely : Prop := authenticatorChecksRow.holds Try.pinned (OpenSpec.ofChange authenticatorChecksWrong)

/-- 'kerbsuitelaw7.AuthenticatorEncodes': WHATEVER THE INPUT: true; the input reads as it did. -/
def authenticatorEncodesSpec : ChangeSpec := { name := "authenticatorEncodes", fn := fun _ => fun
  | [d1, d2, d3] => { results := [.lit (.bool true)], args := [d1, d2, d3] }
  | _ => none }
def authenticatorEncodesRow : OpenClaim := { program := "ytihacmonohjmaaa", sum := "45c1c4e05e325a3ea05e06b13032dd896eb5db2a61bd7cde6139b06aef71fd73", func := "kerbsuite/kerbsuitelaw7.AuthenticatorEncodes", spec := "authenticatorEncodes", inPlace := ["internal/bytealg.IndexByteString", "internal/bytealg.IndexString", "internal/bytealg.IndexByte"], named := ["internal/bytealg.MaxLen"], apart := false }
def AuthenticatorEncodesSaid : Prop := authenticatorEncodesRow.holds Try.pinned (OpenSpec.ofChange authenticatorEncodesSpec)

/-- ITS FALSE NEIGHBOUR: 'it returns false'. Refute it at one input. -/
def authenticatorEncodesWrong : ChangeSpec := { name := "authenticatorEncodes", fn := fun _ => fun
  | [d1, d2, d3] => { results := [.lit (.bool false)], args := [d1, d2, d3] }
  | _ => none }
def AuthenticatorEncodesWrongFalsely : Prop := authenticatorEncodesRow.holds Try.pinned (OpenSpec.ofChange authenticatorEncodesWrong)

/-- 'kerbsuitelaw7.AuthenticatorDecodes': WHATEVER THE INPUT: true; the input reads as it did. -/
def authenticatorDecodesSpec : ChangeSpec := { name := "authenticatorDecodes", fn := fun _ => fun
  | [d1, d2, d3, d4, d5] => { results := [.lit (.bool true)], args := [d1, d2, d3, d4, d5] }
  | _ => none }
def authenticatorDecodesRow : OpenClaim := { program := "ytihacmonohjmaaa", sum := "45c1c4e05e325a3ea05e06b13032dd896eb5db2a61bd7cde6139b06aef71fd73", func := "kerbsuite/kerbsuitelaw7.AuthenticatorDecodes", spec := "authenticatorDecodes", inPlace := ["internal/bytealg.IndexByteString", "internal/bytealg.IndexString", "internal/bytealg.IndexByte"], named := ["internal/bytealg.MaxLen"], apart := false }
def AuthenticatorDecodesSaid : Prop := authenticatorDecodesRow.holds Try.pinned (OpenSpec.ofChange authenticatorDecodesSpec)

/-- ITS FALSE NEIGHBOUR: 'it returns false'. Refute it at one input. -/
def authenticatorDecodesWrong : ChangeSpec := { name := "authenticatorDecodes", fn := fun _ => fun
  | [d1, d2, d3, d4, d5] => { results := [.lit (.bool false)], args := [d1, d2, d3, d4, d5] }
  | _ => none }
def AuthenticatorDecodesWrongFalsely : Prop := authenticatorDecodesRow.holds Try.pinned (OpenSpec.ofChange authenticatorDecodesWrong)

/-- 'kerbsuitelaw7.AuthenticatorSeals': WHATEVER THE INPUT: true; the input reads as it did. -/
def authenticatorSealsSpec : ChangeSpec := { name := "authenticatorSeals", fn := fun _ => fun
  | [d1, d2, d3, d4, d5, d6, d7] => { results := [.lit (.bool true)], args := [d1, d2, d3, d4, d5, d6, d7] }
  | _ => none }
def authenticatorSealsRow : OpenClaim := { program := "ytihacmonohjmaaa", sum := "45c1c4e05e325a3ea05e06b13032dd896eb5db2a61bd7cde6139b06aef71fd73", func := "kerbsuite/kerbsuitelaw7.AuthenticatorSeals", spec := "authenticatorSeals", inPlace := ["internal/bytealg.IndexByteString", "internal/bytealg.IndexString", "internal/bytealg.IndexByte"], named := ["internal/bytealg.MaxLen"], apart := false }
def AuthenticatorSealsSaid : Prop := authenticatorSealsRow.holds Try.pinned (OpenSpec.ofChange authenticatorSealsSpec)

/-- ITS FALSE NEIGHBOUR: 'it returns false'. Refute it at one input. -/
def authenticatorSealsWrong : ChangeSpec := { name := "authenticatorSeals", fn := fun _ => fun
  | [d1, d2, d3, d4, d5, d6, d7] => { results := [.lit (.bool false)], args := [d1, d2, d3, d4, d5, d6, d7] }
  | _ => none }
def AuthenticatorSealsWrongFalsely : Prop := authenticatorSealsRow.holds Try.pinned (OpenSpec.ofChange authenticatorSealsWrong)

/-- 'kerbsuitelaw7.AuthenticatorBinds': WHATEVER THE INPUT: true; the input reads as it did. -/
def authenticatorBindsSpec : ChangeSpec := { name := "authenticatorBinds", fn := fun _ => fun
  | [d1, d2, d3, d4, d5] => { results := [.lit (.bool true)], args := [d1, d2, d3, d4, d5] }
  | _ => none }
def authenticatorBindsRow : OpenClaim := { program := "ytihacmonohjmaaa", sum := "45c1c4e05e325a3ea05e06b13032dd896eb5db2a61bd7cde6139b06aef71fd73", func := "kerbsuite/kerbsuitelaw7.AuthenticatorBinds", spec := "authenticatorBinds", inPlace := ["internal/bytealg.IndexByteString", "internal/bytealg.IndexString", "internal/bytealg.IndexByte"], named := ["internal/bytealg.MaxLen"], apart := false }
def AuthenticatorBindsSaid : Prop := authenticatorBindsRow.holds Try.pinned (OpenSpec.ofChange authenticatorBindsSpec)

/-- ITS FALSE NEIGHBOUR: 'it returns false'. Refute it at one input. -/
def authenticatorBindsWrong : ChangeSpec := { name := "authenticatorBinds", fn := fun _ => fun
  | [d1, d2, d3, d4, d5] => { results := [.lit (.bool false)], args := [d1, d2, d3, d4, d5] }
  | _ => none }
def AuthenticatorBindsWrongFalsely : Prop := authenticatorBindsRow.holds Try.pinned (OpenSpec.ofChange authenticatorBindsWrong)

/- THE SECOND FORM. 'bulk': how many values and letters a reading holds, each counted each time it is reached (what is shared counts as often as it is met; a slice's spare places count too). A statement '..UptoSaid' is the law's where the arguments, and the package variables that the reading takes, are together of bulk at most 1048576: NARROWER than '..Said'. Prove '..Said' where nothing that the law and all that it calls make is longer than what came in: it says more and counts as full. Else prove '..UptoSaid'. A law counts once. -/
mutual
def uptoBulk {H : Type} : DataW H → Nat
  | .lit (.string bytes) => bytes.length + 1
  | .lit _ => 1
  | .nil => 1
  | .ptr d => uptoBulk d + 1
  | .slice elems spare => uptoBulkAll elems + uptoBulkAll spare + 1
  | .agg parts => uptoBulkAll parts + 1
  | .iface _ d => uptoBulk d + 1
  | .map entries => uptoBulkEntries entries + 1
  | .held _ => 1
def uptoBulkAll {H : Type} : List (DataW H) → Nat
  | [] => 0
  | d :: r => uptoBulk d + uptoBulkAll r
def uptoBulkEntries {H : Type} : List (Lit × DataW H) → Nat
  | [] => 0
  | x :: r => uptoBulkEntry x + uptoBulkEntries r
def uptoBulkEntry {H : Type} : Lit × DataW H → Nat
  | (.string bytes, d) => bytes.length + uptoBulk d + 1
  | (_, d) => uptoBulk d + 1
 end
def uptoSmall : (H : Type) → List (DataW H) → Bool := fun _ ds => decide (uptoBulkAll ds ≤ 1048576)
def OpenSpec.upto (s : _root_.Go.ChangeSpec) : _root_.Go.OpenSpec := { _root_.Go.OpenSpec.ofChange s with cond := some uptoSmall }

/-- 'kerbsuitelaw7.AuthenticatorChecks', WHERE WHAT IT READS IS OF BULK AT MOST 1048576: true; the input reads as it did. -/
def authenticatorChecksUptoRow : OpenClaim := { program := "ytihacmonohjmaaa", sum := "45c1c4e05e325a3ea05e06b13032dd896eb5db2a61bd7cde6139b06aef71fd73", func := "kerbsuite/kerbsuitelaw7.AuthenticatorChecks", spec := "authenticatorChecks", inPlace := ["internal/bytealg.IndexByteString", "internal/bytealg.IndexString"], named := ["internal/bytealg.MaxLen"], apart := false, narrowed := true }
def AuthenticatorChecksUptoSaid : Prop := authenticatorChecksUptoRow.holds Try.pinned (OpenSpec.upto authenticatorChecksSpec)

/-- 'kerbsuitelaw7.AuthenticatorEncodes', WHERE WHAT IT READS IS OF BULK AT MOST 1048576: true; the input reads as it did. -/
def authenticatorEncodesUptoRow : OpenClaim := { program := "ytihacmonohjmaaa", sum := "45c1c4e05e325a3ea05e06b13032dd896eb5db2a61bd7cde6139b06aef71fd73", func := "kerbsuite/kerbsuitelaw7.AuthenticatorEncodes", spec := "authenticatorEncodes", inPlace := ["internal/bytealg.IndexByteString", "internal/bytealg.IndexString", "internal/bytealg.IndexByte"], named := ["internal/bytealg.MaxLen"], apart := false, narrowed := true }
def AuthenticatorEncodesUptoSaid : Prop := authenticatorEncodesUptoRow.holds Try.pinned (OpenSpec.upto authenticatorEncodesSpec)

/-- 'kerbsuitelaw7.AuthenticatorDecodes', WHERE WHAT IT READS IS OF BULK AT MOST 1048576: true; the input reads as it did. -/
def authenticatorDecodesUptoRow : OpenClaim := { program := "ytihacmonohjmaaa", sum := "45c1c4e05e325a3ea05e06b13032dd896eb5db2a61bd7cde6139b06aef71fd73", func := "kerbsuite/kerbsuitelaw7.AuthenticatorDecodes", spec := "authenticatorDecodes", inPlace := ["internal/bytealg.IndexByteString", "internal/bytealg.IndexString", "internal/bytealg.IndexByte"], named := ["internal/bytealg.MaxLen"], apart := false, narrowed := true }
def AuthenticatorDecodesUptoSaid : Prop := authenticatorDecodesUptoRow.holds Try.pinned (OpenSpec.upto authenticatorDecodesSpec)

/-- 'kerbsuitelaw7.AuthenticatorSeals', WHERE WHAT IT READS IS OF BULK AT MOST 1048576: true; the input reads as it did. -/
def authenticatorSealsUptoRow : OpenClaim := { program := "ytihacmonohjmaaa", sum := "45c1c4e05e325a3ea05e06b13032dd896eb5db2a61bd7cde6139b06aef71fd73", func := "kerbsuite/kerbsuitelaw7.AuthenticatorSeals", spec := "authenticatorSeals", inPlace := ["internal/bytealg.IndexByteString", "internal/bytealg.IndexString", "internal/bytealg.IndexByte"], named := ["internal/bytealg.MaxLen"], apart := false, narrowed := true }
def AuthenticatorSealsUptoSaid : Prop := authenticatorSealsUptoRow.holds Try.pinned (OpenSpec.upto authenticatorSealsSpec)

/-- 'kerbsuitelaw7.AuthenticatorBinds', WHERE WHAT IT READS IS OF BULK AT MOST 1048576: true; the input reads as it did. -/
def authenticatorBindsUptoRow : OpenClaim := { program := "ytihacmonohjmaaa", sum := "45c1c4e05e325a3ea05e06b13032dd896eb5db2a61bd7cde6139b06aef71fd73", func := "kerbsuite/kerbsuitelaw7.AuthenticatorBinds", spec := "authenticatorBinds", inPlace := ["internal/bytealg.IndexByteString", "internal/bytealg.IndexString", "internal/bytealg.IndexByte"], named := ["internal/bytealg.MaxLen"], apart := false, narrowed := true }
def AuthenticatorBindsUptoSaid : Prop := authenticatorBindsUptoRow.holds Try.pinned (OpenSpec.upto authenticatorBindsSpec)

end Rows
end Go.Proofs.Ytihacmonohjmaaa
