/-
  No cell of these rows narrows 'for every input' (looked for: loops, veiled, ifaces, maps, wideKeys, modest, calm, conditions, laid).
  DERIVED. THE GIVEN ROWS OF THIS SEAT. 5 by the template 'for every input the law returns true; each argument reads behind the call as it read before'; 0 by the template 'total and deterministic' (their statements: YtlmifbbmppenoaaTotals.lean).
  GIVEN WITH THE SEED: the statements are not yours to turn. If you find one false, say at which input.
  Laid BY PROGRAM, IN A SANDBOX (cutbox-rows.mjs): the forced cells as the released guide's own fill.sh prints them over the translation 942cc395d18d349f… (all of the seat's roots in one cut). By AI agents, Wed Nov 11 2026. No macro, syntax, notation, axiom, sorry.
-/
import Derived.Test.YtlmifbbmppenoaaChecked
import GoSem.Claim
import GoSem.ClaimJoined
import GoSem.ClaimMapViews
import Derived.JoinedTies
import Derived.KernelRfl
namespace Go.Proofs.Ytlmifbbmppenoaa
/- THE CELL 'sum', in the pinned program and in every row, IS THE sha256 OF THE DUMP (.gsa) THAT YtlmifbbmppenoaaProg.lean LOADS. Nothing in Lean hashes anything: it is a label: what it is worth is what the hold of that sum in a sandbox is worth. -/
noncomputable def Try.pinned : Pinned := { name := "ytlmifbbmppenoaa", sum := "942cc395d18d349f44a5e694cf65d72fafedbc5dd63a64fb64b68fd618540243", checked := Try.checked }
namespace Rows
def none {H : Type} : Left H := { results := [], args := [] }

/-- 'kerbsuitelaw3.KeyMakes': WHATEVER THE INPUT: true; the input reads as it did. -/
def keyMakesSpec : ChangeSpec := { name := "keyMakes", fn := fun _ => fun
  | [d1, d2, d3, d4] => { results := [.lit (.bool true)], args := [d1, d2, d3, d4] }
  | _ => none }
def keyMakesRow : OpenClaim := { program := "ytlmifbbmppenoaa", sum := "942cc395d18d349f44a5e694cf65d72fafedbc5dd63a64fb64b68fd618540243", func := "kerbsuite/kerbsuitelaw3.KeyMakes", spec := "keyMakes", apart := false }
def KeyMakesSaid : Prop := keyMakesRow.holds Try.pinned (OpenSpec.ofChange keyMakesSpec)

/-- ITS FALSE NEIGHBOUR: 'it returns false'. Refute it at one input. -/
def keyMakesWrong : ChangeSpec := { name := "keyMakes", fn := fun _ => fun
  | [d1, d2, d3, d4] => { results := [.lit (.bool false)], args := [d1, d2, d3, d4] }
  | _ => none }
def KeyMakesWrongFalsely : Prop := keyMakesRow.holds Try.pinned (OpenSpec.ofChange keyMakesWrong)

/-- 'kerbsuitelaw3.KeyBytes': WHATEVER THE INPUT: true; the input reads as it did. -/
def keyBytesSpec : ChangeSpec := { name := "keyBytes", fn := fun _ => fun
  | [d1, d2, d3, d4, d5] => { results := [.lit (.bool true)], args := [d1, d2, d3, d4, d5] }
  | _ => none }
def keyBytesRow : OpenClaim := { program := "ytlmifbbmppenoaa", sum := "942cc395d18d349f44a5e694cf65d72fafedbc5dd63a64fb64b68fd618540243", func := "kerbsuite/kerbsuitelaw3.KeyBytes", spec := "keyBytes", apart := false }
def KeyBytesSaid : Prop := keyBytesRow.holds Try.pinned (OpenSpec.ofChange keyBytesSpec)

/-- ITS FALSE NEIGHBOUR: 'it returns false'. Refute it at one input. -/
def keyBytesWrong : ChangeSpec := { name := "keyBytes", fn := fun _ => fun
  | [d1, d2, d3, d4, d5] => { results := [.lit (.bool false)], args := [d1, d2, d3, d4, d5] }
  | _ => none }
def KeyBytesWrongFalsely : Prop := keyBytesRow.holds Try.pinned (OpenSpec.ofChange keyBytesWrong)

/-- 'kerbsuitelaw3.KeyLists': WHATEVER THE INPUT: true; the input reads as it did. -/
def keyListsSpec : ChangeSpec := { name := "keyLists", fn := fun _ => fun
  | [d1, d2, d3, d4] => { results := [.lit (.bool true)], args := [d1, d2, d3, d4] }
  | _ => none }
def keyListsRow : OpenClaim := { program := "ytlmifbbmppenoaa", sum := "942cc395d18d349f44a5e694cf65d72fafedbc5dd63a64fb64b68fd618540243", func := "kerbsuite/kerbsuitelaw3.KeyLists", spec := "keyLists", apart := false }
def KeyListsSaid : Prop := keyListsRow.holds Try.pinned (OpenSpec.ofChange keyListsSpec)

/-- ITS FALSE NEIGHBOUR: 'it returns false'. Refute it at one input. -/
def keyListsWrong : ChangeSpec := { name := "keyLists", fn := fun _ => fun
  | [d1, d2, d3, d4] => { results := [.lit (.bool false)], args := [d1, d2, d3, d4] }
  | _ => none }
def KeyListsWrongFalsely : Prop := keyListsRow.holds Try.pinned (OpenSpec.ofChange keyListsWrong)

/-- 'kerbsuitelaw3.KeyDraws': WHATEVER THE INPUT: true; the input reads as it did. -/
def keyDrawsSpec : ChangeSpec := { name := "keyDraws", fn := fun _ => fun
  | [d1, d2, d3, d4, d5, d6] => { results := [.lit (.bool true)], args := [d1, d2, d3, d4, d5, d6] }
  | _ => none }
def keyDrawsRow : OpenClaim := { program := "ytlmifbbmppenoaa", sum := "942cc395d18d349f44a5e694cf65d72fafedbc5dd63a64fb64b68fd618540243", func := "kerbsuite/kerbsuitelaw3.KeyDraws", spec := "keyDraws", apart := false }
def KeyDrawsSaid : Prop := keyDrawsRow.holds Try.pinned (OpenSpec.ofChange keyDrawsSpec)

/-- ITS FALSE NEIGHBOUR: 'it returns false'. Refute it at one input. -/
def keyDrawsWrong : ChangeSpec := { name := "keyDraws", fn := fun _ => fun
  | [d1, d2, d3, d4, d5, d6] => { results := [.lit (.bool false)], args := [d1, d2, d3, d4, d5, d6] }
  | _ => none }
def KeyDrawsWrongFalsely : Prop := keyDrawsRow.holds Try.pinned (OpenSpec.ofChange keyDrawsWrong)

/-- 'kerbsuitelaw3.KeyFresh': WHATEVER THE INPUT: true; the input reads as it did. -/
def keyFreshSpec : ChangeSpec := { name := "keyFresh", fn := fun _ => fun
  | [d1, d2, d3] => { results := [.lit (.bool true)], args := [d1, d2, d3] }
  | _ => none }
def keyFreshRow : OpenClaim := { program := "ytlmifbbmppenoaa", sum := "942cc395d18d349f44a5e694cf65d72fafedbc5dd63a64fb64b68fd618540243", func := "kerbsuite/kerbsuitelaw3.KeyFresh", spec := "keyFresh", apart := false }
def KeyFreshSaid : Prop := keyFreshRow.holds Try.pinned (OpenSpec.ofChange keyFreshSpec)

/-- ITS FALSE NEIGHBOUR: 'it returns false'. Refute it at one input. -/
def keyFreshWrong : ChangeSpec := { name := "keyFresh", fn := fun _ => fun
  | [d1, d2, d3] => { results := [.lit (.bool false)], args := [d1, d2, d3] }
  | _ => none }
def KeyFreshWrongFalsely : Prop := keyFreshRow.holds Try.pinned (OpenSpec.ofChange keyFreshWrong)

/- THE SECOND FORM. 'bulk': how many values and letters a reading holds, each counted each time it is reached (what is shared counts as often as it is met; a slice's spare places count too). A statement '..UptoSaid' is the law's where the arguments, and the package variables that the reading takes, are together of bulk at most 1048576: NARROWER than '..Said'. Prove '..Said' where nothing that the law and all that it calls make is longer than what came in: it says more and counts as full. Else prove '..UptoSaid'. A law counts once. -/
mutual
def uptoBulk {H : Type} : DataW H → Nat
  | .lit (.string bytes) => bytes.length + 1
  | .lit _ => 1
  | .nil => 1
  | .ptr d => uptoBulk d + 1
  | .slice elems spare => uptoBulkAll elems + uptoBulkAll spare + 1
  | .agg parts => uptoBulkAll parts + 1
  | .iface _ d => uptoBulk d + 1
  | .map entries => uptoBulkEntries entries + 1
  | .held _ => 1
def uptoBulkAll {H : Type} : List (DataW H) → Nat
  | [] => 0
  | d :: r => uptoBulk d + uptoBulkAll r
def uptoBulkEntries {H : Type} : List (Lit × DataW H) → Nat
  | [] => 0
  | x :: r => uptoBulkEntry x + uptoBulkEntries r
def uptoBulkEntry {H : Type} : Lit × DataW H → Nat
  | (.string bytes, d) => bytes.length + uptoBulk d + 1
  | (_, d) => uptoBulk d + 1
 end
def uptoSmall : (H : Type) → List (DataW H) → Bool := fun _ ds => decide (uptoBulkAll ds ≤ 1048576)
def OpenSpec.upto (s : _root_.Go.ChangeSpec) : _root_.Go.OpenSpec := { _root_.Go.OpenSpec.ofChange s with cond := some uptoSmall }

/-- 'kerbsuitelaw3.KeyMakes', WHERE WHAT IT READS IS OF BULK AT MOST 1048576: true; the input reads as it did. -/
def keyMakesUptoRow : OpenClaim := { program := "ytlmifbbmppenoaa", sum := "942cc395d18d349f44a5e694cf65d72fafedbc5dd63a64fb64b68fd618540243", func := "kerbsuite/kerbsuitelaw3.KeyMakes", spec := "keyMakes", apart := false, narrowed := true }
def KeyMakesUptoSaid : Prop := keyMakesUptoRow.holds Try.pinned (OpenSpec.upto keyMakesSpec)

/-- 'kerbsuitelaw3.KeyBytes', WHERE WHAT IT READS IS OF BULK AT MOST 1048576: true; the input reads as it did. -/
def keyBytesUptoRow : OpenClaim := { program := "ytlmifbbmppenoaa", sum := "942cc395d18d349f44a5e694cf65d72fafedbc5dd63a64fb64b68fd618540243", func := "kerbsuite/kerbsuitelaw3.KeyBytes", spec := "keyBytes", apart := false, narrowed := true }
def KeyBytesUptoSaid : Prop := keyBytesUptoRow.holds Try.pinned (OpenSpec.upto keyBytesSpec)

/-- 'kerbsuitelaw3.KeyLists', WHERE WHAT IT READS IS OF BULK AT MOST 1048576: true; the input reads as it did. -/
def keyListsUptoRow : OpenClaim := { program := "ytlmifbbmppenoaa", sum := "942cc395d18d349f44a5e694cf65d72fafedbc5dd63a64fb64b68fd618540243", func := "kerbsuite/kerbsuitelaw3.KeyLists", spec := "keyLists", apart := false, narrowed := true }
def KeyListsUptoSaid : Prop := keyListsUptoRow.holds Try.pinned (OpenSpec.upto keyListsSpec)

/-- 'kerbsuitelaw3.KeyDraws', WHERE WHAT IT READS IS OF BULK AT MOST 1048576: true; the input reads as it did. -/
def keyDrawsUptoRow : OpenClaim := { program := "ytlmifbbmppenoaa", sum := "942cc395d18d349f44a5e694cf65d72fafedbc5dd63a64fb64b68fd618540243", func := "kerbsuite/kerbsuitelaw3.KeyDraws", spec := "keyDraws", apart := false, narrowed := true }
def KeyDrawsUptoSaid : Prop := keyDrawsUptoRow.holds Try.pinned (OpenSpec.upto keyDrawsSpec)

/-- 'kerbsuitelaw3.KeyFresh', WHERE WHAT IT READS IS OF BULK AT MOST 1048576: true; the input reads as it did. -/
def keyFreshUptoRow : OpenClaim := { program := "ytlmifbbmppenoaa", sum := "942cc395d18d349f44a5e694cf65d72fafedbc5dd63a64fb64b68fd618540243", func := "kerbsuite/kerbsuitelaw3.KeyFresh", spec := "keyFresh", apart := false, narrowed := true }
def KeyFreshUptoSaid : Prop := keyFreshUptoRow.holds Try.pinned (OpenSpec.upto keyFreshSpec)

end Rows
end Go.Proofs.Ytlmifbbmppenoaa
