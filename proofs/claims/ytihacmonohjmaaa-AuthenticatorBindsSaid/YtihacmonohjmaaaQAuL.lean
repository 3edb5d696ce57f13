/-
  An authenticator's cells as a list; what other blocks' changes leave of it.
-/
import Derived.Test.YtihacmonohjmaaaQAuH
import Derived.Test.YtihacmonohjmaaaQDst
namespace Go.Proofs.Ytihacmonohjmaaa
open Go.RowKit

def aL (t : S7.Au) : List Value := [.string t.a, .string t.b, .string t.c, .int .i64 t.ck, .int .i64 t.ti, .int .i64 t.tm]
theorem AuAt.ofL {w : World} {g : Nat} {t : S7.Au} (h : BoxAt w g (aL t)) : AuAt w g t := ⟨h.c 0 _ rfl, h.c 1 _ rfl, h.c 2 _ rfl, h.c 3 _ rfl, h.c 4 _ rfl, h.c 5 _ rfl⟩
theorem AuAt.grown {w w' : World} {g : Nat} {t : S7.Au} {row : Option Nat} (h : AuAt w g t) (hg : w.grownBy w' row) (hne : some g ≠ row) : AuAt w' g t :=
  ⟨hg.cell h.c0 hne, hg.cell h.c1 hne, hg.cell h.c2 hne, hg.cell h.c3 hne, hg.cell h.c4 hne, hg.cell h.c5 hne⟩
/-- Some slice of bytes. -/
def SomeSl7 (w : World) (v : Value) : Prop := ∃ A n cap zs, v = .slice A n cap ∧ Sl w A n cap zs ∧ n ≤ 1000

end Go.Proofs.Ytihacmonohjmaaa
