/-
  What Bytes of package field returns.
-/
import Derived.Test.YtihacmonohjmaaaQFieldB
namespace Go.Proofs.Ytihacmonohjmaaa
open Go.RowKit
set_option maxRecDepth 100000

theorem bclone_nil (n cap : Nat) (w : World) : Calls Try.prog 97 #[.slice none n cap] w fun e w' => e = .returned (.slice none 0 0) ∧ w = w' := by
  have hq : ∀ w, (binOp .eql 26 (.slice none n cap) (.slice none 0 0)).run Try.prog w = .ok (.bool true) w := fun _ => by kernel_rfl
  go_enter Try.func97, Try.ntmps97
  go_wp2_with (fail)
  go_ret
  exact ⟨rfl, rfl⟩

theorem bclone_some (x : Addr) (n cap : Nat) (zs : List Int) (w : World) (h : RowK .u8 w (some x) n zs) (hl : n ≤ 100000) : Calls Try.prog 97 #[.slice (some x) n cap] w (JoinedB zs w) := by
  replace h := Lib.hid h
  have hq : ∀ w, (binOp .eql 26 (.slice (some x) n cap) (.slice none 0 0)).run Try.prog w = .ok (.bool false) w := fun _ => by kernel_rfl
  go_enter Try.func97, Try.ntmps97
  go_wp2_with (at_builtin; refine wpList_push_row rfl (.tmp 5) (.tmp 6) 26 rfl Try.underlying26 u8_infoB (base := w.heap.size) (v := .slice (some ⟨w.heap.size, 0, none⟩) 0 0) (zs := []) (ys := zs) (A := some x) (m := n) (c := cap) rfl rfl (Own.new .u8 _ (Nat.le_refl _) [] (by decide)) (h.out.keep ((Below.refl _ _).alloc (Nat.le_refl _) _)) (by simp; omega) (by decide) (by simp) ?_; intro v2 w2 own2 hg2 _)
  go_ret
  exact ⟨v2, rfl, by simpa using own2, Own.grown ((Below.refl _ _).alloc (Nat.le_refl _) _) (Own.new .u8 _ (Nat.le_refl _) [] (by decide)) hg2⟩


end Go.Proofs.Ytihacmonohjmaaa
