/-
  What Put, Read and Is of the document's answer for headers return.
-/
import Derived.Test.YtkhkmgblgonfoaaQFieldPlain
import Derived.Test.YtkhkmgblgonfoaaQFieldR
namespace Go.Proofs.Ytkhkmgblgonfoaa
open Go.RowKit
set_option maxRecDepth 100000

/-- A row that was just built. -/
theorem built_out (w W : World) (zs : List Int) (hz : ∀ z ∈ zs, 0 ≤ z ∧ z ≤ 255) (hl : zs.length ≤ 1000) (B : Below w.heap.size w W) : BytesOut zs w (.returned (.slice (some ⟨W.heap.size, 0, none⟩) zs.length zs.length)) (W.alloc (.cells (zs.map (Value.int .u8)).toArray 5)) := by
  have O := Own.new .u8 5 (w := W) (base := w.heap.size) B.size zs (by unfold maxLen; omega)
  obtain ⟨A, n, c, h, hs, hf⟩ := O.slf hz
  cases h
  exact ⟨_, _, _, rfl, hs, B.alloc B.size _, hf⟩

theorem r8put_any (n : Int) (l : Bool) (w : World) : Calls Try.prog 35 #[.int .i64 n, .bool l] w (BytesOut (S8.put n l) w) := by
  have hways : n < 1 ∨ 1 ≤ n ∧ 10 < n ∨ 1 ≤ n ∧ n ≤ 10 := by omega
  rcases hways with h | ⟨h, h'⟩ | ⟨h, h'⟩
  · have HP := Lib.hid (S8.put_no (.inl h) l)
    go_enter Try.func35, Try.ntmps35
    go_wp2_with (fail)
    go_ret
    exact ⟨none, 0, 0, rfl, by rw [HP.out]; exact Sl.nil _, Below.refl _ _, Fresh.nil _⟩
  · have HP := Lib.hid (S8.put_no (.inr h') l)
    go_enter Try.func35, Try.ntmps35
    go_wp2_with (fail)
    go_ret
    exact ⟨none, 0, 0, rfl, by rw [HP.out]; exact Sl.nil _, Below.refl _ _, Fresh.nil _⟩
  · have HP := Lib.hid (S8.put_ok ⟨h, h'⟩ l)
    have HR := Lib.hid (S8.put_range n l)
    rw [HP.out] at HR
    cases l
    · have e : S8.put n false = [4, 2 * n] := by rw [HP.out]; simp [S8.ord]
      rw [← HP.out, e] at HR
      have BO := Lib.hid (built_out w w [4, 2 * n] HR.out (by simp) (Below.refl _ _))
      rw [e]
      clear HP e
      go_enter Try.func35, Try.ntmps35
      go_wp2_with (fail)
      go_ret
      exact BO.out
    · have e : S8.put n true = [4, 2 * n + 1] := by rw [HP.out]; simp [S8.ord]
      rw [← HP.out, e] at HR
      have BO := Lib.hid (built_out w w [4, 2 * n + 1] HR.out (by simp) (Below.refl _ _))
      rw [e]
      clear HP e
      go_enter Try.func35, Try.ntmps35
      go_wp2_with (fail)
      go_ret
      exact BO.out

/-- What Read returns. -/
def ReadOut (zs : List Int) (w : World) (e : Ending) (w' : World) : Prop :=
  e = .returned (.tuple #[.int .i64 (S8.rdK zs), .bool (S8.rdL zs), .int .i64 (S8.rdE zs)]) ∧ Below w.heap.size w w'
theorem read_out {zs : List Int} {w w' : World} {k x : Int} {b : Bool} (h : S8.rdE zs = x ∧ S8.rdK zs = k ∧ S8.rdL zs = b) (hb : Below w.heap.size w w') : ReadOut zs w (.returned (.tuple #[.int .i64 k, .bool b, .int .i64 x])) w' := ⟨by rw [h.1, h.2.1, h.2.2], hb⟩

/-- A message's first two bytes. -/
theorem first_two {w : World} {A : Option Addr} {n cap : Nat} {zs : List Int} (h : Sl w A n cap zs) (hn : 2 ≤ n) : ∃ b off x y r, A = some ⟨b, off, none⟩ ∧ zs = x :: y :: r ∧ (0 ≤ x ∧ x ≤ 255) ∧ (0 ≤ y ∧ y ≤ 255) ∧ w.cell? ⟨b, off, none⟩ = some (.int .u8 x) ∧ w.cell? ⟨b, off + 1, none⟩ = some (.int .u8 y) := by
  obtain ⟨b, off, x, ha, hx, x0, x1, dx⟩ := h.row.at (i := 0) (by omega)
  obtain ⟨b', off', y, ha', hy, y0, y1, dy⟩ := h.row.at (i := 1) (by omega)
  rw [ha] at ha'
  cases ha'
  match zs, hx, hy with
  | x' :: y' :: r, hx, hy =>
    simp at hx hy
    subst hx hy
    exact ⟨b, off, _, _, r, ha, rfl, ⟨x0, x1⟩, ⟨y0, y1⟩, dx, dy⟩


/-- What Is returns. -/
def IsOut (zs ks : List Int) (w : World) (e : Ending) (w' : World) : Prop :=
  e = .returned (.tuple #[.bool (S8.isB zs ks), .int .i64 (S8.isE zs ks)]) ∧ Below w.heap.size w w'
theorem is_out {zs ks : List Int} {w w' : World} {x : Int} {b : Bool} (h : S8.isE zs ks = x ∧ S8.isB zs ks = b) (hb : Below w.heap.size w w') : IsOut zs ks w (.returned (.tuple #[.bool b, .int .i64 x])) w' := ⟨by rw [h.1, h.2], hb⟩

theorem ne_snoc {l : List Int} {z t : Int} (h : ∀ y ∈ l, y ≠ t) (g : z ≠ t) : ∀ y ∈ l ++ [z], y ≠ t := fun y hy => by
  rcases List.mem_append.1 hy with hy | hy
  · exact h y hy
  · rw [List.mem_singleton] at hy; rw [hy]; exact g


end Go.Proofs.Ytkhkmgblgonfoaa
