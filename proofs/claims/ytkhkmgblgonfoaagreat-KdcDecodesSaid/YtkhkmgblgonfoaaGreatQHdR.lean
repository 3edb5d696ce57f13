/-
  What Put, Read and Is of the document's answer for headers return.
-/
import Derived.Test.YtkhkmgblgonfoaaGreatQBoxPlain
import Derived.Test.YtkhkmgblgonfoaaGreatQFieldR
namespace Go.Proofs.YtkhkmgblgonfoaaGreat
open Go.RowKit
set_option maxRecDepth 100000

/-- A row that was just built. -/
theorem built_out (w W : World) (zs : List Int) (hz : ∀ z ∈ zs, 0 ≤ z ∧ z ≤ 255) (hl : zs.length ≤ 1000) (B : Below w.heap.size w W) : BytesOut zs w (.returned (.slice (some ⟨W.heap.size, 0, none⟩) zs.length zs.length)) (W.alloc (.cells (zs.map (Value.int .u8)).toArray 5)) := by
  have O := Own.new .u8 5 (w := W) (base := w.heap.size) B.size zs (by unfold maxLen; omega)
  obtain ⟨A, n, c, h, hs, hf⟩ := O.slf hz
  cases h
  exact ⟨_, _, _, rfl, hs, B.alloc B.size _, hf⟩

theorem r8put_any (n : Int) (l : Bool) (w : World) : Calls Tryz.prog 30 #[.int .i64 n, .bool l] w (BytesOut (S8.put n l) w) := by
  have hways : n < 1 ∨ 1 ≤ n ∧ 10 < n ∨ 1 ≤ n ∧ n ≤ 10 := by omega
  rcases hways with h | ⟨h, h'⟩ | ⟨h, h'⟩
  · have HP := Lib.hid (S8.put_no (.inl h) l)
    go_enter Tryz.func30, Tryz.ntmps30
    go_wp2_with (fail)
    go_ret
    exact ⟨none, 0, 0, rfl, by rw [HP.out]; exact Sl.nil _, Below.refl _ _, Fresh.nil _⟩
  · have HP := Lib.hid (S8.put_no (.inr h') l)
    go_enter Tryz.func30, Tryz.ntmps30
    go_wp2_with (fail)
    go_ret
    exact ⟨none, 0, 0, rfl, by rw [HP.out]; exact Sl.nil _, Below.refl _ _, Fresh.nil _⟩
  · have HP := Lib.hid (S8.put_ok ⟨h, h'⟩ l)
    have HR := Lib.hid (S8.put_range n l)
    rw [HP.out] at HR
    cases l
    · have e : S8.put n false = [4, 2 * n] := by rw [HP.out]; simp [S8.ord]
      rw [← HP.out, e] at HR
      have BO := Lib.hid (built_out w w [4, 2 * n] HR.out (by simp) (Below.refl _ _))
      rw [e]
      clear HP e
      go_enter Tryz.func30, Tryz.ntmps30
      go_wp2_with (fail)
      go_ret
      exact BO.out
    · have e : S8.put n true = [4, 2 * n + 1] := by rw [HP.out]; simp [S8.ord]
      rw [← HP.out, e] at HR
      have BO := Lib.hid (built_out w w [4, 2 * n + 1] HR.out (by simp) (Below.refl _ _))
      rw [e]
      clear HP e
      go_enter Tryz.func30, Tryz.ntmps30
      go_wp2_with (fail)
      go_ret
      exact BO.out

/-- What Read returns. -/
def ReadOut (zs : List Int) (w : World) (e : Ending) (w' : World) : Prop :=
  e = .returned (.tuple #[.int .i64 (S8.rdK zs), .bool (S8.rdL zs), .int .i64 (S8.rdE zs)]) ∧ Below w.heap.size w w'
theorem read_out {zs : List Int} {w w' : World} {k x : Int} {b : Bool} (h : S8.rdE zs = x ∧ S8.rdK zs = k ∧ S8.rdL zs = b) (hb : Below w.heap.size w w') : ReadOut zs w (.returned (.tuple #[.int .i64 k, .bool b, .int .i64 x])) w' := ⟨by rw [h.1, h.2.1, h.2.2], hb⟩

/-- A message's first two bytes. -/
theorem first_two {w : World} {A : Option Addr} {n cap : Nat} {zs : List Int} (h : Sl w A n cap zs) (hn : 2 ≤ n) : ∃ b off x y r, A = some ⟨b, off, none⟩ ∧ zs = x :: y :: r ∧ (0 ≤ x ∧ x ≤ 255) ∧ (0 ≤ y ∧ y ≤ 255) ∧ w.cell? ⟨b, off, none⟩ = some (.int .u8 x) ∧ w.cell? ⟨b, off + 1, none⟩ = some (.int .u8 y) := by
  obtain ⟨b, off, x, ha, hx, x0, x1, dx⟩ := h.row.at (i := 0) (by omega)
  obtain ⟨b', off', y, ha', hy, y0, y1, dy⟩ := h.row.at (i := 1) (by omega)
  rw [ha] at ha'
  cases ha'
  match zs, hx, hy with
  | x' :: y' :: r, hx, hy =>
    simp at hx hy
    subst hx hy
    exact ⟨b, off, _, _, r, ha, rfl, ⟨x0, x1⟩, ⟨y0, y1⟩, dx, dy⟩

theorem r8read_any (A : Option Addr) (n cap : Nat) (zs : List Int) (w : World) (h : Sl w A n cap zs) (hn : n ≤ 100000) : Calls Tryz.prog 82 #[.slice A n cap] w (ReadOut zs w) := by
  by_cases h2 : n < 2
  · have HX := Lib.hid (S8.rd_short (zs := zs) (by rw [h.len]; exact h2))
    have h2' : (n : Int) < 2 := by omega
    clear h
    go_enter Tryz.func82, Tryz.ntmps82
    go_wp2_with (fail)
    go_ret3
    exact read_out HX.out (Below.refl _ _)
  · obtain ⟨b, off, x, y, r, rfl, hz, hx, hy, dx, dy⟩ := first_two h (by omega)
    have h2' : ¬ (n : Int) < 2 := by omega
    have lx := cell_lt dx
    have ly := cell_lt dy
    clear h h2
    by_cases hv : x = 4
    · subst hv
      have hways : y / 2 < 1 ∨ 10 < y / 2 ∨ 1 ≤ y / 2 ∧ y / 2 ≤ 10 := by omega
      rcases hways with hk | hk | hk
      · have HX := Lib.hid (S8.rd_type hz (.inl hk))
        clear hz
        go_enter Tryz.func82, Tryz.ntmps82
        go_wp2_with (fail)
        all_goals
          go_ret3
          exact read_out HX.out (Below.refl _ _)
      · have HX := Lib.hid (S8.rd_type hz (.inr hk))
        clear hz
        go_enter Tryz.func82, Tryz.ntmps82
        go_wp2_with (fail)
        all_goals
          go_ret3
          exact read_out HX.out (Below.refl _ _)
      · have HX := Lib.hid (S8.rd_ok hz hk)
        clear hz
        go_enter Tryz.func82, Tryz.ntmps82
        go_wp2_with (fail)
        all_goals
          go_quiet (fail)
          go_wp2_with (fail)
          go_ret3
          exact read_out HX.out (by repeat (first | exact Below.refl _ _ | apply below_drewN' | apply Below.drew))
    · have HX := Lib.hid (S8.rd_version hz hv)
      have hv' : (x != 4) = true := by simpa using hv
      clear hz
      go_enter Tryz.func82, Tryz.ntmps82
      go_wp2_with (fail)
      go_ret3
      exact read_out HX.out (Below.refl _ _)

/-- What Is returns. -/
def IsOut (zs ks : List Int) (w : World) (e : Ending) (w' : World) : Prop :=
  e = .returned (.tuple #[.bool (S8.isB zs ks), .int .i64 (S8.isE zs ks)]) ∧ Below w.heap.size w w'
theorem is_out {zs ks : List Int} {w w' : World} {x : Int} {b : Bool} (h : S8.isE zs ks = x ∧ S8.isB zs ks = b) (hb : Below w.heap.size w w') : IsOut zs ks w (.returned (.tuple #[.bool b, .int .i64 x])) w' := ⟨by rw [h.1, h.2], hb⟩

theorem ne_snoc {l : List Int} {z t : Int} (h : ∀ y ∈ l, y ≠ t) (g : z ≠ t) : ∀ y ∈ l ++ [z], y ≠ t := fun y hy => by
  rcases List.mem_append.1 hy with hy | hy
  · exact h y hy
  · rw [List.mem_singleton] at hy; rw [hy]; exact g

theorem r8is_any (A : Option Addr) (n cap : Nat) (zs : List Int) (K : Option Addr) (kn kcap : Nat) (ks : List Int) (w : World) (h : Sl w A n cap zs) (hn : n ≤ 100000) (hK : RowK .i64 w K kn ks) (hkn : kn ≤ 1000) : Calls Tryz.prog 43 #[.slice A n cap, .slice K kn kcap] w (IsOut zs ks w) := by
  have RC := Lib.hid (r8read_any A n cap zs w h hn)
  unfold ReadOut at RC
  by_cases he : S8.rdE zs = 0
  · rw [he] at RC
    have hl := hK.len
    obtain ⟨T, hT⟩ : ∃ T, T = S8.rdK zs := ⟨_, rfl⟩
    have hyes := Lib.hid (fun (g : T ∈ ks) => S8.is_yes (ks := ks) he (by rw [← hT]; exact g))
    have hno := Lib.hid (fun (g : T ∉ ks) => S8.is_no (ks := ks) he (by rw [← hT]; exact g))
    obtain ⟨L, hL⟩ : ∃ L, L = S8.rdL zs := ⟨_, rfl⟩
    rw [← hT, ← hL] at RC
    rw [← hL] at hyes
    clear hT hL he h
    go_enter Tryz.func43, Tryz.ntmps43
    go_wp2_with (fail)
    refine RC.out.mono ?_
    rintro e w1 ⟨rfl, hb1⟩
    have hK1 := Lib.hid (hK.keep hb1)
    have B1 := Lib.hid hb1
    clear hK hb1
    go_wp2_with (fail)
    go_loop [9] (fun i => ∃ k : Nat, k ≤ kn ∧ i = .int .i64 k ∧ ∀ z ∈ ks.take k, z ≠ T) (fun i => kn - (intOf i).toNat)
    case atStart => exact ⟨0, by omega, rfl, by simp⟩
    case round =>
      obtain ⟨k, hk, rfl, hall⟩ := hrel
      by_cases hlt : k < kn
      · obtain ⟨b, off, z, hA, hz, _, _, hc⟩ := hK1.out.at hlt
        subst hA
        have hs := Lib.hid (show ks.take (k + 1) = ks.take k ++ [z] by rw [List.take_add_one, hz]; rfl)
        have hmem := Lib.hid (List.mem_of_getElem? hz)
        have hkk : (k : Int) < (kn : Int) := by omega
        have hcl := cell_lt hc
        replace hall := Lib.hid hall
        clear hz
        by_cases hq : z = T
        · have HY := Lib.hid (hyes.out (by rw [← hq]; exact hmem.out))
          subst hq
          go_wp2_with (fail)
          go_ret2
          exact is_out HY.out B1.out
        · have hqb : (z == T) = false := by simpa using hq
          go_wp2_with (fail)
          go_round
          case rel => exact ⟨k + 1, by omega, by go_num, by rw [hs.out]; exact ne_snoc hall.out hq⟩
          case measure => simp [intOf]; omega
      · have HN := Lib.hid (hno.out (fun g => hall T (by rw [List.take_of_length_le (by omega)]; exact g) rfl))
        have hkk : ¬ (k : Int) < (kn : Int) := by omega
        go_wp2_with (fail)
        go_ret2
        exact is_out HN.out B1.out
  · have HX := Lib.hid (S8.is_err he ks)
    have he2 : (S8.rdE zs != 0) = true := by simpa using he
    clear he h hK
    go_enter Tryz.func43, Tryz.ntmps43
    go_wp2_with (fail)
    refine RC.out.mono ?_
    rintro e w1 ⟨rfl, hb1⟩
    go_wp2_with (fail)
    go_ret2
    exact is_out HX.out hb1

end Go.Proofs.YtkhkmgblgonfoaaGreat
