/-
  What the functions Put.. and Pad of the document's answer for fields return.
-/
import Derived.Test.YtkhkmgblgonfoaaQFieldPlain
import Derived.LoopN
namespace Go.Proofs.Ytkhkmgblgonfoaa
open Go.RowKit

/-- A new row of these bytes. -/
def BytesOut (zs : List Int) (w : World) (e : Ending) (w' : World) : Prop :=
  ∃ A n cap, e = .returned (.slice A n cap) ∧ Sl w' A n cap zs ∧ Below w.heap.size w w' ∧ Fresh w.heap.size A

/-- .. that belongs to the call. -/
def OwnOut (zs : List Int) (w : World) (e : Ending) (w' : World) : Prop := ∃ v, e = .returned v ∧ Own .u8 5 w' w.heap.size v zs ∧ Below w.heap.size w w'
theorem OwnOut.bytes {zs : List Int} {w w' : World} {e : Ending} (h : OwnOut zs w e w') (hr : ∀ z ∈ zs, 0 ≤ z ∧ z ≤ 255) : BytesOut zs w e w' := by
  obtain ⟨v, rfl, ho, hb⟩ := h
  obtain ⟨A, n, c, rfl, hs, hf⟩ := ho.slf hr
  exact ⟨A, n, c, rfl, hs, hb, hf⟩
theorem range_app {xs ys : List Int} (hx : ∀ z ∈ xs, 0 ≤ z ∧ z ≤ 255) (hy : ∀ z ∈ ys, 0 ≤ z ∧ z ≤ 255) : ∀ z ∈ xs ++ ys, 0 ≤ z ∧ z ≤ 255 := by
  intro z hz
  rcases List.mem_append.1 hz with hz | hz
  · exact hx z hz
  · exact hy z hz

set_option maxHeartbeats 1600000 in
theorem r5put_4l (A : Option Addr) (bn cap : Nat) (zs : List Int) (n : Int) (w : World) (h : Sl w A bn cap zs) (hn : bn ≤ 100000) : Calls Try.prog 71 #[.slice A bn cap, .int .i64 n, .int .i64 4, .bool true] w (OwnOut (zs ++ S5.le4 n) w) := by
  have hlen := h.len
  have Ba := Lib.hid (fun (x : World) (o : Obj) => (Below.refl x.heap.size x).alloc (Nat.le_refl _) o)
  have hR := Lib.hid (h.keep (Ba.out w (.cells #[] 5))).row
  have hO := Lib.hid (Own.new .u8 5 (w := w) (Nat.le_refl _) [] (by decide))
  have hl := Lib.hid hlen
  clear hlen
  go_enter Try.func71, Try.ntmps71
  go_wp2_with (at_builtin; refine wpList_push_row rfl (.tmp 12) (.tmp 13) 26 rfl Try.underlying26 u8_infoB (base := w.heap.size) (v := .slice (some ⟨w.heap.size, 0, none⟩) 0 0) (zs := []) (ys := zs) (A := A) (m := bn) (c := cap) rfl rfl hO.out hR.out (by simp; omega) (by decide) (by simp) ?_; intro v w2 hown hg2 _; have B := Own.grown (Ba.out w _) hO.out hg2; clear hg2; rw [List.nil_append] at hown)
  refine wp_loop_rounds 5 ?_
  rw [rounds_succ]
  go_wp2_with (at_builtin; refine wpList_push rfl _ _ 26 rfl .u8 5 1 Try.underlying26 u8_infoB w.heap.size _ _ _ rfl rfl rfl hown (by have := hl.out; simp; omega) (by decide) B.size ?_; intro v' w4 hown' hgrow _; replace B := Own.pushed B hown hgrow; clear hown hgrow; replace hown := hown'; clear hown')
  rw [rounds_succ]
  go_wp2_with (at_builtin; refine wpList_push rfl _ _ 26 rfl .u8 5 1 Try.underlying26 u8_infoB w.heap.size _ _ _ rfl rfl rfl hown (by have := hl.out; simp; omega) (by decide) B.size ?_; intro v' w4 hown' hgrow _; replace B := Own.pushed B hown hgrow; clear hown hgrow; replace hown := hown'; clear hown')
  rw [rounds_succ]
  go_wp2_with (at_builtin; refine wpList_push rfl _ _ 26 rfl .u8 5 1 Try.underlying26 u8_infoB w.heap.size _ _ _ rfl rfl rfl hown (by have := hl.out; simp; omega) (by decide) B.size ?_; intro v' w4 hown' hgrow _; replace B := Own.pushed B hown hgrow; clear hown hgrow; replace hown := hown'; clear hown')
  rw [rounds_succ]
  go_wp2_with (at_builtin; refine wpList_push rfl _ _ 26 rfl .u8 5 1 Try.underlying26 u8_infoB w.heap.size _ _ _ rfl rfl rfl hown (by have := hl.out; simp; omega) (by decide) B.size ?_; intro v' w4 hown' hgrow _; replace B := Own.pushed B hown hgrow; clear hown hgrow; replace hown := hown'; clear hown')
  rw [rounds_succ]
  go_wp2_with (fail)
  have q0 : IntKind.u64.wrap n % 256 = n % 256 := by rw [IntKind.wrap_u64]; omega
  have q1 : IntKind.u64.wrap n / 256 % 256 = n / 256 % 256 := by rw [IntKind.wrap_u64]; omega
  have q2 : IntKind.u64.wrap n / 65536 % 256 = n / 65536 % 256 := by rw [IntKind.wrap_u64]; omega
  have q3 : IntKind.u64.wrap n / 16777216 % 256 = n / 16777216 % 256 := by rw [IntKind.wrap_u64]; omega
  rw [q0, q1, q2, q3] at hown
  have he : zs ++ [n % 256] ++ [n / 256 % 256] ++ [n / 65536 % 256] ++ [n / 16777216 % 256] = zs ++ S5.le4 n := by simp [S5.le4]
  rw [he] at hown
  go_ret
  exact ⟨_, rfl, hown, B⟩

set_option maxHeartbeats 1600000 in
theorem r5put_4b (A : Option Addr) (bn cap : Nat) (zs : List Int) (n : Int) (w : World) (h : Sl w A bn cap zs) (hn : bn ≤ 100000) : Calls Try.prog 71 #[.slice A bn cap, .int .i64 n, .int .i64 4, .bool false] w (OwnOut (zs ++ S5.be4 n) w) := by
  have hlen := h.len
  have Ba := Lib.hid (fun (x : World) (o : Obj) => (Below.refl x.heap.size x).alloc (Nat.le_refl _) o)
  have hR := Lib.hid (h.keep (Ba.out w (.cells #[] 5))).row
  have hO := Lib.hid (Own.new .u8 5 (w := w) (Nat.le_refl _) [] (by decide))
  have hl := Lib.hid hlen
  clear hlen
  go_enter Try.func71, Try.ntmps71
  go_wp2_with (at_builtin; refine wpList_push_row rfl (.tmp 12) (.tmp 13) 26 rfl Try.underlying26 u8_infoB (base := w.heap.size) (v := .slice (some ⟨w.heap.size, 0, none⟩) 0 0) (zs := []) (ys := zs) (A := A) (m := bn) (c := cap) rfl rfl hO.out hR.out (by simp; omega) (by decide) (by simp) ?_; intro v w2 hown hg2 _; have B := Own.grown (Ba.out w _) hO.out hg2; clear hg2; rw [List.nil_append] at hown)
  refine wp_loop_rounds 5 ?_
  rw [rounds_succ]
  go_wp2_with (at_builtin; refine wpList_push rfl _ _ 26 rfl .u8 5 1 Try.underlying26 u8_infoB w.heap.size _ _ _ rfl rfl rfl hown (by have := hl.out; simp; omega) (by decide) B.size ?_; intro v' w4 hown' hgrow _; replace B := Own.pushed B hown hgrow; clear hown hgrow; replace hown := hown'; clear hown')
  rw [rounds_succ]
  go_wp2_with (at_builtin; refine wpList_push rfl _ _ 26 rfl .u8 5 1 Try.underlying26 u8_infoB w.heap.size _ _ _ rfl rfl rfl hown (by have := hl.out; simp; omega) (by decide) B.size ?_; intro v' w4 hown' hgrow _; replace B := Own.pushed B hown hgrow; clear hown hgrow; replace hown := hown'; clear hown')
  rw [rounds_succ]
  go_wp2_with (at_builtin; refine wpList_push rfl _ _ 26 rfl .u8 5 1 Try.underlying26 u8_infoB w.heap.size _ _ _ rfl rfl rfl hown (by have := hl.out; simp; omega) (by decide) B.size ?_; intro v' w4 hown' hgrow _; replace B := Own.pushed B hown hgrow; clear hown hgrow; replace hown := hown'; clear hown')
  rw [rounds_succ]
  go_wp2_with (at_builtin; refine wpList_push rfl _ _ 26 rfl .u8 5 1 Try.underlying26 u8_infoB w.heap.size _ _ _ rfl rfl rfl hown (by have := hl.out; simp; omega) (by decide) B.size ?_; intro v' w4 hown' hgrow _; replace B := Own.pushed B hown hgrow; clear hown hgrow; replace hown := hown'; clear hown')
  rw [rounds_succ]
  go_wp2_with (fail)
  have q0 : IntKind.u64.wrap n % 256 = n % 256 := by rw [IntKind.wrap_u64]; omega
  have q1 : IntKind.u64.wrap n / 256 % 256 = n / 256 % 256 := by rw [IntKind.wrap_u64]; omega
  have q2 : IntKind.u64.wrap n / 65536 % 256 = n / 65536 % 256 := by rw [IntKind.wrap_u64]; omega
  have q3 : IntKind.u64.wrap n / 16777216 % 256 = n / 16777216 % 256 := by rw [IntKind.wrap_u64]; omega
  rw [q3, q2, q1, q0] at hown
  have he : zs ++ [n / 16777216 % 256] ++ [n / 65536 % 256] ++ [n / 256 % 256] ++ [n % 256] = zs ++ S5.be4 n := by simp [S5.be4]
  rw [he] at hown
  go_ret
  exact ⟨_, rfl, hown, B⟩

set_option maxHeartbeats 1600000 in
theorem r5put_2l (A : Option Addr) (bn cap : Nat) (zs : List Int) (n : Int) (w : World) (h : Sl w A bn cap zs) (hn : bn ≤ 100000) : Calls Try.prog 71 #[.slice A bn cap, .int .i64 n, .int .i64 2, .bool true] w (OwnOut (zs ++ S5.le2 n) w) := by
  have hlen := h.len
  have Ba := Lib.hid (fun (x : World) (o : Obj) => (Below.refl x.heap.size x).alloc (Nat.le_refl _) o)
  have hR := Lib.hid (h.keep (Ba.out w (.cells #[] 5))).row
  have hO := Lib.hid (Own.new .u8 5 (w := w) (Nat.le_refl _) [] (by decide))
  have hl := Lib.hid hlen
  clear hlen
  go_enter Try.func71, Try.ntmps71
  go_wp2_with (at_builtin; refine wpList_push_row rfl (.tmp 12) (.tmp 13) 26 rfl Try.underlying26 u8_infoB (base := w.heap.size) (v := .slice (some ⟨w.heap.size, 0, none⟩) 0 0) (zs := []) (ys := zs) (A := A) (m := bn) (c := cap) rfl rfl hO.out hR.out (by simp; omega) (by decide) (by simp) ?_; intro v w2 hown hg2 _; have B := Own.grown (Ba.out w _) hO.out hg2; clear hg2; rw [List.nil_append] at hown)
  refine wp_loop_rounds 3 ?_
  rw [rounds_succ]
  go_wp2_with (at_builtin; refine wpList_push rfl _ _ 26 rfl .u8 5 1 Try.underlying26 u8_infoB w.heap.size _ _ _ rfl rfl rfl hown (by have := hl.out; simp; omega) (by decide) B.size ?_; intro v' w4 hown' hgrow _; replace B := Own.pushed B hown hgrow; clear hown hgrow; replace hown := hown'; clear hown')
  rw [rounds_succ]
  go_wp2_with (at_builtin; refine wpList_push rfl _ _ 26 rfl .u8 5 1 Try.underlying26 u8_infoB w.heap.size _ _ _ rfl rfl rfl hown (by have := hl.out; simp; omega) (by decide) B.size ?_; intro v' w4 hown' hgrow _; replace B := Own.pushed B hown hgrow; clear hown hgrow; replace hown := hown'; clear hown')
  rw [rounds_succ]
  go_wp2_with (fail)
  have q0 : IntKind.u64.wrap n % 256 = n % 256 := by rw [IntKind.wrap_u64]; omega
  have q1 : IntKind.u64.wrap n / 256 % 256 = n / 256 % 256 := by rw [IntKind.wrap_u64]; omega
  rw [q0, q1] at hown
  have he : zs ++ [n % 256] ++ [n / 256 % 256] = zs ++ S5.le2 n := by simp [S5.le2]
  rw [he] at hown
  go_ret
  exact ⟨_, rfl, hown, B⟩

set_option maxHeartbeats 1600000 in
theorem r5put_2b (A : Option Addr) (bn cap : Nat) (zs : List Int) (n : Int) (w : World) (h : Sl w A bn cap zs) (hn : bn ≤ 100000) : Calls Try.prog 71 #[.slice A bn cap, .int .i64 n, .int .i64 2, .bool false] w (OwnOut (zs ++ S5.be2 n) w) := by
  have hlen := h.len
  have Ba := Lib.hid (fun (x : World) (o : Obj) => (Below.refl x.heap.size x).alloc (Nat.le_refl _) o)
  have hR := Lib.hid (h.keep (Ba.out w (.cells #[] 5))).row
  have hO := Lib.hid (Own.new .u8 5 (w := w) (Nat.le_refl _) [] (by decide))
  have hl := Lib.hid hlen
  clear hlen
  go_enter Try.func71, Try.ntmps71
  go_wp2_with (at_builtin; refine wpList_push_row rfl (.tmp 12) (.tmp 13) 26 rfl Try.underlying26 u8_infoB (base := w.heap.size) (v := .slice (some ⟨w.heap.size, 0, none⟩) 0 0) (zs := []) (ys := zs) (A := A) (m := bn) (c := cap) rfl rfl hO.out hR.out (by simp; omega) (by decide) (by simp) ?_; intro v w2 hown hg2 _; have B := Own.grown (Ba.out w _) hO.out hg2; clear hg2; rw [List.nil_append] at hown)
  refine wp_loop_rounds 3 ?_
  rw [rounds_succ]
  go_wp2_with (at_builtin; refine wpList_push rfl _ _ 26 rfl .u8 5 1 Try.underlying26 u8_infoB w.heap.size _ _ _ rfl rfl rfl hown (by have := hl.out; simp; omega) (by decide) B.size ?_; intro v' w4 hown' hgrow _; replace B := Own.pushed B hown hgrow; clear hown hgrow; replace hown := hown'; clear hown')
  rw [rounds_succ]
  go_wp2_with (at_builtin; refine wpList_push rfl _ _ 26 rfl .u8 5 1 Try.underlying26 u8_infoB w.heap.size _ _ _ rfl rfl rfl hown (by have := hl.out; simp; omega) (by decide) B.size ?_; intro v' w4 hown' hgrow _; replace B := Own.pushed B hown hgrow; clear hown hgrow; replace hown := hown'; clear hown')
  rw [rounds_succ]
  go_wp2_with (fail)
  have q0 : IntKind.u64.wrap n % 256 = n % 256 := by rw [IntKind.wrap_u64]; omega
  have q1 : IntKind.u64.wrap n / 256 % 256 = n / 256 % 256 := by rw [IntKind.wrap_u64]; omega
  rw [q1, q0] at hown
  have he : zs ++ [n / 256 % 256] ++ [n % 256] = zs ++ S5.be2 n := by simp [S5.be2]
  rw [he] at hown
  go_ret
  exact ⟨_, rfl, hown, B⟩

set_option maxHeartbeats 1600000 in
theorem r5put_1b (A : Option Addr) (bn cap : Nat) (zs : List Int) (n : Int) (w : World) (h : Sl w A bn cap zs) (hn : bn ≤ 100000) : Calls Try.prog 71 #[.slice A bn cap, .int .i64 n, .int .i64 1, .bool false] w (OwnOut (zs ++ S5.num1 n) w) := by
  have hlen := h.len
  have Ba := Lib.hid (fun (x : World) (o : Obj) => (Below.refl x.heap.size x).alloc (Nat.le_refl _) o)
  have hR := Lib.hid (h.keep (Ba.out w (.cells #[] 5))).row
  have hO := Lib.hid (Own.new .u8 5 (w := w) (Nat.le_refl _) [] (by decide))
  have hl := Lib.hid hlen
  clear hlen
  go_enter Try.func71, Try.ntmps71
  go_wp2_with (at_builtin; refine wpList_push_row rfl (.tmp 12) (.tmp 13) 26 rfl Try.underlying26 u8_infoB (base := w.heap.size) (v := .slice (some ⟨w.heap.size, 0, none⟩) 0 0) (zs := []) (ys := zs) (A := A) (m := bn) (c := cap) rfl rfl hO.out hR.out (by simp; omega) (by decide) (by simp) ?_; intro v w2 hown hg2 _; have B := Own.grown (Ba.out w _) hO.out hg2; clear hg2; rw [List.nil_append] at hown)
  refine wp_loop_rounds 2 ?_
  rw [rounds_succ]
  go_wp2_with (at_builtin; refine wpList_push rfl _ _ 26 rfl .u8 5 1 Try.underlying26 u8_infoB w.heap.size _ _ _ rfl rfl rfl hown (by have := hl.out; simp; omega) (by decide) B.size ?_; intro v' w4 hown' hgrow _; replace B := Own.pushed B hown hgrow; clear hown hgrow; replace hown := hown'; clear hown')
  rw [rounds_succ]
  go_wp2_with (fail)
  have q0 : IntKind.u64.wrap n % 256 = n % 256 := by rw [IntKind.wrap_u64]; omega
  rw [q0] at hown
  have he : zs ++ [n % 256] = zs ++ S5.num1 n := by simp [S5.num1]
  rw [he] at hown
  go_ret
  exact ⟨_, rfl, hown, B⟩

theorem r5putNumberO_any (A : Option Addr) (bn cap : Nat) (zs : List Int) (n : Int) (l : Bool) (w : World) (h : Sl w A bn cap zs) (hn : bn ≤ 100000) : Calls Try.prog 37 #[.slice A bn cap, .int .i64 n, .bool l] w (OwnOut (zs ++ S5.num4 l n) w) := by
  cases l
  · go_enter Try.func37, Try.ntmps37
    go_wp2_with (fail)
    refine (r5put_4b _ _ _ zs n _ h hn).mono ?_
    rintro e w1 ⟨v1, rfl, ho1, hb1⟩
    go_wp2_with (fail)
    go_ret
    exact ⟨v1, rfl, ho1, hb1⟩
  · go_enter Try.func37, Try.ntmps37
    go_wp2_with (fail)
    refine (r5put_4l _ _ _ zs n _ h hn).mono ?_
    rintro e w1 ⟨v1, rfl, ho1, hb1⟩
    go_wp2_with (fail)
    go_ret
    exact ⟨v1, rfl, ho1, hb1⟩
theorem r5putNumber_any (A : Option Addr) (bn cap : Nat) (zs : List Int) (n : Int) (l : Bool) (w : World) (h : Sl w A bn cap zs) (hn : bn ≤ 100000) : Calls Try.prog 37 #[.slice A bn cap, .int .i64 n, .bool l] w (BytesOut (zs ++ S5.num4 l n) w) :=
  (r5putNumberO_any A bn cap zs n l w h hn).mono fun _ _ H => H.bytes (range_app h.range (S5.num4_range l n))

theorem r5putShortO_any (A : Option Addr) (bn cap : Nat) (zs : List Int) (n : Int) (l : Bool) (w : World) (h : Sl w A bn cap zs) (hn : bn ≤ 100000) : Calls Try.prog 54 #[.slice A bn cap, .int .i64 n, .bool l] w (OwnOut (zs ++ S5.num2 l n) w) := by
  cases l
  · go_enter Try.func54, Try.ntmps54
    go_wp2_with (fail)
    refine (r5put_2b _ _ _ zs n _ h hn).mono ?_
    rintro e w1 ⟨v1, rfl, ho1, hb1⟩
    go_wp2_with (fail)
    go_ret
    exact ⟨v1, rfl, ho1, hb1⟩
  · go_enter Try.func54, Try.ntmps54
    go_wp2_with (fail)
    refine (r5put_2l _ _ _ zs n _ h hn).mono ?_
    rintro e w1 ⟨v1, rfl, ho1, hb1⟩
    go_wp2_with (fail)
    go_ret
    exact ⟨v1, rfl, ho1, hb1⟩
theorem r5putShort_any (A : Option Addr) (bn cap : Nat) (zs : List Int) (n : Int) (l : Bool) (w : World) (h : Sl w A bn cap zs) (hn : bn ≤ 100000) : Calls Try.prog 54 #[.slice A bn cap, .int .i64 n, .bool l] w (BytesOut (zs ++ S5.num2 l n) w) :=
  (r5putShortO_any A bn cap zs n l w h hn).mono fun _ _ H => H.bytes (range_app h.range (S5.num2_range l n))

theorem r5putOctetO_any (A : Option Addr) (bn cap : Nat) (zs : List Int) (n : Int) (w : World) (h : Sl w A bn cap zs) (hn : bn ≤ 100000) : Calls Try.prog 36 #[.slice A bn cap, .int .i64 n] w (OwnOut (zs ++ S5.num1 n) w) := by
  go_enter Try.func36, Try.ntmps36
  go_wp2_with (fail)
  refine (r5put_1b _ _ _ zs n _ h hn).mono ?_
  rintro e w1 ⟨v1, rfl, ho1, hb1⟩
  go_wp2_with (fail)
  go_ret
  exact ⟨v1, rfl, ho1, hb1⟩
theorem r5putOctet_any (A : Option Addr) (bn cap : Nat) (zs : List Int) (n : Int) (w : World) (h : Sl w A bn cap zs) (hn : bn ≤ 100000) : Calls Try.prog 36 #[.slice A bn cap, .int .i64 n] w (BytesOut (zs ++ S5.num1 n) w) :=
  (r5putOctetO_any A bn cap zs n w h hn).mono fun _ _ H => H.bytes (range_app h.range (S5.num1_range n))

set_option maxHeartbeats 1600000 in
theorem r5putText_any (A : Option Addr) (bn cap : Nat) (zs : List Int) (s : ByteArray) (w : World) (h : Sl w A bn cap zs) (hn : bn ≤ 100000) (hsz : s.size ≤ 100000) : Calls Try.prog 38 #[.slice A bn cap, .string s] w (BytesOut (zs ++ S5.text (nums s)) w) := by
  have hl := Lib.hid h.len
  have hrg := Lib.hid h.range
  have Ba := Lib.hid (fun (x : World) (o : Obj) => (Below.refl x.heap.size x).alloc (Nat.le_refl _) o)
  have hR := Lib.hid (h.keep (Ba.out w (.cells #[] 5))).row
  have hO := Lib.hid (Own.new .u8 5 (w := w) (Nat.le_refl _) [] (by decide))
  go_enter Try.func38, Try.ntmps38
  go_wp2_with (at_builtin; first
    | (refine wpList_push_row rfl (.tmp 5) (.tmp 6) 26 rfl Try.underlying26 u8_infoB (base := w.heap.size) (v := .slice (some ⟨w.heap.size, 0, none⟩) 0 0) (zs := []) (ys := zs) (A := A) (m := bn) (c := cap) rfl rfl hO.out hR.out (by simp; omega) (by decide) (by simp) ?_; intro v2 w2 O2 hg2 _; have B2 := Lib.hid (Own.grown (Ba.out w _) hO.out hg2); replace O2 := Lib.hid O2; clear hg2)
    | (refine wpList_push_str rfl (.tmp 7) (.tmp 8) 26 9 rfl Try.underlying26 Try.underlying9 u8_infoB (base := w.heap.size) (v := v2) (zs := [] ++ zs) (s := s) rfl rfl O2.out (by have := hl.out; simp; omega) B2.out.size ?_; intro v3 w3 O3 hg3; have B3 := Lib.hid (Own.grown B2.out O2.out hg3); replace O3 := Lib.hid O3; clear hg3)
    | (refine wpList_push rfl _ _ 26 rfl .u8 5 1 Try.underlying26 u8_infoB w.heap.size _ _ _ rfl rfl rfl O3.out (by have := hl.out; simp [nums_len]; omega) (by decide) B3.out.size ?_; intro v4 w4 O4 hgrow _; have B4 := Own.pushed B3.out O3.out hgrow; clear hgrow))
  have he : [] ++ zs ++ nums s ++ [0] = zs ++ S5.text (nums s) := by simp [S5.text]
  rw [he] at O4
  obtain ⟨A4, n4, c4, rfl, hs4, hf4⟩ := O4.slf (by
    intro z hz
    rcases List.mem_append.1 hz with hz | hz
    · exact hrg.out z hz
    · unfold S5.text at hz
      rcases List.mem_append.1 hz with hz | hz
      · exact nums_range s z hz
      · rw [List.mem_singleton] at hz; subst hz; decide)
  go_ret
  exact ⟨A4, n4, c4, rfl, hs4, B4, hf4⟩

set_option maxHeartbeats 1600000 in
theorem r5pad_any (A : Option Addr) (bn cap : Nat) (zs : List Int) (w : World) (h : Sl w A bn cap zs) (hn : bn ≤ 100000) : Calls Try.prog 48 #[.slice A bn cap] w (BytesOut (S5.pad zs) w) := by
  have hl := h.len
  have hrg := Lib.hid h.range
  have Ba := Lib.hid (fun (x : World) (o : Obj) => (Below.refl x.heap.size x).alloc (Nat.le_refl _) o)
  have hR := Lib.hid (h.keep (Ba.out w (.cells #[] 5))).row
  have hO := Lib.hid (Own.new .u8 5 (w := w) (Nat.le_refl _) [] (by decide))
  have hp : ∃ p, p = S5.padN bn := ⟨_, rfl⟩
  obtain ⟨p, hp⟩ := hp
  have hp7 : p ≤ 7 ∧ (bn + p) % 8 = 0 := by rw [hp]; unfold S5.padN; omega
  have hpe := Lib.hid (show S5.pad zs = zs ++ List.replicate p 0 by unfold S5.pad; rw [hl, hp])
  replace hl := Lib.hid hl
  clear hp
  go_enter Try.func48, Try.ntmps48
  go_wp2_with (at_builtin; refine wpList_push_row rfl (.tmp 4) (.tmp 5) 26 rfl Try.underlying26 u8_infoB (base := w.heap.size) (v := .slice (some ⟨w.heap.size, 0, none⟩) 0 0) (zs := []) (ys := zs) (A := A) (m := bn) (c := cap) rfl rfl hO.out hR.out (by simp; omega) (by decide) (by simp) ?_; intro v2 w2 O2 hg2 _; have B2 := Own.grown (Ba.out w _) hO.out hg2; clear hg2; rw [List.nil_append] at O2)
  go_loopw [3] (fun l wr => ∃ j : Nat, j ≤ p ∧ Own .u8 5 wr w.heap.size l (zs ++ List.replicate j 0) ∧ Below w.heap.size w wr) (fun l _ => bn + p - sliceLen l)
  case atStart => exact ⟨0, by omega, by simpa using O2, B2⟩
  case round =>
    obtain ⟨j, hj, hown, B⟩ := hrel
    obtain ⟨a, m, c, rfl, hs, hf⟩ := hown.slf (S5.pad_range hrg.out j)
    have hm : bn + j = m := by have := hs.len; rw [List.length_append, List.length_replicate, hl.out] at this; exact this
    replace hs := Lib.hid hs
    by_cases hlt : j < p
    · have hm8 : ((m : Int) % 8 != 0) = true := by simp; omega
      go_wp2_with (at_builtin; refine wpList_push rfl _ _ 26 rfl .u8 5 1 Try.underlying26 u8_infoB w.heap.size _ _ _ rfl rfl rfl hown (by have := hl.out; simp; omega) (by decide) B.size ?_; intro v' w4 hown' hgrow _; have B4 := Own.pushed B hown hgrow; clear hgrow; rw [List.append_assoc, ← List.replicate_succ'] at hown'; obtain ⟨a4, m4, c4, rfl, hs4, _⟩ := hown'.slf (S5.pad_range hrg.out (j + 1)))
      have h4 : bn + (j + 1) = m4 := by have := hs4.len; rw [List.length_append, List.length_replicate, hl.out] at this; exact this
      go_roundw
      case rel => exact ⟨j + 1, by omega, hown', B4⟩
      case measure => simp [sliceLen]; omega
    · have e : j = p := by omega
      subst e
      have hm8 : ((m : Int) % 8 != 0) = false := by simp; omega
      go_wp2_with (fail)
      go_ret
      exact ⟨a, m, c, rfl, by rw [hpe.out]; exact hs.out, B, hf⟩

end Go.Proofs.Ytkhkmgblgonfoaa
