/-
  The bytes of a text as numbers; a text appended to a slice of bytes.
-/
import Derived.Test.YtdhjhpmbgfefbaaSl
import Derived.Lib.AppendStr
namespace Go.Proofs.Ytdhjhpmbgfefbaa
open Go.RowKit

/-- The bytes of a text. -/
def nums (s : ByteArray) : List Int := s.data.toList.map fun b => (b.toNat : Int)
theorem nums_len (s : ByteArray) : (nums s).length = s.size := by unfold nums; rw [List.length_map, Array.length_toList]; rfl
theorem nums_range (s : ByteArray) : ∀ n ∈ nums s, 0 ≤ n ∧ n ≤ 255 := by
  intro n hn
  obtain ⟨b, _, rfl⟩ := List.mem_map.1 hn
  have := b.toNat_lt
  omega
theorem nums_cells (s : ByteArray) : Lib.strCells s = (nums s).map (Value.int .u8) := by simp [Lib.strCells, nums]
theorem str_nums (s : ByteArray) : strOfNums (nums s) = s := by
  have e : (strOfNums (nums s)).data.toList = s.data.toList := by
    rw [strOfNums_data, nums, List.map_map]
    refine (List.map_congr_left (g := id) fun b _ => ?_).trans (List.map_id _)
    show UInt8.ofNat ((b.toNat : Int)).toNat = b
    simp
  exact ByteArray.ext (Array.ext' e)
theorem nums_str {zs : List Int} (h : ∀ n ∈ zs, 0 ≤ n ∧ n ≤ 255) : nums (strOfNums zs) = zs := by
  unfold nums
  rw [strOfNums_data, List.map_map]
  refine (List.map_congr_left (g := id) fun n hn => ?_).trans (List.map_id zs)
  obtain ⟨h0, h1⟩ := h n hn
  show (((UInt8.ofNat n.toNat).toNat : Nat) : Int) = n
  rw [UInt8.toNat_ofNat', Nat.mod_eq_of_lt (by omega)]; omega
theorem nums_inj {s t : ByteArray} (h : nums s = nums t) : s = t := by rw [← str_nums s, ← str_nums t, h]

/-- The text of a row of bytes. -/
theorem conv_at {w : World} {b off n cap : Nat} {zs : List Int} (h : RowK .u8 w (some ⟨b, off, none⟩) n zs) : (convert 22 9 (.slice (some ⟨b, off, none⟩) n cap)).run Try.prog w = .ok (.string (strOfNums zs)) w := by
  refine run_convert_bytes_arg _ _ _ Try.underlying22 Try.underlying5 b off n cap zs h.len (fun i hi => ?_) _ Try.underlying9
  obtain ⟨b', off', z, ha, hz, _, _, hc⟩ := h.at hi
  cases ha
  rw [List.getD, hz]
  exact hc

/-- 'append(v, s...)', s a text. -/
theorem wpList_push_str {P : Program} {w : World} {ops : Array Oper} {rest : List Oper} {o : Oper} {a : Act} {Q : Exit → Act → World → Prop} (hgd : o.guard = none) (sl x : Operand) (t u : TypeId)
    (ho : o.op = .call { callee := .builtin .append, args := #[sl, x], argTypes := #[t, u] }) {e : TypeId} (ht : P.underlying t = some (.slice e)) (hu : P.underlying u = some .string) (hi : (P.info? e).map (fun i => (i.zero, i.size, i.bytes)) = some (some (.int .u8 0), 1, 1))
    {base : Nat} {v : Value} {zs : List Int} {s : ByteArray} (hs : a.eval sl = v) (hx : a.eval x = .string s) (hown : Own .u8 e w base v zs) (h63 : zs.length + s.size < 1000000) (hbase : base ≤ w.heap.size)
    (h : ∀ v' w', Own .u8 e w' base v' (zs ++ nums s) → w.grownBy w' v.ownBlock → wpList P ops Q rest (a.put o.dst v') w') : wpList P ops Q (o :: rest) a w := by
  obtain ⟨i, hi, hz0, hz1, hz2⟩ := info_parts hi
  refine Lib.wpList_append_own_string w hgd sl x t u ho base e i ht hu hi hz0 hz1 hz2 v zs.length (zs.map (Value.int .u8)) hs hown s hx (by unfold maxLen; omega) (by omega) hbase ?_
  intro v' w' h1 h2 _
  refine h v' w' ?_ h2
  unfold Own
  rw [List.length_append, nums_len, List.map_append, ← nums_cells]
  exact h1

end Go.Proofs.Ytdhjhpmbgfefbaa
