import Derived.Test.YthcnffieoocnkaaKeyz
import Derived.OwnWalk
import Derived.Laws.IdiomStrings
import Derived.Laws.Bits64
import Derived.Maps.AppendAt
namespace Go.Proofs.Ythcnffieoocnkaa.st
open Go.ChangeShapes Go.WideShapes Go.ChangeAt Go.RowKit Go.Maps Go.WideMaps Go.WideElems
set_option linter.unusedVariables false
/-- a word, as a slice value -/
def WordAt (w : World) (v : Value) (xs : List Int) : Prop := ∃ ao cap, v = .slice ao xs.length cap ∧ (∀ x ∈ xs, In64 x) ∧ (∀ i, i < xs.length → ∃ a : Addr, ao = some a ∧ a.block < w.heap.size ∧ w.cell? (a.add i) = some (.int .i64 (xs.getD i 0)))
def BV (l : List UInt8) : List Value := l.map fun b => .int .u8 (b.toNat : Int)
theorem info_u8 : (Try.prog.info? 5).map (fun i => (i.zero, i.size, i.bytes)) = some (some (.int .u8 0), 1, 1) := by kernel_rfl
theorem xor_num {n : Int} (h : In64 n) : bits .xor .u64 (IntKind.u64.wrap n) 9223372036854775808 = (numN n : Int) := by
  rw [IntKind.wrap_u64]
  have h1 : n % 18446744073709551616 = (((n % 18446744073709551616).toNat : Nat) : Int) := by have := h.1; omega
  have h2 : ((n % 18446744073709551616).toNat) < 18446744073709551616 := by have := h.1; omega
  rw [h1, show (9223372036854775808 : Int) = ((9223372036854775808 : Nat) : Int) from rfl, bits_xor_u64_nat _ _ h2 (by decide), xor_top _ h2]
  have e : ((n % 18446744073709551616).toNat + 9223372036854775808) % 18446744073709551616 = (n + 9223372036854775808).toNat := by
    have := h.1
    have := h.2
    omega
  rw [e]
  rfl
theorem own_cells {w : World} {g n cap : Nat} {e : TypeId} {vals : List Value} (h : w.ownsRow g e 1 (.slice (some ⟨g, 0, none⟩) n cap) n vals) (j : Nat) (u : Value) (hj : vals[j]? = some u) : w.cell? ((⟨g, 0, none⟩ : Addr).add j) = some u := by
  obtain ⟨hl, h | ⟨g', cap', cur, hv, hg, hh, h1, h2, h3, h4⟩⟩ := h
  · cases h.1
  · cases hv
    rw [← h4] at hj
    have hlt : j < n * 1 := by
      by_cases hlt : j < n * 1
      · exact hlt
      · rw [List.getElem?_eq_none (by rw [List.length_take]; omega)] at hj; cases hj
    rw [List.getElem?_take_of_lt hlt] at hj
    have := cell_of_row w g j cur e (0, 0) hh
    have e : (⟨g, 0, none⟩ : Addr).add j = ⟨g, j, none⟩ := by
      unfold Addr.add
      split
      · rename_i h; rw [h]
      · simp
    rw [e, this]
    simpa using hj
theorem add_block (a : Addr) (k : Nat) : (a.add k).block = a.block := by unfold Addr.add; split <;> rfl
theorem byte_int (N j : Nat) (hj : j < 8) : ((byteB N j).toNat : Int) = (N : Int) / 2 ^ (56 - 8 * j) % 256 := by
  rw [byteB_val]
  rcases (by omega : j = 0 ∨ j = 1 ∨ j = 2 ∨ j = 3 ∨ j = 4 ∨ j = 5 ∨ j = 6 ∨ j = 7) with rfl | rfl | rfl | rfl | rfl | rfl | rfl | rfl <;> simp
theorem numB_step (n : Int) (j : Nat) (hj : j < 8) : (numB n).take (j + 1) = (numB n).take j ++ [byteB (numN n) j] := by
  rcases (by omega : j = 0 ∨ j = 1 ∨ j = 2 ∨ j = 3 ∨ j = 4 ∨ j = 5 ∨ j = 6 ∨ j = 7) with rfl | rfl | rfl | rfl | rfl | rfl | rfl | rfl <;> rfl
theorem bv_step (l : List UInt8) (n : Int) (j : Nat) (hj : j < 8) : BV (l ++ (numB n).take j) ++ [.int .u8 ((numN n : Int) / 2 ^ (56 - 8 * j) % 256)] = BV (l ++ (numB n).take (j + 1)) := by
  rw [numB_step n j hj, ← List.append_assoc]
  simp only [BV, List.map_append, List.map_cons, List.map_nil, byte_int _ _ hj]
theorem bv_full (xs : List Int) (k : Nat) (n : Int) (h : xs.take (k + 1) = xs.take k ++ [n]) : BV (keyB (xs.take k) ++ (numB n).take 8) = BV (keyB (xs.take (k + 1))) := by
  rw [h, keyB_append, List.take_of_length_le (l := numB n) (by rw [numB_len]; omega)]
  simp [keyB]
set_option maxRecDepth 100000 in
set_option maxHeartbeats 1000000 in
theorem keyOf_any (w : World) (v : Value) (xs : List Int) (hw : WordAt w v xs) (hl : xs.length ≤ 1000) : Calls Try.prog 38 #[v] w fun e w' => e = .returned (Key (keyB xs)) ∧ Below w.heap.size w w' := by
  obtain ⟨ao, cap, rfl, hin, hcell⟩ := hw
  obtain ⟨i0, hi, hz0, hz1, hz2⟩ := info_parts info_u8
  go_enter Try.func38, Try.ntmps38
  go_wp2_with (first | (at_make; refine wpList_make_own _ rfl _ _ 70 rfl w.heap.size 5 i0 (.int .u8 0) 1 Try.underlying70 hi hz0 hz1 .i64 .i64 _ (xs.length * 8) rfl rfl (by omega) (by rw [hz2]; omega) (by unfold maxLen; omega) (Nat.le_refl _) ?_; intro w0 hown0 hgrow0))
  have hB0 : Below w.heap.size w w0 := (Below.refl _ _).grown hgrow0 (Nat.le_refl _) (fun k h => by cases h)
  clear hgrow0
  have HI := Lib.hid hin
  have HC := Lib.hid hcell
  clear hin hcell
  go_loopw [3, 14] (fun v i wr => ∃ k : Nat, k ≤ xs.length ∧ i = .int .i64 k ∧ v = .slice (some ⟨w.heap.size, 0, none⟩) (8 * k) (xs.length * 8) ∧ wr.ownsRow w.heap.size 5 1 (.slice (some ⟨w.heap.size, 0, none⟩) (8 * k) (xs.length * 8)) (8 * k) (BV (keyB (xs.take k))) ∧ Below w.heap.size w wr) (fun _ i _ => xs.length - (intOf i).toNat)
  case atStart => exact ⟨0, Nat.zero_le _, rfl, rfl, hown0, hB0⟩
  case round =>
    obtain ⟨k, hk, rfl, rfl, hown, hbel⟩ := hrel
    clear hown0 hB0
    by_cases hlt : k < xs.length
    · obtain ⟨a, rfl, hab, hca⟩ := HC.out k hlt
      have hca' : wr.cell? (a.add k) = some (.int .i64 (xs.getD k 0)) := (hbel.cell (p := a.add k) (by rw [add_block]; exact hab)).trans hca
      have hnum := HI.out (xs.getD k 0) (by rw [List.getD_eq_getElem?_getD, List.getElem?_eq_getElem hlt]; simp)
      have hxor := xor_num hnum
      have htake : xs.take (k + 1) = xs.take k ++ [xs.getD k 0] := by rw [List.take_add_one, List.getD_eq_getElem?_getD, List.getElem?_eq_getElem hlt]; simp
      clear hca
      generalize xs.getD k 0 = n at *
      have HX := Lib.hid hxor
      have HT := Lib.hid htake
      clear hxor htake hnum
      go_wp2_with fail
      rw [HX.out]
      clear hca'
      obtain ⟨wo, rfl⟩ : ∃ wo : World, wo = wr := ⟨_, rfl⟩
      go_loopw [3, 7] (fun v sh wr => ∃ j : Nat, j ≤ 8 ∧ sh = .int .i64 (56 - 8 * j) ∧ v = .slice (some ⟨w.heap.size, 0, none⟩) (8 * k + j) (xs.length * 8) ∧ wr.ownsRow w.heap.size 5 1 (.slice (some ⟨w.heap.size, 0, none⟩) (8 * k + j) (xs.length * 8)) (8 * k + j) (BV (keyB (xs.take k) ++ (numB n).take j)) ∧ Below w.heap.size w wr) (fun _ sh _ => (intOf sh + 8).toNat)
      case atStart => exact ⟨0, Nat.zero_le _, rfl, rfl, by simpa using hown, hbel⟩
      case round =>
        obtain ⟨j, hj, rfl, rfl, hown2, hbel2⟩ := hrel
        by_cases hj8 : j = 8
        · subst hj8
          go_wp2
          rw [bv_full xs k n HT.out] at hown2
          refine ⟨⟨k + 1, by omega, congrArg (Value.int .i64) (by omega), rfl, hown2, hbel2⟩, by simp only [intOf]; omega⟩
        · have hj8' : j < 8 := by omega
          go_wp2_with (first | (at_builtin; refine wpList_append_fits _ rfl (.tmp 25) (.tmp 30) 70 rfl w.heap.size 5 i0 1 Try.underlying70 hi hz1 w.heap.size (8 * k + j) (xs.length * 8) _ rfl (hown2.alloc _) ⟨wr.heap.size, 0, none⟩ 1 1 [.int .u8 ((numN n : Int) / 2 ^ (56 - 8 * j) % 256)] rfl rfl (cell_one_new _ _ _) (ints_oneCell .u8 [_]) (by omega) ?_; intro w4 hown4 hgrow4; rw [bv_step _ _ _ hj8'] at hown4))
          exact ⟨⟨j + 1, by omega, congrArg (Value.int .i64) (by omega), rfl, hown4, (hbel2.alloc hbel2.size _).grown hgrow4 (by rw [World.size_alloc]; have := hbel2.size; omega) (fun k h => by cases h; exact Nat.le_refl _)⟩, by simp only [intOf]; omega⟩
    · have hkk : k = xs.length := by omega
      subst hkk
      have hconv : (convert 70 9 (.slice (some ⟨w.heap.size, 0, none⟩) (8 * xs.length) (xs.length * 8))).run Try.prog wr = .ok (Key (keyB xs)) wr := by
        rw [List.take_length] at hown
        have := run_convert_bytes_back (P := Try.prog) wr 70 9 5 ⟨w.heap.size, 0, none⟩ (xs.length * 8) (keyB xs) Try.underlying70 Try.underlying5 Try.underlying9 (fun j hj => own_cells hown j _ (by simp [BV, hj]))
        rw [keyB_len] at this
        exact this
      clear hown
      go_wp2
      go_ret
      exact ⟨rfl, hbel⟩
end Go.Proofs.Ythcnffieoocnkaa.st
