import Derived.Test.YthcnffieoocnkaaKeyw
import Derived.Laws.OwnMore
import Derived.Laws.Bits64b
import Derived.Laws.Strings
namespace Go.Proofs.Ythcnffieoocnkaa.st
open Go.ChangeShapes Go.WideShapes Go.ChangeAt Go.RowKit Go.Maps Go.WideMaps Go.WideElems
set_option linter.unusedVariables false
theorem info_int : (Try.prog.info? 3).map (fun i => (i.zero, i.size, i.bytes)) = some (some (.int .i64 0), 1, 8) := by kernel_rfl
def IV (l : List Int) : List Value := l.map (Value.int .i64)
theorem byte_at (xs : List Int) (k j : Nat) (hk : k < xs.length) (hj : j < 8) : (keyB xs)[8 * k + j]? = some (byteB (numN (xs.getD k 0)) j) := by
  have e : xs = xs.take k ++ (xs.getD k 0 :: xs.drop (k + 1)) := by
    have := List.take_append_drop k xs
    rw [List.drop_eq_getElem_cons hk] at this
    rw [List.getD_eq_getElem?_getD, List.getElem?_eq_getElem hk]
    exact this.symm
  generalize xs.getD k 0 = n at *
  have hl : (xs.take k).length = k := by rw [List.length_take]; omega
  rw [e, keyB_append, keyB_cons, List.getElem?_append_right (by rw [keyB_len, hl]; omega), keyB_len, hl, Nat.add_sub_cancel_left, List.getElem?_append_left (by rw [numB_len]; exact hj)]
  rcases (by omega : j = 0 ∨ j = 1 ∨ j = 2 ∨ j = 3 ∨ j = 4 ∨ j = 5 ∨ j = 6 ∨ j = 7) with rfl | rfl | rfl | rfl | rfl | rfl | rfl | rfl <;> rfl
theorem back_num {n : Int} (h : In64 n) : wrap64 (bits .xor .u64 (numN n : Int) 9223372036854775808) = n := by
  rw [show (9223372036854775808 : Int) = ((9223372036854775808 : Nat) : Int) from rfl, bits_xor_u64_nat _ _ (numN_lt h) (by decide), xor_top _ (numN_lt h)]
  have h1 := h.1
  have h2 := h.2
  unfold numN
  simp only [wrap64]
  omega
theorem iv_step (xs : List Int) (k : Nat) (n : Int) (hk : k < xs.length) (h : xs.take (k + 1) = xs.take k ++ [n]) : (IV (xs.take k) ++ List.replicate (xs.length - k) (Value.int .i64 0)).set k (Value.int .i64 n) = IV (xs.take (k + 1)) ++ List.replicate (xs.length - (k + 1)) (Value.int .i64 0) := by
  have hl : (IV (xs.take k)).length = k := by simp [IV]; omega
  rw [List.set_append_right _ _ (by omega), hl, Nat.sub_self, h, show xs.length - k = (xs.length - (k + 1)) + 1 from by omega, List.replicate_succ, List.set_cons_zero]
  simp [IV]
theorem idx_any (w : World) (k : List UInt8) (m : Nat) (i : Int) (hi : i = m) (b : UInt8) (h : k[m]? = some b) : (Instr.index 9 (Key k) (.int .i64 i)).run Try.prog w = .ok (.int .u8 (b.toNat : Int)) w := by
  subst hi
  obtain ⟨hl, hb⟩ := List.getElem?_eq_some_iff.1 h
  unfold Key
  rw [run_index_string w 9 _ _ _ Try.underlying9, dif_pos ⟨by omega, by rw [size_lit]; omega⟩]
  have : ((⟨k.toArray⟩ : ByteArray)[(m : Int).toNat]'(by rw [size_lit]; omega)) = b := by
    simpa [ByteArray.getElem_eq_getElem_data] using hb
  rw [this]
theorem valB_lt (s : Nat) (bs : List UInt8) : valB s bs < (s + 1) * 256 ^ bs.length := by
  induction bs generalizing s with
  | nil => simp [valB]
  | cons b bs ih =>
    show valB (s * 256 + b.toNat) bs < _
    refine Nat.lt_of_lt_of_le (ih _) ?_
    rw [List.length_cons, Nat.pow_succ', ← Nat.mul_assoc]
    exact Nat.mul_le_mul_right _ (by have := b.toNat_lt; omega)
theorem valB_step (n : Int) (j : Nat) (hj : j < 8) : bits .or .u64 (IntKind.u64.wrap ((valB 0 ((numB n).take j) : Int) * 256)) (IntKind.u64.wrap ((byteB (numN n) j).toNat : Int)) = ((valB 0 ((numB n).take (j + 1)) : Nat) : Int) := by
  have h1 : valB 0 ((numB n).take j) < 72057594037927936 := by
    refine Nat.lt_of_lt_of_le (valB_lt _ _) ?_
    rw [List.length_take, numB_len, Nat.min_eq_left (by omega)]
    have : 256 ^ j ≤ 256 ^ 7 := Nat.pow_le_pow_right (by decide) (by omega)
    have e : 256 ^ 7 = 72057594037927936 := by decide
    omega
  have hb := (byteB (numN n) j).toNat_lt
  have e : valB 0 ((numB n).take (j + 1)) = valB 0 ((numB n).take j) * 256 + (byteB (numN n) j).toNat := by rw [numB_step n j hj]; simp [valB]
  rw [e, IntKind.wrap_u64, IntKind.wrap_u64]
  generalize valB 0 ((numB n).take j) = V at *
  generalize (byteB (numN n) j).toNat = b at *
  rw [show (V : Int) * 256 % 18446744073709551616 = ((V * 256 : Nat) : Int) from by omega, show (b : Int) % 18446744073709551616 = ((b : Nat) : Int) from by omega, bits_or_u64_nat _ _ (by omega) (by omega)]
  have := Nat.two_pow_add_eq_or_of_lt (b := b) (i := 8) (by omega) V
  rw [Nat.mul_comm V 256, ← this]
set_option maxRecDepth 100000 in
set_option maxHeartbeats 1000000 in
theorem wordOf_any (w : World) (xs : List Int) (hin : ∀ x ∈ xs, In64 x) (hl : xs.length ≤ 1000) : Calls Try.prog 36 #[Key (keyB xs)] w fun e w' => e = .returned (.slice (some ⟨w.heap.size, 0, none⟩) xs.length xs.length) ∧ w'.ownsRow w.heap.size 3 1 (.slice (some ⟨w.heap.size, 0, none⟩) xs.length xs.length) xs.length (IV xs) ∧ Below w.heap.size w w' := by
  obtain ⟨i0, hi, hz0, hz1, hz2⟩ := info_parts info_int
  have hkl : (keyB xs).length ≤ maxLen := by rw [keyB_len]; unfold maxLen; omega
  have hlen : (((keyB xs).length / 8 : Nat) : Int) = xs.length := by rw [keyB_len]; omega
  go_enter Try.func36, Try.ntmps36
  go_wp2_with (first | (go_at_call 39; refine (keyLen_any _ (keyB xs) hkl).mono ?_; rintro e w1 ⟨rfl, rfl⟩; rw [hlen]) | (at_make; refine wpList_make_full _ rfl _ _ 22 rfl w.heap.size 3 i0 (.int .i64 0) 1 Try.underlying22 hi hz0 hz1 .i64 .i64 _ _ xs.length rfl rfl rfl rfl (by rw [hz2]; omega) (by unfold maxLen; omega) (Nat.le_refl _) ?_; intro w0 hown0 hgrow0))
  have hB0 : Below w.heap.size w w0 := (Below.refl _ _).grown hgrow0 (Nat.le_refl _) (fun k h => by cases h)
  rw [show (Value.int IntKind.i64 0).cells = #[.int .i64 0] from rfl, toList_madeCells_one, Nat.mul_one] at hown0
  have HI := Lib.hid hin
  clear hin hgrow0
  go_loopw [12] (fun i wr => ∃ k : Nat, k ≤ xs.length ∧ i = .int .i64 k ∧ wr.ownsRow w.heap.size 3 1 (.slice (some ⟨w.heap.size, 0, none⟩) xs.length xs.length) xs.length (IV (xs.take k) ++ List.replicate (xs.length - k) (.int .i64 0)) ∧ Below w.heap.size w wr) (fun i _ => xs.length - (intOf i).toNat)
  case atStart => exact ⟨0, Nat.zero_le _, rfl, hown0, hB0⟩
  case round =>
    obtain ⟨k, hk, rfl, hown, hbel⟩ := hrel
    clear hown0 hB0
    by_cases hlt : k < xs.length
    · have hby := fun j => byte_at xs k j hlt
      have hnum := HI.out (xs.getD k 0) (by rw [List.getD_eq_getElem?_getD, List.getElem?_eq_getElem hlt]; simp)
      have htake : xs.take (k + 1) = xs.take k ++ [xs.getD k 0] := by rw [List.take_add_one, List.getD_eq_getElem?_getD, List.getElem?_eq_getElem hlt]; simp
      have hcw : wr.cell? ⟨w.heap.size, k, none⟩ = some (.int .i64 0) := by
        rw [hown.cellAt k (by omega), List.getElem?_append_right (by simp [IV]; omega), List.getElem?_replicate]
        simp [IV]
        omega
      have hfw := hown.frozenAt k
      generalize xs.getD k 0 = n at *
      have HT := Lib.hid htake
      have HB := Lib.hid hby
      have HN := Lib.hid hnum
      clear htake hby hnum
      go_wp2_with fail
      go_loop [5, 6] (fun b q => ∃ j : Nat, j ≤ 8 ∧ b = .int .u64 ((valB 0 ((numB n).take j) : Nat) : Int) ∧ q = .int .i64 ((8 * k + j : Nat) : Int)) (fun _ q => 8 * k + 8 - (intOf q).toNat)
      case atStart => exact ⟨0, Nat.zero_le _, rfl, congrArg (Value.int .i64) (by omega)⟩
      case round =>
        obtain ⟨j, hj, rfl, rfl⟩ := hrel
        by_cases hj8 : j = 8
        · subst hj8
          have hv8 : valB 0 ((numB n).take 8) = numN n := by rw [List.take_of_length_le (by rw [numB_len]; omega), val_num HN.out]
          rw [hv8]
          have hback := back_num HN.out
          go_wp2
          obtain ⟨o1, o2⟩ := hown.stored k (.int .i64 n)
          rw [iv_step xs k n (by omega) HT.out] at o1
          exact ⟨⟨k + 1, by omega, congrArg (Value.int .i64) (by omega), o1, hbel.grown o2 hbel.size (fun k h => by cases h; exact Nat.le_refl _)⟩, by simp only [intOf]; omega⟩
        · have hj8' : j < 8 := by omega
          have hidx := idx_any wr (keyB xs) (8 * k + j) (8 * k + j) (by omega) _ (HB.out j hj8')
          have hst := valB_step n j hj8'
          go_wp2
          exact ⟨⟨j + 1, by omega, rfl, congrArg (Value.int .i64) (by omega)⟩, by simp only [intOf]; omega⟩
    · have hkk : k = xs.length := by omega
      subst hkk
      go_wp2
      go_ret
      refine ⟨rfl, ?_, hbel⟩
      simpa using hown
end Go.Proofs.Ythcnffieoocnkaa.st
