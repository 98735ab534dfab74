import Derived.Test.YtomikgkoegkofaaGreatDoorDvm
import Derived.Test.YtomikgkoegkofaaGreatDoorDwn
import Derived.Laws.Strings
namespace Go.Proofs.YtomikgkoegkofaaGreatDoor.dv
open Go.ChangeShapes Go.WideShapes Go.ChangeAt Go.RowKit Go.Maps Go.WideMaps Go.WideElems
set_option linter.unusedVariables false
set_option linter.unusedSimpArgs false
/-! names: what is asked of them is answered, and nothing is turned -/
def Tells (w : World) : Ending → World → Prop := fun e w' => ∃ b, e = .returned (.bool b) ∧ w' = w
set_option maxHeartbeats 400000 in
theorem letter_any (w : World) (c : Int) : Calls Tryz.prog 59 #[.int .u8 c] w (Tells w) := by
  go_enter Tryz.func59, Tryz.ntmps59
  go_wp2
  all_goals go_ret
  all_goals exact ⟨_, rfl, rfl⟩
set_option maxHeartbeats 400000 in
theorem digit_any (w : World) (c : Int) : Calls Tryz.prog 87 #[.int .u8 c] w (Tells w) := by
  go_enter Tryz.func87, Tryz.ntmps87
  go_wp2
  all_goals go_ret
  all_goals exact ⟨_, rfl, rfl⟩
set_option maxHeartbeats 400000 in
theorem quotable_any (w : World) (c : Int) : Calls Tryz.prog 61 #[.int .u8 c] w (Tells w) := by
  go_enter Tryz.func61, Tryz.ntmps61
  go_wp2
  all_goals go_ret
  all_goals exact ⟨_, rfl, rfl⟩
set_option maxHeartbeats 400000 in
theorem inner_any (w : World) (c : Int) : Calls Tryz.prog 60 #[.int .u8 c] w (Tells w) := by
  go_enter Tryz.func60, Tryz.ntmps60
  go_wp2_with (first | (go_at_call 59; refine (letter_any _ _).mono ?_; rintro e w1 ⟨b1, rfl, rfl⟩; cases b1) | (go_at_call 87; refine (digit_any _ _).mono ?_; rintro e w1 ⟨b2, rfl, rfl⟩; cases b2))
  all_goals go_wp2_with (first | (go_at_call 59; refine (letter_any _ _).mono ?_; rintro e w1 ⟨b1, rfl, rfl⟩; cases b1) | (go_at_call 87; refine (digit_any _ _).mono ?_; rintro e w1 ⟨b2, rfl, rfl⟩; cases b2))
  all_goals go_ret
  all_goals exact ⟨_, rfl, rfl⟩
set_option maxHeartbeats 1000000 in
theorem isQuote_any (w : World) (s : ByteArray) (hs : s.size ≤ maxLen) : Calls Tryz.prog 27 #[.string s] w (Tells w) := by
  unfold maxLen at hs
  go_enter Tryz.func27, Tryz.ntmps27
  go_wp2
  go_loopw [3] (fun i wr => ∃ k : Nat, k ≤ s.size ∧ i = .int .i64 k ∧ wr = w) (fun i _ => s.size - (intOf i).toNat)
  case atStart => exact ⟨0, Nat.zero_le _, rfl, rfl⟩
  case round =>
    obtain ⟨k, hk, rfl, rfl⟩ := hrel
    by_cases hlt : k < s.size
    · go_wp2_with (go_at_call 61; refine (quotable_any _ _).mono ?_; rintro e w1 ⟨b1, rfl, rfl⟩; cases b1)
      · go_ret
        exact ⟨_, rfl, rfl⟩
      · exact ⟨⟨k + 1, hlt, congrArg (Value.int .i64) (by omega), trivial⟩, by simp only [intOf]; omega⟩
    · obtain rfl : k = s.size := by omega
      go_wp2
      all_goals go_ret
      all_goals exact ⟨_, rfl, rfl⟩
set_option maxHeartbeats 1000000 in
theorem isName_any (w : World) (s : ByteArray) (hs : s.size ≤ maxLen) : Calls Tryz.prog 25 #[.string s] w (Tells w) := by
  unfold maxLen at hs
  by_cases h1 : 1 ≤ s.size
  · go_enter Tryz.func25, Tryz.ntmps25
    go_wp2_with (go_at_call 59; refine (letter_any _ _).mono ?_; rintro e w1 ⟨b1, rfl, rfl⟩; cases b1)
    · go_ret
      exact ⟨_, rfl, rfl⟩
    · go_loopw [3] (fun i wr => ∃ k : Nat, k ≤ s.size ∧ i = .int .i64 k ∧ wr = w1) (fun i _ => s.size - (intOf i).toNat)
      case atStart => exact ⟨0, Nat.zero_le _, rfl, rfl⟩
      case round =>
        obtain ⟨k, hk, rfl, rfl⟩ := hrel
        by_cases hlt : k < s.size
        · go_wp2_with (go_at_call 60; refine (inner_any _ _).mono ?_; rintro e w2 ⟨b1, rfl, rfl⟩; cases b1)
          · go_ret
            exact ⟨_, rfl, rfl⟩
          · exact ⟨⟨k + 1, hlt, congrArg (Value.int .i64) (by omega), trivial⟩, by simp only [intOf]; omega⟩
        · obtain rfl : k = s.size := by omega
          go_wp2
          all_goals go_ret
          all_goals exact ⟨_, rfl, rfl⟩
    all_goals
      go_ret
      exact ⟨_, rfl, rfl⟩
  · go_enter Tryz.func25, Tryz.ntmps25
    go_wp2
    go_ret
    exact ⟨_, rfl, rfl⟩
/-- texts in memory -/
def StrsAt (B : Nat) (w : World) (ao : Option Addr) (n : Nat) : Prop := ∀ i, i < n → ∃ (a : Addr) (s : ByteArray), ao = some a ∧ a.block < B ∧ w.cell? (a.add i) = some (.string s) ∧ s.size ≤ maxLen
theorem StrsAt.below {B : Nat} {w w' : World} {ao : Option Addr} {n : Nat} (h : StrsAt B w ao n) (hb : Below B w w') : StrsAt B w' ao n := fun i hi => by
  obtain ⟨a, s, e, hab, hc, hs⟩ := h i hi
  exact ⟨a, s, e, hab, (hb.cell (p := a.add i) (by rw [add_block]; exact hab)).trans hc, hs⟩
set_option maxHeartbeats 1000000 in
theorem place_any (w : World) (B : Nat) (ao : Option Addr) (n cap : Nat) (s : ByteArray) (hs : s.size ≤ maxLen) (hn : n ≤ maxLen) (h : StrsAt B w ao n) : Calls Tryz.prog 26 #[.slice ao n cap, .string s] w fun e w' => ∃ x, e = .returned (.int .i64 x) ∧ w' = w := by
  unfold maxLen at hs hn
  have H := Lib.hid h
  clear h
  go_enter Tryz.func26, Tryz.ntmps26
  go_wp2
  go_loopw [5] (fun i wr => ∃ k : Nat, k ≤ n ∧ i = .int .i64 k ∧ wr = w) (fun i _ => n - (intOf i).toNat)
  case atStart => exact ⟨0, Nat.zero_le _, rfl, rfl⟩
  case round =>
    obtain ⟨k, hk, rfl, rfl⟩ := hrel
    by_cases hlt : k < n
    · obtain ⟨a, t, rfl, hab, hc, ht⟩ := H.out k hlt
      go_wp2
      · go_ret
        exact ⟨_, rfl, rfl⟩
      · exact ⟨⟨k + 1, hlt, congrArg (Value.int .i64) (by omega), trivial⟩, by simp only [intOf]; omega⟩
    · obtain rfl : k = n := by omega
      go_wp2
      all_goals go_ret
      all_goals exact ⟨_, rfl, rfl⟩
end Go.Proofs.YtomikgkoegkofaaGreatDoor.dv
