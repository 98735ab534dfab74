import Derived.Test.YtldamieigigncaaGreatDoorVcbl
import Derived.Test.YtldamieigigncaaGreatDoorVcba
import Derived.Test.YtldamieigigncaaGreatDoorVcbk
namespace Go.Proofs.YtldamieigigncaaGreatDoor.lx
open Go.ChangeShapes Go.WideShapes Go.ChangeAt Go.RowKit Go.Proofs.YtldamieigigncaaGreatDoor.ky
set_option linter.unusedVariables false
set_option linter.unusedSimpArgs false
theorem sh_lt {a b : List UInt8} (h : a < b) : srt [b, a] = [a, b] := by
  rw [show ([b, a] : List (List UInt8)) = ([] ++ [b]) ++ [a] from rfl, srt_snoc, srt_snoc, srt_nil]
  have h2 : ¬ b < a := List.lt_asymm h
  show insS a [b] = [a, b]
  unfold insS
  simp [h2]
theorem sh_gt {a b : List UInt8} (h : b < a) : srt [b, a] = [b, a] := by
  rw [show ([b, a] : List (List UInt8)) = ([] ++ [b]) ++ [a] from rfl, srt_snoc, srt_snoc, srt_nil]
  show insS a [b] = [b, a]
  unfold insS
  simp [h]
theorem turn_b {a b : List UInt8} (h : a ≠ b) : turnS [b, a] [a, b] (-1) = -2 := by
  unfold turnS
  rw [if_pos (by decide)]
  show -((List.idxOf b [a, b] : Nat) : Int) - 1 = -2
  simp [List.idxOf_cons, show (a == b) = false from beq_eq_false_iff_ne.2 h]
theorem turn_a {a b : List UInt8} : turnS [b, a] [a, b] (-2) = -1 := by
  unfold turnS
  rw [if_pos (by decide)]
  show -((List.idxOf a [a, b] : Nat) : Int) - 1 = -1
  simp [List.idxOf_cons]
theorem stay_b {a b : List UInt8} : turnS [b, a] [b, a] (-1) = -1 := by
  unfold turnS
  rw [if_pos (by decide)]
  show -((List.idxOf b [b, a] : Nat) : Int) - 1 = -1
  simp [List.idxOf_cons]
theorem stay_a {a b : List UInt8} (h : a ≠ b) : turnS [b, a] [b, a] (-2) = -2 := by
  unfold turnS
  rw [if_pos (by decide)]
  show -((List.idxOf a [b, a] : Nat) : Int) - 1 = -2
  simp [List.idxOf_cons, show (b == a) = false from beq_eq_false_iff_ne.2 (fun e => h e.symm)]
theorem turn_v (x y : List (List UInt8)) (n : Nat) : turnS x y (n : Int) = n := by
  unfold turnS
  rw [if_neg (by omega)]
def shR_q0 : List Rl := [(0, [1, 2], 0), (0, [-2], 0), (1, [-1], 0), (1, [], 0), (2, [3], 0), (2, [], 0), (3, [-2, 0], 0)]
def shG_q0 (a b : List UInt8) : Gra := ⟨[a, b], [[115], [103, 49], [103, 50], [103, 51]], shR_q0⟩
theorem sh_load_q0 {a b : List UInt8} (h : a < b) (ha : isQuoteB a = true) (hb : isQuoteB b = true) : loadAll (shpT a b 63) = (shG_q0 a b, 0, 0) := by
  have hab : a ≠ b := (fun e => absurd h (by rw [e]; exact List.lt_irrefl _))
  obtain ⟨p0, p2, p4, p5, p6, p10, hr⟩ := sh_read a b 63 ha hb (by simp)
  rw [load_def hr, loadD_ok (l := ⟨[[115]], [], [shAlts p2 p4 p5 p6 p10 a b 63], 0, []⟩) (by rfl) (by kernel_rfl) (sh_go_q p2 p4 p5 p6 p10 a b hab)]
  show ((orderP _, 0, 0) : Gra × Nat × Nat) = _
  congr 1
  unfold orderP shG_q0 shR_q0
  simp only [sh_lt h, List.map_cons, List.map_nil, turn_b hab, turn_a, show turnS [b, a] [a, b] 0 = 0 from turn_v _ _ 0, show turnS [b, a] [a, b] 1 = 1 from turn_v _ _ 1, show turnS [b, a] [a, b] 2 = 2 from turn_v _ _ 2, show turnS [b, a] [a, b] 3 = 3 from turn_v _ _ 3]
theorem sh_sorted_q0 : SortedL shR_q0 := by
  intro k a b ha hb
  match k, ha, hb with
  | 0, ha, hb => cases ha; cases hb; decide
  | 1, ha, hb => cases ha; cases hb; decide
  | 2, ha, hb => cases ha; cases hb; decide
  | 3, ha, hb => cases ha; cases hb; decide
  | 4, ha, hb => cases ha; cases hb; decide
  | 5, ha, hb => cases ha; cases hb; decide
  | 6, ha, hb => cases hb
  | k + 7, ha, hb => cases ha
theorem sh_in_q0 : RulesIn64 shR_q0 := fun r hr => by
  have hr : r ∈ ([(0, [1, 2], 0), (0, [-2], 0), (1, [-1], 0), (1, [], 0), (2, [3], 0), (2, [], 0), (3, [-2, 0], 0)] : List Rl) := hr
  simp only [List.mem_cons, List.not_mem_nil, or_false] at hr
  rcases hr with rfl | rfl | rfl | rfl | rfl | rfl | rfl
  · exact ⟨by decide, fun x hx => by simp at hx; unfold In64x; omega⟩
  · exact ⟨by decide, fun x hx => by simp at hx; unfold In64x; omega⟩
  · exact ⟨by decide, fun x hx => by simp at hx; unfold In64x; omega⟩
  · exact ⟨by decide, fun x hx => (by cases hx)⟩
  · exact ⟨by decide, fun x hx => by simp at hx; unfold In64x; omega⟩
  · exact ⟨by decide, fun x hx => (by cases hx)⟩
  · exact ⟨by decide, fun x hx => by simp at hx; unfold In64x; omega⟩
theorem sh_wt_q0 {w : World} {b off : Nat} (hv : Pv w b off) : ∀ r ∈ shR_q0, WtTell w r.2.2 true := fun r hr => by
  have hr : r ∈ ([(0, [1, 2], 0), (0, [-2], 0), (1, [-1], 0), (1, [], 0), (2, [3], 0), (2, [], 0), (3, [-2, 0], 0)] : List Rl) := hr
  simp only [List.mem_cons, List.not_mem_nil, or_false] at hr
  rcases hr with rfl | rfl | rfl | rfl | rfl | rfl | rfl <;> exact told_tell told_zero hv
theorem sh_right_q0 {a b : List UInt8} (h : a < b) (ha : isQuoteB a = true) (hb : isQuoteB b = true) : RightOk (fun _ => true) (shG_q0 a b) := by
  refine ⟨by show 1 ≤ 4; decide, by show 4 ≤ 64; decide, by show 2 ≤ 64; decide, by show 7 ≤ 256; decide, ?_, ?_, ⟨sh_sorted_q0, ?_, ?_⟩, ?_⟩
  · show VarsOk ([[115], [103, 49], [103, 50], [103, 51]] : List (List UInt8))
    intro k x h
    match k, h with
    | 0, h => cases h; exact ⟨by decide, by decide⟩
    | 1, h => cases h; exact ⟨by decide, by decide⟩
    | 2, h => cases h; exact ⟨by decide, by decide⟩
    | 3, h => cases h; exact ⟨by decide, by decide⟩
    | k + 4, h => cases h
  · intro k x hx
    match k, hx with
    | 0, hx => cases hx; exact ⟨ha, fun j y hj => by omega⟩
    | 1, hx =>
      cases hx
      refine ⟨hb, fun j y hj hy => ?_⟩
      obtain rfl : j = 0 := by omega
      cases hy
      exact h
    | k + 2, hx => cases hx
  · intro v hv
    have hv : v < 4 := hv
    match v, hv with
    | 0, _ => exact ⟨(0, [1, 2], 0), by show _ ∈ shR_q0; decide, rfl⟩
    | 1, _ => exact ⟨(1, [-1], 0), by show _ ∈ shR_q0; decide, rfl⟩
    | 2, _ => exact ⟨(2, [3], 0), by show _ ∈ shR_q0; decide, rfl⟩
    | 3, _ => exact ⟨(3, [-2, 0], 0), by show _ ∈ shR_q0; decide, rfl⟩
    | v + 4, h => omega
  · intro k r hk
    match k, hk with
    | 0, hk => cases hk; exact ⟨by show ruleB 4 2 _ _ _ = true; decide, by show (List.any (List.take 0 shR_q0) _) = false; decide⟩
    | 1, hk => cases hk; exact ⟨by show ruleB 4 2 _ _ _ = true; decide, by show (List.any (List.take 1 shR_q0) _) = false; decide⟩
    | 2, hk => cases hk; exact ⟨by show ruleB 4 2 _ _ _ = true; decide, by show (List.any (List.take 2 shR_q0) _) = false; decide⟩
    | 3, hk => cases hk; exact ⟨by show ruleB 4 2 _ _ _ = true; decide, by show (List.any (List.take 3 shR_q0) _) = false; decide⟩
    | 4, hk => cases hk; exact ⟨by show ruleB 4 2 _ _ _ = true; decide, by show (List.any (List.take 4 shR_q0) _) = false; decide⟩
    | 5, hk => cases hk; exact ⟨by show ruleB 4 2 _ _ _ = true; decide, by show (List.any (List.take 5 shR_q0) _) = false; decide⟩
    | 6, hk => cases hk; exact ⟨by show ruleB 4 2 _ _ _ = true; decide, by show (List.any (List.take 6 shR_q0) _) = false; decide⟩
    | k + 7, hk => cases hk
  · intro t ht
    have ht : t < 2 := ht
    match t, ht with
    | 0, _ => show (List.any shR_q0 _) = true; decide
    | 1, _ => show (List.any shR_q0 _) = true; decide
    | t + 2, h => omega
def shR_q1 : List Rl := [(0, [1, 2], 0), (0, [-1], 0), (1, [-2], 0), (1, [], 0), (2, [3], 0), (2, [], 0), (3, [-1, 0], 0)]
def shG_q1 (a b : List UInt8) : Gra := ⟨[b, a], [[115], [103, 49], [103, 50], [103, 51]], shR_q1⟩
theorem sh_load_q1 {a b : List UInt8} (h : b < a) (ha : isQuoteB a = true) (hb : isQuoteB b = true) : loadAll (shpT a b 63) = (shG_q1 a b, 0, 0) := by
  have hab : a ≠ b := (fun e => absurd h (by rw [e]; exact List.lt_irrefl _))
  obtain ⟨p0, p2, p4, p5, p6, p10, hr⟩ := sh_read a b 63 ha hb (by simp)
  rw [load_def hr, loadD_ok (l := ⟨[[115]], [], [shAlts p2 p4 p5 p6 p10 a b 63], 0, []⟩) (by rfl) (by kernel_rfl) (sh_go_q p2 p4 p5 p6 p10 a b hab)]
  show ((orderP _, 0, 0) : Gra × Nat × Nat) = _
  congr 1
  unfold orderP shG_q1 shR_q1
  simp only [sh_gt h, List.map_cons, List.map_nil, stay_b, stay_a hab, show turnS [b, a] [b, a] 0 = 0 from turn_v _ _ 0, show turnS [b, a] [b, a] 1 = 1 from turn_v _ _ 1, show turnS [b, a] [b, a] 2 = 2 from turn_v _ _ 2, show turnS [b, a] [b, a] 3 = 3 from turn_v _ _ 3]
theorem sh_sorted_q1 : SortedL shR_q1 := by
  intro k a b ha hb
  match k, ha, hb with
  | 0, ha, hb => cases ha; cases hb; decide
  | 1, ha, hb => cases ha; cases hb; decide
  | 2, ha, hb => cases ha; cases hb; decide
  | 3, ha, hb => cases ha; cases hb; decide
  | 4, ha, hb => cases ha; cases hb; decide
  | 5, ha, hb => cases ha; cases hb; decide
  | 6, ha, hb => cases hb
  | k + 7, ha, hb => cases ha
theorem sh_in_q1 : RulesIn64 shR_q1 := fun r hr => by
  have hr : r ∈ ([(0, [1, 2], 0), (0, [-1], 0), (1, [-2], 0), (1, [], 0), (2, [3], 0), (2, [], 0), (3, [-1, 0], 0)] : List Rl) := hr
  simp only [List.mem_cons, List.not_mem_nil, or_false] at hr
  rcases hr with rfl | rfl | rfl | rfl | rfl | rfl | rfl
  · exact ⟨by decide, fun x hx => by simp at hx; unfold In64x; omega⟩
  · exact ⟨by decide, fun x hx => by simp at hx; unfold In64x; omega⟩
  · exact ⟨by decide, fun x hx => by simp at hx; unfold In64x; omega⟩
  · exact ⟨by decide, fun x hx => (by cases hx)⟩
  · exact ⟨by decide, fun x hx => by simp at hx; unfold In64x; omega⟩
  · exact ⟨by decide, fun x hx => (by cases hx)⟩
  · exact ⟨by decide, fun x hx => by simp at hx; unfold In64x; omega⟩
theorem sh_wt_q1 {w : World} {b off : Nat} (hv : Pv w b off) : ∀ r ∈ shR_q1, WtTell w r.2.2 true := fun r hr => by
  have hr : r ∈ ([(0, [1, 2], 0), (0, [-1], 0), (1, [-2], 0), (1, [], 0), (2, [3], 0), (2, [], 0), (3, [-1, 0], 0)] : List Rl) := hr
  simp only [List.mem_cons, List.not_mem_nil, or_false] at hr
  rcases hr with rfl | rfl | rfl | rfl | rfl | rfl | rfl <;> exact told_tell told_zero hv
theorem sh_right_q1 {a b : List UInt8} (h : b < a) (ha : isQuoteB a = true) (hb : isQuoteB b = true) : RightOk (fun _ => true) (shG_q1 a b) := by
  refine ⟨by show 1 ≤ 4; decide, by show 4 ≤ 64; decide, by show 2 ≤ 64; decide, by show 7 ≤ 256; decide, ?_, ?_, ⟨sh_sorted_q1, ?_, ?_⟩, ?_⟩
  · show VarsOk ([[115], [103, 49], [103, 50], [103, 51]] : List (List UInt8))
    intro k x h
    match k, h with
    | 0, h => cases h; exact ⟨by decide, by decide⟩
    | 1, h => cases h; exact ⟨by decide, by decide⟩
    | 2, h => cases h; exact ⟨by decide, by decide⟩
    | 3, h => cases h; exact ⟨by decide, by decide⟩
    | k + 4, h => cases h
  · intro k x hx
    match k, hx with
    | 0, hx => cases hx; exact ⟨hb, fun j y hj => by omega⟩
    | 1, hx =>
      cases hx
      refine ⟨ha, fun j y hj hy => ?_⟩
      obtain rfl : j = 0 := by omega
      cases hy
      exact h
    | k + 2, hx => cases hx
  · intro v hv
    have hv : v < 4 := hv
    match v, hv with
    | 0, _ => exact ⟨(0, [1, 2], 0), by show _ ∈ shR_q1; decide, rfl⟩
    | 1, _ => exact ⟨(1, [-2], 0), by show _ ∈ shR_q1; decide, rfl⟩
    | 2, _ => exact ⟨(2, [3], 0), by show _ ∈ shR_q1; decide, rfl⟩
    | 3, _ => exact ⟨(3, [-1, 0], 0), by show _ ∈ shR_q1; decide, rfl⟩
    | v + 4, h => omega
  · intro k r hk
    match k, hk with
    | 0, hk => cases hk; exact ⟨by show ruleB 4 2 _ _ _ = true; decide, by show (List.any (List.take 0 shR_q1) _) = false; decide⟩
    | 1, hk => cases hk; exact ⟨by show ruleB 4 2 _ _ _ = true; decide, by show (List.any (List.take 1 shR_q1) _) = false; decide⟩
    | 2, hk => cases hk; exact ⟨by show ruleB 4 2 _ _ _ = true; decide, by show (List.any (List.take 2 shR_q1) _) = false; decide⟩
    | 3, hk => cases hk; exact ⟨by show ruleB 4 2 _ _ _ = true; decide, by show (List.any (List.take 3 shR_q1) _) = false; decide⟩
    | 4, hk => cases hk; exact ⟨by show ruleB 4 2 _ _ _ = true; decide, by show (List.any (List.take 4 shR_q1) _) = false; decide⟩
    | 5, hk => cases hk; exact ⟨by show ruleB 4 2 _ _ _ = true; decide, by show (List.any (List.take 5 shR_q1) _) = false; decide⟩
    | 6, hk => cases hk; exact ⟨by show ruleB 4 2 _ _ _ = true; decide, by show (List.any (List.take 6 shR_q1) _) = false; decide⟩
    | k + 7, hk => cases hk
  · intro t ht
    have ht : t < 2 := ht
    match t, ht with
    | 0, _ => show (List.any shR_q1 _) = true; decide
    | 1, _ => show (List.any shR_q1 _) = true; decide
    | t + 2, h => omega
def shR_s0 : List Rl := [(0, [1, 2], 0), (0, [-2], 0), (1, [-1, 1], 0), (1, [], 0), (2, [3, 2], 0), (2, [], 0), (3, [-2, 0], 0)]
def shG_s0 (a b : List UInt8) : Gra := ⟨[a, b], [[115], [103, 49], [103, 50], [103, 51]], shR_s0⟩
theorem sh_load_s0 {a b : List UInt8} (h : a < b) (ha : isQuoteB a = true) (hb : isQuoteB b = true) : loadAll (shpT a b 42) = (shG_s0 a b, 0, 0) := by
  have hab : a ≠ b := (fun e => absurd h (by rw [e]; exact List.lt_irrefl _))
  obtain ⟨p0, p2, p4, p5, p6, p10, hr⟩ := sh_read a b 42 ha hb (by simp)
  rw [load_def hr, loadD_ok (l := ⟨[[115]], [], [shAlts p2 p4 p5 p6 p10 a b 42], 0, []⟩) (by rfl) (by kernel_rfl) (sh_go_s p2 p4 p5 p6 p10 a b hab)]
  show ((orderP _, 0, 0) : Gra × Nat × Nat) = _
  congr 1
  unfold orderP shG_s0 shR_s0
  simp only [sh_lt h, List.map_cons, List.map_nil, turn_b hab, turn_a, show turnS [b, a] [a, b] 0 = 0 from turn_v _ _ 0, show turnS [b, a] [a, b] 1 = 1 from turn_v _ _ 1, show turnS [b, a] [a, b] 2 = 2 from turn_v _ _ 2, show turnS [b, a] [a, b] 3 = 3 from turn_v _ _ 3]
theorem sh_sorted_s0 : SortedL shR_s0 := by
  intro k a b ha hb
  match k, ha, hb with
  | 0, ha, hb => cases ha; cases hb; decide
  | 1, ha, hb => cases ha; cases hb; decide
  | 2, ha, hb => cases ha; cases hb; decide
  | 3, ha, hb => cases ha; cases hb; decide
  | 4, ha, hb => cases ha; cases hb; decide
  | 5, ha, hb => cases ha; cases hb; decide
  | 6, ha, hb => cases hb
  | k + 7, ha, hb => cases ha
theorem sh_in_s0 : RulesIn64 shR_s0 := fun r hr => by
  have hr : r ∈ ([(0, [1, 2], 0), (0, [-2], 0), (1, [-1, 1], 0), (1, [], 0), (2, [3, 2], 0), (2, [], 0), (3, [-2, 0], 0)] : List Rl) := hr
  simp only [List.mem_cons, List.not_mem_nil, or_false] at hr
  rcases hr with rfl | rfl | rfl | rfl | rfl | rfl | rfl
  · exact ⟨by decide, fun x hx => by simp at hx; unfold In64x; omega⟩
  · exact ⟨by decide, fun x hx => by simp at hx; unfold In64x; omega⟩
  · exact ⟨by decide, fun x hx => by simp at hx; unfold In64x; omega⟩
  · exact ⟨by decide, fun x hx => (by cases hx)⟩
  · exact ⟨by decide, fun x hx => by simp at hx; unfold In64x; omega⟩
  · exact ⟨by decide, fun x hx => (by cases hx)⟩
  · exact ⟨by decide, fun x hx => by simp at hx; unfold In64x; omega⟩
theorem sh_wt_s0 {w : World} {b off : Nat} (hv : Pv w b off) : ∀ r ∈ shR_s0, WtTell w r.2.2 true := fun r hr => by
  have hr : r ∈ ([(0, [1, 2], 0), (0, [-2], 0), (1, [-1, 1], 0), (1, [], 0), (2, [3, 2], 0), (2, [], 0), (3, [-2, 0], 0)] : List Rl) := hr
  simp only [List.mem_cons, List.not_mem_nil, or_false] at hr
  rcases hr with rfl | rfl | rfl | rfl | rfl | rfl | rfl <;> exact told_tell told_zero hv
theorem sh_right_s0 {a b : List UInt8} (h : a < b) (ha : isQuoteB a = true) (hb : isQuoteB b = true) : RightOk (fun _ => true) (shG_s0 a b) := by
  refine ⟨by show 1 ≤ 4; decide, by show 4 ≤ 64; decide, by show 2 ≤ 64; decide, by show 7 ≤ 256; decide, ?_, ?_, ⟨sh_sorted_s0, ?_, ?_⟩, ?_⟩
  · show VarsOk ([[115], [103, 49], [103, 50], [103, 51]] : List (List UInt8))
    intro k x h
    match k, h with
    | 0, h => cases h; exact ⟨by decide, by decide⟩
    | 1, h => cases h; exact ⟨by decide, by decide⟩
    | 2, h => cases h; exact ⟨by decide, by decide⟩
    | 3, h => cases h; exact ⟨by decide, by decide⟩
    | k + 4, h => cases h
  · intro k x hx
    match k, hx with
    | 0, hx => cases hx; exact ⟨ha, fun j y hj => by omega⟩
    | 1, hx =>
      cases hx
      refine ⟨hb, fun j y hj hy => ?_⟩
      obtain rfl : j = 0 := by omega
      cases hy
      exact h
    | k + 2, hx => cases hx
  · intro v hv
    have hv : v < 4 := hv
    match v, hv with
    | 0, _ => exact ⟨(0, [1, 2], 0), by show _ ∈ shR_s0; decide, rfl⟩
    | 1, _ => exact ⟨(1, [-1, 1], 0), by show _ ∈ shR_s0; decide, rfl⟩
    | 2, _ => exact ⟨(2, [3, 2], 0), by show _ ∈ shR_s0; decide, rfl⟩
    | 3, _ => exact ⟨(3, [-2, 0], 0), by show _ ∈ shR_s0; decide, rfl⟩
    | v + 4, h => omega
  · intro k r hk
    match k, hk with
    | 0, hk => cases hk; exact ⟨by show ruleB 4 2 _ _ _ = true; decide, by show (List.any (List.take 0 shR_s0) _) = false; decide⟩
    | 1, hk => cases hk; exact ⟨by show ruleB 4 2 _ _ _ = true; decide, by show (List.any (List.take 1 shR_s0) _) = false; decide⟩
    | 2, hk => cases hk; exact ⟨by show ruleB 4 2 _ _ _ = true; decide, by show (List.any (List.take 2 shR_s0) _) = false; decide⟩
    | 3, hk => cases hk; exact ⟨by show ruleB 4 2 _ _ _ = true; decide, by show (List.any (List.take 3 shR_s0) _) = false; decide⟩
    | 4, hk => cases hk; exact ⟨by show ruleB 4 2 _ _ _ = true; decide, by show (List.any (List.take 4 shR_s0) _) = false; decide⟩
    | 5, hk => cases hk; exact ⟨by show ruleB 4 2 _ _ _ = true; decide, by show (List.any (List.take 5 shR_s0) _) = false; decide⟩
    | 6, hk => cases hk; exact ⟨by show ruleB 4 2 _ _ _ = true; decide, by show (List.any (List.take 6 shR_s0) _) = false; decide⟩
    | k + 7, hk => cases hk
  · intro t ht
    have ht : t < 2 := ht
    match t, ht with
    | 0, _ => show (List.any shR_s0 _) = true; decide
    | 1, _ => show (List.any shR_s0 _) = true; decide
    | t + 2, h => omega
def shR_s1 : List Rl := [(0, [1, 2], 0), (0, [-1], 0), (1, [-2, 1], 0), (1, [], 0), (2, [3, 2], 0), (2, [], 0), (3, [-1, 0], 0)]
def shG_s1 (a b : List UInt8) : Gra := ⟨[b, a], [[115], [103, 49], [103, 50], [103, 51]], shR_s1⟩
theorem sh_load_s1 {a b : List UInt8} (h : b < a) (ha : isQuoteB a = true) (hb : isQuoteB b = true) : loadAll (shpT a b 42) = (shG_s1 a b, 0, 0) := by
  have hab : a ≠ b := (fun e => absurd h (by rw [e]; exact List.lt_irrefl _))
  obtain ⟨p0, p2, p4, p5, p6, p10, hr⟩ := sh_read a b 42 ha hb (by simp)
  rw [load_def hr, loadD_ok (l := ⟨[[115]], [], [shAlts p2 p4 p5 p6 p10 a b 42], 0, []⟩) (by rfl) (by kernel_rfl) (sh_go_s p2 p4 p5 p6 p10 a b hab)]
  show ((orderP _, 0, 0) : Gra × Nat × Nat) = _
  congr 1
  unfold orderP shG_s1 shR_s1
  simp only [sh_gt h, List.map_cons, List.map_nil, stay_b, stay_a hab, show turnS [b, a] [b, a] 0 = 0 from turn_v _ _ 0, show turnS [b, a] [b, a] 1 = 1 from turn_v _ _ 1, show turnS [b, a] [b, a] 2 = 2 from turn_v _ _ 2, show turnS [b, a] [b, a] 3 = 3 from turn_v _ _ 3]
theorem sh_sorted_s1 : SortedL shR_s1 := by
  intro k a b ha hb
  match k, ha, hb with
  | 0, ha, hb => cases ha; cases hb; decide
  | 1, ha, hb => cases ha; cases hb; decide
  | 2, ha, hb => cases ha; cases hb; decide
  | 3, ha, hb => cases ha; cases hb; decide
  | 4, ha, hb => cases ha; cases hb; decide
  | 5, ha, hb => cases ha; cases hb; decide
  | 6, ha, hb => cases hb
  | k + 7, ha, hb => cases ha
theorem sh_in_s1 : RulesIn64 shR_s1 := fun r hr => by
  have hr : r ∈ ([(0, [1, 2], 0), (0, [-1], 0), (1, [-2, 1], 0), (1, [], 0), (2, [3, 2], 0), (2, [], 0), (3, [-1, 0], 0)] : List Rl) := hr
  simp only [List.mem_cons, List.not_mem_nil, or_false] at hr
  rcases hr with rfl | rfl | rfl | rfl | rfl | rfl | rfl
  · exact ⟨by decide, fun x hx => by simp at hx; unfold In64x; omega⟩
  · exact ⟨by decide, fun x hx => by simp at hx; unfold In64x; omega⟩
  · exact ⟨by decide, fun x hx => by simp at hx; unfold In64x; omega⟩
  · exact ⟨by decide, fun x hx => (by cases hx)⟩
  · exact ⟨by decide, fun x hx => by simp at hx; unfold In64x; omega⟩
  · exact ⟨by decide, fun x hx => (by cases hx)⟩
  · exact ⟨by decide, fun x hx => by simp at hx; unfold In64x; omega⟩
theorem sh_wt_s1 {w : World} {b off : Nat} (hv : Pv w b off) : ∀ r ∈ shR_s1, WtTell w r.2.2 true := fun r hr => by
  have hr : r ∈ ([(0, [1, 2], 0), (0, [-1], 0), (1, [-2, 1], 0), (1, [], 0), (2, [3, 2], 0), (2, [], 0), (3, [-1, 0], 0)] : List Rl) := hr
  simp only [List.mem_cons, List.not_mem_nil, or_false] at hr
  rcases hr with rfl | rfl | rfl | rfl | rfl | rfl | rfl <;> exact told_tell told_zero hv
theorem sh_right_s1 {a b : List UInt8} (h : b < a) (ha : isQuoteB a = true) (hb : isQuoteB b = true) : RightOk (fun _ => true) (shG_s1 a b) := by
  refine ⟨by show 1 ≤ 4; decide, by show 4 ≤ 64; decide, by show 2 ≤ 64; decide, by show 7 ≤ 256; decide, ?_, ?_, ⟨sh_sorted_s1, ?_, ?_⟩, ?_⟩
  · show VarsOk ([[115], [103, 49], [103, 50], [103, 51]] : List (List UInt8))
    intro k x h
    match k, h with
    | 0, h => cases h; exact ⟨by decide, by decide⟩
    | 1, h => cases h; exact ⟨by decide, by decide⟩
    | 2, h => cases h; exact ⟨by decide, by decide⟩
    | 3, h => cases h; exact ⟨by decide, by decide⟩
    | k + 4, h => cases h
  · intro k x hx
    match k, hx with
    | 0, hx => cases hx; exact ⟨hb, fun j y hj => by omega⟩
    | 1, hx =>
      cases hx
      refine ⟨ha, fun j y hj hy => ?_⟩
      obtain rfl : j = 0 := by omega
      cases hy
      exact h
    | k + 2, hx => cases hx
  · intro v hv
    have hv : v < 4 := hv
    match v, hv with
    | 0, _ => exact ⟨(0, [1, 2], 0), by show _ ∈ shR_s1; decide, rfl⟩
    | 1, _ => exact ⟨(1, [-2, 1], 0), by show _ ∈ shR_s1; decide, rfl⟩
    | 2, _ => exact ⟨(2, [3, 2], 0), by show _ ∈ shR_s1; decide, rfl⟩
    | 3, _ => exact ⟨(3, [-1, 0], 0), by show _ ∈ shR_s1; decide, rfl⟩
    | v + 4, h => omega
  · intro k r hk
    match k, hk with
    | 0, hk => cases hk; exact ⟨by show ruleB 4 2 _ _ _ = true; decide, by show (List.any (List.take 0 shR_s1) _) = false; decide⟩
    | 1, hk => cases hk; exact ⟨by show ruleB 4 2 _ _ _ = true; decide, by show (List.any (List.take 1 shR_s1) _) = false; decide⟩
    | 2, hk => cases hk; exact ⟨by show ruleB 4 2 _ _ _ = true; decide, by show (List.any (List.take 2 shR_s1) _) = false; decide⟩
    | 3, hk => cases hk; exact ⟨by show ruleB 4 2 _ _ _ = true; decide, by show (List.any (List.take 3 shR_s1) _) = false; decide⟩
    | 4, hk => cases hk; exact ⟨by show ruleB 4 2 _ _ _ = true; decide, by show (List.any (List.take 4 shR_s1) _) = false; decide⟩
    | 5, hk => cases hk; exact ⟨by show ruleB 4 2 _ _ _ = true; decide, by show (List.any (List.take 5 shR_s1) _) = false; decide⟩
    | 6, hk => cases hk; exact ⟨by show ruleB 4 2 _ _ _ = true; decide, by show (List.any (List.take 6 shR_s1) _) = false; decide⟩
    | k + 7, hk => cases hk
  · intro t ht
    have ht : t < 2 := ht
    match t, ht with
    | 0, _ => show (List.any shR_s1 _) = true; decide
    | 1, _ => show (List.any shR_s1 _) = true; decide
    | t + 2, h => omega
def shR_p0 : List Rl := [(0, [1, 2], 0), (0, [-2], 0), (1, [-1, 3], 0), (2, [4, 5], 0), (3, [-1, 3], 0), (3, [], 0), (4, [-2, 0], 0), (5, [6, 5], 0), (5, [], 0), (6, [-2, 0], 0)]
def shG_p0 (a b : List UInt8) : Gra := ⟨[a, b], [[115], [103, 49], [103, 50], [103, 51], [103, 52], [103, 53], [103, 54]], shR_p0⟩
theorem sh_load_p0 {a b : List UInt8} (h : a < b) (ha : isQuoteB a = true) (hb : isQuoteB b = true) : loadAll (shpT a b 43) = (shG_p0 a b, 0, 0) := by
  have hab : a ≠ b := (fun e => absurd h (by rw [e]; exact List.lt_irrefl _))
  obtain ⟨p0, p2, p4, p5, p6, p10, hr⟩ := sh_read a b 43 ha hb (by simp)
  rw [load_def hr, loadD_ok (l := ⟨[[115]], [], [shAlts p2 p4 p5 p6 p10 a b 43], 0, []⟩) (by rfl) (by kernel_rfl) (sh_go_p p2 p4 p5 p6 p10 a b hab)]
  show ((orderP _, 0, 0) : Gra × Nat × Nat) = _
  congr 1
  unfold orderP shG_p0 shR_p0
  simp only [sh_lt h, List.map_cons, List.map_nil, turn_b hab, turn_a, show turnS [b, a] [a, b] 0 = 0 from turn_v _ _ 0, show turnS [b, a] [a, b] 1 = 1 from turn_v _ _ 1, show turnS [b, a] [a, b] 2 = 2 from turn_v _ _ 2, show turnS [b, a] [a, b] 3 = 3 from turn_v _ _ 3, show turnS [b, a] [a, b] 4 = 4 from turn_v _ _ 4, show turnS [b, a] [a, b] 5 = 5 from turn_v _ _ 5, show turnS [b, a] [a, b] 6 = 6 from turn_v _ _ 6]
theorem sh_sorted_p0 : SortedL shR_p0 := by
  intro k a b ha hb
  match k, ha, hb with
  | 0, ha, hb => cases ha; cases hb; decide
  | 1, ha, hb => cases ha; cases hb; decide
  | 2, ha, hb => cases ha; cases hb; decide
  | 3, ha, hb => cases ha; cases hb; decide
  | 4, ha, hb => cases ha; cases hb; decide
  | 5, ha, hb => cases ha; cases hb; decide
  | 6, ha, hb => cases ha; cases hb; decide
  | 7, ha, hb => cases ha; cases hb; decide
  | 8, ha, hb => cases ha; cases hb; decide
  | 9, ha, hb => cases hb
  | k + 10, ha, hb => cases ha
theorem sh_in_p0 : RulesIn64 shR_p0 := fun r hr => by
  have hr : r ∈ ([(0, [1, 2], 0), (0, [-2], 0), (1, [-1, 3], 0), (2, [4, 5], 0), (3, [-1, 3], 0), (3, [], 0), (4, [-2, 0], 0), (5, [6, 5], 0), (5, [], 0), (6, [-2, 0], 0)] : List Rl) := hr
  simp only [List.mem_cons, List.not_mem_nil, or_false] at hr
  rcases hr with rfl | rfl | rfl | rfl | rfl | rfl | rfl | rfl | rfl | rfl
  · exact ⟨by decide, fun x hx => by simp at hx; unfold In64x; omega⟩
  · exact ⟨by decide, fun x hx => by simp at hx; unfold In64x; omega⟩
  · exact ⟨by decide, fun x hx => by simp at hx; unfold In64x; omega⟩
  · exact ⟨by decide, fun x hx => by simp at hx; unfold In64x; omega⟩
  · exact ⟨by decide, fun x hx => by simp at hx; unfold In64x; omega⟩
  · exact ⟨by decide, fun x hx => (by cases hx)⟩
  · exact ⟨by decide, fun x hx => by simp at hx; unfold In64x; omega⟩
  · exact ⟨by decide, fun x hx => by simp at hx; unfold In64x; omega⟩
  · exact ⟨by decide, fun x hx => (by cases hx)⟩
  · exact ⟨by decide, fun x hx => by simp at hx; unfold In64x; omega⟩
theorem sh_wt_p0 {w : World} {b off : Nat} (hv : Pv w b off) : ∀ r ∈ shR_p0, WtTell w r.2.2 true := fun r hr => by
  have hr : r ∈ ([(0, [1, 2], 0), (0, [-2], 0), (1, [-1, 3], 0), (2, [4, 5], 0), (3, [-1, 3], 0), (3, [], 0), (4, [-2, 0], 0), (5, [6, 5], 0), (5, [], 0), (6, [-2, 0], 0)] : List Rl) := hr
  simp only [List.mem_cons, List.not_mem_nil, or_false] at hr
  rcases hr with rfl | rfl | rfl | rfl | rfl | rfl | rfl | rfl | rfl | rfl <;> exact told_tell told_zero hv
theorem sh_right_p0 {a b : List UInt8} (h : a < b) (ha : isQuoteB a = true) (hb : isQuoteB b = true) : RightOk (fun _ => true) (shG_p0 a b) := by
  refine ⟨by show 1 ≤ 7; decide, by show 7 ≤ 64; decide, by show 2 ≤ 64; decide, by show 10 ≤ 256; decide, ?_, ?_, ⟨sh_sorted_p0, ?_, ?_⟩, ?_⟩
  · show VarsOk ([[115], [103, 49], [103, 50], [103, 51], [103, 52], [103, 53], [103, 54]] : List (List UInt8))
    intro k x h
    match k, h with
    | 0, h => cases h; exact ⟨by decide, by decide⟩
    | 1, h => cases h; exact ⟨by decide, by decide⟩
    | 2, h => cases h; exact ⟨by decide, by decide⟩
    | 3, h => cases h; exact ⟨by decide, by decide⟩
    | 4, h => cases h; exact ⟨by decide, by decide⟩
    | 5, h => cases h; exact ⟨by decide, by decide⟩
    | 6, h => cases h; exact ⟨by decide, by decide⟩
    | k + 7, h => cases h
  · intro k x hx
    match k, hx with
    | 0, hx => cases hx; exact ⟨ha, fun j y hj => by omega⟩
    | 1, hx =>
      cases hx
      refine ⟨hb, fun j y hj hy => ?_⟩
      obtain rfl : j = 0 := by omega
      cases hy
      exact h
    | k + 2, hx => cases hx
  · intro v hv
    have hv : v < 7 := hv
    match v, hv with
    | 0, _ => exact ⟨(0, [1, 2], 0), by show _ ∈ shR_p0; decide, rfl⟩
    | 1, _ => exact ⟨(1, [-1, 3], 0), by show _ ∈ shR_p0; decide, rfl⟩
    | 2, _ => exact ⟨(2, [4, 5], 0), by show _ ∈ shR_p0; decide, rfl⟩
    | 3, _ => exact ⟨(3, [-1, 3], 0), by show _ ∈ shR_p0; decide, rfl⟩
    | 4, _ => exact ⟨(4, [-2, 0], 0), by show _ ∈ shR_p0; decide, rfl⟩
    | 5, _ => exact ⟨(5, [6, 5], 0), by show _ ∈ shR_p0; decide, rfl⟩
    | 6, _ => exact ⟨(6, [-2, 0], 0), by show _ ∈ shR_p0; decide, rfl⟩
    | v + 7, h => omega
  · intro k r hk
    match k, hk with
    | 0, hk => cases hk; exact ⟨by show ruleB 7 2 _ _ _ = true; decide, by show (List.any (List.take 0 shR_p0) _) = false; decide⟩
    | 1, hk => cases hk; exact ⟨by show ruleB 7 2 _ _ _ = true; decide, by show (List.any (List.take 1 shR_p0) _) = false; decide⟩
    | 2, hk => cases hk; exact ⟨by show ruleB 7 2 _ _ _ = true; decide, by show (List.any (List.take 2 shR_p0) _) = false; decide⟩
    | 3, hk => cases hk; exact ⟨by show ruleB 7 2 _ _ _ = true; decide, by show (List.any (List.take 3 shR_p0) _) = false; decide⟩
    | 4, hk => cases hk; exact ⟨by show ruleB 7 2 _ _ _ = true; decide, by show (List.any (List.take 4 shR_p0) _) = false; decide⟩
    | 5, hk => cases hk; exact ⟨by show ruleB 7 2 _ _ _ = true; decide, by show (List.any (List.take 5 shR_p0) _) = false; decide⟩
    | 6, hk => cases hk; exact ⟨by show ruleB 7 2 _ _ _ = true; decide, by show (List.any (List.take 6 shR_p0) _) = false; decide⟩
    | 7, hk => cases hk; exact ⟨by show ruleB 7 2 _ _ _ = true; decide, by show (List.any (List.take 7 shR_p0) _) = false; decide⟩
    | 8, hk => cases hk; exact ⟨by show ruleB 7 2 _ _ _ = true; decide, by show (List.any (List.take 8 shR_p0) _) = false; decide⟩
    | 9, hk => cases hk; exact ⟨by show ruleB 7 2 _ _ _ = true; decide, by show (List.any (List.take 9 shR_p0) _) = false; decide⟩
    | k + 10, hk => cases hk
  · intro t ht
    have ht : t < 2 := ht
    match t, ht with
    | 0, _ => show (List.any shR_p0 _) = true; decide
    | 1, _ => show (List.any shR_p0 _) = true; decide
    | t + 2, h => omega
def shR_p1 : List Rl := [(0, [1, 2], 0), (0, [-1], 0), (1, [-2, 3], 0), (2, [4, 5], 0), (3, [-2, 3], 0), (3, [], 0), (4, [-1, 0], 0), (5, [6, 5], 0), (5, [], 0), (6, [-1, 0], 0)]
def shG_p1 (a b : List UInt8) : Gra := ⟨[b, a], [[115], [103, 49], [103, 50], [103, 51], [103, 52], [103, 53], [103, 54]], shR_p1⟩
theorem sh_load_p1 {a b : List UInt8} (h : b < a) (ha : isQuoteB a = true) (hb : isQuoteB b = true) : loadAll (shpT a b 43) = (shG_p1 a b, 0, 0) := by
  have hab : a ≠ b := (fun e => absurd h (by rw [e]; exact List.lt_irrefl _))
  obtain ⟨p0, p2, p4, p5, p6, p10, hr⟩ := sh_read a b 43 ha hb (by simp)
  rw [load_def hr, loadD_ok (l := ⟨[[115]], [], [shAlts p2 p4 p5 p6 p10 a b 43], 0, []⟩) (by rfl) (by kernel_rfl) (sh_go_p p2 p4 p5 p6 p10 a b hab)]
  show ((orderP _, 0, 0) : Gra × Nat × Nat) = _
  congr 1
  unfold orderP shG_p1 shR_p1
  simp only [sh_gt h, List.map_cons, List.map_nil, stay_b, stay_a hab, show turnS [b, a] [b, a] 0 = 0 from turn_v _ _ 0, show turnS [b, a] [b, a] 1 = 1 from turn_v _ _ 1, show turnS [b, a] [b, a] 2 = 2 from turn_v _ _ 2, show turnS [b, a] [b, a] 3 = 3 from turn_v _ _ 3, show turnS [b, a] [b, a] 4 = 4 from turn_v _ _ 4, show turnS [b, a] [b, a] 5 = 5 from turn_v _ _ 5, show turnS [b, a] [b, a] 6 = 6 from turn_v _ _ 6]
theorem sh_sorted_p1 : SortedL shR_p1 := by
  intro k a b ha hb
  match k, ha, hb with
  | 0, ha, hb => cases ha; cases hb; decide
  | 1, ha, hb => cases ha; cases hb; decide
  | 2, ha, hb => cases ha; cases hb; decide
  | 3, ha, hb => cases ha; cases hb; decide
  | 4, ha, hb => cases ha; cases hb; decide
  | 5, ha, hb => cases ha; cases hb; decide
  | 6, ha, hb => cases ha; cases hb; decide
  | 7, ha, hb => cases ha; cases hb; decide
  | 8, ha, hb => cases ha; cases hb; decide
  | 9, ha, hb => cases hb
  | k + 10, ha, hb => cases ha
theorem sh_in_p1 : RulesIn64 shR_p1 := fun r hr => by
  have hr : r ∈ ([(0, [1, 2], 0), (0, [-1], 0), (1, [-2, 3], 0), (2, [4, 5], 0), (3, [-2, 3], 0), (3, [], 0), (4, [-1, 0], 0), (5, [6, 5], 0), (5, [], 0), (6, [-1, 0], 0)] : List Rl) := hr
  simp only [List.mem_cons, List.not_mem_nil, or_false] at hr
  rcases hr with rfl | rfl | rfl | rfl | rfl | rfl | rfl | rfl | rfl | rfl
  · exact ⟨by decide, fun x hx => by simp at hx; unfold In64x; omega⟩
  · exact ⟨by decide, fun x hx => by simp at hx; unfold In64x; omega⟩
  · exact ⟨by decide, fun x hx => by simp at hx; unfold In64x; omega⟩
  · exact ⟨by decide, fun x hx => by simp at hx; unfold In64x; omega⟩
  · exact ⟨by decide, fun x hx => by simp at hx; unfold In64x; omega⟩
  · exact ⟨by decide, fun x hx => (by cases hx)⟩
  · exact ⟨by decide, fun x hx => by simp at hx; unfold In64x; omega⟩
  · exact ⟨by decide, fun x hx => by simp at hx; unfold In64x; omega⟩
  · exact ⟨by decide, fun x hx => (by cases hx)⟩
  · exact ⟨by decide, fun x hx => by simp at hx; unfold In64x; omega⟩
theorem sh_wt_p1 {w : World} {b off : Nat} (hv : Pv w b off) : ∀ r ∈ shR_p1, WtTell w r.2.2 true := fun r hr => by
  have hr : r ∈ ([(0, [1, 2], 0), (0, [-1], 0), (1, [-2, 3], 0), (2, [4, 5], 0), (3, [-2, 3], 0), (3, [], 0), (4, [-1, 0], 0), (5, [6, 5], 0), (5, [], 0), (6, [-1, 0], 0)] : List Rl) := hr
  simp only [List.mem_cons, List.not_mem_nil, or_false] at hr
  rcases hr with rfl | rfl | rfl | rfl | rfl | rfl | rfl | rfl | rfl | rfl <;> exact told_tell told_zero hv
theorem sh_right_p1 {a b : List UInt8} (h : b < a) (ha : isQuoteB a = true) (hb : isQuoteB b = true) : RightOk (fun _ => true) (shG_p1 a b) := by
  refine ⟨by show 1 ≤ 7; decide, by show 7 ≤ 64; decide, by show 2 ≤ 64; decide, by show 10 ≤ 256; decide, ?_, ?_, ⟨sh_sorted_p1, ?_, ?_⟩, ?_⟩
  · show VarsOk ([[115], [103, 49], [103, 50], [103, 51], [103, 52], [103, 53], [103, 54]] : List (List UInt8))
    intro k x h
    match k, h with
    | 0, h => cases h; exact ⟨by decide, by decide⟩
    | 1, h => cases h; exact ⟨by decide, by decide⟩
    | 2, h => cases h; exact ⟨by decide, by decide⟩
    | 3, h => cases h; exact ⟨by decide, by decide⟩
    | 4, h => cases h; exact ⟨by decide, by decide⟩
    | 5, h => cases h; exact ⟨by decide, by decide⟩
    | 6, h => cases h; exact ⟨by decide, by decide⟩
    | k + 7, h => cases h
  · intro k x hx
    match k, hx with
    | 0, hx => cases hx; exact ⟨hb, fun j y hj => by omega⟩
    | 1, hx =>
      cases hx
      refine ⟨ha, fun j y hj hy => ?_⟩
      obtain rfl : j = 0 := by omega
      cases hy
      exact h
    | k + 2, hx => cases hx
  · intro v hv
    have hv : v < 7 := hv
    match v, hv with
    | 0, _ => exact ⟨(0, [1, 2], 0), by show _ ∈ shR_p1; decide, rfl⟩
    | 1, _ => exact ⟨(1, [-2, 3], 0), by show _ ∈ shR_p1; decide, rfl⟩
    | 2, _ => exact ⟨(2, [4, 5], 0), by show _ ∈ shR_p1; decide, rfl⟩
    | 3, _ => exact ⟨(3, [-2, 3], 0), by show _ ∈ shR_p1; decide, rfl⟩
    | 4, _ => exact ⟨(4, [-1, 0], 0), by show _ ∈ shR_p1; decide, rfl⟩
    | 5, _ => exact ⟨(5, [6, 5], 0), by show _ ∈ shR_p1; decide, rfl⟩
    | 6, _ => exact ⟨(6, [-1, 0], 0), by show _ ∈ shR_p1; decide, rfl⟩
    | v + 7, h => omega
  · intro k r hk
    match k, hk with
    | 0, hk => cases hk; exact ⟨by show ruleB 7 2 _ _ _ = true; decide, by show (List.any (List.take 0 shR_p1) _) = false; decide⟩
    | 1, hk => cases hk; exact ⟨by show ruleB 7 2 _ _ _ = true; decide, by show (List.any (List.take 1 shR_p1) _) = false; decide⟩
    | 2, hk => cases hk; exact ⟨by show ruleB 7 2 _ _ _ = true; decide, by show (List.any (List.take 2 shR_p1) _) = false; decide⟩
    | 3, hk => cases hk; exact ⟨by show ruleB 7 2 _ _ _ = true; decide, by show (List.any (List.take 3 shR_p1) _) = false; decide⟩
    | 4, hk => cases hk; exact ⟨by show ruleB 7 2 _ _ _ = true; decide, by show (List.any (List.take 4 shR_p1) _) = false; decide⟩
    | 5, hk => cases hk; exact ⟨by show ruleB 7 2 _ _ _ = true; decide, by show (List.any (List.take 5 shR_p1) _) = false; decide⟩
    | 6, hk => cases hk; exact ⟨by show ruleB 7 2 _ _ _ = true; decide, by show (List.any (List.take 6 shR_p1) _) = false; decide⟩
    | 7, hk => cases hk; exact ⟨by show ruleB 7 2 _ _ _ = true; decide, by show (List.any (List.take 7 shR_p1) _) = false; decide⟩
    | 8, hk => cases hk; exact ⟨by show ruleB 7 2 _ _ _ = true; decide, by show (List.any (List.take 8 shR_p1) _) = false; decide⟩
    | 9, hk => cases hk; exact ⟨by show ruleB 7 2 _ _ _ = true; decide, by show (List.any (List.take 9 shR_p1) _) = false; decide⟩
    | k + 10, hk => cases hk
  · intro t ht
    have ht : t < 2 := ht
    match t, ht with
    | 0, _ => show (List.any shR_p1 _) = true; decide
    | 1, _ => show (List.any shR_p1 _) = true; decide
    | t + 2, h => omega
end Go.Proofs.YtldamieigigncaaGreatDoor.lx

