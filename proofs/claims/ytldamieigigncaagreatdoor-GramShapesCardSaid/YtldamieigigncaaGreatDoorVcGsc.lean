import Derived.Test.YtldamieigigncaaGreatDoorVcbm
import Derived.Test.YtldamieigigncaaGreatDoorVcbn
import Derived.Test.YtldamieigigncaaGreatDoorVcbd
import Derived.Test.YtldamieigigncaaGreatDoorVcbf
import Derived.BigQuiet
namespace Go.Proofs.YtldamieigigncaaGreatDoor.lx
open Go.ChangeShapes Go.WideShapes Go.ChangeAt Go.RowKit Go.Proofs.YtldamieigigncaaGreatDoor.ky
set_option linter.unusedVariables false
set_option linter.unusedSimpArgs false
/-! the law GramShapes -/
theorem and3 (x : Int) : bits .and .i64 x 3 = x % 4 := and_nat x 3 2 (by decide) (by decide) (by decide)
theorem S_lss (x y : List UInt8) : Go.Op.bytesLess (S x).toList (S y).toList = decide (x < y) := by
  rw [← list_data, ← list_data]
  exact bytesLess_lt x y
theorem ints0 (w : World) (g : Nat) : IntsAt w (fun _ => True) (.slice (some ⟨g, 0, none⟩) 0 0) [] :=
  ⟨Nat.zero_le _, some ⟨g, 0, none⟩, 0, rfl, fun h => absurd h (by decide)⟩
theorem ints1 {w : World} {g : Nat} {x : Int} (hb : Blk w g 3 #[.int .i64 x]) : IntsAt w (fun _ => True) (.slice (some ⟨g, 0, none⟩) 1 1) [x] := by
  refine ⟨(by show 1 ≤ maxLen; decide), some ⟨g, 0, none⟩, 1, rfl, fun _ => ⟨g, rfl, hb.lt, trivial, fun k z hk => ?_⟩⟩
  refine ⟨[.int .i64 z], rfl, fun j u hj => ?_, rfl⟩
  match j, hj with
  | 0, hj =>
    cases hj
    match k, hk with
    | 0, hk => cases hk; exact hb.cell 0
    | k + 1, hk => cases hk
  | j + 1, hj => cases hj
theorem ints2 {w : World} {g : Nat} {x y : Int} (hb : Blk w g 3 #[.int .i64 x, .int .i64 y]) : IntsAt w (fun _ => True) (.slice (some ⟨g, 0, none⟩) 2 2) [x, y] := by
  refine ⟨(by show 2 ≤ maxLen; decide), some ⟨g, 0, none⟩, 2, rfl, fun _ => ⟨g, rfl, hb.lt, trivial, fun k z hk => ?_⟩⟩
  refine ⟨[.int .i64 z], rfl, fun j u hj => ?_, rfl⟩
  match j, hj with
  | 0, hj =>
    cases hj
    match k, hk with
    | 0, hk => cases hk; exact hb.cell 0
    | 1, hk => cases hk; exact hb.cell 1
    | k + 2, hk => cases hk
  | j + 1, hj => cases hj
theorem S_sz (x : List UInt8) : (S x).size = x.length := rfl
theorem sh_cat (a b : List UInt8) (c : UInt8) : ((((((((((ByteArray.mk #[115, 32, 61, 32, 39] ++ S a) ++ ByteArray.mk #[39]) ++ ByteArray.mk #[c]) ++ ByteArray.mk #[32, 40, 39]) ++ S b) ++ ByteArray.mk #[39, 32, 115, 41]) ++ ByteArray.mk #[c]) ++ ByteArray.mk #[32, 124, 32, 39]) ++ S b) ++ ByteArray.mk #[39, 32, 59]) = S (shpT a b c) := by
  have e0 : ByteArray.mk #[115, 32, 61, 32, 39] = S [115, 32, 61, 32, 39] := rfl
  have e1 : ByteArray.mk #[39] = S [39] := rfl
  have e2 : ByteArray.mk #[c] = S [c] := rfl
  have e3 : ByteArray.mk #[32, 40, 39] = S [32, 40, 39] := rfl
  have e4 : ByteArray.mk #[39, 32, 115, 41] = S [39, 32, 115, 41] := rfl
  have e5 : ByteArray.mk #[32, 124, 32, 39] = S [32, 124, 32, 39] := rfl
  have e6 : ByteArray.mk #[39, 32, 59] = S [39, 32, 59] := rfl
  rw [e0, e1, e2, e3, e4, e5, e6]
  rw [S_app_, S_app_, S_app_, S_app_, S_app_, S_app_, S_app_, S_app_, S_app_, S_app_]
  rfl
theorem sh_size (a b : List UInt8) (c : UInt8) : (ByteArray.mk #[115, 32, 61, 32, 39]).size = 5 ∧ (ByteArray.mk #[39]).size = 1 ∧ (ByteArray.mk #[c]).size = 1 ∧ (ByteArray.mk #[32, 40, 39]).size = 3 ∧ (ByteArray.mk #[39, 32, 115, 41]).size = 4 ∧ (ByteArray.mk #[32, 124, 32, 39]).size = 4 ∧ (ByteArray.mk #[39, 32, 59]).size = 3 ∧ (ByteArray.mk #[115, 32, 61, 32, 39] ++ S a).size = 5 + a.length ∧ ((ByteArray.mk #[115, 32, 61, 32, 39] ++ S a) ++ ByteArray.mk #[39]).size = 6 + a.length ∧ (((ByteArray.mk #[115, 32, 61, 32, 39] ++ S a) ++ ByteArray.mk #[39]) ++ ByteArray.mk #[c]).size = 7 + a.length ∧ ((((ByteArray.mk #[115, 32, 61, 32, 39] ++ S a) ++ ByteArray.mk #[39]) ++ ByteArray.mk #[c]) ++ ByteArray.mk #[32, 40, 39]).size = 10 + a.length ∧ (((((ByteArray.mk #[115, 32, 61, 32, 39] ++ S a) ++ ByteArray.mk #[39]) ++ ByteArray.mk #[c]) ++ ByteArray.mk #[32, 40, 39]) ++ S b).size = 10 + a.length + b.length ∧ ((((((ByteArray.mk #[115, 32, 61, 32, 39] ++ S a) ++ ByteArray.mk #[39]) ++ ByteArray.mk #[c]) ++ ByteArray.mk #[32, 40, 39]) ++ S b) ++ ByteArray.mk #[39, 32, 115, 41]).size = 14 + a.length + b.length ∧ (((((((ByteArray.mk #[115, 32, 61, 32, 39] ++ S a) ++ ByteArray.mk #[39]) ++ ByteArray.mk #[c]) ++ ByteArray.mk #[32, 40, 39]) ++ S b) ++ ByteArray.mk #[39, 32, 115, 41]) ++ ByteArray.mk #[c]).size = 15 + a.length + b.length ∧ ((((((((ByteArray.mk #[115, 32, 61, 32, 39] ++ S a) ++ ByteArray.mk #[39]) ++ ByteArray.mk #[c]) ++ ByteArray.mk #[32, 40, 39]) ++ S b) ++ ByteArray.mk #[39, 32, 115, 41]) ++ ByteArray.mk #[c]) ++ ByteArray.mk #[32, 124, 32, 39]).size = 19 + a.length + b.length ∧ (((((((((ByteArray.mk #[115, 32, 61, 32, 39] ++ S a) ++ ByteArray.mk #[39]) ++ ByteArray.mk #[c]) ++ ByteArray.mk #[32, 40, 39]) ++ S b) ++ ByteArray.mk #[39, 32, 115, 41]) ++ ByteArray.mk #[c]) ++ ByteArray.mk #[32, 124, 32, 39]) ++ S b).size = 19 + a.length + 2 * b.length ∧ ((((((((((ByteArray.mk #[115, 32, 61, 32, 39] ++ S a) ++ ByteArray.mk #[39]) ++ ByteArray.mk #[c]) ++ ByteArray.mk #[32, 40, 39]) ++ S b) ++ ByteArray.mk #[39, 32, 115, 41]) ++ ByteArray.mk #[c]) ++ ByteArray.mk #[32, 124, 32, 39]) ++ S b) ++ ByteArray.mk #[39, 32, 59]).size = 22 + a.length + 2 * b.length := by
  have e : ∀ (x y : ByteArray), (x ++ y).size = x.size + y.size := fun x y => ByteArray.size_append
  have ea : (S a).size = a.length := rfl
  have eb : (S b).size = b.length := rfl
  have l0 : (ByteArray.mk #[115, 32, 61, 32, 39]).size = 5 := rfl
  have l1 : (ByteArray.mk #[39]).size = 1 := rfl
  have l2 : (ByteArray.mk #[c]).size = 1 := rfl
  have l3 : (ByteArray.mk #[32, 40, 39]).size = 3 := rfl
  have l4 : (ByteArray.mk #[39, 32, 115, 41]).size = 4 := rfl
  have l5 : (ByteArray.mk #[32, 124, 32, 39]).size = 4 := rfl
  have l6 : (ByteArray.mk #[39, 32, 59]).size = 3 := rfl
  refine ⟨l0, l1, l2, l3, l4, l5, l6, ?_, ?_, ?_, ?_, ?_, ?_, ?_, ?_, ?_, ?_⟩
  all_goals simp only [e, ea, eb, l0, l1, l2, l3, l4, l5, l6]
  all_goals first | done | omega
end Go.Proofs.YtldamieigigncaaGreatDoor.lx
