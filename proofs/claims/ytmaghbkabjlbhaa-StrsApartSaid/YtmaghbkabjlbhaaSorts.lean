import Derived.Test.YtmaghbkabjlbhaaOfs
import Derived.Shelf.Lay
import Derived.Shelf.Slices.In.SortAlone
import Derived.Sort.EveryDepth
import Derived.Sort.OwnSorted
namespace Go.Proofs
shelf_lay Lays.n190 Nm 190 at Try as Try.lays190
namespace Ytmaghbkabjlbhaa.st
open Go.RowKit Go.Shelf Go.Sort
set_option linter.unusedVariables false
def srt (zs : List (List UInt8)) : List (List UInt8) := zs.mergeSort fun x y => decide (x ≤ y)
theorem sort_any (blk off cap : Nat) (zs : List (List UInt8)) (w : World) (hH : Holds encStr w blk off zs.toArray) (hblk : blk < w.heap.size) (hsz : zs.length < 4611686018427387904) :
    Calls Try.prog 35 #[.slice (some ⟨blk, off, none⟩) zs.length cap] w fun e w' =>
      e = .returned (.tuple #[]) ∧ ∃ n os, w' = grow (putRow encStr (Sort.ahead w n) blk off (srt zs).toArray) os :=
  calls_of_every_depth fun D => AnyS.slices_Sort_string_alone Try.lays190 D blk off cap zs w hH hblk hsz
theorem enc_key : encStr = Key := rfl
theorem srt_len (zs : List (List UInt8)) : (srt zs).length = zs.length := List.length_mergeSort ..
/-- slices.Sort of strings that the call owns -/
theorem sort_own (w : World) (base g cap : Nat) (e : TypeId) (zs : List (List UInt8)) (hsz : zs.length < 4611686018427387904) (h : w.ownsRow base e 1 (.slice (some ⟨g, 0, none⟩) zs.length cap) zs.length (zs.map Key)) :
    Calls Try.prog 35 #[.slice (some ⟨g, 0, none⟩) zs.length cap] w fun r w' => r = .returned (.tuple #[]) ∧ w'.ownsRow base e 1 (.slice (some ⟨g, 0, none⟩) zs.length cap) zs.length ((srt zs).map Key) ∧ w.grownBy w' (some g) := by
  rcases h.2 with ⟨hnil, _⟩ | ⟨g', cap', cur, hv, hbase, hb, h1, h2, h3, h4⟩
  · cases hnil
  · cases hv
    refine (sort_any g 0 cap zs w (holds_of_block hb (by rw [enc_key]; simpa using h4)) (Array.getElem?_eq_some_iff.1 hb).1 hsz).mono ?_
    rintro r w' ⟨rfl, n, os, rfl⟩
    exact ⟨rfl, ownsRow_sorted (srt_len zs) hbase hb h1 h2 h3, grownBy_sorted _⟩
theorem srt_perm (zs : List (List UInt8)) : (srt zs).Perm zs := List.mergeSort_perm ..
theorem srt_sorted (zs : List (List UInt8)) : (srt zs).Pairwise (· ≤ ·) := by
  have := List.pairwise_mergeSort (le := fun x y : List UInt8 => decide (x ≤ y)) (fun a b c h1 h2 => by simp at *; exact List.le_trans h1 h2) (fun a b => by simpa using List.le_total a b) zs
  simpa [srt] using this
end Ytmaghbkabjlbhaa.st
end Go.Proofs
