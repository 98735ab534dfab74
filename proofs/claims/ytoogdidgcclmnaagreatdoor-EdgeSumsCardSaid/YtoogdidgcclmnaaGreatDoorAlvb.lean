import Derived.Test.YtoogdidgcclmnaaGreatDoorAlva
namespace Go.Proofs.YtoogdidgcclmnaaGreatDoor.alv
open Go.ChangeShapes Go.WideShapes Go.ChangeAt Go.RowKit
attribute [local go_sem] ext_lit x_frombits x_bits x_sbits x_sfrombits x_index get_lit fi_1 bits_and_u64_l bits_or_u64_l bits_and_i64_l IntKind.wrap_u64 fo_1250
def z32 : Array Value := #[.int .u8 0,.int .u8 0,.int .u8 0,.int .u8 0,.int .u8 0,.int .u8 0,.int .u8 0,.int .u8 0,.int .u8 0,.int .u8 0,.int .u8 0,.int .u8 0,.int .u8 0,.int .u8 0,.int .u8 0,.int .u8 0,.int .u8 0,.int .u8 0,.int .u8 0,.int .u8 0,.int .u8 0,.int .u8 0,.int .u8 0,.int .u8 0,.int .u8 0,.int .u8 0,.int .u8 0,.int .u8 0,.int .u8 0,.int .u8 0,.int .u8 0,.int .u8 0]
def d125 : Array Value := #[.int .u8 49,.int .u8 50,.int .u8 53,.int .u8 48,.int .u8 48,.int .u8 48,.int .u8 48,.int .u8 48,.int .u8 48,.int .u8 48,.int .u8 48,.int .u8 48,.int .u8 48,.int .u8 48,.int .u8 48,.int .u8 48,.int .u8 0,.int .u8 0,.int .u8 0,.int .u8 0,.int .u8 0,.int .u8 0,.int .u8 0,.int .u8 0,.int .u8 0,.int .u8 0,.int .u8 0,.int .u8 0,.int .u8 0,.int .u8 0,.int .u8 0,.int .u8 0]
set_option maxRecDepth 100000 in
set_option maxHeartbeats 2000000 in
theorem fb_125 (w : World) (b : Nat) (hg : Blk w b 83 z32) : Calls Tryz.prog 102 #[.slice (some ⟨b, 0, none⟩) 16 32, .int .u64 1250000000000000] w fun e w' => e = .returned (.tuple #[]) ∧ w.grownBy w' (some b) ∧ Blk w' b 83 d125 := by
  have hf : ∀ i, w.frozen? ⟨b, i, none⟩ = false := hg.frozen
  have hc : ∀ i, w.cell? ⟨b, i, none⟩ = z32[i]? := hg.cell
  unfold z32 at hc
  go_enter Tryz.func102, Tryz.ntmps102
  go_wp2
  refine wp_loop_rounds 3 ?_
  rw [rounds_succ]
  go_wp2
  go_region
  go_wp2
  go_region
  go_wp2
  go_region
  go_wp2
  go_region
  go_wp2
  rw [rounds_succ]
  go_wp2
  go_region
  go_wp2
  go_region
  go_wp2
  go_region
  go_wp2
  go_region
  go_wp2
  rw [rounds_succ]
  go_wp2
  refine bodyPost_end (results_none rfl _ _ _) rfl ?_
  refine ⟨rfl, ?_, ?_⟩
  · repeat' (first | (with_reducible exact World.grownBy.refl _ _) | (with_reducible apply grown_set) | (with_reducible apply grown_drew))
  · refine blk_is (by repeat' (first | (with_reducible exact hg) | (with_reducible apply Blk.set_) | (with_reducible apply Blk.drew))) ?_
    rfl
end Go.Proofs.YtoogdidgcclmnaaGreatDoor.alv
