import Derived.Test.YtoogdidgcclmnaaGreatDoorAlvb
namespace Go.Proofs.YtoogdidgcclmnaaGreatDoor.alv
open Go.ChangeShapes Go.WideShapes Go.ChangeAt Go.RowKit
attribute [local go_sem] ext_lit x_frombits x_bits x_sbits x_sfrombits x_index get_lit fi_1 bits_and_u64_l bits_or_u64_l bits_and_i64_l IntKind.wrap_u64 fo_1250
def z24 : Array Value := #[.int .u8 0,.int .u8 0,.int .u8 0,.int .u8 0,.int .u8 0,.int .u8 0,.int .u8 0,.int .u8 0,.int .u8 0,.int .u8 0,.int .u8 0,.int .u8 0,.int .u8 0,.int .u8 0,.int .u8 0,.int .u8 0,.int .u8 0,.int .u8 0,.int .u8 0,.int .u8 0,.int .u8 0,.int .u8 0,.int .u8 0,.int .u8 0]
def t125 : Array Value := #[.int .u8 49,.int .u8 46,.int .u8 50,.int .u8 53,.int .u8 0,.int .u8 0,.int .u8 0,.int .u8 0,.int .u8 0,.int .u8 0,.int .u8 0,.int .u8 0,.int .u8 0,.int .u8 0,.int .u8 0,.int .u8 0,.int .u8 0,.int .u8 0,.int .u8 0,.int .u8 0,.int .u8 0,.int .u8 0,.int .u8 0,.int .u8 0]
set_option maxRecDepth 100000 in
set_option maxHeartbeats 2000000 in
theorem sd_125 (w : World) (b : Nat) (hg : Blk w b 83 z32) : Calls Tryz.prog 65 #[.slice (some ⟨b, 0, none⟩) 32 32, .int .u64 1250000000000000, .int .i64 (-15), .int .i64 16] w fun e w' => e = .returned (.tuple #[.int .i64 1, .int .i64 3]) ∧ w.grownBy w' (some b) ∧ Blk w' b 83 d125 := by
  go_enter Tryz.func65, Tryz.ntmps65
  go_wp2_with (go_at_call 102; go_must (refine (fb_125 _ b (by assumption)).mono ?_); rintro e w1 ⟨rfl, hb, hk⟩)
  have hc : ∀ i, w1.cell? ⟨b, i, none⟩ = d125[i]? := hk.cell
  unfold d125 at hc
  clear hg
  go_rounds 14
  go_ret2
  exact ⟨rfl, hb, hk⟩
theorem info5 : (Tryz.prog.info? 5).map (fun i => (i.zero, i.size, i.bytes)) = some (some (.int .u8 0), 1, 1) := by kernel_rfl
def b8 (l : List Int) : List Value := l.map (Value.int .u8)
theorem one_b8 (l : List Int) : ∀ u ∈ b8 l, u.oneCell' = true := ints_oneCell .u8 l
set_option maxRecDepth 100000 in
set_option maxHeartbeats 2000000 in
theorem ef_125 (w : World) (g b : Nat) (hgb : b ≠ g) (hg : w.ownsRow g 5 1 (.slice (some ⟨g, 0, none⟩) 0 24) 0 (b8 [])) (hb : Blk w b 83 d125) : Calls Tryz.prog 62 #[.slice (some ⟨g, 0, none⟩) 0 24, .bool false, .slice (some ⟨b, 0, none⟩) 32 32, .int .i64 1, .int .i64 3, .int .i64 2, .int .u8 102, .bool true] w fun e w' => e = .returned (.slice (some ⟨g, 0, none⟩) 4 24) ∧ w.grownBy w' (some g) ∧ w'.ownsRow g 5 1 (.slice (some ⟨g, 0, none⟩) 4 24) 4 (b8 [49, 46, 50, 53]) := by
  obtain ⟨i0, hi, hz0, hz1, hz2⟩ := info_parts info5
  have c0 : w.cell? ⟨b, 0, none⟩ = some (.int .u8 49) := hb.cell 0
  have c1 : w.cell? ⟨b, 1, none⟩ = some (.int .u8 50) := hb.cell 1
  have c2 : w.cell? ⟨b, 2, none⟩ = some (.int .u8 53) := hb.cell 2
  have e2 : some b ≠ some g := fun e => hgb (Option.some.inj e)
  clear hb
  go_enter Tryz.func62, Tryz.ntmps62
  go_wp2_with fail
  refine wp_loop_rounds 2 ?_
  rw [rounds_succ]
  go_wp2_with (at_builtin; go_must (refine wpList_append_fits _ rfl _ _ 65 rfl g 5 i0 1 Tryz.underlying65 hi hz1 g 0 24 (b8 []) rfl (hg.alloc _) ⟨w.heap.size, 0, none⟩ 1 1 (b8 [49]) rfl rfl (cell_one_new _ _ _) (one_b8 _) (by omega) ?_); intro w1 h1 g1)
  have d1 := (World.grownBy_alloc w _ (some g)).trans g1
  have p1 := d1.cell c1 e2
  have p2 := d1.cell c2 e2
  clear g1 c0 c1 c2 hg
  rw [rounds_succ]
  go_wp2_with fail
  refine wp_loop_rounds 1 ?_
  rw [rounds_succ]
  go_wp2_with (at_builtin; go_must (refine wpList_append_fits _ rfl _ _ 65 rfl g 5 i0 1 Tryz.underlying65 hi hz1 g 1 24 (b8 [49]) rfl (h1.alloc _) ⟨w1.heap.size, 0, none⟩ 1 1 (b8 [46]) rfl rfl (cell_one_new _ _ _) (one_b8 _) (by omega) ?_); intro w2 h2 g2)
  have d2 := (World.grownBy_alloc w1 _ (some g)).trans g2
  have q1 := d2.cell p1 e2
  have q2 := d2.cell p2 e2
  clear g2 p1 p2 h1
  refine wp_loop_rounds 1 ?_
  rw [rounds_succ]
  go_wp2_with fail
  refine wp_loop_rounds 3 ?_
  rw [rounds_succ]
  go_wp2_with (at_builtin; go_must (refine wpList_append_fits _ rfl _ _ 65 rfl g 5 i0 1 Tryz.underlying65 hi hz1 g 2 24 (b8 [49, 46]) rfl (h2.alloc _) ⟨w2.heap.size, 0, none⟩ 1 1 (b8 [50]) rfl rfl (cell_one_new _ _ _) (one_b8 _) (by omega) ?_); intro w3 h3 g3)
  have d3 := (World.grownBy_alloc w2 _ (some g)).trans g3
  have r2 := d3.cell q2 e2
  clear g3 q1 q2 h2
  rw [rounds_succ]
  go_wp2_with (at_builtin; go_must (refine wpList_append_fits _ rfl _ _ 65 rfl g 5 i0 1 Tryz.underlying65 hi hz1 g 3 24 (b8 [49, 46, 50]) rfl (h3.alloc _) ⟨w3.heap.size, 0, none⟩ 1 1 (b8 [53]) rfl rfl (cell_one_new _ _ _) (one_b8 _) (by omega) ?_); intro w4 h4 g4)
  have d4 := (World.grownBy_alloc w3 _ (some g)).trans g4
  clear g4 r2 h3
  rw [rounds_succ]
  go_wp2_with fail
  refine wp_loop_rounds 1 ?_
  rw [rounds_succ]
  go_wp2_with fail
  go_ret
  exact ⟨rfl, ((d1.trans d2).trans d3).trans d4, h4⟩
end Go.Proofs.YtoogdidgcclmnaaGreatDoor.alv
