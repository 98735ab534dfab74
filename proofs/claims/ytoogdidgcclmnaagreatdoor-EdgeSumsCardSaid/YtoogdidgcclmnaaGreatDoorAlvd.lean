import Derived.Test.YtoogdidgcclmnaaGreatDoorAlvc
import Derived.Deep.RegionWith
namespace Go.Proofs.YtoogdidgcclmnaaGreatDoor.alv
open Go.ChangeShapes Go.WideShapes Go.ChangeAt Go.RowKit
attribute [local go_sem] ext_lit x_frombits x_bits x_sbits x_sfrombits x_index get_lit fi_1 bits_and_u64_l bits_or_u64_l bits_and_i64_l IntKind.wrap_u64 fo_1250

theorem grown_of_drewN {w w' : World} {n : Nat} {r : Option Nat} (h : (w.drewN n).grownBy w' r) : w.grownBy w' r := ⟨h.os, h.tape, h.output, h.size, h.block⟩
theorem grown_below {w w' : World} {r : Option Nat} (h : Below w.heap.size w w') : w.grownBy w' r := ⟨h.os, h.tape, h.output, h.size, fun k hk _ => h.block k hk⟩
theorem cell_da {w : World} {b i n : Nat} {v : Value} {o : Obj} (h : w.cell? ⟨b, i, none⟩ = some v) (hl : b < w.heap.size) : ((w.drewN n).alloc o).cell? ⟨b, i, none⟩ = some v := (World.cell?_alloc_lt (w.drewN n) o ⟨b, i, none⟩ hl).trans h
theorem grown_da (w : World) (n : Nat) (o : Obj) : w.grownBy ((w.drewN n).alloc o) none := grown_of_drewN (World.grownBy_alloc _ _ _)
set_option maxRecDepth 100000 in
set_option maxHeartbeats 2000000 in
theorem ef_m0 (w : World) (g : Nat) (hg : w.ownsRow g 5 1 (.slice (some ⟨g, 0, none⟩) 0 24) 0 (b8 [])) : Calls Tryz.prog 62 #[.slice (some ⟨g, 0, none⟩) 0 24, .bool true, .slice none 0 0, .int .i64 0, .int .i64 0, .int .i64 (-1), .int .u8 102, .bool true] w fun e w' => e = .returned (.slice (some ⟨g, 0, none⟩) 2 24) ∧ w.grownBy w' (some g) ∧ w'.ownsRow g 5 1 (.slice (some ⟨g, 0, none⟩) 2 24) 2 (b8 [45, 48]) := by
  obtain ⟨i0, hi, hz0, hz1, hz2⟩ := info_parts info5
  go_enter Tryz.func62, Tryz.ntmps62
  have tok1 : True := trivial
  go_wp2_with (first | (at_builtin; have _t := tok1; refine wpList_append_fits _ rfl _ _ 65 rfl g 5 i0 1 Tryz.underlying65 hi hz1 g 0 24 (b8 []) rfl (hg.alloc _) ⟨w.heap.size, 0, none⟩ 1 1 (b8 [45]) rfl rfl (cell_one_new _ _ _) (one_b8 _) (by omega) ?_; intro w1 h1 g1; have d1 := (World.grownBy_alloc w _ (some g)).trans g1; clear tok1) | (at_builtin; refine wpList_append_fits _ rfl _ _ 65 rfl g 5 i0 1 Tryz.underlying65 hi hz1 g 1 24 (b8 [45]) rfl (h1.alloc _) ⟨w1.heap.size, 0, none⟩ 1 1 (b8 [48]) rfl rfl (cell_one_new _ _ _) (one_b8 _) (by omega) ?_; intro w2 h2 g2; have d2 := (World.grownBy_alloc w1 _ (some g)).trans g2))
  go_ret
  exact ⟨rfl, d1.trans d2, h2⟩
set_option maxRecDepth 100000 in
set_option maxHeartbeats 2000000 in
theorem ft_m0 (w : World) (g : Nat) (hg : w.ownsRow g 5 1 (.slice (some ⟨g, 0, none⟩) 0 24) 0 (b8 [])) : Calls Tryz.prog 50 #[.slice (some ⟨g, 0, none⟩) 0 24, .float .f64 9223372036854775808, .int .u8 102, .int .i64 (-1)] w fun e w' => e = .returned (.slice (some ⟨g, 0, none⟩) 2 24) ∧ w.grownBy w' (some g) ∧ w'.ownsRow g 5 1 (.slice (some ⟨g, 0, none⟩) 2 24) 2 (b8 [45, 48]) := by
  go_enter Tryz.func50, Tryz.ntmps50
  go_wp2
  go_quiet (fail)
  go_wp2_with (first | (go_at_call 62; go_must (refine (ef_m0 (w.drewN nq) g hg).mono ?_); rintro e w1 ⟨rfl, hd, h1⟩) | go_in)
  go_ret
  exact ⟨rfl, grown_of_drewN hd, h1⟩
set_option maxRecDepth 100000 in
set_option maxHeartbeats 2000000 in
theorem ft_125 (w : World) (g : Nat) (hg : w.ownsRow g 5 1 (.slice (some ⟨g, 0, none⟩) 0 24) 0 (b8 [])) (h7 : w.cell? ⟨7, 15, none⟩ = some (.int .u64 1000000000000000)) (h11 : w.cell? ⟨11, 728, none⟩ = some (.int .u64 10240000000000000000)) (h11b : w.cell? ⟨11, 729, none⟩ = some (.int .u64 0)) : Calls Tryz.prog 50 #[.slice (some ⟨g, 0, none⟩) 0 24, .float .f64 4608308318706860032, .int .u8 102, .int .i64 (-1)] w fun e w' => e = .returned (.slice (some ⟨g, 0, none⟩) 4 24) ∧ w.grownBy w' (some g) ∧ w'.ownsRow g 5 1 (.slice (some ⟨g, 0, none⟩) 4 24) 4 (b8 [49, 46, 50, 53]) := by
  have n7 := lt_size h7
  have n11 := lt_size h11
  have hgl : g < w.heap.size := (hg.lt g rfl).2
  go_enter Tryz.func50, Tryz.ntmps50
  go_wp2
  go_quiet (fail)
  go_wp2_with (first | (go_at_call 72; fail) | (go_at_call 63; go_in))
  refine (sf_125 _ (cell_da h11 n11) (cell_da h11b n11)).mono ?_
  rintro e w1 ⟨rfl, hb⟩
  have k1 : w.grownBy w1 none := (grown_da w nq _).trans (grown_below hb)
  have b1 : Blk w1 w.heap.size 83 z32 := (hb.block w.heap.size (by rw [World.size_alloc]; exact Nat.lt_succ_self _)).trans (heap_alloc_new (w.drewN nq) _)
  have c7 := k1.cell h7 (by simp)
  have o1 := hg.kept k1 (Or.inr (fun e => by cases e))
  have z1 : w.heap.size < w1.heap.size := b1.lt
  clear hb h11 h11b h7 n7 n11
  go_wp2_with (fail)
  have c7' : w1.drew.cell? ⟨7, 15, none⟩ = some (.int .u64 1000000000000000) := c7
  have b1' : Blk w1.drew w.heap.size 83 z32 := b1
  have o1' : w1.drew.ownsRow g 5 1 (.slice (some ⟨g, 0, none⟩) 0 24) 0 (b8 []) := o1
  have k1' : w.grownBy w1.drew none := grown_drew k1
  clear c7 b1 o1 k1
  go_region_with (first | (go_at_call 66; go_must (refine (nd_125 _ c7').mono ?_); rintro e w2 ⟨rfl, rfl⟩) | (go_at_call 65; go_must (refine (sd_125 _ _ b1').mono ?_); rintro e w2 ⟨rfl, k2, b2⟩))
  have o2 := o1'.kept k2 (Or.inr (fun e => absurd (Option.some.inj (show some g = some w.heap.size from e)) (Nat.ne_of_lt hgl)))
  have k2' : w.grownBy w2 none := ⟨k2.os.trans k1'.os, k2.tape.trans k1'.tape, k2.output.trans k1'.output, Nat.le_trans k1'.size k2.size, fun j hj hn => (k2.block j (Nat.lt_of_lt_of_le hj k1'.size) (fun e => absurd (Option.some.inj e) (Nat.ne_of_lt hj))).trans (k1'.block j hj hn)⟩
  clear k1' o1' b1' c7' k2
  go_wp2_with (go_at_call 62; go_must (refine (ef_125 _ g w.heap.size (Nat.ne_of_gt hgl) o2 b2).mono ?_); rintro e w3 ⟨rfl, k3, o3⟩)
  go_ret
  exact ⟨rfl, (k2'.but _).trans k3, o3⟩
end Go.Proofs.YtoogdidgcclmnaaGreatDoor.alv
