import Derived.Test.YtoogdidgcclmnaaGreatDoorAlvd
namespace Go.Proofs.YtoogdidgcclmnaaGreatDoor.alv
open Go.ChangeShapes Go.WideShapes Go.ChangeAt Go.RowKit
attribute [local go_sem] ext_lit x_frombits x_bits x_sbits x_sfrombits x_index get_lit fi_1 bits_and_u64_l bits_or_u64_l bits_and_i64_l IntKind.wrap_u64 fo_1250

theorem cell_a {w : World} {b i : Nat} {v : Value} {o : Obj} (h : w.cell? ⟨b, i, none⟩ = some v) (hl : b < w.heap.size) : (w.alloc o).cell? ⟨b, i, none⟩ = some v := (World.cell?_alloc_lt w o ⟨b, i, none⟩ hl).trans h
theorem own_mk (w : World) : (w.alloc (.cells #[.int .u8 0,.int .u8 0,.int .u8 0,.int .u8 0,.int .u8 0,.int .u8 0,.int .u8 0,.int .u8 0,.int .u8 0,.int .u8 0,.int .u8 0,.int .u8 0,.int .u8 0,.int .u8 0,.int .u8 0,.int .u8 0,.int .u8 0,.int .u8 0,.int .u8 0,.int .u8 0,.int .u8 0,.int .u8 0,.int .u8 0,.int .u8 0] 5)).ownsRow w.heap.size 5 1 (.slice (some ⟨w.heap.size, 0, none⟩) 0 24) 0 (b8 []) :=
  World.ownsRow_made w #[.int .u8 0,.int .u8 0,.int .u8 0,.int .u8 0,.int .u8 0,.int .u8 0,.int .u8 0,.int .u8 0,.int .u8 0,.int .u8 0,.int .u8 0,.int .u8 0,.int .u8 0,.int .u8 0,.int .u8 0,.int .u8 0,.int .u8 0,.int .u8 0,.int .u8 0,.int .u8 0,.int .u8 0,.int .u8 0,.int .u8 0,.int .u8 0] 24 (Nat.le_refl _) (by decide) (by decide)
theorem grown_to_below {w w' : World} {g : Nat} {o : Obj} (hg : g = w.heap.size) (h : (w.alloc o).grownBy w' (some g)) : Below w.heap.size w w' :=
  ⟨h.os, h.tape, h.output, Nat.le_trans (by rw [World.size_alloc]; omega) h.size, fun k hk => (h.block k (by rw [World.size_alloc]; omega) (fun e => absurd (Option.some.inj e) (by omega))).trans (RowKit.Below.heap_alloc w o k hk)⟩
theorem str_of_own {w : World} {g base n cap : Nat} {xs : List Int} (h : w.ownsRow base 5 1 (.slice (some ⟨g, 0, none⟩) n cap) n (b8 xs)) (hn : xs.length = n) : (convert 65 9 (.slice (some ⟨g, 0, none⟩) n cap)).run Tryz.prog w = .ok (.string (strOfNums xs)) w :=
  run_convert_bytes_arg w 65 5 Tryz.underlying65 Tryz.underlying5 g 0 n cap xs hn (fun i hi => by
    rw [Nat.zero_add, h.cellAt i (by omega)]
    have hl : i < xs.length := by omega
    simp [b8, List.getElem?_eq_getElem hl, List.getD]) 9 Tryz.underlying9
theorem no_125 : strOfNums [49, 46, 50, 53] = ⟨#[49,46,50,53]⟩ := rfl
theorem no_m0 : strOfNums [45, 48] = ⟨#[45,48]⟩ := rfl
set_option maxRecDepth 100000 in
set_option maxHeartbeats 1000000 in
theorem ff_125 (w : World) (h7 : w.cell? ⟨7, 15, none⟩ = some (.int .u64 1000000000000000)) (h11 : w.cell? ⟨11, 728, none⟩ = some (.int .u64 10240000000000000000)) (h11b : w.cell? ⟨11, 729, none⟩ = some (.int .u64 0)) : Calls Tryz.prog 41 #[.float .f64 4608308318706860032, .int .u8 102, .int .i64 (-1), .int .i64 64] w fun e w' => e = .returned (.string ⟨#[49,46,50,53]⟩) ∧ Below w.heap.size w w' := by
  have hmk : ∀ w : World, (Instr.makeSlice 65 (.int .i64 0) (.int .i64 24)).run Tryz.prog w = .ok (.slice (some ⟨w.heap.size, 0, none⟩) 0 24) (w.alloc (.cells #[.int .u8 0,.int .u8 0,.int .u8 0,.int .u8 0,.int .u8 0,.int .u8 0,.int .u8 0,.int .u8 0,.int .u8 0,.int .u8 0,.int .u8 0,.int .u8 0,.int .u8 0,.int .u8 0,.int .u8 0,.int .u8 0,.int .u8 0,.int .u8 0,.int .u8 0,.int .u8 0,.int .u8 0,.int .u8 0,.int .u8 0,.int .u8 0] 5)) := fun _ => by kernel_rfl
  have n7 := lt_size h7
  have n11 := lt_size h11
  go_enter Tryz.func41, Tryz.ntmps41
  go_wp2_with (go_at_call 50; go_must (refine (ft_125 _ w.heap.size (own_mk w) (cell_a h7 n7) (cell_a h11 n11) (cell_a h11b n11)).mono ?_); rintro e w1 ⟨rfl, hg, ho⟩; have hb := grown_to_below rfl hg; have hs := str_of_own ho rfl; rw [no_125] at hs; clear ho; clear hg)
  go_ret
  exact ⟨rfl, hb⟩
set_option maxRecDepth 100000 in
set_option maxHeartbeats 1000000 in
theorem ff_m0 (w : World) : Calls Tryz.prog 41 #[.float .f64 9223372036854775808, .int .u8 102, .int .i64 (-1), .int .i64 64] w fun e w' => e = .returned (.string ⟨#[45,48]⟩) ∧ Below w.heap.size w w' := by
  have hmk : ∀ w : World, (Instr.makeSlice 65 (.int .i64 0) (.int .i64 24)).run Tryz.prog w = .ok (.slice (some ⟨w.heap.size, 0, none⟩) 0 24) (w.alloc (.cells #[.int .u8 0,.int .u8 0,.int .u8 0,.int .u8 0,.int .u8 0,.int .u8 0,.int .u8 0,.int .u8 0,.int .u8 0,.int .u8 0,.int .u8 0,.int .u8 0,.int .u8 0,.int .u8 0,.int .u8 0,.int .u8 0,.int .u8 0,.int .u8 0,.int .u8 0,.int .u8 0,.int .u8 0,.int .u8 0,.int .u8 0,.int .u8 0] 5)) := fun _ => by kernel_rfl
  go_enter Tryz.func41, Tryz.ntmps41
  go_wp2_with (go_at_call 50; go_must (refine (ft_m0 _ w.heap.size (own_mk w)).mono ?_); rintro e w1 ⟨rfl, hg, ho⟩; have hb := grown_to_below rfl hg; have hs := str_of_own ho rfl; rw [no_m0] at hs; clear ho; clear hg)
  go_ret
  exact ⟨rfl, hb⟩
theorem x_nan (n : Nat) (w : World) : (callFunc 9 #[.int .u64 n]).run Tryz.prog w = .ok (.value (.float .f64 n)) w := x_frombits n w
set_option maxRecDepth 100000 in
set_option maxHeartbeats 1000000 in
theorem tx_125 (w : World) (h7 : w.cell? ⟨7, 15, none⟩ = some (.int .u64 1000000000000000)) (h11 : w.cell? ⟨11, 728, none⟩ = some (.int .u64 10240000000000000000)) (h11b : w.cell? ⟨11, 729, none⟩ = some (.int .u64 0)) : Calls Tryz.prog 20 #[.float .f64 4608308318706860032] w fun e w' => e = .returned (.string ⟨#[49,46,50,53]⟩) ∧ Below w.heap.size w w' := by
  have hneg : ∀ w : World, (Op.unary .neg (.float .f64 4608308318706860032)).run Tryz.prog w = .ok (.float .f64 13831680355561635840) w := fun _ => by kernel_rfl
  go_enter Tryz.func20, Tryz.ntmps20
  go_wp2_with (first | (go_at_call 41; go_must (refine (ff_125 _ h7 h11 h11b).mono ?_); rintro e w1 ⟨rfl, hb⟩) | go_in)
  go_ret
  exact ⟨rfl, hb⟩
set_option maxRecDepth 100000 in
set_option maxHeartbeats 1000000 in
theorem tx_m0 (w : World) : Calls Tryz.prog 20 #[.float .f64 9223372036854775808] w fun e w' => e = .returned (.string ⟨#[45,48]⟩) ∧ Below w.heap.size w w' := by
  have hneg : ∀ w : World, (Op.unary .neg (.float .f64 9223372036854775808)).run Tryz.prog w = .ok (.float .f64 0) w := fun _ => by kernel_rfl
  go_enter Tryz.func20, Tryz.ntmps20
  go_wp2_with (first | (go_at_call 41; go_must (refine (ff_m0 _).mono ?_); rintro e w1 ⟨rfl, hb⟩) | go_in)
  go_ret
  exact ⟨rfl, hb⟩
end Go.Proofs.YtoogdidgcclmnaaGreatDoor.alv
